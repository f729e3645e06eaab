/-
  Plain facts for the document's own ledger: heads byte by byte, rooms sector by sector, entries from any place on. Conditions: none.
  The document's own Head, At, Room, Gen and Used of a ledger's half, by contracts. Conditions: the disk may be; the numbers have room.
  The document's own Gen, Used and Entries of a ledger, by contracts. Conditions: the disk may be.
  The document's own Open of a disk, by a contract. Conditions: none.
  The document's own Like of two ledgers, by a contract. Conditions: none.
  The laws' few of a disk, by a contract; a ledger that came in. Conditions: none.
  A ledger that came in reads as one. Conditions: none.
-/
import Derived.Test.YtkplpodljmlanaaGreatDoorZLed2
import Derived.Test.YtkplpodljmlanaaGreatDoorZOct2
import Derived.BigQuiet
import Derived.Test.YtkplpodljmlanaaGreatDoorZLed1
import Derived.Deep.RegionHeld3
import Derived.Lib.MinMax
/-! Plain facts for the document's own ledger: heads byte by byte, rooms sector by sector, entries from any place on. Conditions: none. -/
namespace Go.Proofs.YtkplpodljmlanaaGreatDoor
open Go.RowKit Go.WideShapes

/-! ### A head, as it is made -/
def preL (g u j : Nat) : List UInt8 := [108, 101, 100] ++ (wideL g 6 ++ (wideL u 3 ++ List.replicate j 0))
theorem preL_length (g u j : Nat) : (preL g u j).length = 12 + j := by simp [preL, wideL_length]; omega
theorem preL_succ (g u j : Nat) : preL g u j ++ [0] = preL g u (j + 1) := by simp [preL, List.replicate_succ']
theorem preL_all (g u : Nat) : preL g u 116 = headL g u := rfl

/-! ### A room, as it is put together -/
def roomTo (d : Dsk) (n k : Nat) : List UInt8 := (List.range k).flatMap fun i => secAt d (n * hOf d + 1 + i)
theorem roomTo_succ (d : Dsk) (n k : Nat) : roomTo d n (k + 1) = roomTo d n k ++ secAt d (n * hOf d + 1 + k) := by simp [roomTo, List.range_succ]
theorem roomTo_all (d : Dsk) (n : Nat) : roomTo d n (hOf d - 1) = roomL d n := rfl
theorem roomTo_length {d : Dsk} (h : RightIs d) {n k : Nat} (hn : n ≤ 1) (hk : k ≤ hOf d - 1) : (roomTo d n k).length = k * 128 := flat_length _ _ _ fun _ hi => sec_length h (half_lt hn (by omega))

/-! ### What a head tells -/
theorem told_used {d : Dsk} {n : Nat} (h : (toldL d n).1 ≠ 0) : numL (((secAt d (n * hOf d)).drop 9).take 3) = (toldL d n).2 := by
  unfold toldL toldGo at h ⊢
  split at h
  · rename_i k; rw [if_pos k]
  · exact absurd rfl h
theorem pick_zero (d : Dsk) : (toldL d (pickL d)).1 = 0 ↔ (toldL d 0).1 = 0 ∧ (toldL d 1).1 = 0 := by
  unfold pickL
  split <;> omega

/-! ### What may be -/
theorem rightLed_iff (l : Led) : rightLed l = true ↔ openL l.disk = (l, 0) := by
  constructor
  · intro h
    obtain ⟨n, g, u, es, ho, e⟩ := rightLed_inv h
    rw [ho.out, ← e]
  · intro h
    obtain ⟨n, g, u, es, ho, e⟩ := opens_inv h
    have := rightLed_of ho
    rwa [← e] at this
theorem nilLed_open : openL nilLed.disk = (nilLed, 1) := rfl
theorem nilLed_right : rightLed nilLed = false := by
  cases h : rightLed nilLed with
  | false => rfl
  | true =>
    have := (rightLed_iff nilLed).1 h
    rw [nilLed_open] at this
    cases this
theorem openL_right (d : Dsk) : rightLed (openL d).1 = decide ((openL d).2 = 0) := by
  rcases openL_cases d with ⟨n, g, u, es, h⟩ | h | h
  · rw [h.out]; exact rightLed_of h
  · rw [h]; exact nilLed_right
  · rw [h]; exact nilLed_right
theorem openL_disk {d : Dsk} (h : (openL d).2 = 0) : (openL d).1.disk = d := by
  obtain ⟨n, g, u, es, ho, e⟩ := opens_inv (d := d) (l := (openL d).1) (by rw [← h])
  rw [e]
/-- How Like of two ledgers ends. -/
def LedLike (a b : Led) (w : World) (e : Ending) (w' : World) : Prop := ∃ r : Bool, e = .returned (.bool r) ∧ (r = true ↔ a = b) ∧ Below w.heap.size w w'
theorem LedLike.no {a b : Led} {w w' : World} (h : a ≠ b) (hb : Below w.heap.size w w') : LedLike a b w (.returned (.bool false)) w' := ⟨false, rfl, ⟨fun h => (by cases h), fun e => absurd e h⟩, hb⟩
theorem LedLike.yes {a b : Led} {w w' : World} (h : a = b) (hb : Below w.heap.size w w') : LedLike a b w (.returned (.bool true)) w' := ⟨true, rfl, ⟨fun _ => h, fun _ => rfl⟩, hb⟩

/-! ### A disk with bytes laid -/
def withD (d : Dsk) (m g u : Nat) (s : List UInt8) : Dsk := headD (fillD d m ((roomL d m).take u) s) m g (u + s.length)
theorem withD_next {d : Dsk} {n g u : Nat} {es : List ByteArray} {renew : Bool} {ss : List ByteArray} (h : Opens d n g u es) : withD d (mOf renew n) (gOf renew g) (if renew then 0 else u) (bindL ss) = nextD d n g u renew ss := by
  unfold withD nextD fillOf usedOf
  rw [thereOf_len h]
  unfold thereOf mOf
  cases renew <;> simp
end Go.Proofs.YtkplpodljmlanaaGreatDoor
/-! The document's own Head, At, Room, Gen and Used of a ledger's half, by contracts. Conditions: the disk may be; the numbers have room. -/
namespace Go.Proofs.YtkplpodljmlanaaGreatDoor
open Go.RowKit Go.WideShapes

set_option maxRecDepth 100000 in
set_option maxHeartbeats 1000000 in
theorem refHead_t (g u : Nat) (w : World) (hg : g < 281474976710656) (hu : u < 16777216) :
    Calls Tryz.prog 17 #[.int .i64 g, .int .i64 u] w fun e w' => e = .returned (.string (headB g u)) ∧ Below w.heap.size w w' := by
  have W1 := refWide_any g 6 w (by omega) (by omega)
  have W2 := fun w1 => refWide_any u 3 w1 (by omega) (by omega)
  have z1 : (⟨(wideL g 6).toArray⟩ : ByteArray).size = 6 := wideL_size _ _
  have z2 : (⟨(wideL u 3).toArray⟩ : ByteArray).size = 3 := wideL_size _ _
  have hp : ((⟨#[108, 101, 100]⟩ : ByteArray) ++ (⟨(wideL g 6).toArray⟩ : ByteArray) ++ (⟨(wideL u 3).toArray⟩ : ByteArray)).data.toList = preL g u 0 := by
    rw [ByteArray.data_append, ByteArray.data_append]; simp [preL]
  obtain ⟨x, hx⟩ : ∃ x : ByteArray, ⟨(wideL g 6).toArray⟩ = x := ⟨_, rfl⟩
  obtain ⟨y, hy⟩ : ∃ x : ByteArray, ⟨(wideL u 3).toArray⟩ = x := ⟨_, rfl⟩
  rw [hx] at W1 z1 hp
  rw [hy] at W2 z2 hp
  have W1 := Lib.hid W1
  have W2 := Lib.hid W2
  have HP := Lib.hid hp
  have q1 : IntKind.u64.wrap (g : Int) = (g : Int) := by rw [IntKind.wrap_u64]; omega
  have q2 : IntKind.u64.wrap (u : Int) = (u : Int) := by rw [IntKind.wrap_u64]; omega
  clear hx hy hp
  go_enter Tryz.func17, Tryz.ntmps17
  go_wp2_with fail
  refine W1.out.mono ?_
  rintro e w1 ⟨rfl, hb1⟩
  have HB1 := Lib.hid hb1
  clear hb1
  go_wp2_with fail
  refine (W2.out w1).mono ?_
  rintro e w2 ⟨rfl, hb2⟩
  have HB2 := Lib.hid (Below.then HB1.out hb2)
  clear hb2
  go_wp2_with fail
  go_loopw [5] (fun sv wr => ∃ (s : ByteArray) (j : Nat), j ≤ 116 ∧ s.size = 12 + j ∧ sv = .string s ∧ s.data.toList = preL g u j ∧ Below w.heap.size w wr) (fun sv _ => match sv with | .string x => 128 - x.size | _ => 0)
  case atStart => exact ⟨_, 0, Nat.zero_le _, by rw [ByteArray.size_append, ByteArray.size_append, z1, z2]; rfl, rfl, HP.out, HB2.out⟩
  case round =>
    obtain ⟨s, j, hj, hsz, rfl, hsl, hb⟩ := hrel
    have HS := Lib.hid hsl
    have HB := Lib.hid hb
    clear hsl hb
    by_cases hlt : j < 116
    · have hlt2 : s.size < 128 := by omega
      have hN := Lib.hid (show (s ++ (⟨#[0]⟩ : ByteArray)).size = 12 + (j + 1) ∧ (s ++ (⟨#[0]⟩ : ByteArray)).data.toList = preL g u (j + 1) from ⟨by rw [ByteArray.size_append, hsz]; rfl, by rw [ByteArray.data_append, ← preL_succ, ← HS.out]; simp⟩)
      go_wp2_with fail
      go_roundw
      case rel => exact ⟨_, j + 1, by omega, hN.out.1, rfl, hN.out.2, HB.out⟩
      case measure =>
        show 128 - (s ++ (⟨#[0]⟩ : ByteArray)).size < 128 - s.size
        rw [hN.out.1]; omega
    · obtain rfl : j = 116 := by omega
      have hO := Lib.hid (show s = headB g u by
        apply ByteArray.ext; apply Array.ext'
        rw [HS.out, preL_all, headB_list])
      go_wp2_with fail
      go_ret
      exact ⟨by rw [← hO.out]; rfl, HB.out⟩

set_option maxRecDepth 100000 in
set_option maxHeartbeats 1000000 in
theorem refAt_t (v : Value) (d : Dsk) (n : Nat) (w : World) (h : DskAt w v d) (hn : n ≤ 1) (h64 : d.secs.length ≤ 64) :
    Calls Tryz.prog 30 #[v, .int .i64 n] w fun e w' => e = .returned (.int .i64 ((n * hOf d : Nat) : Int)) ∧ Below w.heap.size w w' := by
  obtain ⟨a, c, a', c', rfl, -, -⟩ := h.shape
  have hhe : hOf d = d.secs.length / 2 := rfl
  obtain ⟨N, hN⟩ : ∃ N, d.secs.length = N := ⟨_, rfl⟩
  obtain ⟨N', hN'⟩ : ∃ N, d.dirty.length = N := ⟨_, rfl⟩
  rw [hN] at hhe h64 ⊢
  rw [hN']
  obtain ⟨k, hk⟩ : ∃ k, hOf d = k := ⟨_, rfl⟩
  rw [hk] at hhe ⊢
  have q1 : (N : Int) / 2 = (k : Int) := by omega
  have q2 : (N : Int).tdiv 2 = (k : Int) := by rw [Int.tdiv_eq_ediv_of_nonneg (by omega)]; exact q1
  have hk32 : k ≤ 32 := by omega
  obtain ⟨p, hp⟩ : ∃ p, n * k = p := ⟨_, rfl⟩
  have hpi : (n : Int) * (k : Int) = (p : Int) := by rw [← hp]; push_cast; rfl
  have hp64 : p ≤ 64 := by rcases (show n = 0 ∨ n = 1 by omega) with rfl | rfl <;> omega
  rw [hp]
  obtain ⟨W, hW⟩ : ∃ W, w.alloc (.cells #[.slice a N c, .slice a' N' c'] 25) = W := ⟨_, rfl⟩
  have HB := Lib.hid (show Below w.heap.size w W by rw [← hW]; exact below_new _ _)
  have HA := Lib.hid (show At2 25 W w.heap.size (.slice a N c) (.slice a' N' c') by rw [← hW]; exact At2.new _ _ _ _)
  have HW := Lib.hid hW
  clear hW h hN hN' hk hhe hp
  go_enter Tryz.func30, Tryz.ntmps30
  go_upto_region 1 with fail
  rw [HW.out]
  obtain ⟨a0, a1⟩ := HA.out.cells
  go_wp2_with fail
  go_ret
  exact ⟨rfl, HB.out⟩

set_option maxRecDepth 100000 in
set_option maxHeartbeats 2000000 in
theorem refRoom_t (v : Value) (d : Dsk) (n : Nat) (w : World) (h : DskAt w v d) (hn : n ≤ 1) (hr : RightIs d) :
    Calls Tryz.prog 25 #[v, .int .i64 n] w fun e w' => e = .returned (.string ⟨(roomL d n).toArray⟩) ∧ Below w.heap.size w w' := by
  have h2 := hOf_two hr
  have hlt : ∀ i, i < hOf d - 1 → n * hOf d + 1 + i < d.secs.length := fun i hi => half_lt hn hi
  have hall := roomTo_all d n
  have hsz : ∀ k, k ≤ hOf d - 1 → (roomTo d n k).length = k * 128 := fun k hk => roomTo_length hr hn hk
  have hsu := roomTo_succ d n
  have h64 := hr.most
  have hhe : hOf d = d.secs.length / 2 := rfl
  obtain ⟨⟨sv, dv, rfl, hs, hd⟩, -, -⟩ := h
  obtain ⟨sb, so, sc, rfl, s1, s2, s3, s4⟩ := hs.rows (by have := hr.least; omega)
  obtain ⟨da, dc, rfl, -, -⟩ := hd.shape
  have hsec : ∀ k (hk : k < d.secs.length), d.secs[k].data.toList = secAt d k := fun k hk => by
    unfold secAt; rw [List.getD_eq_getElem?_getD, List.getElem?_eq_getElem hk]; rfl
  obtain ⟨N, hN⟩ : ∃ N, d.secs.length = N := ⟨_, rfl⟩
  obtain ⟨k, hk⟩ : ∃ k, hOf d = k := ⟨_, rfl⟩
  rw [List.length_map]
  rw [hN] at s2 h64 hhe ⊢
  rw [hk] at hhe h2 hlt hall hsz hsu
  have q1 : (N : Int) / 2 = (k : Int) := by omega
  have q2 : (N : Int).tdiv 2 = (k : Int) := by rw [Int.tdiv_eq_ediv_of_nonneg (by omega)]; exact q1
  obtain ⟨p, hp⟩ : ∃ p, n * k = p := ⟨_, rfl⟩
  have hpi : (n : Int) * (k : Int) = (p : Int) := by rw [← hp]; push_cast; rfl
  have hp64 : p ≤ 64 := by rcases (show n = 0 ∨ n = 1 by omega) with rfl | rfl <;> omega
  rw [hp] at hsu hlt
  obtain ⟨W, hW⟩ : ∃ W, w.alloc (.cells #[.slice (some ⟨sb, so, none⟩) N sc, .slice da d.dirty.length dc] 25) = W := ⟨_, rfl⟩
  have HB := Lib.hid (show Below w.heap.size w W by rw [← hW]; exact below_new _ _)
  have HA := Lib.hid (show At2 25 W w.heap.size (.slice (some ⟨sb, so, none⟩) N sc) (.slice da d.dirty.length dc) by rw [← hW]; exact At2.new _ _ _ _)
  have HW := Lib.hid hW
  have HC := Lib.hid (show ∀ i, i < k - 1 → ∃ s : ByteArray, W.cell? ⟨sb, so + (p + 1 + i), none⟩ = some (.string s) ∧ p + 1 + i < N ∧ roomTo d n (i + 1) = roomTo d n i ++ s.data.toList from fun i hi =>
    ⟨d.secs[p + 1 + i]'(hlt i hi), Below.keepc HB.out (s4 _ (hlt i hi)), by rw [← hN]; exact hlt i hi, by rw [hsu, hsec _ (hlt i hi)]⟩)
  have HS := Lib.hid hsz
  have HL := Lib.hid hall
  unfold maxLen at s3
  clear hW hs hd s4 hN hk hsu hsz hlt hall hp hsec hr hhe
  go_enter Tryz.func25, Tryz.ntmps25
  go_upto_region 1 with fail
  rw [HW.out]
  obtain ⟨a0, a1⟩ := HA.out.cells
  go_wp2_with fail
  go_loopw [5, 7] (fun ov iv wr => ∃ (s : ByteArray) (i : Nat), i ≤ k - 1 ∧ s.size ≤ 4096 ∧ iv = .int .i64 ((i + 1 : Nat) : Int) ∧ ov = .string s ∧ s.data.toList = roomTo d n i ∧ W = wr) (fun _ iv _ => k - (intOf iv).toNat)
  case atStart => exact ⟨⟨#[]⟩, 0, Nat.zero_le _, Nat.zero_le _, rfl, rfl, rfl, rfl⟩
  case round =>
    obtain ⟨s, i, hi, hsz, rfl, rfl, hsl, rfl⟩ := hrel
    have HSL := Lib.hid hsl
    clear hsl
    by_cases hlt : i < k - 1
    · obtain ⟨x, c0, hN1, hx⟩ := HC.out i hlt
      have hx2 := Lib.hid (show (s ++ x).size ≤ 4096 ∧ (s ++ x).data.toList = roomTo d n (i + 1) from ⟨by
        have e := HS.out (i + 1) (by omega)
        rw [hx, ← HSL.out, List.length_append, toList_size, toList_size] at e
        rw [ByteArray.size_append]; omega, by rw [ByteArray.data_append, hx, ← HSL.out]; simp⟩)
      have c1 : W.cell? ⟨sb, so + (p + (i + 1)), none⟩ = some (.string x) := by rw [← c0]; congr 2; omega
      obtain ⟨i1, hi1⟩ : ∃ j, i + 1 = j := ⟨_, rfl⟩
      have hik : i1 < k := by omega
      rw [hi1] at hx2 c1 ⊢
      have hpN : p + i1 < N := by omega
      have hxz : x.size ≤ 4096 := by have := hx2.out.1; rw [ByteArray.size_append] at this; omega
      clear c0 hx
      go_wp2_with fail
      go_roundw
      case rel => exact ⟨_, i1, by omega, hx2.out.1, by go_num, rfl, hx2.out.2, by first | trivial | rfl⟩
      case measure => simp [intOf]; omega
    · obtain rfl : i = k - 1 := by omega
      have hO := Lib.hid (show s = ⟨(roomL d n).toArray⟩ by
        apply ByteArray.ext; apply Array.ext'
        rw [HSL.out, HL.out])
      obtain ⟨i1, hi1⟩ : ∃ j, k - 1 + 1 = j := ⟨_, rfl⟩
      have hik : i1 = k := by omega
      rw [hi1]
      subst hik
      go_wp2_with fail
      go_ret
      exact ⟨by rw [← hO.out]; rfl, HB.out⟩
end Go.Proofs.YtkplpodljmlanaaGreatDoor
/-! The document's own Gen, Used and Entries of a ledger, by contracts. Conditions: the disk may be. -/
namespace Go.Proofs.YtkplpodljmlanaaGreatDoor
open Go.RowKit Go.WideShapes

set_option maxRecDepth 100000 in
set_option maxHeartbeats 4000000 in
theorem refGen_t (v : Value) (d : Dsk) (n : Nat) (w : World) (h : DskAt w v d) (hn : n ≤ 1) (hr : RightIs d) :
    Calls Tryz.prog 41 #[v, .int .i64 n] w fun e w' => e = .returned (.int .i64 ((toldL d n).1 : Nat)) ∧ Below w.heap.size w w' := by
  have hlt := head_lt hr hn
  have hrn := roomN_le hr
  have hzs := sec_size hr hlt
  have CA := fun w' (hb : Below w.heap.size w w') => refAt_t v d n w' (h.keep hb) hn hr.most
  have CR := fun w' (hb : Below w.heap.size w w') => refRoom_t v d n w' (h.keep hb) hn hr
  have hRz := room_size d n hr hn
  have hmost := hr.most
  obtain ⟨⟨sv, dv, rfl, hs, hd⟩, -, -⟩ := h
  obtain ⟨sb, so, sc, rfl, s1, s2, s3, s4⟩ := hs.rows (by have := hr.least; omega)
  obtain ⟨da, dc, rfl, -, -⟩ := hd.shape
  have hc := s4 _ hlt
  obtain ⟨s, hsx⟩ : ∃ s, d.secs[n * hOf d] = s := ⟨_, rfl⟩
  have hsg : d.secs.getD (n * hOf d) ⟨#[]⟩ = s := by rw [List.getD_eq_getElem?_getD, List.getElem?_eq_getElem hlt, ← hsx]; rfl
  rw [hsx] at hc
  rw [hsg] at hzs
  have e1 : (s.extract 3 9).data.toList = (s.data.toList.drop 3).take 6 := Lib.extract_data _ _ _
  have e2 : (s.extract 9 12).data.toList = (s.data.toList.drop 9).take 3 := Lib.extract_data _ _ _
  have z1 : (s.extract 3 9).size ≤ 8 := by simp; omega
  have z2 : (s.extract 9 12).size ≤ 8 := by simp; omega
  obtain ⟨g, hg⟩ : ∃ g, numL ((s.data.toList.drop 3).take 6) = g := ⟨_, rfl⟩
  obtain ⟨u, hu⟩ : ∃ u, numL ((s.data.toList.drop 9).take 3) = u := ⟨_, rfl⟩
  have HT := Lib.hid (show toldL d n = if 1 ≤ g ∧ g ≤ 1099511627776 ∧ u ≤ roomN d ∧ s.data.toList = headL g u then (g, u) else (0, 0) by
    unfold toldL secAt
    rw [hsg]
    exact toldGo_if _ _ _ _ hg hu)
  have hgb : g < 281474976710656 := by
    rw [← hg]
    refine Nat.lt_of_lt_of_le (numL_lt _) ?_
    exact Nat.pow_le_pow_right (n := 256) (by decide) (show ((s.data.toList.drop 3).take 6).length ≤ 6 by simp; omega)
  have hub : u < 16777216 := by
    rw [← hu]
    refine Nat.lt_of_lt_of_le (numL_lt _) ?_
    exact Nat.pow_le_pow_right (n := 256) (by decide) (show ((s.data.toList.drop 9).take 3).length ≤ 3 by simp; omega)
  have WG := fun w' => refWhole_any (s.extract 3 9) w' z1
  have WU := fun w' => refWhole_any (s.extract 9 12) w' z2
  rw [e1, hg] at WG
  rw [e2, hu] at WU
  have HX := Lib.hid (fun w' => refHead_t g u w' hgb hub)
  obtain ⟨x1, hx1⟩ : ∃ x, s.extract 3 9 = x := ⟨_, rfl⟩
  obtain ⟨x2, hx2⟩ : ∃ x, s.extract 9 12 = x := ⟨_, rfl⟩
  rw [hx1] at WG
  rw [hx2] at WU
  obtain ⟨N, hN⟩ : ∃ N, d.secs.length = N := ⟨_, rfl⟩
  obtain ⟨nd, hnd⟩ : ∃ N, d.dirty.length = N := ⟨_, rfl⟩
  obtain ⟨rm, hrm2⟩ : ∃ N, roomN d = N := ⟨_, rfl⟩
  obtain ⟨p, hp⟩ : ∃ p, n * hOf d = p := ⟨_, rfl⟩
  obtain ⟨t, ht⟩ : ∃ t, toldL d n = t := ⟨_, rfl⟩
  obtain ⟨R, hR⟩ : ∃ R : ByteArray, ⟨(roomL d n).toArray⟩ = R := ⟨_, rfl⟩
  rw [hR] at CR hRz
  rw [List.length_map, hN, hnd] at CA CR ⊢
  rw [hN] at s2 hlt hmost
  rw [hp] at hlt hc CA
  rw [hrm2] at HT hrn hRz
  rw [ht] at HT ⊢
  unfold maxLen at s3
  obtain ⟨W, hW⟩ : ∃ W, w.alloc (.cells #[.slice (some ⟨sb, so, none⟩) N sc, .slice da nd dc] 25) = W := ⟨_, rfl⟩
  have HB := Lib.hid (show Below w.heap.size w W by rw [← hW]; exact below_new _ _)
  have HA := Lib.hid (show At2 25 W w.heap.size (.slice (some ⟨sb, so, none⟩) N sc) (.slice da nd dc) by rw [← hW]; exact At2.new _ _ _ _)
  have HW := Lib.hid hW
  have hcW := Below.keepc HB.out hc
  have HCW := Lib.hid hcW
  have CA := Lib.hid CA
  have CR := Lib.hid CR
  have WG := Lib.hid WG
  have WU := Lib.hid WU
  have q1 : IntKind.u64.wrap (rm : Int) = (rm : Int) := by rw [IntKind.wrap_u64]; omega
  have q2 : IntKind.i64.wrap (g : Int) = (g : Int) := by rw [IntKind.wrap_i64]; omega
  have q3 : IntKind.i64.wrap (u : Int) = (u : Int) := by rw [IntKind.wrap_i64]; omega
  clear hW hs hd s4 hN hnd hp hsx hsg e1 e2 hg hu hc hrm2 ht z1 z2 s1 hr hR
  go_enter Tryz.func41, Tryz.ntmps41
  go_upto_region 1 with fail
  rw [HW.out]
  obtain ⟨a0, a1⟩ := HA.out.cells
  have hbA := Below.refl W.heap.size W
  go_region_held3 (fun w' => w'.cell? ⟨w.heap.size, 0, none⟩ = some (.slice (some ⟨sb, so, none⟩) N sc) ∧ w'.cell? ⟨w.heap.size, 1, none⟩ = some (.slice da nd dc) ∧ w'.cell? ⟨sb, so + p, none⟩ = some (.string s)) (exact ⟨a0, a1, hcW⟩)
    ((go_simp; go_at_call 30
      refine (CA.out _ (by first | exact Below.then HB.out hbA | exact Below.then HB.out hbA.drew)).mono ?_
      rintro e wS ⟨rfl, hbS⟩
      have hbA : Below W.heap.size W wS := by first | exact Below.then hbA hbS | exact Below.then hbA.drew hbS
      obtain ⟨a0, a1⟩ := (HA.out.keep hbA).cells
      have hcW := Below.keepc hbA HCW.out))
  all_goals
    have HBA := Lib.hid (Below.then HB.out hbA)
    obtain ⟨a0, a1⟩ := (HA.out.keep hbA).cells
    have HCR := Lib.hid (CR.out wS HBA.out)
    have G1 := Lib.hid (WG.out wS)
    have G2 := Lib.hid (WU.out wS)
    clear hbA hcW hbS CA WG WU CR
    go_wp2_with fail
    refine G1.out.mono ?_
    rintro e w0 ⟨rfl, rfl⟩
    go_wp2_with fail
    refine G2.out.mono ?_
    rintro e w0 ⟨rfl, rfl⟩
    clear G1 G2
    by_cases c1 : 1 ≤ g
    rotate_left
    · have hO := Lib.hid (show t = (0, 0) by rw [HT.out, if_neg (fun k => c1 k.1)])
      go_wp2_with fail
      go_ret
      exact ⟨by rw [hO.out]; rfl, HBA.out⟩
    by_cases c2 : g ≤ 1099511627776
    rotate_left
    · have hO := Lib.hid (show t = (0, 0) by rw [HT.out, if_neg (fun k => c2 k.2.1)])
      go_wp2_with fail
      go_ret
      exact ⟨by rw [hO.out]; rfl, HBA.out⟩
    go_wp2_with fail
    refine HCR.out.mono ?_
    rintro e w2 ⟨rfl, hb2⟩
    have HB2 := Lib.hid (Below.then HBA.out hb2)
    have HX2 := Lib.hid (HX.out w2)
    clear hb2 a0 a1
    by_cases c3 : u ≤ rm
    rotate_left
    · have hO := Lib.hid (show t = (0, 0) by rw [HT.out, if_neg (fun k => c3 k.2.2.1)])
      go_wp2_with fail
      go_ret
      exact ⟨by rw [hO.out]; rfl, HB2.out⟩
    by_cases c4 : s = headB g u
    rotate_left
    · have hO := Lib.hid (show t = (0, 0) by
        rw [HT.out, if_neg (fun k => c4 (by
          apply ByteArray.ext; apply Array.ext'
          rw [headB_list]; exact k.2.2.2))])
      have q : ((headB g u).toList == s.toList) = false := by rw [beqB]; exact decide_eq_false (fun e => c4 e.symm)
      have q2 : ((headB g u).toList != s.toList) = true := by rw [bne, q]; rfl
      obtain ⟨hh, hhe⟩ : ∃ x, headB g u = x := ⟨_, rfl⟩
      rw [hhe] at q q2 HX2
      clear hhe c4
      go_wp2_with fail
      refine HX2.out.mono ?_
      rintro e w3 ⟨rfl, hb3⟩
      have HB3 := Lib.hid (Below.then HB2.out hb3)
      clear hb3
      go_wp2_with fail
      go_ret
      exact ⟨by rw [hO.out]; rfl, HB3.out⟩
    · have hO := Lib.hid (show t = (g, u) by
        rw [HT.out, if_pos ⟨c1, c2, c3, by rw [c4]; rfl⟩])
      have q : (s.toList == s.toList) = true := by rw [beqB]; exact decide_eq_true rfl
      have q2' : (s.toList != s.toList) = false := by rw [bne, q]; rfl
      rw [← c4] at HX2
      clear c4
      go_wp2_with fail
      refine HX2.out.mono ?_
      rintro e w3 ⟨rfl, hb3⟩
      have HB3 := Lib.hid (Below.then HB2.out hb3)
      clear hb3
      go_wp2_with fail
      go_ret
      exact ⟨by rw [hO.out]; rfl, HB3.out⟩

set_option maxRecDepth 100000 in
set_option maxHeartbeats 4000000 in
theorem refUsed_t (v : Value) (d : Dsk) (n : Nat) (w : World) (h : DskAt w v d) (hn : n ≤ 1) (hr : RightIs d) :
    Calls Tryz.prog 42 #[v, .int .i64 n] w fun e w' => e = .returned (.int .i64 (numL (((secAt d (n * hOf d)).drop 9).take 3) : Nat)) ∧ Below w.heap.size w w' := by
  have hlt := head_lt hr hn
  have hzs := sec_size hr hlt
  have CA := fun w' (hb : Below w.heap.size w w') => refAt_t v d n w' (h.keep hb) hn hr.most
  have hmost := hr.most
  obtain ⟨⟨sv, dv, rfl, hs, hd⟩, -, -⟩ := h
  obtain ⟨sb, so, sc, rfl, s1, s2, s3, s4⟩ := hs.rows (by have := hr.least; omega)
  obtain ⟨da, dc, rfl, -, -⟩ := hd.shape
  have hc := s4 _ hlt
  obtain ⟨s, hsx⟩ : ∃ s, d.secs[n * hOf d] = s := ⟨_, rfl⟩
  have hsg : d.secs.getD (n * hOf d) ⟨#[]⟩ = s := by rw [List.getD_eq_getElem?_getD, List.getElem?_eq_getElem hlt, ← hsx]; rfl
  rw [hsx] at hc
  rw [hsg] at hzs
  have e2 : (s.extract 9 12).data.toList = (s.data.toList.drop 9).take 3 := Lib.extract_data _ _ _
  have z2 : (s.extract 9 12).size ≤ 8 := by simp; omega
  have hse : secAt d (n * hOf d) = s.data.toList := by unfold secAt; rw [hsg]
  rw [hse]
  obtain ⟨u, hu⟩ : ∃ u, numL ((s.data.toList.drop 9).take 3) = u := ⟨_, rfl⟩
  have hub : u < 16777216 := by
    rw [← hu]
    refine Nat.lt_of_lt_of_le (numL_lt _) ?_
    exact Nat.pow_le_pow_right (n := 256) (by decide) (show ((s.data.toList.drop 9).take 3).length ≤ 3 by simp; omega)
  have WU := fun w' => refWhole_any (s.extract 9 12) w' z2
  rw [e2, hu] at WU
  obtain ⟨x2, hx2⟩ : ∃ x, s.extract 9 12 = x := ⟨_, rfl⟩
  rw [hx2] at WU
  obtain ⟨N, hN⟩ : ∃ N, d.secs.length = N := ⟨_, rfl⟩
  obtain ⟨nd, hnd⟩ : ∃ N, d.dirty.length = N := ⟨_, rfl⟩
  obtain ⟨p, hp⟩ : ∃ p, n * hOf d = p := ⟨_, rfl⟩
  rw [List.length_map, hN, hnd] at CA ⊢
  rw [hN] at s2 hlt hmost
  rw [hp] at hlt hc CA
  rw [hu]
  unfold maxLen at s3
  obtain ⟨W, hW⟩ : ∃ W, w.alloc (.cells #[.slice (some ⟨sb, so, none⟩) N sc, .slice da nd dc] 25) = W := ⟨_, rfl⟩
  have HB := Lib.hid (show Below w.heap.size w W by rw [← hW]; exact below_new _ _)
  have HA := Lib.hid (show At2 25 W w.heap.size (.slice (some ⟨sb, so, none⟩) N sc) (.slice da nd dc) by rw [← hW]; exact At2.new _ _ _ _)
  have HW := Lib.hid hW
  have hcW := Below.keepc HB.out hc
  have HCW := Lib.hid hcW
  have CA := Lib.hid CA
  have WU := Lib.hid WU
  have q3 : IntKind.i64.wrap (u : Int) = (u : Int) := by rw [IntKind.wrap_i64]; omega
  clear hW hs hd s4 hN hnd hp hsx hsg hse e2 hu hc z2 s1 hr
  go_enter Tryz.func42, Tryz.ntmps42
  go_upto_region 1 with fail
  rw [HW.out]
  obtain ⟨a0, a1⟩ := HA.out.cells
  have hbA := Below.refl W.heap.size W
  go_region_held3 (fun w' => w'.cell? ⟨w.heap.size, 0, none⟩ = some (.slice (some ⟨sb, so, none⟩) N sc) ∧ w'.cell? ⟨w.heap.size, 1, none⟩ = some (.slice da nd dc) ∧ w'.cell? ⟨sb, so + p, none⟩ = some (.string s)) (exact ⟨a0, a1, hcW⟩)
    ((go_simp; go_at_call 30
      refine (CA.out _ (by first | exact Below.then HB.out hbA | exact Below.then HB.out hbA.drew)).mono ?_
      rintro e wS ⟨rfl, hbS⟩
      have hbA : Below W.heap.size W wS := by first | exact Below.then hbA hbS | exact Below.then hbA.drew hbS
      obtain ⟨a0, a1⟩ := (HA.out.keep hbA).cells
      have hcW := Below.keepc hbA HCW.out))
  all_goals
    have HBA := Lib.hid (Below.then HB.out hbA)
    have G2 := Lib.hid (WU.out wS)
    clear hbA hcW hbS CA WU a0 a1
    go_wp2_with fail
    refine G2.out.mono ?_
    rintro e w0 ⟨rfl, rfl⟩
    go_wp2_with fail
    go_ret
    exact ⟨rfl, HBA.out⟩

/-- What Entries' two answers tell. -/
def EntIs (s : List UInt8) (v : Value) (b : Bool) (w : World) : Prop := (b = true ∧ ∃ es, entL s = some es ∧ StrRow w v es) ∨ (b = false ∧ entL s = none)
theorem EntIs.keep {s : List UInt8} {v : Value} {b : Bool} {w w' : World} (h : EntIs s v b w) (hb : Below w.heap.size w w') : EntIs s v b w' := by
  rcases h with ⟨h1, es, h2, h3⟩ | h
  · exact Or.inl ⟨h1, es, h2, h3.keep hb⟩
  · exact Or.inr h
def EntOut (s : ByteArray) (w : World) (e : Ending) (w' : World) : Prop := ∃ a l c b, e = .returned (.tuple #[.slice a l c, .bool b]) ∧ EntIs s.data.toList (.slice a l c) b w' ∧ Below w.heap.size w w'
set_option maxRecDepth 100000 in
set_option maxHeartbeats 4000000 in
theorem refEntries_t (s : ByteArray) (w : World) (hs : s.size ≤ 100000) :
    Calls Tryz.prog 43 #[.string s] w (EntOut s w) := by
  obtain ⟨i0, hi, hz0, hz1, hz2⟩ := info_parts infoStr
  go_enter Tryz.func43, Tryz.ntmps43
  go_wp2_with fail
  go_loopw [4, 5] (fun pv av wr => ∃ (a : Nat) (acc : List ByteArray) (f n : Nat), a ≤ s.size ∧ s.size - a < f ∧ 2 * n ≤ a ∧ entGo f (s.data.toList.drop a) acc = entL s.data.toList ∧ acc.length = n ∧ av = .int .i64 a ∧ (∃ g c, pv = .slice (some ⟨g, 0, none⟩) n c ∧ w.heap.size ≤ g) ∧ wr.ownsRow w.heap.size 9 1 pv n (strC acc) ∧ Below w.heap.size w wr) (fun _ av _ => s.size - (intOf av).toNat)
  case atStart => exact ⟨0, [], s.size + 1, 0, Nat.zero_le _, by omega, Nat.le_refl _, by unfold entL; rw [toList_size]; rfl, rfl, rfl, ⟨_, _, rfl, Nat.le_refl _⟩, World.ownsRow_lit w #[] 0 (Nat.le_refl _) (Nat.zero_le _) rfl, (Below.refl _ _).alloc (by omega) _⟩
  case round =>
    obtain ⟨a, acc, f, n, ha, hf, hn, hgo, hal, rfl, ⟨g, c, rfl, hgB⟩, ho, hb⟩ := hrel
    have HG := Lib.hid hgo
    have HL := Lib.hid hal
    have hbs := hb.size
    have hdl : (s.data.toList.drop a).length = s.size - a := by rw [List.length_drop, toList_size]
    clear hgo hal
    by_cases hlt : a < s.size
    rotate_left
    · obtain rfl : a = s.size := by omega
      have hd := Lib.hid (show entL s.data.toList = some acc by rw [← HG.out, List.drop_of_length_le (by rw [toList_size]; exact Nat.le_refl _)]; exact entGo_nil f acc)
      have hrow := Lib.hid (StrRow.of_own ho HL.out)
      clear ho hdl
      go_wp2_with fail
      go_ret2
      exact ⟨_, _, _, _, rfl, Or.inl ⟨rfl, acc, hd.out, hrow.out⟩, hb⟩
    · obtain ⟨f, rfl⟩ : ∃ g, f = g + 1 := ⟨f - 1, by omega⟩
      have hne : s.data.toList.drop a ≠ [] := by intro e; rw [e] at hdl; simp at hdl; omega
      by_cases h2 : s.size - a < 2
      · have hd := Lib.hid (show entL s.data.toList = none by rw [← HG.out]; exact entGo_no _ _ _ hne (Or.inl (by rw [hdl]; exact h2)))
        clear hdl hne ho
        go_wp2_with fail
        go_ret2
        exact ⟨_, _, _, _, rfl, Or.inr ⟨rfl, hd.out⟩, hb⟩
      · have e1 : (s.extract a (a + 2)).data.toList = (s.data.toList.drop a).take 2 := by rw [Lib.extract_data, show a + 2 - a = 2 by omega]
        have z1 : (s.extract a (a + 2)).size ≤ 8 := by simp; omega
        obtain ⟨N, hN⟩ : ∃ N, numL ((s.data.toList.drop a).take 2) = N := ⟨_, rfl⟩
        have hN2 : N < 65536 := by rw [← hN]; exact numL_take2_lt _ (by rw [hdl]; omega)
        have WH := refWhole_any (s.extract a (a + 2)) wr z1
        rw [e1, hN] at WH
        have HN := Lib.hid hN
        have HDL := Lib.hid hdl
        have HNE := Lib.hid hne
        obtain ⟨p, hp⟩ : ∃ p, s.extract a (a + 2) = p := ⟨_, rfl⟩
        rw [hp] at WH
        have WH := Lib.hid WH
        have hu : IntKind.i64.wrap (N : Int) = (N : Int) := by rw [IntKind.wrap_i64]; omega
        obtain ⟨a2, ha2⟩ : ∃ x, a + 2 = x := ⟨_, rfl⟩
        have hi2 : (a : Int) + 2 = (a2 : Int) := by omega
        rw [ha2] at hp
        have h2a : a2 ≤ s.size := by omega
        have h2b : a ≤ a2 := by omega
        clear e1 z1 hN hdl hne
        go_wp2_with fail
        refine WH.out.mono ?_
        rintro e w1 ⟨rfl, rfl⟩
        clear WH hp
        by_cases hbig : 4096 < N
        · have hd := Lib.hid (show entL s.data.toList = none by rw [← HG.out]; exact entGo_no _ _ _ HNE.out (Or.inr (Or.inl (by rw [HN.out]; exact hbig))))
          clear ho
          go_wp2_with fail
          go_ret2
          exact ⟨_, _, _, _, rfl, Or.inr ⟨rfl, hd.out⟩, hb⟩
        · by_cases hshort : s.size - a - 2 < N
          · have hd := Lib.hid (show entL s.data.toList = none by rw [← HG.out]; exact entGo_no _ _ _ HNE.out (Or.inr (Or.inr (by rw [HN.out, HDL.out]; exact hshort))))
            have hsi : ((s.size : Nat) : Int) - (a : Int) - 2 < (N : Int) := by omega
            clear ho
            go_wp2_with fail
            go_ret2
            exact ⟨_, _, _, _, rfl, Or.inr ⟨rfl, hd.out⟩, hb⟩
          · have hsi : ¬ ((s.size : Nat) : Int) - (a : Int) - 2 < (N : Int) := by omega
            have hmore := entGo_more f (s.data.toList.drop a) acc (by rw [HN.out, HDL.out]; omega)
            have hd2 : (s.data.toList.drop a).drop 2 = s.data.toList.drop a2 := by rw [List.drop_drop, ha2]
            rw [HN.out, hd2, List.drop_drop] at hmore
            obtain ⟨a3, ha3⟩ : ∃ x, a2 + N = x := ⟨_, rfl⟩
            rw [ha3] at hmore
            have hi3 : (a2 : Int) + (N : Int) = (a3 : Int) := by omega
            have hql : (s.extract a2 a3).data.toList = (s.data.toList.drop a2).take N := by rw [Lib.extract_data, show a3 - a2 = N by omega]
            obtain ⟨q, hq⟩ : ∃ q, s.extract a2 a3 = q := ⟨_, rfl⟩
            rw [hq] at hql
            have HM := Lib.hid (show entGo f (s.data.toList.drop a3) (acc ++ [q]) = entL s.data.toList by
              rw [← HG.out, hmore, ← hql, mk_toList])
            have h3a : a3 ≤ s.size := by omega
            have h3b : a2 ≤ a3 := by omega
            clear hql hmore
            go_wp2_with (at_builtin; refine wpList_append_own _ rfl _ _ 22 rfl w.heap.size 9 i0 (.string ⟨#[]⟩) 1 16 Tryz.underlying22 hi hz0 hz1 hz2 rfl (by decide) _ n (strC acc) rfl (ho.alloc _) ⟨wr.heap.size, 0, none⟩ 1 1 [.string q] rfl rfl ?c1 ?c2 ?c3 ?c4 ?c5 ?_)
            case c1 =>
              intro i u hi'
              match i, hi' with
              | 0, hi' => simp at hi'; subst hi'; rw [addr0_add, World.cell?_alloc_at _ _ _ _ rfl]; rfl
              | i + 1, hi' => simp at hi'
            case c2 => intro u hu; simp at hu; subst hu; rfl
            case c3 => unfold maxLen; omega
            case c4 => omega
            case c5 => simp; omega
            intro v' w3 hown3 hgrow3 _
            have hbb3 : Below w.heap.size w w3 := (hb.alloc hbs _).grown hgrow3 (by simp; omega) (fun k hk => by cases hk; exact hgB)
            have hv' : ∃ g c, v' = .slice (some ⟨g, 0, none⟩) (n + 1) c ∧ w.heap.size ≤ g := by
              rcases hown3.2 with ⟨_, h0⟩ | ⟨g, c', cur, hv, _⟩
              · omega
              · exact ⟨_, _, hv, (hown3.lt g (by rw [hv]; rfl)).1⟩
            obtain ⟨g', c', rfl, hg'⟩ := hv'
            go_wp2_with fail
            go_roundw
            case rel => exact ⟨a3, acc ++ [q], f, n + 1, by omega, by omega, by omega, HM.out, by simp [HL.out], by go_num, ⟨_, _, rfl, hg'⟩, by simpa [strC] using hown3, hbb3⟩
            case measure => simp [intOf]; omega
end Go.Proofs.YtkplpodljmlanaaGreatDoor
/-! The document's own Open of a disk, by a contract. Conditions: none. -/
namespace Go.Proofs.YtkplpodljmlanaaGreatDoor
open Go.RowKit Go.WideShapes

theorem cell_nst {t : TypeId} {w : World} {B : Nat} {cs : Array Value} (h : w.heap[B]? = some (.cells cs t (0, 0))) (hs : ∀ (i : Nat) u, cs[i]? = some u → NoStr u) (k : Nat) (v : Value) : NSt w (w.setCell ⟨B, k, none⟩ v) := by
  intro p s hp
  by_cases e : p.block = B
  · exfalso
    obtain ⟨pb, po, ps⟩ := p
    simp only at e
    subst e
    exact row_noStr h hs po ps s hp
  · rw [World.cell?_of_block (Below.heap_setCell _ _ _ _ e)]; exact hp
theorem At6.noStr {t : TypeId} {w : World} {B : Nat} {a b c d e f : Value} (h : At6 t w B a b c d e f) (ha : NoStr a) (hb : NoStr b) (hc : NoStr c) (hd : NoStr d) (he : NoStr e) (hf : NoStr f) (k : Nat) (v : Value) : NSt w (w.setCell ⟨B, k, none⟩ v) := by
  refine cell_nst h (fun i u hi => ?_) k v
  match i, hi with
  | 0, hi => simp at hi; exact hi ▸ ha
  | 1, hi => simp at hi; exact hi ▸ hb
  | 2, hi => simp at hi; exact hi ▸ hc
  | 3, hi => simp at hi; exact hi ▸ hd
  | 4, hi => simp at hi; exact hi ▸ he
  | 5, hi => simp at hi; exact hi ▸ hf
  | n + 6, hi => simp at hi
theorem At6.set_2 {t : TypeId} {w : World} {B : Nat} {a b c d e f : Value} (h : At6 t w B a b c d e f) (v : Value) : At6 t (w.setCell ⟨B, 2, none⟩ v) B a b v d e f := by
  unfold At6; rw [heap_setCell_same _ _ _ _ _ _ h]; rfl
theorem At6.set_3 {t : TypeId} {w : World} {B : Nat} {a b c d e f : Value} (h : At6 t w B a b c d e f) (v : Value) : At6 t (w.setCell ⟨B, 3, none⟩ v) B a b c v e f := by
  unfold At6; rw [heap_setCell_same _ _ _ _ _ _ h]; rfl
theorem At6.set_4 {t : TypeId} {w : World} {B : Nat} {a b c d e f : Value} (h : At6 t w B a b c d e f) (v : Value) : At6 t (w.setCell ⟨B, 4, none⟩ v) B a b c d v f := by
  unfold At6; rw [heap_setCell_same _ _ _ _ _ _ h]; rfl
theorem At6.set_5 {t : TypeId} {w : World} {B : Nat} {a b c d e f : Value} (h : At6 t w B a b c d e f) (v : Value) : At6 t (w.setCell ⟨B, 5, none⟩ v) B a b c d e v := by
  unfold At6; rw [heap_setCell_same _ _ _ _ _ _ h]; rfl

set_option maxRecDepth 100000 in
set_option maxHeartbeats 8000000 in
theorem refOpen_t (v : Value) (d : Dsk) (w : World) (h : DskAt w v d) : Calls Tryz.prog 13 #[v] w (LedOut (openL d) w) := by
  have HV := Lib.hid h
  obtain ⟨a, c, a', c', rfl, hl1, hl2⟩ := h.shape
  have HD := Lib.hid (openL_eq d)
  have HR := Lib.hid (right_iff d)
  obtain ⟨n', hn'⟩ : ∃ r, d.dirty.length = r := ⟨_, rfl⟩
  obtain ⟨n, hn⟩ : ∃ r, d.secs.length = r := ⟨_, rfl⟩
  obtain ⟨r, hr⟩ : ∃ r, d.right = r := ⟨_, rfl⟩
  rw [hn, hn'] at HV ⊢
  rw [hn] at hl1
  rw [hn'] at hl2
  rw [hr] at HD HR
  have RG := Lib.hid (fun w' (hb : Below w.heap.size w w') => refRight_t _ d w' (HV.out.keep hb))
  rw [hr] at RG
  have GN := Lib.hid (fun (k : Nat) (hk : k ≤ 1) (hri : RightIs d) w' (hb : Below w.heap.size w w') => refGen_t _ d k w' (HV.out.keep hb) hk hri)
  have US := Lib.hid (fun (k : Nat) (hk : k ≤ 1) (hri : RightIs d) w' (hb : Below w.heap.size w w') => refUsed_t _ d k w' (HV.out.keep hb) hk hri)
  have RM := Lib.hid (fun (k : Nat) (hk : k ≤ 1) (hri : RightIs d) w' (hb : Below w.heap.size w w') => refRoom_t _ d k w' (HV.out.keep hb) hk hri)
  obtain ⟨W, hW⟩ : ∃ W, ((w.alloc (.cells #[.slice a n c, .slice a' n' c'] 25)).alloc (.cells #[nilV, nilV, zeroV, zeroV, zeroV, nilV] 27)).alloc (.cells #[.slice a n c, .slice a' n' c', zeroV, zeroV, zeroV, nilV] 27) = W := ⟨_, rfl⟩
  have HB := Lib.hid (show Below w.heap.size w W by rw [← hW]; exact Below.then (Below.then (below_new _ _) (below_new _ _)) (below_new _ _))
  have HA := Lib.hid (show At2 25 W w.heap.size (.slice a n c) (.slice a' n' c') by rw [← hW]; exact ((At2.new _ _ _ _).keep (below_new _ _)).keep (below_new _ _))
  have HC := Lib.hid (show At6 27 W (w.heap.size + 1) nilV nilV zeroV zeroV zeroV nilV by
    rw [← hW]
    have e := (At6.new 27 (w.alloc (.cells #[.slice a n c, .slice a' n' c'] 25)) nilV nilV zeroV zeroV zeroV nilV).keep (below_new _ (.cells #[.slice a n c, .slice a' n' c', zeroV, zeroV, zeroV, nilV] 27))
    rwa [World.size_alloc] at e)
  obtain ⟨BL, hBL⟩ : ∃ B, w.heap.size + 1 + 1 = B := ⟨_, rfl⟩
  have HL := Lib.hid (show At6 27 W BL (.slice a n c) (.slice a' n' c') zeroV zeroV zeroV nilV by
    rw [← hW, ← hBL]
    have e := At6.new 27 ((w.alloc (.cells #[.slice a n c, .slice a' n' c'] 25)).alloc (.cells #[nilV, nilV, zeroV, zeroV, zeroV, nilV] 27)) (.slice a n c) (.slice a' n' c') zeroV zeroV zeroV nilV
    rwa [World.size_alloc, World.size_alloc] at e)
  have HBL := Lib.hid (show BL ≠ w.heap.size ∧ BL ≠ w.heap.size + 1 ∧ w.heap.size ≤ BL by omega)
  have hBr : w.heap.size ≤ w.heap.size + 1 := by omega
  have HW := Lib.hid hW
  clear hW h hn hn' hr
  go_enter Tryz.func13, Tryz.ntmps13
  go_upto_region 2 with fail
  rw [HW.out]
  clear hBL
  obtain ⟨a0, a1⟩ := HA.out.cells
  go_wp2_with fail
  refine (RG.out W HB.out).mono ?_
  rintro e w1 ⟨rfl, hb1⟩
  have HB1 := Lib.hid (Below.then HB.out hb1)
  have HA1 := Lib.hid (HA.out.keep hb1)
  have HC1 := Lib.hid (HC.out.keep hb1)
  have HL1 := Lib.hid (HL.out.keep hb1)
  clear hb1 a0 a1 RG
  obtain ⟨a0, a1⟩ := HA1.out.cells
  cases r with
  | false =>
    have HO := Lib.hid (show openL d = (nilLed, 1) by rw [HD.out]; rfl)
    obtain ⟨f0, f1, f2, f3, f4, f5⟩ := HC1.out.free
    obtain ⟨c0, c1, c2, c3, c4, c5⟩ := HC1.out.cells
    go_wp2_with fail
    exact bodyPost_ret (results_led (p := 2) (q := 3) rfl _ _ (w.heap.size + 1) _ _ _ _ _ _ rfl (HC1.out.set _ _ _ _ _ _)) rfl ⟨_, by rw [HO.out]; rfl, by rw [HO.out]; exact nilLed_at _, set6_below HB1.out hBr _ _ _ _ _ _⟩
  | true =>
  have HRI := Lib.hid (HR.out.1 rfl)
  clear HR
  by_cases h0 : n' = 0
  rotate_left
  · have HO := Lib.hid (show openL d = (nilLed, 1) by
      obtain ⟨-, -, e0⟩ : True ∧ True ∧ d.dirty.isEmpty = false := ⟨trivial, trivial, by
        rw [List.isEmpty_eq_false_iff]
        intro e
        obtain ⟨sv, dv, e1, -, e3⟩ := HV.out.is
        simp only [Value.agg.injEq, Array.mk.injEq, List.cons.injEq, and_true] at e1
        obtain ⟨rfl, rfl⟩ := e1
        rw [e] at e3
        rcases e3 with ⟨-, e3 | ⟨x, y, e3, -⟩⟩ | ⟨b, o, cap, -, e3, -⟩
        · simp only [Value.slice.injEq] at e3; exact h0 e3.2.1
        · simp only [Value.slice.injEq] at e3; exact h0 e3.2.1
        · simp at e3⟩
      rw [HD.out, e0]; rfl)
    obtain ⟨f0, f1, f2, f3, f4, f5⟩ := HC1.out.free
    obtain ⟨c0, c1, c2, c3, c4, c5⟩ := HC1.out.cells
    have h0i : (0 : Int) < (n' : Int) := by omega
    go_wp2_with fail
    exact bodyPost_ret (results_led (p := 2) (q := 3) rfl _ _ (w.heap.size + 1) _ _ _ _ _ _ rfl (HC1.out.set _ _ _ _ _ _)) rfl ⟨_, by rw [HO.out]; rfl, by rw [HO.out]; exact nilLed_at _, set6_below HB1.out hBr _ _ _ _ _ _⟩
  · subst h0
    have HD2 := Lib.hid (show openL d = openIn d by
      have e0 : d.dirty.isEmpty = true := by
        rw [List.isEmpty_iff]
        obtain ⟨sv, dv, e1, -, e3⟩ := HV.out.is
        simp only [Value.agg.injEq, Array.mk.injEq, List.cons.injEq, and_true] at e1
        obtain ⟨rfl, rfl⟩ := e1
        rcases e3 with ⟨e3, -⟩ | ⟨b, o, cap, e3, e4, -⟩
        · exact List.map_eq_nil_iff.1 e3
        · simp only [Value.slice.injEq] at e3; omega
      rw [HD.out, e0]; rfl)
    clear HD
    have G0 := GN.out 0 (by omega) HRI.out w1 HB1.out
    have G1 := fun w' (hb : Below w1.heap.size w1 w') => GN.out 1 (by omega) HRI.out w' (Below.then HB1.out hb)
    obtain ⟨x, hx⟩ : ∃ x, (toldL d 0).1 = x := ⟨_, rfl⟩
    obtain ⟨y, hy⟩ : ∃ x, (toldL d 1).1 = x := ⟨_, rfl⟩
    rw [hx] at G0
    rw [hy] at G1
    have hpz := pick_zero d
    have hx40 : x ≤ 1099511627776 := by rw [← hx]; exact (toldGo_le _ _).1
    have hy40 : y ≤ 1099511627776 := by rw [← hy]; exact (toldGo_le _ _).1
    rw [hx, hy] at hpz
    have hpk : pickL d = if x < y then 1 else 0 := by unfold pickL; rw [hx, hy]
    have HXY := Lib.hid (And.intro hx hy)
    have HPZ := Lib.hid hpz
    have HPK := Lib.hid hpk
    have G0 := Lib.hid G0
    have G1 := Lib.hid G1
    clear hx hy hpz hpk GN
    go_wp2_with fail
    refine G0.out.mono ?_
    rintro e w2 ⟨rfl, hb2⟩
    have HB2 := Lib.hid hb2
    clear hb2
    obtain ⟨a0, a1⟩ := (HA1.out.keep HB2.out).cells
    go_wp2_with fail
    refine (G1.out w2 HB2.out).mono ?_
    rintro e w3 ⟨rfl, hb3⟩
    have HB3 := Lib.hid (Below.then HB1.out (Below.then HB2.out hb3))
    have HA3 := Lib.hid (HA1.out.keep (Below.then HB2.out hb3))
    have HC3 := Lib.hid (HC1.out.keep (Below.then HB2.out hb3))
    have HL3 := Lib.hid (HL1.out.keep (Below.then HB2.out hb3))
    clear hb3 a0 a1 HA1 HC1 HL1 HA HC HL HB HB1 HB2 G0 G1 HW
    obtain ⟨c0, c1, c2, c3, c4, c5⟩ := HC3.out.cells
    obtain ⟨f0, f1, f2, f3, f4, f5⟩ := HC3.out.free
    by_cases hz : x = 0 ∧ y = 0
    · obtain ⟨rfl, rfl⟩ := hz
      have HO := Lib.hid (show openL d = (nilLed, 14) by rw [HD2.out]; exact openIn_no d (HPZ.out.2 ⟨rfl, rfl⟩))
      go_wp2_with fail
      exact bodyPost_ret (results_led (p := 2) (q := 3) rfl _ _ (w.heap.size + 1) _ _ _ _ _ _ rfl (HC3.out.set _ _ _ _ _ _)) rfl ⟨_, by rw [HO.out]; rfl, by rw [HO.out]; exact nilLed_at _, set6_below HB3.out hBr _ _ _ _ _ _⟩
    have hnz := Lib.hid (show ¬ (toldL d (pickL d)).1 = 0 from fun e => hz (HPZ.out.1 e))
    obtain ⟨b0, b1, b2, b3, b4, b5⟩ := HL3.out.cells
    obtain ⟨l0, l1, l2, l3, l4, l5⟩ := HL3.out.free
    clear c0 c1 c2 c3 c4 c5 f0 f1 f2 f3 f4 f5
    have hqs : (((x : Int) == 0) = true ∧ ((y : Int) == 0) = false ∧ x < y) ∨ (((x : Int) == 0) = false ∧ x < y) ∨ (((x : Int) == 0) = false ∧ ¬ x < y) := by
      by_cases e : x = 0
      · refine Or.inl ⟨by rw [e]; rfl, beq_eq_false_iff_ne.2 (by omega), by omega⟩
      · have q : ((x : Int) == 0) = false := beq_eq_false_iff_ne.2 (by omega)
        by_cases e2 : x < y
        · exact Or.inr (Or.inl ⟨q, e2⟩)
        · exact Or.inr (Or.inr ⟨q, e2⟩)
    clear hz
    rcases hqs with ⟨qx, qy, hxy⟩ | ⟨qx, hxy⟩ | ⟨qx, hxy⟩
    · have hpm : pickL d = 1 := by rw [HPK.out, if_pos hxy]
      go_upto_region 12 with fail
      obtain ⟨W4, hW4⟩ : ∃ W, ((w3.setCell ⟨BL, 3, none⟩ (natV x)).setCell ⟨BL, 3, none⟩ (natV y)).setCell ⟨BL, 2, none⟩ (.int .i64 1) = W := ⟨_, rfl⟩
      rw [hW4]
      have HL4 := Lib.hid (show At6 27 W4 BL (.slice a n c) (.slice a' 0 c') (natV 1) (natV y) zeroV nilV by rw [← hW4]; exact ((HL3.out.set_3 _).set_3 _).set_2 _)
      have HB4 := Lib.hid (show Below w.heap.size w W4 by rw [← hW4]; exact ((HB3.out.setCell (p := ⟨BL, 3, none⟩) HBL.out.2.2 _).setCell (p := ⟨BL, 3, none⟩) HBL.out.2.2 _).setCell (p := ⟨BL, 2, none⟩) HBL.out.2.2 _)
      have HA4 := Lib.hid (show At2 25 W4 w.heap.size (.slice a n c) (.slice a' 0 c') by
        rw [← hW4]
        unfold At2
        rw [Below.heap_setCell _ _ _ _ (Ne.symm HBL.out.1), Below.heap_setCell _ _ _ _ (Ne.symm HBL.out.1), Below.heap_setCell _ _ _ _ (Ne.symm HBL.out.1)]
        exact HA3.out)
      have HC4 := Lib.hid (show At6 27 W4 (w.heap.size + 1) nilV nilV zeroV zeroV zeroV nilV by
        rw [← hW4]
        unfold At6
        rw [Below.heap_setCell _ _ _ _ (Ne.symm HBL.out.2.1), Below.heap_setCell _ _ _ _ (Ne.symm HBL.out.2.1), Below.heap_setCell _ _ _ _ (Ne.symm HBL.out.2.1)]
        exact HC3.out)
      have hus := told_used (d := d) (n := 1) (by have := hnz.out; rw [hpm] at this; exact this)
      have U := US.out 1 (by omega) HRI.out W4 HB4.out
      rw [hus] at U
      obtain ⟨u, hu⟩ : ∃ u, (toldL d 1).2 = u := ⟨_, rfl⟩
      rw [hu] at U
      have hule : u ≤ roomN d := by rw [← hu]; exact (toldGo_le _ _).2
      have hrn := roomN_le HRI.out
      have RMm := fun w' (hb : Below w.heap.size w w') => RM.out 1 (by omega) HRI.out w' hb
      have hRz := room_size d 1 HRI.out (by omega)
      have hRe : (⟨(roomL d 1).toArray⟩ : ByteArray).data.toList = roomL d 1 := rfl
      obtain ⟨R, hRR⟩ : ∃ R : ByteArray, ⟨(roomL d 1).toArray⟩ = R := ⟨_, rfl⟩
      rw [hRR] at RMm hRz hRe
      have hxz : (R.extract 0 u).size ≤ 3968 := by simp; omega
      have hxe : (R.extract 0 u).data.toList = (roomL d 1).take u := by rw [Lib.extract_data, hRe]; simp
      have huR : u ≤ R.size := by omega
      obtain ⟨z, hzz⟩ : ∃ z, R.extract 0 u = z := ⟨_, rfl⟩
      rw [hzz] at hxz hxe
      have EN := Lib.hid (fun w' => refEntries_t z w' (by omega))
      have HZE := Lib.hid hxe
      have HPM := Lib.hid (show pickL d = 1 ∧ (toldL d 1).1 = y ∧ (toldL d 1).2 = u from ⟨hpm, HXY.out.2, hu⟩)
      have U := Lib.hid U
      have RMm := Lib.hid RMm
      clear hW4 hus hu hule hrn hRz hRe hRR hxz hxe b0 b1 b2 b3 b4 b5 l0 l1 l2 l3 l4 l5 a0 a1
      obtain ⟨b0, b1, b2, b3, b4, b5⟩ := HL4.out.cells
      obtain ⟨l0, l1, l2, l3, l4, l5⟩ := HL4.out.free
      obtain ⟨a0, a1⟩ := HA4.out.cells
      go_wp2_with fail
      refine U.out.mono ?_
      rintro e w5 ⟨rfl, hb5⟩
      have HL5 := Lib.hid (HL4.out.keep hb5)
      have HA5 := Lib.hid (HA4.out.keep hb5)
      have HC5 := Lib.hid (HC4.out.keep hb5)
      have HB5 := Lib.hid (Below.then HB4.out hb5)
      clear hb5 b0 b1 b2 b3 b4 b5 l0 l1 l2 l3 l4 l5 a0 a1 U
      obtain ⟨b0, b1, b2, b3, b4, b5⟩ := HL5.out.cells
      obtain ⟨l0, l1, l2, l3, l4, l5⟩ := HL5.out.free
      go_upto_region 13 with fail
      obtain ⟨W6, hW6⟩ : ∃ W, w5.setCell ⟨BL, 4, none⟩ (natV u) = W := ⟨_, rfl⟩
      have HL6 := Lib.hid (show At6 27 W6 BL (.slice a n c) (.slice a' 0 c') (natV 1) (natV y) (natV u) nilV by rw [← hW6]; exact HL5.out.set_4 _)
      have HB6 := Lib.hid (show Below w.heap.size w W6 by rw [← hW6]; exact HB5.out.setCell (p := ⟨BL, 4, none⟩) HBL.out.2.2 _)
      have HA6 := Lib.hid (show At2 25 W6 w.heap.size (.slice a n c) (.slice a' 0 c') by
        rw [← hW6]; unfold At2; rw [Below.heap_setCell _ _ _ _ (Ne.symm HBL.out.1)]; exact HA5.out)
      have HC6 := Lib.hid (show At6 27 W6 (w.heap.size + 1) nilV nilV zeroV zeroV zeroV nilV by
        rw [← hW6]; unfold At6; rw [Below.heap_setCell _ _ _ _ (Ne.symm HBL.out.2.1)]; exact HC5.out)
      rw [hW6]
      clear hW6 b0 b1 b2 b3 b4 b5 l0 l1 l2 l3 l4 l5
      obtain ⟨b0, b1, b2, b3, b4, b5⟩ := HL6.out.cells
      obtain ⟨a0, a1⟩ := HA6.out.cells
      have hbA := Below.refl W6.heap.size W6
      go_region_held3 (fun w' => w'.cell? ⟨w.heap.size, 0, none⟩ = some (.slice a n c) ∧ w'.cell? ⟨w.heap.size, 1, none⟩ = some (.slice a' 0 c') ∧ w'.cell? ⟨BL, 2, none⟩ = some (natV 1) ∧ w'.cell? ⟨BL, 4, none⟩ = some (natV u)) (exact ⟨a0, a1, b2, b4⟩)
        (first
        | (go_simp; go_at_call 25
           refine (RMm.out _ (by first | exact Below.then HB6.out hbA | exact Below.then HB6.out hbA.drew)).mono ?_
           rintro e wS ⟨rfl, hbS⟩
           have hbA : Below W6.heap.size W6 wS := by first | exact Below.then hbA hbS | exact Below.then hbA.drew hbS
           obtain ⟨a0, a1⟩ := (HA6.out.keep hbA).cells
           obtain ⟨b0, b1, b2, b3, b4, b5⟩ := (HL6.out.keep hbA).cells)
        | (go_simp; go_at_call 43
           refine (EN.out _).mono ?_
           rintro e wS ⟨ea, el, ec, eb, rfl, hEI, hbS⟩
           have hbA : Below W6.heap.size W6 wS := by first | exact Below.then hbA hbS | exact Below.then hbA.drew hbS
           obtain ⟨a0, a1⟩ := (HA6.out.keep hbA).cells
           obtain ⟨b0, b1, b2, b3, b4, b5⟩ := (HL6.out.keep hbA).cells))
      all_goals
        have HLS := Lib.hid (HL6.out.keep hbA)
        have HCS := Lib.hid (HC6.out.keep hbA)
        have HBS := Lib.hid (Below.then HB6.out hbA)
        clear hbA hbS a0 a1 b0 b1 b2 b3 b4 b5 EN RMm
        rcases hEI with ⟨rfl, es, hes, hrow⟩ | ⟨rfl, hno⟩
        rotate_left
        · have HO := Lib.hid (show openL d = (nilLed, 14) by rw [HD2.out, openIn_none d hnz.out (by rw [HPM.out.1, HPM.out.2.2, ← HZE.out]; exact hno)])
          obtain ⟨f0, f1, f2, f3, f4, f5⟩ := HCS.out.free
          obtain ⟨g0, g1, g2, g3, g4, g5⟩ := HCS.out.cells
          clear hno
          go_wp2_with fail
          exact bodyPost_ret (results_led (p := 2) (q := 3) rfl _ _ (w.heap.size + 1) _ _ _ _ _ _ rfl (HCS.out.set _ _ _ _ _ _)) rfl ⟨_, by rw [HO.out]; rfl, by rw [HO.out]; exact nilLed_at _, set6_below HBS.out hBr _ _ _ _ _ _⟩
        · have HO := Lib.hid (show openL d = (⟨d, (1 : Nat), (y : Nat), (u : Nat), es⟩, 0) by rw [HD2.out, openIn_some d (es := es) hnz.out (by rw [HPM.out.1, HPM.out.2.2, ← HZE.out]; exact hes), HPM.out.1, HPM.out.2.1, HPM.out.2.2])
          have HES := Lib.hid (entL_inv hes).2
          have HROW := Lib.hid hrow
          clear hes hrow
          obtain ⟨b0, b1, b2, b3, b4, b5⟩ := HLS.out.cells
          obtain ⟨l0, l1, l2, l3, l4, l5⟩ := HLS.out.free
          go_upto_region 17 with fail
          obtain ⟨W7, hW7⟩ : ∃ W, wS.setCell ⟨BL, 5, none⟩ (.slice ea el ec) = W := ⟨_, rfl⟩
          have HL7 := Lib.hid (show At6 27 W7 BL (.slice a n c) (.slice a' 0 c') (natV 1) (natV y) (natV u) (.slice ea el ec) by rw [← hW7]; exact HLS.out.set_5 _)
          have HB7 := Lib.hid (show Below w.heap.size w W7 by rw [← hW7]; exact HBS.out.setCell (p := ⟨BL, 5, none⟩) HBL.out.2.2 _)
          have HC7 := Lib.hid (show At6 27 W7 (w.heap.size + 1) nilV nilV zeroV zeroV zeroV nilV by
            rw [← hW7]; unfold At6; rw [Below.heap_setCell _ _ _ _ (Ne.symm HBL.out.2.1)]; exact HCS.out)
          have HR7 := Lib.hid (show StrRow W7 (.slice ea el ec) es by
            rw [← hW7]
            exact HROW.out.nst (HLS.out.noStr (noStr_slice _ _ _) (noStr_slice _ _ _) (noStr_int _ _) (noStr_int _ _) (noStr_int _ _) (noStr_slice _ _ _) 5 _))
          rw [hW7]
          clear hW7 b0 b1 b2 b3 b4 b5 l0 l1 l2 l3 l4 l5
          obtain ⟨b0, b1, b2, b3, b4, b5⟩ := HL7.out.cells
          obtain ⟨g0, g1, g2, g3, g4, g5⟩ := HC7.out.cells
          obtain ⟨f0, f1, f2, f3, f4, f5⟩ := HC7.out.free
          go_wp2_with fail
          exact bodyPost_ret (results_led (p := 2) (q := 3) rfl _ _ (w.heap.size + 1) _ _ _ _ _ _ rfl (HC7.out.set _ _ _ _ _ _)) rfl ⟨_, by rw [HO.out]; rfl, by
            rw [HO.out]
            have hb := set6_below HB7.out hBr (.slice a n c) (.slice a' 0 c') (natV 1) (natV y) (natV u) (.slice ea el ec)
            have hns := set6_nst HC7.out (noStr_slice _ _ _) (noStr_slice _ _ _) (noStr_int _ _) (noStr_int _ _) (noStr_int _ _) (noStr_slice _ _ _) (.slice a n c) (.slice a' 0 c') (natV 1) (natV y) (natV u) (.slice ea el ec)
            exact ⟨⟨_, _, _, rfl, HV.out.keep hb, (HR7.out.nst hns).at⟩, fun s hs => Nat.le_trans (HES.out s hs) (by unfold maxLen; decide), by simp only; omega, by simp only; omega, by have := (toldGo_le (roomN d) (secAt d (1 * hOf d))).2; have h2 := HPM.out.2.2; have h3 := roomN_le HRI.out; unfold toldL at h2; rw [h2] at this; simp only; omega⟩, set6_below HB7.out hBr _ _ _ _ _ _⟩
    · have hpm : pickL d = 1 := by rw [HPK.out, if_pos hxy]
      go_upto_region 12 with fail
      obtain ⟨W4, hW4⟩ : ∃ W, ((w3.setCell ⟨BL, 3, none⟩ (natV x)).setCell ⟨BL, 3, none⟩ (natV y)).setCell ⟨BL, 2, none⟩ (.int .i64 1) = W := ⟨_, rfl⟩
      rw [hW4]
      have HL4 := Lib.hid (show At6 27 W4 BL (.slice a n c) (.slice a' 0 c') (natV 1) (natV y) zeroV nilV by rw [← hW4]; exact ((HL3.out.set_3 _).set_3 _).set_2 _)
      have HB4 := Lib.hid (show Below w.heap.size w W4 by rw [← hW4]; exact ((HB3.out.setCell (p := ⟨BL, 3, none⟩) HBL.out.2.2 _).setCell (p := ⟨BL, 3, none⟩) HBL.out.2.2 _).setCell (p := ⟨BL, 2, none⟩) HBL.out.2.2 _)
      have HA4 := Lib.hid (show At2 25 W4 w.heap.size (.slice a n c) (.slice a' 0 c') by
        rw [← hW4]
        unfold At2
        rw [Below.heap_setCell _ _ _ _ (Ne.symm HBL.out.1), Below.heap_setCell _ _ _ _ (Ne.symm HBL.out.1), Below.heap_setCell _ _ _ _ (Ne.symm HBL.out.1)]
        exact HA3.out)
      have HC4 := Lib.hid (show At6 27 W4 (w.heap.size + 1) nilV nilV zeroV zeroV zeroV nilV by
        rw [← hW4]
        unfold At6
        rw [Below.heap_setCell _ _ _ _ (Ne.symm HBL.out.2.1), Below.heap_setCell _ _ _ _ (Ne.symm HBL.out.2.1), Below.heap_setCell _ _ _ _ (Ne.symm HBL.out.2.1)]
        exact HC3.out)
      have hus := told_used (d := d) (n := 1) (by have := hnz.out; rw [hpm] at this; exact this)
      have U := US.out 1 (by omega) HRI.out W4 HB4.out
      rw [hus] at U
      obtain ⟨u, hu⟩ : ∃ u, (toldL d 1).2 = u := ⟨_, rfl⟩
      rw [hu] at U
      have hule : u ≤ roomN d := by rw [← hu]; exact (toldGo_le _ _).2
      have hrn := roomN_le HRI.out
      have RMm := fun w' (hb : Below w.heap.size w w') => RM.out 1 (by omega) HRI.out w' hb
      have hRz := room_size d 1 HRI.out (by omega)
      have hRe : (⟨(roomL d 1).toArray⟩ : ByteArray).data.toList = roomL d 1 := rfl
      obtain ⟨R, hRR⟩ : ∃ R : ByteArray, ⟨(roomL d 1).toArray⟩ = R := ⟨_, rfl⟩
      rw [hRR] at RMm hRz hRe
      have hxz : (R.extract 0 u).size ≤ 3968 := by simp; omega
      have hxe : (R.extract 0 u).data.toList = (roomL d 1).take u := by rw [Lib.extract_data, hRe]; simp
      have huR : u ≤ R.size := by omega
      obtain ⟨z, hzz⟩ : ∃ z, R.extract 0 u = z := ⟨_, rfl⟩
      rw [hzz] at hxz hxe
      have EN := Lib.hid (fun w' => refEntries_t z w' (by omega))
      have HZE := Lib.hid hxe
      have HPM := Lib.hid (show pickL d = 1 ∧ (toldL d 1).1 = y ∧ (toldL d 1).2 = u from ⟨hpm, HXY.out.2, hu⟩)
      have U := Lib.hid U
      have RMm := Lib.hid RMm
      clear hW4 hus hu hule hrn hRz hRe hRR hxz hxe b0 b1 b2 b3 b4 b5 l0 l1 l2 l3 l4 l5 a0 a1
      obtain ⟨b0, b1, b2, b3, b4, b5⟩ := HL4.out.cells
      obtain ⟨l0, l1, l2, l3, l4, l5⟩ := HL4.out.free
      obtain ⟨a0, a1⟩ := HA4.out.cells
      go_wp2_with fail
      refine U.out.mono ?_
      rintro e w5 ⟨rfl, hb5⟩
      have HL5 := Lib.hid (HL4.out.keep hb5)
      have HA5 := Lib.hid (HA4.out.keep hb5)
      have HC5 := Lib.hid (HC4.out.keep hb5)
      have HB5 := Lib.hid (Below.then HB4.out hb5)
      clear hb5 b0 b1 b2 b3 b4 b5 l0 l1 l2 l3 l4 l5 a0 a1 U
      obtain ⟨b0, b1, b2, b3, b4, b5⟩ := HL5.out.cells
      obtain ⟨l0, l1, l2, l3, l4, l5⟩ := HL5.out.free
      go_upto_region 13 with fail
      obtain ⟨W6, hW6⟩ : ∃ W, w5.setCell ⟨BL, 4, none⟩ (natV u) = W := ⟨_, rfl⟩
      have HL6 := Lib.hid (show At6 27 W6 BL (.slice a n c) (.slice a' 0 c') (natV 1) (natV y) (natV u) nilV by rw [← hW6]; exact HL5.out.set_4 _)
      have HB6 := Lib.hid (show Below w.heap.size w W6 by rw [← hW6]; exact HB5.out.setCell (p := ⟨BL, 4, none⟩) HBL.out.2.2 _)
      have HA6 := Lib.hid (show At2 25 W6 w.heap.size (.slice a n c) (.slice a' 0 c') by
        rw [← hW6]; unfold At2; rw [Below.heap_setCell _ _ _ _ (Ne.symm HBL.out.1)]; exact HA5.out)
      have HC6 := Lib.hid (show At6 27 W6 (w.heap.size + 1) nilV nilV zeroV zeroV zeroV nilV by
        rw [← hW6]; unfold At6; rw [Below.heap_setCell _ _ _ _ (Ne.symm HBL.out.2.1)]; exact HC5.out)
      rw [hW6]
      clear hW6 b0 b1 b2 b3 b4 b5 l0 l1 l2 l3 l4 l5
      obtain ⟨b0, b1, b2, b3, b4, b5⟩ := HL6.out.cells
      obtain ⟨a0, a1⟩ := HA6.out.cells
      have hbA := Below.refl W6.heap.size W6
      go_region_held3 (fun w' => w'.cell? ⟨w.heap.size, 0, none⟩ = some (.slice a n c) ∧ w'.cell? ⟨w.heap.size, 1, none⟩ = some (.slice a' 0 c') ∧ w'.cell? ⟨BL, 2, none⟩ = some (natV 1) ∧ w'.cell? ⟨BL, 4, none⟩ = some (natV u)) (exact ⟨a0, a1, b2, b4⟩)
        (first
        | (go_simp; go_at_call 25
           refine (RMm.out _ (by first | exact Below.then HB6.out hbA | exact Below.then HB6.out hbA.drew)).mono ?_
           rintro e wS ⟨rfl, hbS⟩
           have hbA : Below W6.heap.size W6 wS := by first | exact Below.then hbA hbS | exact Below.then hbA.drew hbS
           obtain ⟨a0, a1⟩ := (HA6.out.keep hbA).cells
           obtain ⟨b0, b1, b2, b3, b4, b5⟩ := (HL6.out.keep hbA).cells)
        | (go_simp; go_at_call 43
           refine (EN.out _).mono ?_
           rintro e wS ⟨ea, el, ec, eb, rfl, hEI, hbS⟩
           have hbA : Below W6.heap.size W6 wS := by first | exact Below.then hbA hbS | exact Below.then hbA.drew hbS
           obtain ⟨a0, a1⟩ := (HA6.out.keep hbA).cells
           obtain ⟨b0, b1, b2, b3, b4, b5⟩ := (HL6.out.keep hbA).cells))
      all_goals
        have HLS := Lib.hid (HL6.out.keep hbA)
        have HCS := Lib.hid (HC6.out.keep hbA)
        have HBS := Lib.hid (Below.then HB6.out hbA)
        clear hbA hbS a0 a1 b0 b1 b2 b3 b4 b5 EN RMm
        rcases hEI with ⟨rfl, es, hes, hrow⟩ | ⟨rfl, hno⟩
        rotate_left
        · have HO := Lib.hid (show openL d = (nilLed, 14) by rw [HD2.out, openIn_none d hnz.out (by rw [HPM.out.1, HPM.out.2.2, ← HZE.out]; exact hno)])
          obtain ⟨f0, f1, f2, f3, f4, f5⟩ := HCS.out.free
          obtain ⟨g0, g1, g2, g3, g4, g5⟩ := HCS.out.cells
          clear hno
          go_wp2_with fail
          exact bodyPost_ret (results_led (p := 2) (q := 3) rfl _ _ (w.heap.size + 1) _ _ _ _ _ _ rfl (HCS.out.set _ _ _ _ _ _)) rfl ⟨_, by rw [HO.out]; rfl, by rw [HO.out]; exact nilLed_at _, set6_below HBS.out hBr _ _ _ _ _ _⟩
        · have HO := Lib.hid (show openL d = (⟨d, (1 : Nat), (y : Nat), (u : Nat), es⟩, 0) by rw [HD2.out, openIn_some d (es := es) hnz.out (by rw [HPM.out.1, HPM.out.2.2, ← HZE.out]; exact hes), HPM.out.1, HPM.out.2.1, HPM.out.2.2])
          have HES := Lib.hid (entL_inv hes).2
          have HROW := Lib.hid hrow
          clear hes hrow
          obtain ⟨b0, b1, b2, b3, b4, b5⟩ := HLS.out.cells
          obtain ⟨l0, l1, l2, l3, l4, l5⟩ := HLS.out.free
          go_upto_region 17 with fail
          obtain ⟨W7, hW7⟩ : ∃ W, wS.setCell ⟨BL, 5, none⟩ (.slice ea el ec) = W := ⟨_, rfl⟩
          have HL7 := Lib.hid (show At6 27 W7 BL (.slice a n c) (.slice a' 0 c') (natV 1) (natV y) (natV u) (.slice ea el ec) by rw [← hW7]; exact HLS.out.set_5 _)
          have HB7 := Lib.hid (show Below w.heap.size w W7 by rw [← hW7]; exact HBS.out.setCell (p := ⟨BL, 5, none⟩) HBL.out.2.2 _)
          have HC7 := Lib.hid (show At6 27 W7 (w.heap.size + 1) nilV nilV zeroV zeroV zeroV nilV by
            rw [← hW7]; unfold At6; rw [Below.heap_setCell _ _ _ _ (Ne.symm HBL.out.2.1)]; exact HCS.out)
          have HR7 := Lib.hid (show StrRow W7 (.slice ea el ec) es by
            rw [← hW7]
            exact HROW.out.nst (HLS.out.noStr (noStr_slice _ _ _) (noStr_slice _ _ _) (noStr_int _ _) (noStr_int _ _) (noStr_int _ _) (noStr_slice _ _ _) 5 _))
          rw [hW7]
          clear hW7 b0 b1 b2 b3 b4 b5 l0 l1 l2 l3 l4 l5
          obtain ⟨b0, b1, b2, b3, b4, b5⟩ := HL7.out.cells
          obtain ⟨g0, g1, g2, g3, g4, g5⟩ := HC7.out.cells
          obtain ⟨f0, f1, f2, f3, f4, f5⟩ := HC7.out.free
          go_wp2_with fail
          exact bodyPost_ret (results_led (p := 2) (q := 3) rfl _ _ (w.heap.size + 1) _ _ _ _ _ _ rfl (HC7.out.set _ _ _ _ _ _)) rfl ⟨_, by rw [HO.out]; rfl, by
            rw [HO.out]
            have hb := set6_below HB7.out hBr (.slice a n c) (.slice a' 0 c') (natV 1) (natV y) (natV u) (.slice ea el ec)
            have hns := set6_nst HC7.out (noStr_slice _ _ _) (noStr_slice _ _ _) (noStr_int _ _) (noStr_int _ _) (noStr_int _ _) (noStr_slice _ _ _) (.slice a n c) (.slice a' 0 c') (natV 1) (natV y) (natV u) (.slice ea el ec)
            exact ⟨⟨_, _, _, rfl, HV.out.keep hb, (HR7.out.nst hns).at⟩, fun s hs => Nat.le_trans (HES.out s hs) (by unfold maxLen; decide), by simp only; omega, by simp only; omega, by have := (toldGo_le (roomN d) (secAt d (1 * hOf d))).2; have h2 := HPM.out.2.2; have h3 := roomN_le HRI.out; unfold toldL at h2; rw [h2] at this; simp only; omega⟩, set6_below HB7.out hBr _ _ _ _ _ _⟩
    · have hpm : pickL d = 0 := by rw [HPK.out, if_neg hxy]
      go_upto_region 12 with fail
      obtain ⟨W4, hW4⟩ : ∃ W, w3.setCell ⟨BL, 3, none⟩ (natV x) = W := ⟨_, rfl⟩
      rw [hW4]
      have HL4 := Lib.hid (show At6 27 W4 BL (.slice a n c) (.slice a' 0 c') (natV 0) (natV x) zeroV nilV by rw [← hW4]; exact HL3.out.set_3 _)
      have HB4 := Lib.hid (show Below w.heap.size w W4 by rw [← hW4]; exact HB3.out.setCell (p := ⟨BL, 3, none⟩) HBL.out.2.2 _)
      have HA4 := Lib.hid (show At2 25 W4 w.heap.size (.slice a n c) (.slice a' 0 c') by
        rw [← hW4]
        unfold At2
        rw [Below.heap_setCell _ _ _ _ (Ne.symm HBL.out.1)]
        exact HA3.out)
      have HC4 := Lib.hid (show At6 27 W4 (w.heap.size + 1) nilV nilV zeroV zeroV zeroV nilV by
        rw [← hW4]
        unfold At6
        rw [Below.heap_setCell _ _ _ _ (Ne.symm HBL.out.2.1)]
        exact HC3.out)
      have hus := told_used (d := d) (n := 0) (by have := hnz.out; rw [hpm] at this; exact this)
      have U := US.out 0 (by omega) HRI.out W4 HB4.out
      rw [hus] at U
      obtain ⟨u, hu⟩ : ∃ u, (toldL d 0).2 = u := ⟨_, rfl⟩
      rw [hu] at U
      have hule : u ≤ roomN d := by rw [← hu]; exact (toldGo_le _ _).2
      have hrn := roomN_le HRI.out
      have RMm := fun w' (hb : Below w.heap.size w w') => RM.out 0 (by omega) HRI.out w' hb
      have hRz := room_size d 0 HRI.out (by omega)
      have hRe : (⟨(roomL d 0).toArray⟩ : ByteArray).data.toList = roomL d 0 := rfl
      obtain ⟨R, hRR⟩ : ∃ R : ByteArray, ⟨(roomL d 0).toArray⟩ = R := ⟨_, rfl⟩
      rw [hRR] at RMm hRz hRe
      have hxz : (R.extract 0 u).size ≤ 3968 := by simp; omega
      have hxe : (R.extract 0 u).data.toList = (roomL d 0).take u := by rw [Lib.extract_data, hRe]; simp
      have huR : u ≤ R.size := by omega
      obtain ⟨z, hzz⟩ : ∃ z, R.extract 0 u = z := ⟨_, rfl⟩
      rw [hzz] at hxz hxe
      have EN := Lib.hid (fun w' => refEntries_t z w' (by omega))
      have HZE := Lib.hid hxe
      have HPM := Lib.hid (show pickL d = 0 ∧ (toldL d 0).1 = x ∧ (toldL d 0).2 = u from ⟨hpm, HXY.out.1, hu⟩)
      have U := Lib.hid U
      have RMm := Lib.hid RMm
      clear hW4 hus hu hule hrn hRz hRe hRR hxz hxe b0 b1 b2 b3 b4 b5 l0 l1 l2 l3 l4 l5 a0 a1
      obtain ⟨b0, b1, b2, b3, b4, b5⟩ := HL4.out.cells
      obtain ⟨l0, l1, l2, l3, l4, l5⟩ := HL4.out.free
      obtain ⟨a0, a1⟩ := HA4.out.cells
      go_wp2_with fail
      refine U.out.mono ?_
      rintro e w5 ⟨rfl, hb5⟩
      have HL5 := Lib.hid (HL4.out.keep hb5)
      have HA5 := Lib.hid (HA4.out.keep hb5)
      have HC5 := Lib.hid (HC4.out.keep hb5)
      have HB5 := Lib.hid (Below.then HB4.out hb5)
      clear hb5 b0 b1 b2 b3 b4 b5 l0 l1 l2 l3 l4 l5 a0 a1 U
      obtain ⟨b0, b1, b2, b3, b4, b5⟩ := HL5.out.cells
      obtain ⟨l0, l1, l2, l3, l4, l5⟩ := HL5.out.free
      go_upto_region 13 with fail
      obtain ⟨W6, hW6⟩ : ∃ W, w5.setCell ⟨BL, 4, none⟩ (natV u) = W := ⟨_, rfl⟩
      have HL6 := Lib.hid (show At6 27 W6 BL (.slice a n c) (.slice a' 0 c') (natV 0) (natV x) (natV u) nilV by rw [← hW6]; exact HL5.out.set_4 _)
      have HB6 := Lib.hid (show Below w.heap.size w W6 by rw [← hW6]; exact HB5.out.setCell (p := ⟨BL, 4, none⟩) HBL.out.2.2 _)
      have HA6 := Lib.hid (show At2 25 W6 w.heap.size (.slice a n c) (.slice a' 0 c') by
        rw [← hW6]; unfold At2; rw [Below.heap_setCell _ _ _ _ (Ne.symm HBL.out.1)]; exact HA5.out)
      have HC6 := Lib.hid (show At6 27 W6 (w.heap.size + 1) nilV nilV zeroV zeroV zeroV nilV by
        rw [← hW6]; unfold At6; rw [Below.heap_setCell _ _ _ _ (Ne.symm HBL.out.2.1)]; exact HC5.out)
      rw [hW6]
      clear hW6 b0 b1 b2 b3 b4 b5 l0 l1 l2 l3 l4 l5
      obtain ⟨b0, b1, b2, b3, b4, b5⟩ := HL6.out.cells
      obtain ⟨a0, a1⟩ := HA6.out.cells
      have hbA := Below.refl W6.heap.size W6
      go_region_held3 (fun w' => w'.cell? ⟨w.heap.size, 0, none⟩ = some (.slice a n c) ∧ w'.cell? ⟨w.heap.size, 1, none⟩ = some (.slice a' 0 c') ∧ w'.cell? ⟨BL, 2, none⟩ = some (natV 0) ∧ w'.cell? ⟨BL, 4, none⟩ = some (natV u)) (exact ⟨a0, a1, b2, b4⟩)
        (first
        | (go_simp; go_at_call 25
           refine (RMm.out _ (by first | exact Below.then HB6.out hbA | exact Below.then HB6.out hbA.drew)).mono ?_
           rintro e wS ⟨rfl, hbS⟩
           have hbA : Below W6.heap.size W6 wS := by first | exact Below.then hbA hbS | exact Below.then hbA.drew hbS
           obtain ⟨a0, a1⟩ := (HA6.out.keep hbA).cells
           obtain ⟨b0, b1, b2, b3, b4, b5⟩ := (HL6.out.keep hbA).cells)
        | (go_simp; go_at_call 43
           refine (EN.out _).mono ?_
           rintro e wS ⟨ea, el, ec, eb, rfl, hEI, hbS⟩
           have hbA : Below W6.heap.size W6 wS := by first | exact Below.then hbA hbS | exact Below.then hbA.drew hbS
           obtain ⟨a0, a1⟩ := (HA6.out.keep hbA).cells
           obtain ⟨b0, b1, b2, b3, b4, b5⟩ := (HL6.out.keep hbA).cells))
      all_goals
        have HLS := Lib.hid (HL6.out.keep hbA)
        have HCS := Lib.hid (HC6.out.keep hbA)
        have HBS := Lib.hid (Below.then HB6.out hbA)
        clear hbA hbS a0 a1 b0 b1 b2 b3 b4 b5 EN RMm
        rcases hEI with ⟨rfl, es, hes, hrow⟩ | ⟨rfl, hno⟩
        rotate_left
        · have HO := Lib.hid (show openL d = (nilLed, 14) by rw [HD2.out, openIn_none d hnz.out (by rw [HPM.out.1, HPM.out.2.2, ← HZE.out]; exact hno)])
          obtain ⟨f0, f1, f2, f3, f4, f5⟩ := HCS.out.free
          obtain ⟨g0, g1, g2, g3, g4, g5⟩ := HCS.out.cells
          clear hno
          go_wp2_with fail
          exact bodyPost_ret (results_led (p := 2) (q := 3) rfl _ _ (w.heap.size + 1) _ _ _ _ _ _ rfl (HCS.out.set _ _ _ _ _ _)) rfl ⟨_, by rw [HO.out]; rfl, by rw [HO.out]; exact nilLed_at _, set6_below HBS.out hBr _ _ _ _ _ _⟩
        · have HO := Lib.hid (show openL d = (⟨d, (0 : Nat), (x : Nat), (u : Nat), es⟩, 0) by rw [HD2.out, openIn_some d (es := es) hnz.out (by rw [HPM.out.1, HPM.out.2.2, ← HZE.out]; exact hes), HPM.out.1, HPM.out.2.1, HPM.out.2.2])
          have HES := Lib.hid (entL_inv hes).2
          have HROW := Lib.hid hrow
          clear hes hrow
          obtain ⟨b0, b1, b2, b3, b4, b5⟩ := HLS.out.cells
          obtain ⟨l0, l1, l2, l3, l4, l5⟩ := HLS.out.free
          go_upto_region 17 with fail
          obtain ⟨W7, hW7⟩ : ∃ W, wS.setCell ⟨BL, 5, none⟩ (.slice ea el ec) = W := ⟨_, rfl⟩
          have HL7 := Lib.hid (show At6 27 W7 BL (.slice a n c) (.slice a' 0 c') (natV 0) (natV x) (natV u) (.slice ea el ec) by rw [← hW7]; exact HLS.out.set_5 _)
          have HB7 := Lib.hid (show Below w.heap.size w W7 by rw [← hW7]; exact HBS.out.setCell (p := ⟨BL, 5, none⟩) HBL.out.2.2 _)
          have HC7 := Lib.hid (show At6 27 W7 (w.heap.size + 1) nilV nilV zeroV zeroV zeroV nilV by
            rw [← hW7]; unfold At6; rw [Below.heap_setCell _ _ _ _ (Ne.symm HBL.out.2.1)]; exact HCS.out)
          have HR7 := Lib.hid (show StrRow W7 (.slice ea el ec) es by
            rw [← hW7]
            exact HROW.out.nst (HLS.out.noStr (noStr_slice _ _ _) (noStr_slice _ _ _) (noStr_int _ _) (noStr_int _ _) (noStr_int _ _) (noStr_slice _ _ _) 5 _))
          rw [hW7]
          clear hW7 b0 b1 b2 b3 b4 b5 l0 l1 l2 l3 l4 l5
          obtain ⟨b0, b1, b2, b3, b4, b5⟩ := HL7.out.cells
          obtain ⟨g0, g1, g2, g3, g4, g5⟩ := HC7.out.cells
          obtain ⟨f0, f1, f2, f3, f4, f5⟩ := HC7.out.free
          go_wp2_with fail
          exact bodyPost_ret (results_led (p := 2) (q := 3) rfl _ _ (w.heap.size + 1) _ _ _ _ _ _ rfl (HC7.out.set _ _ _ _ _ _)) rfl ⟨_, by rw [HO.out]; rfl, by
            rw [HO.out]
            have hb := set6_below HB7.out hBr (.slice a n c) (.slice a' 0 c') (natV 0) (natV x) (natV u) (.slice ea el ec)
            have hns := set6_nst HC7.out (noStr_slice _ _ _) (noStr_slice _ _ _) (noStr_int _ _) (noStr_int _ _) (noStr_int _ _) (noStr_slice _ _ _) (.slice a n c) (.slice a' 0 c') (natV 0) (natV x) (natV u) (.slice ea el ec)
            exact ⟨⟨_, _, _, rfl, HV.out.keep hb, (HR7.out.nst hns).at⟩, fun s hs => Nat.le_trans (HES.out s hs) (by unfold maxLen; decide), by simp only; omega, by simp only; omega, by have := (toldGo_le (roomN d) (secAt d (0 * hOf d))).2; have h2 := HPM.out.2.2; have h3 := roomN_le HRI.out; unfold toldL at h2; rw [h2] at this; simp only; omega⟩, set6_below HB7.out hBr _ _ _ _ _ _⟩
end Go.Proofs.YtkplpodljmlanaaGreatDoor
/-! The document's own Like of two ledgers, by a contract. Conditions: none. -/
namespace Go.Proofs.YtkplpodljmlanaaGreatDoor
open Go.RowKit Go.WideShapes

set_option maxRecDepth 100000 in
set_option maxHeartbeats 4000000 in
theorem refLLike_t (a b : Led) (va vb : Value) (w : World) (ha : LedAt w va a) (hb : LedAt w vb b) :
    Calls Tryz.prog 15 #[va, vb] w (LedLike a b w) := by
  obtain ⟨p1, c1, p2, c2, p3, c3, rfl, -, -, -⟩ := ha.shape
  obtain ⟨q1, k1, q2, k2, q3, k3, rfl, -, -, -⟩ := hb.shape
  have hpa := ha.parts
  have hpb := hb.parts
  have DL := fun w' (h : Below w.heap.size w w') => refLike_t a.disk b.disk _ _ w' (hpa.1.keep h) (hpb.1.keep h)
  have SM := fun w' (h : Below w.heap.size w w') => Same_strs _ _ a.ents b.ents w' (hpa.2.1.keep h) (hpb.2.1.keep h)
  have HEQ := Lib.hid (show a = b ↔ a.disk = b.disk ∧ a.half = b.half ∧ a.gen = b.gen ∧ a.used = b.used ∧ a.ents = b.ents from ⟨fun e => by rw [e]; exact ⟨rfl, rfl, rfl, rfl, rfl⟩, fun ⟨e1, e2, e3, e4, e5⟩ => by
    obtain ⟨d, x, y, z, t⟩ := a
    simp only at e1 e2 e3 e4 e5
    rw [e1, e2, e3, e4, e5]⟩)
  obtain ⟨n1, hn1⟩ : ∃ n, a.disk.secs.length = n := ⟨_, rfl⟩
  obtain ⟨n2, hn2⟩ : ∃ n, a.disk.dirty.length = n := ⟨_, rfl⟩
  obtain ⟨n3, hn3⟩ : ∃ n, a.ents.length = n := ⟨_, rfl⟩
  obtain ⟨m1, hm1⟩ : ∃ n, b.disk.secs.length = n := ⟨_, rfl⟩
  obtain ⟨m2, hm2⟩ : ∃ n, b.disk.dirty.length = n := ⟨_, rfl⟩
  obtain ⟨m3, hm3⟩ : ∃ n, b.ents.length = n := ⟨_, rfl⟩
  rw [hn1, hn2, hm1, hm2] at DL ⊢
  rw [hn3, hm3] at SM ⊢
  obtain ⟨ah, hah⟩ : ∃ x, a.half = x := ⟨_, rfl⟩
  obtain ⟨ag, hag⟩ : ∃ x, a.gen = x := ⟨_, rfl⟩
  obtain ⟨au, hau⟩ : ∃ x, a.used = x := ⟨_, rfl⟩
  obtain ⟨bh, hbh⟩ : ∃ x, b.half = x := ⟨_, rfl⟩
  obtain ⟨bg, hbg⟩ : ∃ x, b.gen = x := ⟨_, rfl⟩
  obtain ⟨bu, hbu⟩ : ∃ x, b.used = x := ⟨_, rfl⟩
  rw [hah, hag, hau, hbh, hbg, hbu] at HEQ ⊢
  obtain ⟨W, hW⟩ : ∃ W, (w.alloc (.cells #[.slice p1 n1 c1, .slice p2 n2 c2, .int .i64 ah, .int .i64 ag, .int .i64 au, .slice p3 n3 c3] 27)).alloc (.cells #[.slice q1 m1 k1, .slice q2 m2 k2, .int .i64 bh, .int .i64 bg, .int .i64 bu, .slice q3 m3 k3] 27) = W := ⟨_, rfl⟩
  have HB := Lib.hid (show Below w.heap.size w W by rw [← hW]; exact Below.then (below_new _ _) (below_new _ _))
  have HA := Lib.hid (show At6 27 W w.heap.size (.slice p1 n1 c1) (.slice p2 n2 c2) (.int .i64 ah) (.int .i64 ag) (.int .i64 au) (.slice p3 n3 c3) by rw [← hW]; exact (At6.new _ _ _ _ _ _ _ _).keep (below_new _ _))
  have HC := Lib.hid (show At6 27 W (w.heap.size + 1) (.slice q1 m1 k1) (.slice q2 m2 k2) (.int .i64 bh) (.int .i64 bg) (.int .i64 bu) (.slice q3 m3 k3) by
    rw [← hW]
    have e := At6.new 27 (w.alloc (.cells #[.slice p1 n1 c1, .slice p2 n2 c2, .int .i64 ah, .int .i64 ag, .int .i64 au, .slice p3 n3 c3] 27)) (.slice q1 m1 k1) (.slice q2 m2 k2) (.int .i64 bh) (.int .i64 bg) (.int .i64 bu) (.slice q3 m3 k3)
    rwa [World.size_alloc] at e)
  have HW := Lib.hid hW
  have DL := Lib.hid (DL W HB.out)
  have SM := Lib.hid SM
  clear hW ha hb hpa hpb hn1 hn2 hn3 hm1 hm2 hm3 hah hag hau hbh hbg hbu
  go_enter Tryz.func15, Tryz.ntmps15
  go_upto_region 1 with fail
  rw [HW.out]
  obtain ⟨a0, a1, a2, a3, a4, a5⟩ := HA.out.cells
  obtain ⟨b0, b1, b2, b3, b4, b5⟩ := HC.out.cells
  go_wp2_with fail
  refine DL.out.mono ?_
  rintro e w1 ⟨r, rfl, hr, hb1⟩
  have HRI := Lib.hid hr
  have HB1 := Lib.hid (Below.then HB.out hb1)
  have HA1 := Lib.hid (HA.out.keep hb1)
  have HC1 := Lib.hid (HC.out.keep hb1)
  have SM1 := Lib.hid (SM.out w1 (Below.then HB.out hb1))
  clear hr hb1 a0 a1 a2 a3 a4 a5 b0 b1 b2 b3 b4 b5 SM DL
  obtain ⟨a0, a1, a2, a3, a4, a5⟩ := HA1.out.cells
  obtain ⟨b0, b1, b2, b3, b4, b5⟩ := HC1.out.cells
  cases r with
  | false =>
    have HO := Lib.hid (LedLike.no (a := a) (b := b) (fun e => by have := HRI.out.2 (HEQ.out.1 e).1; cases this) HB1.out)
    go_wp2_with fail
    go_ret
    exact HO.out
  | true =>
  have HD := Lib.hid (HRI.out.1 rfl)
  by_cases e1 : ah = bh
  rotate_left
  · have q : (ah == bh) = false := beq_eq_false_iff_ne.2 e1
    have HO := Lib.hid (LedLike.no (a := a) (b := b) (fun e => e1 (HEQ.out.1 e).2.1) HB1.out)
    clear e1
    go_wp2_with fail
    go_ret
    exact HO.out
  subst e1
  by_cases e2 : ag = bg
  rotate_left
  · have q : (ag == bg) = false := beq_eq_false_iff_ne.2 e2
    have HO := Lib.hid (LedLike.no (a := a) (b := b) (fun e => e2 (HEQ.out.1 e).2.2.1) HB1.out)
    clear e2
    go_wp2_with fail
    go_ret
    exact HO.out
  subst e2
  by_cases e3 : au = bu
  rotate_left
  · have q : (au == bu) = false := beq_eq_false_iff_ne.2 e3
    have HO := Lib.hid (LedLike.no (a := a) (b := b) (fun e => e3 (HEQ.out.1 e).2.2.2.1) HB1.out)
    clear e3
    go_wp2_with fail
    go_ret
    exact HO.out
  subst e3
  go_wp2_with fail
  refine SM1.out.mono ?_
  rintro e w2 ⟨rfl, hb2⟩
  have HB2 := Lib.hid (Below.then HB1.out hb2)
  clear hb2
  by_cases e4 : a.ents = b.ents
  · have q : decide (a.ents = b.ents) = true := decide_eq_true e4
    have HO := Lib.hid (LedLike.yes (a := a) (b := b) (HEQ.out.2 ⟨HD.out, trivial, trivial, trivial, e4⟩) HB2.out)
    rw [q]
    clear e4 q
    go_wp2_with fail
    go_ret
    exact HO.out
  · have q : decide (a.ents = b.ents) = false := decide_eq_false e4
    have HO := Lib.hid (LedLike.no (a := a) (b := b) (fun e => e4 (HEQ.out.1 e).2.2.2.2) HB2.out)
    rw [q]
    clear e4 q
    go_wp2_with fail
    go_ret
    exact HO.out
end Go.Proofs.YtkplpodljmlanaaGreatDoor
/-! The laws' few of a disk, by a contract; a ledger that came in. Conditions: none. -/
namespace Go.Proofs.YtkplpodljmlanaaGreatDoor
open Go.RowKit Go.WideShapes

def fewL (d : Dsk) : Dsk := ⟨d.secs.take 66, d.dirty.take 3⟩
set_option maxRecDepth 100000 in
set_option maxHeartbeats 2000000 in
theorem lfew_t (v : Value) (d : Dsk) (w : World) (h : DskAt w v d) : Calls Tryz.prog 11 #[v] w fun e w' => ∃ v', e = .returned v' ∧ DskAt w' v' (fewL d) ∧ Below w.heap.size w w' := by
  obtain ⟨⟨sv, dv, rfl, h1, h2⟩, hz, hy⟩ := h
  obtain ⟨a, c, rfl, k1, k2⟩ := h1.shape2
  obtain ⟨a', c', rfl, k3, k4⟩ := h2.shape3
  rw [List.length_map] at h2 k3 ⊢
  obtain ⟨n, hn⟩ : ∃ r, d.secs.length = r := ⟨_, rfl⟩
  obtain ⟨n', hn'⟩ : ∃ r, d.dirty.length = r := ⟨_, rfl⟩
  rw [hn] at h1 k1 ⊢
  rw [hn'] at h2 k3 ⊢
  obtain ⟨k, hk⟩ : ∃ k, min n 66 = k := ⟨_, rfl⟩
  obtain ⟨k', hk'⟩ : ∃ k, min n' 3 = k := ⟨_, rfl⟩
  have hkn : k ≤ n ∧ k' ≤ n' := by omega
  have HT := Lib.hid (show ∀ w5, NS w w5 → DskAt w5 (.agg #[.slice a k c, .slice a' k' c']) (fewL d) from fun w5 hns =>
    ⟨⟨_, _, rfl, (h1.ns hns).take hn k hkn.1 _ (by show d.secs.take 66 = _; rcases Nat.le_total n 66 with e | e
                                                   · rw [List.take_of_length_le (by omega), List.take_of_length_le (by omega)]
                                                   · rw [show k = 66 by omega]),
      (WritesAt.ns h2 hns).take (by rw [List.length_map]; exact hn') k' hkn.2 _ (by
        show (d.dirty.take 3).map writeCell = _
        rw [← List.map_take]
        rcases Nat.le_total n' 3 with e | e
        · rw [List.take_of_length_le (by omega), List.take_of_length_le (by omega)]
        · rw [show k' = 3 by omega])⟩, fun s hs => hz s (List.mem_of_mem_take hs), fun l hl => hy l (List.mem_of_mem_take hl)⟩)
  have q1 : min (n : Int) 66 = (k : Int) := by omega
  have q2 : min (n' : Int) 3 = (k' : Int) := by omega
  have q3 : (k : Int) ≤ (c : Int) := by omega
  have q4 : (k' : Int) ≤ (c' : Int) := by omega
  unfold maxLen at k2 k4
  obtain ⟨W, hW⟩ : ∃ W, (w.alloc (.cells #[.slice a n c, .slice a' n' c'] 25)).alloc (.cells #[nilV, nilV] 25) = W := ⟨_, rfl⟩
  have hsz : W.heap.size = w.heap.size + 1 + 1 := by rw [← hW]; simp
  have HB := Lib.hid (show Below w.heap.size w W by rw [← hW]; exact Below.then (below_new _ _) (below_new _ _))
  have HA := Lib.hid (show At2 25 W w.heap.size (.slice a n c) (.slice a' n' c') by rw [← hW]; exact (At2.new _ _ _ _).keep (below_new _ _))
  have HC := Lib.hid (show At2 25 W (w.heap.size + 1) nilV nilV by
    rw [← hW]
    have e := At2.new 25 (w.alloc (.cells #[.slice a n c, .slice a' n' c'] 25)) nilV nilV
    rwa [World.size_alloc] at e)
  have HW := Lib.hid hW
  clear hW h1 h2 hn hn' hk hk' hz hy
  go_enter Tryz.func11, Tryz.ntmps11
  go_upto_region 1 with fail
  rw [HW.out]
  obtain ⟨a0, a1⟩ := HA.out.cells
  obtain ⟨f0, f1⟩ := HA.out.free
  go_region
  obtain ⟨W2, hW2⟩ : ∃ W2, ((W.setCell ⟨w.heap.size, 0, none⟩ (.slice a k c)).setCell ⟨w.heap.size, 1, none⟩ (.slice a' k' c')).drew = W2 := ⟨_, rfl⟩
  have hA2 : At2 25 W2 w.heap.size (.slice a k c) (.slice a' k' c') := by rw [← hW2]; exact HA.out.set _ _
  have hC2 : At2 25 W2 (w.heap.size + 1) nilV nilV := by
    rw [← hW2]
    exact At2.other HC.out (by omega) (.slice a k c) (.slice a' k' c')
  have HB2 := Lib.hid (show Below w.heap.size w W2 by rw [← hW2]; exact (set2_below HB.out (Nat.le_refl _) (.slice a k c) (.slice a' k' c')).drew)
  have HNS := Lib.hid (show NS W W2 by rw [← hW2]; exact set2_ns HA.out (isSl_mk _ _ _) (isSl_mk _ _ _) (.slice a k c) (.slice a' k' c'))
  rw [hW2]
  have HC2 := Lib.hid hC2
  clear hW2 a0 a1 f0 f1
  obtain ⟨a0, a1⟩ := hA2.cells
  obtain ⟨b0, b1⟩ := hC2.cells
  obtain ⟨f0, f1⟩ := hC2.free
  clear hA2 hC2
  go_wp2_with fail
  exact bodyPost_ret (results_cell_row (p := 2) rfl _ _ (w.heap.size + 1) 25 _ (0, 0) _ rfl (HC2.out.set _ _) Tryz.underlying25 rfl infoDsk) rfl ⟨_, rfl, HT.out _ ((Below.ns HB.out).then (HNS.out.then (set2_ns HC2.out isSl_nil isSl_nil _ _))), set2_below HB2.out (by omega) _ _⟩
end Go.Proofs.YtkplpodljmlanaaGreatDoor
/-! A ledger that came in reads as one. Conditions: none. -/
namespace Go.Proofs.YtkplpodljmlanaaGreatDoor
open Go.ChangeShapes Go.WideShapes Go.RowKit Go.Deep

theorem cellsLed : Tryz.prog.cellsOf 27 = 6 := by kernel_rfl
theorem cellsIntL : Tryz.prog.cellsOf 3 = 1 := by kernel_rfl
theorem cellsStrsL : Tryz.prog.cellsOf 22 = 1 := by kernel_rfl
set_option maxRecDepth 100000 in
/-- A ledger that came in. -/
theorem open_led {H : Type} {enc : TypeId × Value → H} {W : World} {b0 : Nat} {v : Value} {d : DataW H} {p : List MemPlace}
    (hval : Value.okWide Tryz.prog W .any b0 27 v) (hj : DataW.Trod enc Tryz.prog W 0 (fun _ => true) true 27 v d p) : ∃ l, LedAt W v l := by
  obtain ⟨cs, rfl, hsz⟩ := okWide_struct Tryz.underlying27 hval
  rw [cellsLed] at hsz
  obtain ⟨fuel, hf⟩ := hj
  obtain ⟨l⟩ := cs
  have hsz2 : l.length = 6 := hsz
  match l, hsz2 with
  | [c0, c1, c2, c3, c4, c5], _ =>
    cases fuel with
    | zero => simp [DataW.trod] at hf
    | succ fuel =>
      simp only [DataW.trod, Tryz.underlying27, cellsLed] at hf
      split at hf
      · obtain ⟨xs, hm, -⟩ := Option.map_eq_some_iff.1 hf
        obtain ⟨y0, -, h0⟩ := Lib.mapM_at hm 0 _ rfl
        obtain ⟨y1, -, h1⟩ := Lib.mapM_at hm 1 _ rfl
        obtain ⟨y2, -, h2⟩ := Lib.mapM_at hm 2 _ rfl
        obtain ⟨y3, -, h3⟩ := Lib.mapM_at hm 3 _ rfl
        obtain ⟨y4, -, h4⟩ := Lib.mapM_at hm 4 _ rfl
        simp only [dskCells, cellsIntL, cellsStrsL] at h0 h1 h2 h3 h4
        obtain ⟨n1, e1, -, w1⟩ := DataW.trod_int Tryz.underlying3 h1
        obtain ⟨n2, e2, -, w2⟩ := DataW.trod_int Tryz.underlying3 h2
        obtain ⟨n3, e3, -, w3⟩ := DataW.trod_int Tryz.underlying3 h3
        obtain rfl : c2 = .int .i64 n1 := List.head_eq_of_cons_eq e1
        obtain rfl : c3 = .int .i64 n2 := List.head_eq_of_cons_eq e2
        obtain rfl : c4 = .int .i64 n3 := List.head_eq_of_cons_eq e3
        have h0 : DataW.trod enc Tryz.prog W 0 (fun _ => true) true fuel 25 [c0, c1] = some y0 := h0
        have h4 : DataW.trod enc Tryz.prog W 0 (fun _ => true) true fuel 22 [c5] = some y4 := h4
        obtain ⟨f0, f1, hu, t0, t1, hone⟩ := dskFields
        obtain ⟨o0, k0⟩ := hone_of hone 0 f0 rfl
        obtain ⟨o1, k1⟩ := hone_of hone 1 f1 rfl
        obtain ⟨xs2, n, -, -, -, hxl, hg⟩ := DataW.trod_struct hu h0
        have g0 := hg 0 f0 rfl
        have g1 := hg 1 f1 rfl
        obtain ⟨z0, z1, rfl⟩ : ∃ y0 y1, xs2 = [y0, y1] := by
          match xs2, (show xs2.length = 2 from hxl) with
          | [a, b], _ => exact ⟨a, b, rfl⟩
        rw [o0, k0, t0] at g0
        rw [o1, k1, t1] at g1
        have g0 : DataW.trod enc Tryz.prog W 0 (fun _ => true) true n 22 [c0] = some z0 := g0
        have g1 : DataW.trod enc Tryz.prog W 0 (fun _ => true) true n 23 [c1] = some z1 := g1
        obtain ⟨ss, hss, zs⟩ := strs_read g0
        obtain ⟨ls, hls, zl⟩ := writes_read g1
        obtain ⟨es, hes, ze⟩ := strs_read h4
        exact ⟨⟨⟨ss, ls⟩, n1, n2, n3, es⟩, ⟨c0, c1, c5, rfl, ⟨⟨c0, c1, rfl, hss, hls⟩, zs, zl⟩, hes⟩, ze, bounds_i64 w1, bounds_i64 w2, bounds_i64 w3⟩
      · cases hf
end Go.Proofs.YtkplpodljmlanaaGreatDoor
