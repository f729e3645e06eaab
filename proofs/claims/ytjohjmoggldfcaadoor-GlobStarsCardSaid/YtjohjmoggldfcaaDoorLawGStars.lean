/-
  GlobStars returns true at every input: the walk. Conditions: none but sizes.
-/
import Derived.Test.YtjohjmoggldfcaaDoorGlobSome
import Derived.Test.YtjohjmoggldfcaaDoorGlobLaws2
import Derived.Lib.IndexBytes
import Derived.Lib.MinMax
import Derived.SliceStrings
namespace Go.Proofs.YtjohjmoggldfcaaDoor
open Go.RowKit

theorem contains_byte (l : List UInt8) (c : UInt8) : Lib.contains l [c] = l.contains c := by
  unfold Lib.contains
  rw [Lib.index_one, Lib.contains_iff_indexByte]
theorem append_listG (a b : ByteArray) : (a ++ b).data.toList = a.data.toList ++ b.data.toList := by simp
/-- The bytes that '[]byte(s)' laid. -/
theorem bytes_at (w : World) (s : ByteArray) (c : Nat) (fz : Nat × Nat) (i : Nat) (hi : i < s.size) : (w.drew.alloc (.cells (bytesRow s c) 5 fz)).cell? ⟨w.heap.size, i, none⟩ = some (.int .u8 (s[i].toNat : Int)) := by
  rw [cell_of_row _ w.heap.size i _ _ _ (heap_alloc_new w.drew _), ← getElem_listG s i hi]
  unfold bytesRow
  rw [Array.getElem?_append_left (by simpa using hi)]
  simp [hi]
set_option maxRecDepth 100000 in
set_option maxHeartbeats 8000000 in
theorem stars_walk (a b s : ByteArray) (w : World) (hM : SomeMax w) (ha : a.size ≤ maxLen) (hb : b.size ≤ maxLen) (hs : s.size ≤ maxLen) :
    Calls Tryd.prog 3 #[.string a, .string b, .string s] w fun e w' => e = .returned (.bool true) ∧ Below w.heap.size w w' := by
  unfold maxLen at hs ha hb
  have HM := Lib.hid hM
  clear hM
  go_enter Tryd.func3, Tryd.ntmps3
  go_wp2_with fail
  go_quiet (fail)
  have B0 := Lib.hid (below_drewN (Below.refl w.heap.size w) nq)
  generalize w.drewN nq = w0 at B0 ⊢
  obtain ⟨ax, hax⟩ : ∃ x, a.extract 0 (min (a.size : Int) 40).toNat = x := ⟨_, rfl⟩
  obtain ⟨bx, hbx⟩ : ∃ x, b.extract 0 (min (b.size : Int) 40).toNat = x := ⟨_, rfl⟩
  obtain ⟨sx, hsx⟩ : ∃ x, s.extract 0 (min (s.size : Int) 100).toNat = x := ⟨_, rfl⟩
  rw [hax, hbx, hsx]
  have has : ax.size ≤ 40 := by rw [← hax]; simp; omega
  have hbs : bx.size ≤ 40 := by rw [← hbx]; simp; omega
  have hss : sx.size ≤ 100 := by rw [← hsx]; simp; omega
  clear hax hbx hsx ha hb hs
  have A := Lib.hid (fun w1 (h : Below w.heap.size w w1) => alive_g w1 (HM.out.keep h))
  have M := Lib.hid (fun (p : ByteArray) w1 (hp : p.size ≤ maxLen) (h : Below w.heap.size w w1) => Match_g p sx w1 hp (by unfold maxLen; omega) (HM.out.keep h))
  have M0 := Lib.hid (M.out ⟨#[42, 42]⟩ w0 (by decide) B0.out)
  rw [show matchB ⟨#[42, 42]⟩ sx = true from match_stars _ (by rw [size_lenG]; omega)] at M0
  go_wp2_with fail
  refine M0.out.mono ?_
  rintro e w1 ⟨rfl, hb1⟩
  have B1 := Lib.hid (B0.out.trans (hb1.mono B0.out.size))
  clear hb1 M0 B0
  go_wp2_with fail
  refine (A.out w1 B1.out).mono ?_
  rintro e w2 ⟨rfl, hb2⟩
  have B2 := Lib.hid (B1.out.trans (hb2.mono B1.out.size))
  clear hb2 B1
  obtain ⟨y, hy⟩ : ∃ y, ax ++ bx = y := ⟨_, rfl⟩
  have hys : y.size ≤ 80 := by rw [← hy, ByteArray.size_append]; omega
  have hcv := run_bytes_of_string (P := Tryd.prog) w2 9 24 5 y Tryd.underlying9 Tryd.underlying24 Tryd.underlying5
  obtain ⟨cp, hcp⟩ : ∃ c, grownCap w2 y.size 0 5 = c := ⟨_, rfl⟩
  rw [hcp] at hcv
  have HBY := Lib.hid (fun i (hi : i < y.size) => bytes_at w2 y cp ((bytesRow y cp).size, (bytesRow y cp).size + 1) i hi)
  have B3 := Lib.hid (show Below w.heap.size w (w2.drew.alloc (.cells (bytesRow y cp) 5 ((bytesRow y cp).size, (bytesRow y cp).size + 1))) from B2.out.trans ((Below.mk rfl rfl rfl (Nat.le_refl _) (fun _ _ => rfl) : Below w2.heap.size w2 w2.drew).alloc (Nat.le_refl _) _ |>.mono B2.out.size))
  obtain ⟨wb, hwb⟩ : ∃ wb, w2.drew.alloc (.cells (bytesRow y cp) 5 ((bytesRow y cp).size, (bytesRow y cp).size + 1)) = wb := ⟨_, rfl⟩
  rw [hwb] at hcv HBY B3
  obtain ⟨bk, hbk⟩ : ∃ n, w2.heap.size = n := ⟨_, rfl⟩
  rw [hbk] at hcv HBY
  clear hcp hwb hbk B2
  go_wp2_with fail
  go_loopw [37] (fun i wr => ∃ k : Nat, k ≤ y.size ∧ i = .int .i64 k ∧ (∀ c ∈ y.data.toList.take k, plainC c = true) ∧ wr = wb) (fun i _ => y.size - (intOf i).toNat)
  case atStart => exact ⟨0, Nat.zero_le _, rfl, by simp, rfl⟩
  case round =>
    obtain ⟨k, hk, rfl, hall, rfl⟩ := hrel
    have HALL := Lib.hid hall
    clear hall hcv
    by_cases hlt : k < y.size
    · have hc := HBY.out k hlt
      have hx := Lib.hid (getElem_listG y k hlt)
      obtain ⟨u, hu⟩ : ∃ u, y[k] = u := ⟨_, rfl⟩
      rw [hu] at hc hx
      have h8 := u.toNat_lt
      clear hu
      by_cases h1 : u.toNat < 33
      · clear hx
        go_wp2_with fail
        go_ret
        exact ⟨rfl, B3.out⟩
      · by_cases h2 : 126 < u.toNat
        · clear hx
          go_wp2_with fail
          go_ret
          exact ⟨rfl, B3.out⟩
        · have I := Lib.hid (fun w1 => Tryd.strings_IndexByte ⟨#[42, 63, 123, 125]⟩ (u.toNat : Int) w1)
          have hut : ((u.toNat : Int)).toNat.toUInt8 = u := by rw [Int.toNat_natCast]; exact UInt8.ofNat_toNat
          have hix := Lib.contains_iff_indexByte [42, 63, 123, 125] u
          rw [hut, show (⟨#[42, 63, 123, 125]⟩ : ByteArray).data.toList = [42, 63, 123, 125] from rfl] at I
          obtain ⟨q, hq⟩ : ∃ q, Lib.indexByte [42, 63, 123, 125] u = q := ⟨_, rfl⟩
          rw [hq] at I hix
          have HU := Lib.hid (show q < 0 → plainC u = true from fun hq0 => by
            rw [decide_eq_false (by omega)] at hix
            simp only [List.contains_eq_mem, decide_eq_false_iff_not, List.mem_cons, List.not_mem_nil, or_false, not_or] at hix
            unfold plainC seenC
            rw [decide_eq_true (by omega)]
            simp [hix.1, hix.2.1, hix.2.2.1, hix.2.2.2])
          clear hut hix hq
          by_cases hq0 : 0 ≤ q
          · clear hx
            go_wp2_with fail
            refine (I.out _).mono ?_
            rintro e w4 ⟨rfl, rfl⟩
            go_wp2_with fail
            go_ret
            exact ⟨rfl, B3.out⟩
          · have HP := Lib.hid (HU.out (by omega))
            have HN := Lib.hid (show ∀ c ∈ y.data.toList.take (k + 1), plainC c = true from fun c hc => by
              rw [List.take_succ_eq_append_getElem (by rw [size_lenG]; exact hlt)] at hc
              rcases List.mem_append.1 hc with hc | hc
              · exact HALL.out c hc
              · rw [List.mem_singleton.1 hc, hx.out]; exact HP.out)
            clear hx HU
            go_wp2_with fail
            refine (I.out _).mono ?_
            rintro e w4 ⟨rfl, rfl⟩
            go_wp2_with fail
            go_roundw
            case rel => exact ⟨k + 1, by omega, by go_num, HN.out, trivial⟩
            case measure => simp [intOf]; omega
    · have hyl : y.data.toList = ax.data.toList ++ bx.data.toList := by rw [← hy, append_listG]
      have hpl := HALL.out
      rw [List.take_of_length_le (by rw [size_lenG]; omega), hyl] at hpl
      have hpa : ∀ c ∈ ax.data.toList, plainC c = true := fun c hc => hpl c (List.mem_append_left _ hc)
      have hpb : ∀ c ∈ bx.data.toList, plainC c = true := fun c hc => hpl c (List.mem_append_right _ hc)
      have e2 : matchB (ax ++ ⟨#[42, 42]⟩ ++ bx) sx = wantL ax.data.toList bx.data.toList sx.data.toList := by
        unfold matchB
        rw [append_listG, append_listG, List.append_assoc]
        exact match_deep ax.data.toList bx.data.toList sx.data.toList hpa hpb (by rw [size_lenG]; omega) (by rw [size_lenG]; omega) (by rw [size_lenG]; omega)
      have e1 : matchB (ax ++ ⟨#[42]⟩ ++ bx) sx = (wantL ax.data.toList bx.data.toList sx.data.toList && !(midL ax.data.toList bx.data.toList sx.data.toList).contains 47) := by
        unfold matchB
        rw [append_listG, append_listG, List.append_assoc]
        exact match_flat ax.data.toList bx.data.toList sx.data.toList hpa hpb (by rw [size_lenG]; omega) (by rw [size_lenG]; omega) (by rw [size_lenG]; omega)
      have M2 := Lib.hid (fun w1 (h : Below w.heap.size w w1) => M.out (ax ++ ⟨#[42, 42]⟩ ++ bx) w1 (by unfold maxLen; rw [ByteArray.size_append, ByteArray.size_append]; show ax.size + 2 + bx.size ≤ _; omega) h)
      have M1 := Lib.hid (fun w1 (h : Below w.heap.size w w1) => M.out (ax ++ ⟨#[42]⟩ ++ bx) w1 (by unfold maxLen; rw [ByteArray.size_append, ByteArray.size_append]; show ax.size + 1 + bx.size ≤ _; omega) h)
      rw [e2] at M2
      rw [e1] at M1
      obtain ⟨ye, hye⟩ : ∃ b, y.data.toList.isEmpty = b := ⟨_, rfl⟩
      have x2 : y.toList.isEmpty = ye := by rw [Lib.toList_data]; exact hye
      have x1 : (y.toList == []) = ye := by
        rw [Lib.toList_data, ← hye]
        cases y.data.toList <;> rfl
      obtain ⟨e0, he0⟩ : ∃ b, (sx.data.toList == y.data.toList) = b := ⟨_, rfl⟩
      have x3 : (sx.toList == y.toList) = e0 := by rw [Lib.toList_data, Lib.toList_data]; exact he0
      have MY := Lib.hid (show ye = false → ∀ w1, Below w.heap.size w w1 → Calls Tryd.prog 7 #[.string y, .string sx] w1 fun e w' => e = .returned (.bool e0) ∧ Below w1.heap.size w1 w' from fun hy0 w1 h => by
        have hm : matchB y sx = e0 := by
          unfold matchB
          rw [match_plain y.data.toList sx.data.toList (by intro e; rw [e] at hye; rw [← hye] at hy0; cases hy0) (by rw [hyl]; exact hpl) (by rw [size_lenG]; omega) (by rw [size_lenG]; omega)]
          exact he0
        rw [← hm]
        exact M.out y w1 (by unfold maxLen; omega) h)
      have HPX := Lib.hid (fun w1 => Tryd.strings_HasPrefix sx ax w1)
      have HSX := Lib.hid (fun w1 => Tryd.strings_HasSuffix sx bx w1 (by omega))
      have hw : wantL ax.data.toList bx.data.toList sx.data.toList = (decide (ax.size + bx.size ≤ sx.size) && Lib.hasPrefix sx.data.toList ax.data.toList && Lib.hasSuffix sx.data.toList bx.data.toList) := by
        unfold wantL Lib.hasPrefix Lib.hasSuffix
        rw [size_lenG, size_lenG, size_lenG]
      obtain ⟨p1, hp1⟩ : ∃ b, Lib.hasPrefix sx.data.toList ax.data.toList = b := ⟨_, rfl⟩
      obtain ⟨p2, hp2⟩ : ∃ b, Lib.hasSuffix sx.data.toList bx.data.toList = b := ⟨_, rfl⟩
      rw [hp1] at HPX hw
      rw [hp2] at HSX hw
      have HW0 := Lib.hid (show (decide (ax.size + bx.size ≤ sx.size) && p1 && p2) = false → wantL ax.data.toList bx.data.toList sx.data.toList = false from fun h => by rw [hw, h])
      have HW1 := Lib.hid (show ax.size + bx.size ≤ sx.size → p1 = true → p2 = true → wantL ax.data.toList bx.data.toList sx.data.toList = true from fun h h1 h2 => by rw [hw, h1, h2, decide_eq_true h]; rfl)
      obtain ⟨mx, hmx⟩ := HM.out
      have CT0 := Lib.hid (fun (t : ByteArray) w1 (ht : t.size ≤ 100) (h : Below w.heap.size w w1) => Tryd.strings_Contains t ⟨#[47]⟩ mx w1 (by omega) ((h.cell (World.block_lt_of_cell? _ _ hmx)).trans hmx))
      rw [show (⟨#[47]⟩ : ByteArray).data.toList = [47] from rfl] at CT0
      have C0 := B3
      clear B3 HBY M HALL hpl hpa hpb e2 e1 hye hyl he0 hw hp1 hp2 hmx HM A
      generalize wr = v0 at C0 ⊢
    -- GEN
      by_cases hlen : ax.size + bx.size ≤ sx.size
      · have hd : decide ((ax.size : Int) + (bx.size : Int) ≤ (sx.size : Int)) = true := decide_eq_true (by omega)
        have HL := Lib.hid hlen
        cases p1 with
        | false =>
          rw [HW0.out (by simp)] at M2
          rw [HW0.out (by simp), Bool.false_and] at M1
          go_wp2_with fail
          refine (HPX.out v0).mono ?_
          rintro e v0 ⟨rfl, rfl⟩
          cases ye with
          | true =>
            go_wp2_with fail
            refine (M2.out v0 C0.out).mono ?_
            rintro e v1 ⟨rfl, hb1⟩
            have C1 := Lib.hid (C0.out.trans (hb1.mono C0.out.size))
            clear hb1
            go_wp2_with fail
            refine (M1.out v1 C1.out).mono ?_
            rintro e v2 ⟨rfl, hb2⟩
            have C2 := Lib.hid (C1.out.trans (hb2.mono C1.out.size))
            clear hb2
            go_wp2_with fail
            go_ret
            exact ⟨rfl, C2.out⟩
          | false =>
            go_wp2_with fail
            refine (MY.out (by trivial) v0 C0.out).mono ?_
            rintro e v1 ⟨rfl, hb1⟩
            have C1 := Lib.hid (C0.out.trans (hb1.mono C0.out.size))
            clear hb1
            go_wp2_with fail
            refine (M2.out v1 C1.out).mono ?_
            rintro e v2 ⟨rfl, hb2⟩
            have C2 := Lib.hid (C1.out.trans (hb2.mono C1.out.size))
            clear hb2
            go_wp2_with fail
            refine (M1.out v2 C2.out).mono ?_
            rintro e v3 ⟨rfl, hb3⟩
            have C3 := Lib.hid (C2.out.trans (hb3.mono C2.out.size))
            clear hb3
            go_wp2_with fail
            go_ret
            exact ⟨rfl, C3.out⟩
        | true =>
          cases p2 with
          | false =>
            rw [HW0.out (by simp)] at M2
            rw [HW0.out (by simp), Bool.false_and] at M1
            go_wp2_with fail
            refine (HPX.out v0).mono ?_
            rintro e v0 ⟨rfl, rfl⟩
            go_wp2_with fail
            refine (HSX.out v0).mono ?_
            rintro e v0 ⟨rfl, rfl⟩
            cases ye with
            | true =>
              go_wp2_with fail
              refine (M2.out v0 C0.out).mono ?_
              rintro e v1 ⟨rfl, hb1⟩
              have C1 := Lib.hid (C0.out.trans (hb1.mono C0.out.size))
              clear hb1
              go_wp2_with fail
              refine (M1.out v1 C1.out).mono ?_
              rintro e v2 ⟨rfl, hb2⟩
              have C2 := Lib.hid (C1.out.trans (hb2.mono C1.out.size))
              clear hb2
              go_wp2_with fail
              go_ret
              exact ⟨rfl, C2.out⟩
            | false =>
              go_wp2_with fail
              refine (MY.out (by trivial) v0 C0.out).mono ?_
              rintro e v1 ⟨rfl, hb1⟩
              have C1 := Lib.hid (C0.out.trans (hb1.mono C0.out.size))
              clear hb1
              go_wp2_with fail
              refine (M2.out v1 C1.out).mono ?_
              rintro e v2 ⟨rfl, hb2⟩
              have C2 := Lib.hid (C1.out.trans (hb2.mono C1.out.size))
              clear hb2
              go_wp2_with fail
              refine (M1.out v2 C2.out).mono ?_
              rintro e v3 ⟨rfl, hb3⟩
              have C3 := Lib.hid (C2.out.trans (hb3.mono C2.out.size))
              clear hb3
              go_wp2_with fail
              go_ret
              exact ⟨rfl, C3.out⟩
          | true =>
            rw [HW1.out hlen rfl rfl] at M2
            rw [HW1.out hlen rfl rfl, Bool.true_and] at M1
            have hmin : min (ax.size : Int) (sx.size : Int) = (ax.size : Int) := by omega
            obtain ⟨k, hk⟩ : ∃ k, sx.size - bx.size = k := ⟨_, rfl⟩
            have hsub : (sx.size : Int) - (bx.size : Int) = (k : Int) := by omega
            have hmax : max (k : Int) (ax.size : Int) = (k : Int) := by omega
            have hak : ax.size ≤ k := by omega
            have hks : k ≤ sx.size := by omega
            have CT := Lib.hid (fun w1 (h : Below w.heap.size w w1) => CT0.out (sx.extract ax.size k) w1 (by rw [ByteArray.size_extract]; omega) h)
            have hmid : (sx.extract ax.size k).data.toList = midL ax.data.toList bx.data.toList sx.data.toList := by
              unfold midL
              rw [size_lenG, size_lenG, size_lenG, hk, show min ax.size sx.size = ax.size by omega, show max k ax.size = k by omega]
              simp [List.drop_take]
            rw [hmid, contains_byte] at CT
            obtain ⟨c7, hc7⟩ : ∃ c, (midL ax.data.toList bx.data.toList sx.data.toList).contains 47 = c := ⟨_, rfl⟩
            rw [hc7] at CT
            rw [hc7] at M1
            clear hk hmid hc7
            go_wp2_with fail
            refine (HPX.out v0).mono ?_
            rintro e v0 ⟨rfl, rfl⟩
            go_wp2_with fail
            refine (HSX.out v0).mono ?_
            rintro e v0 ⟨rfl, rfl⟩
            cases ye with
            | true =>
              go_wp2_with fail
              refine (M2.out v0 C0.out).mono ?_
              rintro e v1 ⟨rfl, hb1⟩
              have C1 := Lib.hid (C0.out.trans (hb1.mono C0.out.size))
              clear hb1
              go_wp2_with fail
              refine (M1.out v1 C1.out).mono ?_
              rintro e v2 ⟨rfl, hb2⟩
              have C2 := Lib.hid (C1.out.trans (hb2.mono C1.out.size))
              clear hb2
              go_wp2_with fail
              refine (CT.out v2 C2.out).mono ?_
              rintro e v2 ⟨rfl, rfl⟩
              go_wp2_with fail
              go_ret
              exact ⟨rfl, C2.out⟩
            | false =>
              go_wp2_with fail
              refine (MY.out (by trivial) v0 C0.out).mono ?_
              rintro e v1 ⟨rfl, hb1⟩
              have C1 := Lib.hid (C0.out.trans (hb1.mono C0.out.size))
              clear hb1
              go_wp2_with fail
              refine (M2.out v1 C1.out).mono ?_
              rintro e v2 ⟨rfl, hb2⟩
              have C2 := Lib.hid (C1.out.trans (hb2.mono C1.out.size))
              clear hb2
              go_wp2_with fail
              refine (M1.out v2 C2.out).mono ?_
              rintro e v3 ⟨rfl, hb3⟩
              have C3 := Lib.hid (C2.out.trans (hb3.mono C2.out.size))
              clear hb3
              go_wp2_with fail
              refine (CT.out v3 C3.out).mono ?_
              rintro e v3 ⟨rfl, rfl⟩
              go_wp2_with fail
              go_ret
              exact ⟨rfl, C3.out⟩
      · have hd : decide ((ax.size : Int) + (bx.size : Int) ≤ (sx.size : Int)) = false := decide_eq_false (by omega)
        rw [HW0.out (by simp [hlen])] at M2
        rw [HW0.out (by simp [hlen]), Bool.false_and] at M1
        have HL := Lib.hid hlen
        clear hlen
        cases ye with
        | true =>
          go_wp2_with fail
          refine (M2.out v0 C0.out).mono ?_
          rintro e v1 ⟨rfl, hb1⟩
          have C1 := Lib.hid (C0.out.trans (hb1.mono C0.out.size))
          clear hb1
          go_wp2_with fail
          refine (M1.out v1 C1.out).mono ?_
          rintro e v2 ⟨rfl, hb2⟩
          have C2 := Lib.hid (C1.out.trans (hb2.mono C1.out.size))
          clear hb2
          go_wp2_with fail
          go_ret
          exact ⟨rfl, C2.out⟩
        | false =>
          go_wp2_with fail
          refine (MY.out (by trivial) v0 C0.out).mono ?_
          rintro e v1 ⟨rfl, hb1⟩
          have C1 := Lib.hid (C0.out.trans (hb1.mono C0.out.size))
          clear hb1
          go_wp2_with fail
          refine (M2.out v1 C1.out).mono ?_
          rintro e v2 ⟨rfl, hb2⟩
          have C2 := Lib.hid (C1.out.trans (hb2.mono C1.out.size))
          clear hb2
          go_wp2_with fail
          refine (M1.out v2 C2.out).mono ?_
          rintro e v3 ⟨rfl, hb3⟩
          have C3 := Lib.hid (C2.out.trans (hb3.mono C2.out.size))
          clear hb3
          go_wp2_with fail
          go_ret
          exact ⟨rfl, C3.out⟩
end Go.Proofs.YtjohjmoggldfcaaDoor
