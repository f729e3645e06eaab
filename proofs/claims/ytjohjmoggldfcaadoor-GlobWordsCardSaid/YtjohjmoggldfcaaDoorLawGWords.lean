/-
  GlobWords returns true at every input: the walk. Conditions: none but sizes.
-/
import Derived.Test.YtjohjmoggldfcaaDoorGlobSome
import Derived.Test.YtjohjmoggldfcaaDoorGlobLaws2
import Derived.Lib.MinMax
import Derived.SliceStrings
import Derived.Deep.Strs
namespace Go.Proofs.YtjohjmoggldfcaaDoor
open Go.RowKit

theorem append_listG (a b : ByteArray) : (a ++ b).data.toList = a.data.toList ++ b.data.toList := by simp
/-- The bytes that '[]byte(s)' laid. -/
theorem bytes_at (w : World) (s : ByteArray) (c : Nat) (fz : Nat × Nat) (i : Nat) (hi : i < s.size) : (w.drew.alloc (.cells (bytesRow s c) 5 fz)).cell? ⟨w.heap.size, i, none⟩ = some (.int .u8 (s[i].toNat : Int)) := by
  rw [cell_of_row _ w.heap.size i _ _ _ (heap_alloc_new w.drew _), ← getElem_listG s i hi]
  unfold bytesRow
  rw [Array.getElem?_append_left (by simpa using hi)]
  simp [hi]

set_option maxRecDepth 100000 in
set_option maxHeartbeats 8000000 in
theorem words_walk (v : Value) (ss : List ByteArray) (s : ByteArray) (w : World) (hM : SomeMax w) (h : StrRow w v ss) (hsz : ∀ s ∈ ss, s.size ≤ maxLen) (hs : s.size ≤ maxLen) :
    Calls Tryd.prog 4 #[v, .string s] w fun e w' => e = .returned (.bool true) ∧ Below w.heap.size w w' := by
  have hl := h.len
  unfold maxLen at hl hs hsz
  have HM := Lib.hid hM
  have A := Lib.hid (fun w1 (h : Below w.heap.size w w1) => alive_g w1 (HM.out.keep h))
  obtain ⟨sx, hsx⟩ : ∃ x, s.extract 0 (min (s.size : Int) 60).toNat = x := ⟨_, rfl⟩
  have hss : sx.size ≤ 60 := by rw [← hsx]; simp; omega
  have M := Lib.hid (fun (p : ByteArray) w1 (hp : p.size ≤ 200) (h : Below w.heap.size w w1) => Match_g p sx w1 (by unfold maxLen; omega) (by unfold maxLen; omega) (HM.out.keep h))
  clear hM
  rcases h with ⟨rfl, rfl⟩ | ⟨b, o, cap, rfl, h2, h3, h4⟩
  · have m0 : min (0 : Int) 5 = 0 := by decide
    have J := Lib.hid (fun w1 => Tryd.strings_Join_none none 0 ⟨#[44]⟩ w1)
    have M1 := Lib.hid (fun w1 (h : Below w.heap.size w w1) => M.out ⟨#[123, 125]⟩ w1 (by decide) h)
    have e1 : matchB ⟨#[123, 125]⟩ sx = sx.data.toList.isEmpty := match_words [] sx.data.toList (by decide) (by simp) (by rw [size_lenG]; omega)
    obtain ⟨e0, he0⟩ : ∃ b, sx.data.toList.isEmpty = b := ⟨_, rfl⟩
    have x2 : sx.toList.isEmpty = e0 := by rw [Lib.toList_data]; exact he0
    have x1 : (sx.toList == []) = e0 := by
      rw [Lib.toList_data, ← he0]
      cases sx.data.toList <;> rfl
    rw [e1, he0] at M1
    clear e1 he0
    go_enter Tryd.func4, Tryd.ntmps4
    go_wp2_with fail
    refine wp_loop_rounds 1 ?_
    rw [rounds_succ]
    go_wp2_with fail
    refine (A.out _ (Below.refl w.heap.size w)).mono ?_
    rintro e w1 ⟨rfl, hb1⟩
    have B1 := Lib.hid (((Below.refl w.heap.size w)).trans (hb1.mono ((Below.refl w.heap.size w)).size))
    clear hb1
    go_wp2_with fail
    refine (J.out w1).mono ?_
    rintro e w2 ⟨rfl, hw2⟩
    subst hw2
    go_wp2_with fail
    refine (M1.out _ B1.out).mono ?_
    rintro e w3 ⟨rfl, hb3⟩
    have B3 := Lib.hid (B1.out.trans (hb3.mono B1.out.size))
    clear hb3
    go_wp2_with fail
    go_ret
    exact ⟨rfl, B3.out⟩
  · obtain ⟨m, hm⟩ : ∃ m, min ss.length 5 = m := ⟨_, rfl⟩
    have hm' : min ((ss.length : Nat) : Int) 5 = (m : Int) := by omega
    have hms : m ≤ ss.length := by omega
    have hm5 : m ≤ 5 := by omega
    have HLM := Lib.hid (show (ss.take m).length = m by simp; omega)
    have H4 := Lib.hid (show ∀ i (h : i < (ss.take m).length), w.cell? ⟨b, o + i, none⟩ = some (.string (ss.take m)[i]) from fun i hi => by
      rw [List.getElem_take]; exact h4 i (by rw [List.length_take] at hi; omega))
    have HZT := Lib.hid (show ∀ s ∈ ss.take m, s.size ≤ 2 ^ 63 - 1 from fun s hs => hsz s (List.mem_of_mem_take hs))
    clear h4 hsz hm
    unfold maxLen at h3
    go_enter Tryd.func4, Tryd.ntmps4
    go_wp2_with fail
    obtain ⟨T, hT⟩ : ∃ T, ss.take m = T := ⟨_, rfl⟩
    rw [hT] at HLM H4 HZT
    go_loopw [5, 22] (fun ov i wr => ∃ (k : Nat) (on : Bool), k ≤ m ∧ ov = .bool on ∧ i = .int .i64 k ∧ (∀ x ∈ T.take k, x.size ≤ 20 ∧ ∀ c ∈ x.data.toList, wordC c = true) ∧ ((T.take k).any fun x => sx.data.toList == x.data.toList) = on ∧ Below w.heap.size w wr) (fun _ i _ => m - (intOf i).toNat)
    case atStart => exact ⟨0, false, Nat.zero_le _, rfl, rfl, by simp, rfl, Below.refl _ _⟩
    case round =>
      obtain ⟨k, on, hk, rfl, rfl, hall, hon, hb⟩ := hrel
      have HALL := Lib.hid hall
      have HON := Lib.hid hon
      have HB := Lib.hid hb
      clear hall hon
      by_cases hlt : k < m
      · have hkl : k < T.length := by rw [HLM.out]; exact hlt
        have hc0 := H4.out k hkl
        have hc := (hb.cell (World.block_lt_of_cell? _ _ hc0)).trans hc0
        have HTK := Lib.hid (List.take_succ_eq_append_getElem hkl)
        obtain ⟨y, hy⟩ : ∃ y, T[k] = y := ⟨_, rfl⟩
        rw [hy] at hc HTK
        have hys : y.size ≤ 2 ^ 63 - 1 := by rw [← hy]; exact HZT.out T[k] (List.getElem_mem hkl)
        obtain ⟨wq, hwq⟩ : ∃ wq : World, wq = wr := ⟨_, rfl⟩
        rw [← hwq] at hc HB ⊢
        have hcv := run_bytes_of_string (P := Tryd.prog) wq 9 24 5 y Tryd.underlying9 Tryd.underlying24 Tryd.underlying5
        obtain ⟨cp, hcp⟩ : ∃ c, grownCap wq y.size 0 5 = c := ⟨_, rfl⟩
        rw [hcp] at hcv
        have HBY := Lib.hid (fun i (hi : i < y.size) => bytes_at wq y cp ((bytesRow y cp).size, (bytesRow y cp).size + 1) i hi)
        have BB := Lib.hid (show Below w.heap.size w (wq.drew.alloc (.cells (bytesRow y cp) 5 ((bytesRow y cp).size, (bytesRow y cp).size + 1))) from HB.out.trans ((Below.mk rfl rfl rfl (Nat.le_refl _) (fun _ _ => rfl) : Below wq.heap.size wq wq.drew).alloc (Nat.le_refl _) _ |>.mono HB.out.size))
        obtain ⟨wb, hwb⟩ : ∃ wb, wq.drew.alloc (.cells (bytesRow y cp) 5 ((bytesRow y cp).size, (bytesRow y cp).size + 1)) = wb := ⟨_, rfl⟩
        rw [hwb] at hcv HBY BB
        obtain ⟨bk, hbk⟩ : ∃ n, wq.heap.size = n := ⟨_, rfl⟩
        rw [hbk] at hcv HBY
        clear hwb hbk hwq hb hc0 hy hcp HB
        go_wp2_with fail
        go_loopw [29] (fun i wr => ∃ j : Nat, j ≤ y.size ∧ i = .int .i64 j ∧ (∀ c ∈ y.data.toList.take j, wordC c = true) ∧ wr = wb) (fun i _ => y.size - (intOf i).toNat)
        case atStart => exact ⟨0, Nat.zero_le _, rfl, by simp, rfl⟩
        case round =>
          obtain ⟨j, hj, rfl, hall, hwx⟩ := hrel
          subst hwx
          have HW := Lib.hid hall
          clear hall hcv hc
          by_cases hjt : j < y.size
          · have hc := HBY.out j hjt
            have hx := Lib.hid (getElem_listG y j hjt)
            obtain ⟨u, hu⟩ : ∃ u, y[j] = u := ⟨_, rfl⟩
            rw [hu] at hc hx
            have h8 := u.toNat_lt
            clear hu
            by_cases h1 : u.toNat < 33
            · clear hx
              go_wp2_with fail
              refine (A.out _ BB.out).mono ?_
              rintro e w5 ⟨rfl, hb5⟩
              have B5 := Lib.hid (BB.out.trans (hb5.mono BB.out.size))
              clear hb5
              go_wp2_with fail
              go_ret
              exact ⟨rfl, B5.out⟩
            · by_cases h2 : 126 < u.toNat
              · clear hx
                go_wp2_with fail
                refine (A.out _ BB.out).mono ?_
                rintro e w5 ⟨rfl, hb5⟩
                have B5 := Lib.hid (BB.out.trans (hb5.mono BB.out.size))
                clear hb5
                go_wp2_with fail
                go_ret
                exact ⟨rfl, B5.out⟩
              · have I := Lib.hid (fun w1 => Tryd.strings_IndexByte ⟨#[123, 125, 44]⟩ (u.toNat : Int) w1)
                have hut : ((u.toNat : Int)).toNat.toUInt8 = u := by rw [Int.toNat_natCast]; exact UInt8.ofNat_toNat
                have hix := Lib.contains_iff_indexByte [123, 125, 44] u
                rw [hut, show (⟨#[123, 125, 44]⟩ : ByteArray).data.toList = [123, 125, 44] from rfl] at I
                obtain ⟨q, hq⟩ : ∃ q, Lib.indexByte [123, 125, 44] u = q := ⟨_, rfl⟩
                rw [hq] at I hix
                have HU := Lib.hid (show q < 0 → wordC u = true from fun hq0 => by
                  rw [decide_eq_false (by omega)] at hix
                  simp only [List.contains_eq_mem, decide_eq_false_iff_not, List.mem_cons, List.not_mem_nil, or_false, not_or] at hix
                  unfold wordC seenC
                  rw [decide_eq_true (by omega)]
                  simp [hix.1, hix.2.1, hix.2.2])
                clear hut hix hq
                by_cases hq0 : 0 ≤ q
                · clear hx
                  go_wp2_with fail
                  refine (I.out _).mono ?_
                  rintro e w4 ⟨rfl, hw4⟩
                  subst hw4
                  go_wp2_with fail
                  refine (A.out _ BB.out).mono ?_
                  rintro e w5 ⟨rfl, hb5⟩
                  have B5 := Lib.hid (BB.out.trans (hb5.mono BB.out.size))
                  clear hb5
                  go_wp2_with fail
                  go_ret
                  exact ⟨rfl, B5.out⟩
                · have HP := Lib.hid (HU.out (by omega))
                  have HN := Lib.hid (show ∀ c ∈ y.data.toList.take (j + 1), wordC c = true from fun c hc => by
                    rw [List.take_succ_eq_append_getElem (by rw [size_lenG]; exact hjt)] at hc
                    rcases List.mem_append.1 hc with hc | hc
                    · exact HW.out c hc
                    · rw [List.mem_singleton.1 hc, hx.out]; exact HP.out)
                  clear hx HU
                  go_wp2_with fail
                  refine (I.out _).mono ?_
                  rintro e w4 ⟨rfl, hw4⟩
                  subst hw4
                  go_wp2_with fail
                  go_roundw
                  case rel => exact ⟨j + 1, by omega, by go_num, HN.out, trivial⟩
                  case measure => simp [intOf]; omega
          · have HY := Lib.hid (show ∀ c ∈ y.data.toList, wordC c = true from by
              have := HW.out
              rw [List.take_of_length_le (by rw [size_lenG]; omega)] at this
              exact this)
            by_cases h20 : 20 < y.size
            · clear HBY
              go_wp2_with fail
              refine (A.out _ BB.out).mono ?_
              rintro e w5 ⟨rfl, hb5⟩
              have B5 := Lib.hid (BB.out.trans (hb5.mono BB.out.size))
              clear hb5
              go_wp2_with fail
              go_ret
              exact ⟨rfl, B5.out⟩
            · have HNX := Lib.hid (show ∀ x ∈ T.take (k + 1), x.size ≤ 20 ∧ ∀ c ∈ x.data.toList, wordC c = true from fun x hx => by
                rw [HTK.out] at hx
                rcases List.mem_append.1 hx with hx | hx
                · exact HALL.out x hx
                · rw [List.mem_singleton.1 hx]; exact ⟨by omega, HY.out⟩)
              obtain ⟨e0, he0⟩ : ∃ b, (sx.data.toList == y.data.toList) = b := ⟨_, rfl⟩
              have x3 : (sx.toList == y.toList) = e0 := by rw [Lib.toList_data, Lib.toList_data]; exact he0
              have HNO := Lib.hid (show ((T.take (k + 1)).any fun x => sx.data.toList == x.data.toList) = (on || e0) from by
                rw [HTK.out, List.any_append, HON.out, ← he0]; simp)
              clear he0 HBY
              cases on with
              | true =>
                go_wp2_with fail
                go_roundw
                case rel => exact ⟨k + 1, true, by omega, rfl, by go_num, HNX.out, by rw [HNO.out]; rfl, BB.out⟩
                case measure => simp [intOf]; omega
              | false =>
                go_wp2_with fail
                go_roundw
                case rel => exact ⟨k + 1, e0, by omega, rfl, by go_num, HNX.out, by rw [HNO.out]; rfl, BB.out⟩
                case measure => simp [intOf]; omega
      · have hkm : k = m := by omega
        subst hkm
        have htt : T.take k = T := List.take_of_length_le (by rw [HLM.out]; omega)
        rw [htt] at HALL HON
        by_cases hk0 : k = 0
        · subst hk0
          have J := Lib.hid (fun w1 => Tryd.strings_Join_none (some ⟨b, o, none⟩) cap ⟨#[44]⟩ w1)
          have M1 := Lib.hid (fun w1 (h : Below w.heap.size w w1) => M.out ⟨#[123, 125]⟩ w1 (by decide) h)
          have e1 : matchB ⟨#[123, 125]⟩ sx = sx.data.toList.isEmpty := match_words [] sx.data.toList (by decide) (by simp) (by rw [size_lenG]; omega)
          obtain ⟨e0, he0⟩ : ∃ b, sx.data.toList.isEmpty = b := ⟨_, rfl⟩
          have x2 : sx.toList.isEmpty = e0 := by rw [Lib.toList_data]; exact he0
          have x1 : (sx.toList == []) = e0 := by
            rw [Lib.toList_data, ← he0]
            cases sx.data.toList <;> rfl
          rw [e1, he0] at M1
          clear e1 he0 hb htt HALL HON
          go_wp2_with fail
          refine (A.out _ HB.out).mono ?_
          rintro e w1 ⟨rfl, hb1⟩
          have B1 := Lib.hid ((HB.out).trans (hb1.mono (HB.out).size))
          clear hb1
          go_wp2_with fail
          refine (J.out w1).mono ?_
          rintro e w2 ⟨rfl, hw2⟩
          subst hw2
          go_wp2_with fail
          refine (M1.out _ B1.out).mono ?_
          rintro e w3 ⟨rfl, hb3⟩
          have B3 := Lib.hid (B1.out.trans (hb3.mono B1.out.size))
          clear hb3
          go_wp2_with fail
          go_ret
          exact ⟨rfl, B3.out⟩
        · have hcb := H4.out 0 (by rw [HLM.out]; omega)
          have hbs : b < w.heap.size := World.block_lt_of_cell? _ _ hcb
          obtain ⟨x0, r0, hxr⟩ : ∃ x r, T = x :: r := by
            cases T with
            | nil => have := HLM.out; simp at this; omega
            | cons x r => exact ⟨x, r, rfl⟩
          have hjl : (Lib.join (T.map (·.data.toList)) [44]).length ≤ 105 := by
            rw [hxr, List.map_cons]
            have h1 := join_len x0.data.toList (r0.map (·.data.toList)) (fun z hz => by
              rw [← List.map_cons (f := fun a : ByteArray => a.data.toList), ← hxr] at hz
              obtain ⟨t, ht, rfl⟩ := List.mem_map.1 hz
              rw [size_lenG]; exact (HALL.out t ht).1)
            have h2 := HLM.out
            rw [hxr, List.length_cons] at h2
            rw [List.length_map] at h1
            omega
          have J := Lib.hid (fun w1 (h : Below w.heap.size w w1) => Tryd.strings_Join b o cap T ⟨#[44]⟩ w1 (fun i x hx => by
            obtain ⟨hi, rfl⟩ := List.getElem?_eq_some_iff.1 hx
            exact (h.cell (World.block_lt_of_cell? _ _ (H4.out i hi))).trans (H4.out i hi)) (by have := h.size; omega) (by rw [HLM.out]; omega) (by rw [HLM.out]; omega) (by
              rw [show (⟨#[44]⟩ : ByteArray).data.toList = [44] from rfl]; omega))
          rw [HLM.out, show (⟨#[44]⟩ : ByteArray).data.toList = [44] from rfl] at J
          obtain ⟨jn, hjn⟩ : ∃ j : ByteArray, (⟨(Lib.join (T.map (·.data.toList)) [44]).toArray⟩ : ByteArray) = j := ⟨_, rfl⟩
          have hjd : jn.data.toList = Lib.join (T.map (·.data.toList)) [44] := by rw [← hjn]
          have hjs : jn.size ≤ 105 := by rw [← size_lenG, hjd]; exact hjl
          rw [hjn] at J
          have M1 := Lib.hid (fun w1 (h : Below w.heap.size w w1) => M.out (⟨#[123]⟩ ++ jn ++ ⟨#[125]⟩) w1 (by rw [ByteArray.size_append, ByteArray.size_append]; show 1 + jn.size + 1 ≤ _; omega) h)
          have e1 : matchB (⟨#[123]⟩ ++ jn ++ ⟨#[125]⟩) sx = on := by
            unfold matchB
            rw [append_listG, append_listG, hjd]
            have h := match_words (T.map (·.data.toList)) sx.data.toList (by rw [List.length_map, HLM.out]; omega) (fun z hz => by
              obtain ⟨t, ht, rfl⟩ := List.mem_map.1 hz
              exact ⟨by rw [size_lenG]; exact (HALL.out t ht).1, (HALL.out t ht).2⟩) (by rw [size_lenG]; omega)
            refine h.trans ?_
            unfold isWordL
            rw [if_neg (by rw [hxr]; simp), List.any_map]
            exact HON.out
          rw [e1] at M1
          have hk1 : ((k : Int) == 0) = false := beq_eq_false_iff_ne.2 (by omega)
          clear e1 hjd hjn hjl hxr hcb hbs hb htt HALL HON H4
          go_wp2_with fail
          refine (A.out _ HB.out).mono ?_
          rintro e w1 ⟨rfl, hb1⟩
          have B1 := Lib.hid (HB.out.trans (hb1.mono HB.out.size))
          clear hb1
          go_wp2_with fail
          refine (J.out _ B1.out).mono ?_
          rintro e w2 ⟨rfl, hb2⟩
          have B2 := Lib.hid (B1.out.trans (hb2.mono B1.out.size))
          clear hb2
          go_wp2_with fail
          refine (M1.out _ B2.out).mono ?_
          rintro e w3 ⟨rfl, hb3⟩
          have B3 := Lib.hid (B2.out.trans (hb3.mono B2.out.size))
          clear hb3
          go_wp2_with fail
          go_ret
          exact ⟨rfl, B3.out⟩
end Go.Proofs.YtjohjmoggldfcaaDoor
