/-
  The document's own Wide, Whole, Bind and Loose, by contracts. Conditions: at most 8 bytes in a number; the texts are not too long.
-/
import Derived.Test.YtibfpffoddhooaaDoorLoose
namespace Go.Proofs.YtibfpffoddhooaaDoor
open Go.RowKit

theorem numL_drop (s : ByteArray) (j : Nat) (h : j < s.size) : numL (s.data.toList.drop j) = s[j].toNat + 256 * numL (s.data.toList.drop (j + 1)) := by
  rw [List.drop_eq_getElem_cons (by simpa using h)]; rfl

set_option maxRecDepth 100000 in
set_option maxHeartbeats 1000000 in
theorem refWhole_any (s : ByteArray) (w : World) (hs : s.size ≤ 8) :
    Calls Tryd.prog 16 #[.string s] w fun e w' => e = .returned (.int .u64 (numL s.data.toList)) ∧ w = w' := by
  go_enter Tryd.func16, Tryd.ntmps16
  go_wp2_with fail
  go_loop [3, 4] (fun n i => ∃ k : Nat, k ≤ s.size ∧ i = .int .i64 ((k : Int) - 1) ∧ n = .int .u64 (numL (s.data.toList.drop k))) (fun _ i => (intOf i + 1).toNat)
  case atStart => exact ⟨s.size, Nat.le_refl _, rfl, by rw [List.drop_of_length_le (by simp)]; rfl⟩
  case round =>
    obtain ⟨k, hk, rfl, rfl⟩ := hrel
    match k, hk with
    | 0, hk =>
      have hall := Lib.hid (show s.data.toList.drop 0 = s.data.toList from List.drop_zero)
      rw [show ((0 : Nat) : Int) - 1 = -1 from rfl]
      go_wp2_with fail
      go_ret
      exact ⟨by rw [← hall.out]; rfl, rfl⟩
    | j + 1, hk =>
      have hd := Lib.hid (numL_drop s j (by omega))
      have hb : numL (s.data.toList.drop (j + 1)) < 72057594037927936 := by
        have := numL_lt (s.data.toList.drop (j + 1))
        refine Nat.lt_of_lt_of_le this ?_
        exact Nat.pow_le_pow_right (n := 256) (by decide) (show (s.data.toList.drop (j + 1)).length ≤ 7 by simp; omega)
      obtain ⟨m, hm⟩ : ∃ m, numL (s.data.toList.drop (j + 1)) = m := ⟨_, rfl⟩
      rw [hm] at hb hd
      rw [hm, show ((j + 1 : Nat) : Int) - 1 = (j : Int) from by omega]
      clear hm
      have hc := s[j].toNat_lt
      have hj : j < s.size := by omega
      go_wp2_with fail
      go_round
      case rel => exact ⟨j, by omega, by go_num, by rw [hd.out, Nat.add_comm]; go_num⟩
      case measure => simp [intOf]

theorem wide_at (n j : Nat) : n / 256 ^ j / 256 = n / 256 ^ (j + 1) := by
  rw [Nat.div_div_eq_div_mul, Nat.pow_succ]

set_option maxRecDepth 100000 in
set_option maxHeartbeats 1000000 in
theorem refWide_any (n k : Nat) (w : World) (hn : n < 18446744073709551616) (hk : k ≤ 8) :
    Calls Tryd.prog 17 #[.int .u64 n, .int .i64 k] w fun e w' => e = .returned (.string ⟨(wideL n k).toArray⟩) ∧ Below w.heap.size w w' := by
  obtain ⟨i0, hi, hz0, hz1, hz2⟩ := info_parts infoByte
  go_enter Tryd.func17, Tryd.ntmps17
  go_wp2_with fail
  go_loopw [0, 5, 6] (fun nv bv iv wr => ∃ (j m : Nat), j ≤ k ∧ n / 256 ^ j = m ∧ m < 18446744073709551616 ∧ nv = .int .u64 m ∧ iv = .int .i64 j ∧ (∃ g c, bv = .slice (some ⟨g, 0, none⟩) j c ∧ w.heap.size ≤ g) ∧ wr.ownsRow w.heap.size 5 1 bv j (Lib.byteCells (wideL n j)) ∧ Below w.heap.size w wr) (fun _ _ i _ => k - (intOf i).toNat)
  case atStart => exact ⟨0, n, Nat.zero_le _, by simp, hn, rfl, rfl, ⟨_, _, rfl, Nat.le_refl _⟩, World.ownsRow_lit w #[] 0 (Nat.le_refl _) (Nat.zero_le _) rfl, (Below.refl _ _).alloc (by omega) _⟩
  case round =>
    obtain ⟨j, m, hj, hm, hmb, rfl, rfl, ⟨g, c, rfl, hgB⟩, ho, hb⟩ := hrel
    have hbs := hb.size
    have HM := Lib.hid hm
    clear hm
    by_cases hlt : j < k
    · go_wp2_with (at_builtin; refine wpList_append_own _ rfl _ _ 57 rfl w.heap.size 5 i0 (.int .u8 0) 1 1 Tryd.underlying57 hi hz0 hz1 hz2 rfl (by decide) _ j (Lib.byteCells (wideL n j)) rfl (ho.alloc _) ⟨wr.heap.size, 0, none⟩ 1 1 [.int .u8 ((m : Int) % 256)] rfl rfl ?c1 ?c2 ?c3 ?c4 ?c5 ?_)
      case c1 =>
        intro i u hi'
        match i, hi' with
        | 0, hi' => simp at hi'; subst hi'; rw [addr0_add, World.cell?_alloc_at _ _ _ _ rfl]; rfl
        | i + 1, hi' => simp at hi'
      case c2 => intro u hu; simp at hu; subst hu; rfl
      case c3 => unfold maxLen; omega
      case c4 => omega
      case c5 => simp; omega
      intro v' w3 hown3 hgrow3 _
      have hbb3 : Below w.heap.size w w3 := (hb.alloc hbs _).grown hgrow3 (by simp; omega) (fun k hk => by cases hk; exact hgB)
      have hv' : ∃ g c, v' = .slice (some ⟨g, 0, none⟩) (j + 1) c ∧ w.heap.size ≤ g := by
        rcases hown3.2 with ⟨_, h0⟩ | ⟨g, c', cur, hv, _⟩
        · omega
        · exact ⟨_, _, hv, (hown3.lt g (by rw [hv]; rfl)).1⟩
      obtain ⟨g', c', rfl, hg'⟩ := hv'
      go_wp2_with fail
      go_roundw
      case rel =>
        refine ⟨j + 1, m / 256, by omega, by rw [← HM.out]; exact (wide_at n j).symm, by omega, by go_num, by go_num, ⟨_, _, rfl, hg'⟩, ?_, hbb3⟩
        rw [wideL_succ, Lib.byteCells_append, HM.out]
        have e : Lib.byteCells [UInt8.ofNat (m % 256)] = [.int .u8 ((m : Int) % 256)] := by
          show [Value.int .u8 (((UInt8.ofNat (m % 256)).toNat : Nat) : Int)] = _
          rw [UInt8.toNat_ofNat_of_lt' (by have := Nat.mod_lt m (show 0 < 256 by decide); simpa using this)]
          rfl
        rw [e]
        exact hown3
      case measure => simp [intOf]; omega
    · obtain rfl : j = k := by omega
      have hcv := run_convert_bytes_back (P := Tryd.prog) wr 57 9 5 ⟨g, 0, none⟩ c (wideL n j) Tryd.underlying57 Tryd.underlying5 Tryd.underlying9 (fun i hi => by
        rw [wideL_length] at hi
        have := ho.cellAt i (by omega)
        rw [addr0_add, this, List.getElem?_eq_getElem (by rw [Lib.byteCells_length, wideL_length]; exact hi)]
        simp [Lib.byteCells])
      rw [wideL_length] at hcv
      go_wp2_with fail
      go_ret
      exact ⟨rfl, hb⟩

set_option maxRecDepth 100000 in
set_option maxHeartbeats 2000000 in
theorem refBind_any (v : Value) (ss : List ByteArray) (w : World) (h : StrRow w v ss) (hl : ss.length ≤ 64) (hz : ∀ s ∈ ss, s.size ≤ 4096) :
    Calls Tryd.prog 24 #[v] w fun e w' => e = .returned (.string ⟨(bindL ss).toArray⟩) ∧ Below w.heap.size w w' := by
  rcases h with ⟨rfl, rfl⟩ | ⟨b, o, cap, rfl, h2, h3, h4⟩
  · go_enter Tryd.func24, Tryd.ntmps24
    go_wp2_with fail
    refine wp_loop_rounds 1 ?_
    rw [rounds_succ]
    go_wp2
    go_ret
    exact ⟨rfl, Below.refl _ _⟩
  · have H4 := Lib.hid h4
    have HZ := Lib.hid hz
    clear h4 hz
    unfold maxLen at h3
    go_enter Tryd.func24, Tryd.ntmps24
    go_wp2_with fail
    go_loopw [3, 8] (fun ov i wr => ∃ (k : Nat) (x : ByteArray), k ≤ ss.length ∧ x.size ≤ 4098 * k ∧ x = ⟨(bindL (ss.take k)).toArray⟩ ∧ i = .int .i64 k ∧ ov = .string x ∧ Below w.heap.size w wr) (fun _ i _ => ss.length - (intOf i).toNat)
    case atStart => exact ⟨0, ⟨#[]⟩, Nat.zero_le _, Nat.zero_le _, rfl, rfl, rfl, Below.refl _ _⟩
    case round =>
      obtain ⟨k, x, hk, hx, hxe, rfl, rfl, hb⟩ := hrel
      have HX := Lib.hid hxe
      clear hxe
      have hbs := hb.size
      by_cases hlt : k < ss.length
      · have hc0 := H4.out k hlt
        have hc := (hb.cell (World.block_lt_of_cell? _ _ hc0)).trans hc0
        have hzk := HZ.out ss[k] (List.getElem_mem hlt)
        have hts := Lib.hid (List.take_succ_eq_append_getElem hlt)
        obtain ⟨y, hy⟩ : ∃ y, ss[k] = y := ⟨_, rfl⟩
        rw [hy] at hc hzk hts
        clear hy hc0
        have D := Lib.hid (refWide_any y.size 2 wr (by omega) (by omega))
        obtain ⟨z, hzz⟩ : ∃ z : ByteArray, ⟨(wideL y.size 2).toArray⟩ = z := ⟨_, rfl⟩
        have z2 : z.size ≤ 2 := by rw [← hzz, wideL_size]; omega
        rw [hzz] at D
        have HZZ := Lib.hid hzz
        clear hzz
        go_wp2_with fail
        refine D.out.mono ?_
        rintro e w2 ⟨rfl, hb2⟩
        go_wp2_with fail
        go_roundw
        case rel =>
          refine ⟨k + 1, x ++ z ++ y, by omega, by rw [ByteArray.size_append, ByteArray.size_append]; omega, ?_, by go_num, rfl, hb.trans (hb2.mono hbs)⟩
          apply ByteArray.ext
          rw [ByteArray.data_append, ByteArray.data_append, HX.out, ← HZZ.out, hts.out, bindL_snoc]
          simp
        case measure => simp [intOf]; omega
      · have hd := Lib.hid (show x = ⟨(bindL ss).toArray⟩ by have := HX.out; rwa [List.take_of_length_le (by omega)] at this)
        go_wp2_with fail
        go_ret
        exact ⟨by rw [← hd.out]; rfl, hb⟩

set_option maxRecDepth 100000 in
set_option maxHeartbeats 2000000 in
theorem refLoose_any (s : ByteArray) (w : World) :
    Calls Tryd.prog 21 #[.string s] w (LooseOut s w) := by
  obtain ⟨i0, hi, hz0, hz1, hz2⟩ := info_parts infoStr
  go_enter Tryd.func21, Tryd.ntmps21
  go_wp2_with fail
  go_loopw [0, 4] (fun sv pv wr => ∃ (x : ByteArray) (acc : List ByteArray) (f n : Nat), x.size < f ∧ x.size ≤ s.size ∧ looseGo f x.data.toList acc = looseB s ∧ acc.length = n ∧ n ≤ 64 ∧ (∀ y ∈ acc, y.size ≤ 4096) ∧ sv = .string x ∧ (∃ g c, pv = .slice (some ⟨g, 0, none⟩) n c ∧ w.heap.size ≤ g) ∧ wr.ownsRow w.heap.size 9 1 pv n (strC acc) ∧ Below w.heap.size w wr) (fun sv _ _ => match sv with | .string x => x.size | _ => 0)
  case atStart => exact ⟨s, [], s.size + 1, 0, by omega, Nat.le_refl _, rfl, rfl, Nat.zero_le _, by simp, rfl, ⟨_, _, rfl, Nat.le_refl _⟩, World.ownsRow_lit w #[] 0 (Nat.le_refl _) (Nat.zero_le _) rfl, (Below.refl _ _).alloc (by omega) _⟩
  case round =>
    obtain ⟨x, acc, f, n, hf, hx, hgo, hal, hn, hall, rfl, ⟨g, c, rfl, hgB⟩, ho, hb⟩ := hrel
    have HG := Lib.hid hgo
    have HL := Lib.hid hal
    have HA := Lib.hid hall
    have hbs := hb.size
    have hxl := toList_size x
    clear hgo hal hall
    by_cases hx0 : x.size = 0
    · have hxe : x = ⟨#[]⟩ := by
        apply ByteArray.ext; exact Array.eq_empty_of_size_eq_zero hx0
      have hd := Lib.hid (show looseB s = .inl acc by have := HG.out; rw [hxe] at this; rw [← this]; exact looseGo_nil f acc)
      have hrow := Lib.hid (StrRow.of_own ho HL.out)
      subst hxe
      clear hxl hx0
      go_wp2_with fail
      go_ret2
      exact Or.inl ⟨acc, _, hd.out, HA.out, hrow.out, rfl, hb⟩
    · have p0 : 0 < x.size := by omega
      clear hx0
      obtain ⟨f, rfl⟩ : ∃ g, f = g + 1 := ⟨f - 1, by omega⟩
      by_cases h2 : x.size < 2
      · have hd := Lib.hid (show looseB s = .inr 3 by rw [← HG.out]; exact looseGo_short2 _ _ _ (by intro e; rw [e] at hxl; simp at hxl; omega) (by rw [hxl]; exact h2))
        clear hxl
        go_wp2_with fail
        go_ret2
        exact Or.inr ⟨3, hd.out, rfl, hb⟩
      · have e1 : (x.extract 0 2).data.toList = x.data.toList.take 2 := by rw [Lib.extract_data]; simp
        have e2 : (x.extract 2 x.size).data.toList = x.data.toList.drop 2 := extract_end x 2
        have z2 : (x.extract 2 x.size).size = x.size - 2 := by simp
        obtain ⟨N, hN⟩ : ∃ N, numL (x.data.toList.take 2) = N := ⟨_, rfl⟩
        have hN2 : N < 65536 := by rw [← hN]; exact numL_take2_lt _ (by rw [hxl]; omega)
        have W := Lib.hid (refWhole_any (x.extract 0 2) wr (by simp; omega))
        rw [e1, hN] at W
        have HN := Lib.hid hN
        have HXL := Lib.hid hxl
        obtain ⟨p, hp⟩ : ∃ p, x.extract 0 2 = p := ⟨_, rfl⟩
        obtain ⟨r, hr⟩ : ∃ r, x.extract 2 x.size = r := ⟨_, rfl⟩
        rw [hp] at W
        rw [hr] at e2 z2
        have HE2 := Lib.hid e2
        have rz1 : r.size ≤ x.size - 2 := by omega
        have rz2 : x.size - 2 ≤ r.size := by omega
        clear z2 e1 e2 hN hxl
        have hu : IntKind.i64.wrap (N : Int) = (N : Int) := by rw [IntKind.wrap_i64]; omega
        go_wp2_with fail
        refine W.out.mono ?_
        rintro e w1 ⟨rfl, rfl⟩
        by_cases hbig : 4096 < N
        · have hd := Lib.hid (show looseB s = .inr 2 by rw [← HG.out]; exact looseGo_long _ _ _ (by rw [HXL.out]; omega) (Or.inl (by rw [HN.out]; exact hbig)))
          go_wp2_with fail
          go_ret2
          exact Or.inr ⟨2, hd.out, rfl, hb⟩
        · by_cases hcnt : n = 64
          · have hd := Lib.hid (show looseB s = .inr 2 by rw [← HG.out]; exact looseGo_long _ _ _ (by rw [HXL.out]; omega) (Or.inr (by rw [HL.out]; omega)))
            subst hcnt
            go_wp2_with fail
            go_ret2
            exact Or.inr ⟨2, hd.out, rfl, hb⟩
          · have t64 : ((n : Int) == 64) = false := by rw [beq_eq_false_iff_ne]; omega
            have n64 : n < 64 := by omega
            clear hcnt
            by_cases hshort : r.size < N
            · have hd := Lib.hid (show looseB s = .inr 3 by rw [← HG.out]; exact looseGo_short _ _ _ (by rw [HXL.out]; omega) (by rw [HN.out, HL.out]; omega) (by rw [HXL.out, HN.out]; omega))
              go_wp2_with fail
              go_ret2
              exact Or.inr ⟨3, hd.out, rfl, hb⟩
            · have hgo2 := Lib.hid (HG.out.symm.trans (looseGo_more _ _ _ (by rw [HXL.out]; omega) (by rw [HN.out, HL.out]; omega) (by rw [HXL.out, HN.out]; omega)))
              rw [HN.out, ← HE2.out] at hgo2
              have hql : (r.extract 0 N).data.toList = r.data.toList.take N := by rw [Lib.extract_data]; simp
              have htl : (r.extract N r.size).data.toList = r.data.toList.drop N := extract_end r N
              have hqz : (r.extract 0 N).size ≤ 4096 := by simp; omega
              have htz : (r.extract N r.size).size ≤ r.size := by simp
              obtain ⟨q, hq⟩ : ∃ q, r.extract 0 N = q := ⟨_, rfl⟩
              obtain ⟨t, ht⟩ : ∃ t, r.extract N r.size = t := ⟨_, rfl⟩
              rw [hq] at hql hqz
              rw [ht] at htl htz
              rw [← htl, ← hql, show (⟨q.data.toList.toArray⟩ : ByteArray) = q from mk_toList q] at hgo2
              clear hql htl
              go_wp2_with (at_builtin; refine wpList_append_own _ rfl _ _ 36 rfl w.heap.size 9 i0 (.string ⟨#[]⟩) 1 16 Tryd.underlying36 hi hz0 hz1 hz2 rfl (by decide) _ n (strC acc) rfl (ho.alloc _) ⟨wr.heap.size, 0, none⟩ 1 1 [.string q] rfl rfl ?c1 ?c2 ?c3 ?c4 ?c5 ?_)
              case c1 =>
                intro i u hi'
                match i, hi' with
                | 0, hi' => simp at hi'; subst hi'; rw [addr0_add, World.cell?_alloc_at _ _ _ _ rfl]; rfl
                | i + 1, hi' => simp at hi'
              case c2 => intro u hu; simp at hu; subst hu; rfl
              case c3 => unfold maxLen; omega
              case c4 => omega
              case c5 => simp; omega
              intro v' w3 hown3 hgrow3 _
              have hbb3 : Below w.heap.size w w3 := (hb.alloc hbs _).grown hgrow3 (by simp; omega) (fun k hk => by cases hk; exact hgB)
              have hv' : ∃ g c, v' = .slice (some ⟨g, 0, none⟩) (n + 1) c ∧ w.heap.size ≤ g := by
                rcases hown3.2 with ⟨_, h0⟩ | ⟨g, c', cur, hv, _⟩
                · omega
                · exact ⟨_, _, hv, (hown3.lt g (by rw [hv]; rfl)).1⟩
              obtain ⟨g', c', rfl, hg'⟩ := hv'
              go_wp2_with fail
              go_roundw
              case rel =>
                refine ⟨t, acc ++ [q], f, n + 1, by omega, by omega, hgo2.out.symm, by simp [HL.out], by omega, ?_, rfl, ⟨_, _, rfl, hg'⟩, by simpa [strC] using hown3, hbb3⟩
                intro y hy
                rcases List.mem_append.1 hy with hy | hy
                · exact HA.out y hy
                · rw [List.mem_singleton.1 hy]; exact hqz
              case measure => simp; omega
end Go.Proofs.YtibfpffoddhooaaDoor
