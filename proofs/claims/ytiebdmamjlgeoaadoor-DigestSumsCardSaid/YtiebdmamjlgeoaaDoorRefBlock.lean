/-
  The document's own block, by a contract. Conditions: eight words and the 64 keys lie in their rows; the text has 64 bytes.
-/
import Derived.Test.YtiebdmamjlgeoaaDoorRefStep
import Derived.Test.YtiebdmamjlgeoaaDoorWide
import Derived.Deep.RegionLaw
import Derived.Deep.AppendLies
namespace Go.Proofs.YtiebdmamjlgeoaaDoor
open Go.RowKit

theorem grownBy_of_below' {w w' : World} (h : Below w.heap.size w w') : w.grownBy w' none := ⟨h.os, h.tape, h.output, h.size, fun k hk _ => h.block k hk⟩
/-- The words of a block. -/
structure SchedIs (l : List UInt8) (W : List Int) : Prop where
  mk ::
  out : sched l 48 = W
structure FinIs (s : St) (l : List UInt8) (t : St) : Prop where
  mk ::
  out : blockS s l = t
def SameW (a b : World) : Prop := a = b
theorem infoU32 : (Tryd.prog.info? 41).map (fun i => (i.zero, i.size, i.bytes)) = some (some (.int .u32 0), 1, 4) := by kernel_rfl
def wordC (l : List Int) : List Value := l.map (Value.int .u32)
theorem wordC_length (l : List Int) : (wordC l).length = l.length := by simp [wordC]
theorem wordC_append (l m : List Int) : wordC (l ++ m) = wordC l ++ wordC m := by simp [wordC]

/-- The first bytes of a word. -/
def part4 (l : List UInt8) (t : Nat) : Nat → Nat
  | 0 => 0
  | i + 1 => 256 * part4 l t i + (l.getD (4 * t + i) 0).toNat
theorem part4_lt (l : List UInt8) (t i : Nat) : part4 l t i < 256 ^ i := by
  induction i with
  | zero => simp [part4]
  | succ i ih =>
    have := (l.getD (4 * t + i) 0).toNat_lt
    unfold part4
    rw [Nat.pow_succ]
    omega
theorem part4_small (l : List UInt8) (t i : Nat) (h : i < 4) : part4 l t i < 16777216 := by
  have h1 := part4_lt l t i
  have h2 : 256 ^ i ≤ 256 ^ 3 := Nat.pow_le_pow_right (by decide) (by omega)
  have h3 : (256 : Nat) ^ 3 = 16777216 := rfl
  omega
theorem part4_word (l : List UInt8) (t : Nat) : ((part4 l t 4 : Nat) : Int) = word4 l t := by
  simp only [part4, word4, Nat.mul_comm 4 t, Nat.add_zero]
  omega
theorem byte_getD (t : ByteArray) (i : Nat) (h : i < t.size) : t.data.toList.getD i 0 = t[i] := by
  have h2 : i < t.data.toList.length := by simpa using h
  rw [List.getD_eq_getElem?_getD, List.getElem?_eq_getElem h2]
  rfl

theorem add_take (s t : St) (q : Nat) (h : q < 8) : (s.add t).toL.take (q + 1) = (s.add t).toL.take q ++ [(s.toL.getD q 0 + t.toL.getD q 0) % 4294967296] := by
  have h : q = 0 ∨ q = 1 ∨ q = 2 ∨ q = 3 ∨ q = 4 ∨ q = 5 ∨ q = 6 ∨ q = 7 := by omega
  rcases h with rfl | rfl | rfl | rfl | rfl | rfl | rfl | rfl <;> rfl

set_option maxRecDepth 100000 in
set_option maxHeartbeats 1000000 in
theorem block_any (s : St) (gh ch gk ck : Nat) (t : ByteArray) (w : World) (hs : s.Ok) (hr : RowU w gh s.toL) (hk : RowU w gk keysL) (hz : t.size = 64) :
    Calls Tryd.prog 24 #[.slice (some ⟨gh, 0, none⟩) 8 ch, .slice (some ⟨gk, 0, none⟩) 64 ck, .string t] w fun e w' => (∃ g c, e = .returned (.slice (some ⟨g, 0, none⟩) 8 c) ∧ RowU w' g (blockS s t.data.toList).toL ∧ w.heap.size ≤ g) ∧ Below w.heap.size w w' := by
  obtain ⟨i0, hi, hz0, hz1, hz2⟩ := info_parts infoU32
  have HR := Lib.hid hr
  have HK := Lib.hid hk
  have HS := Lib.hid hs
  clear hr hk hs
  go_enter Tryd.func24, Tryd.ntmps24
  go_wp2_with fail
  go_loopw [7, 8] (fun bv iv wr => ∃ j : Nat, j ≤ 16 ∧ iv = .int .i64 j ∧ (∃ g c, bv = .slice (some ⟨g, 0, none⟩) j c ∧ w.heap.size ≤ g) ∧ wr.ownsRow w.heap.size 41 1 bv j (wordC (words t.data.toList j)) ∧ Below w.heap.size w wr) (fun _ i _ => 16 - (intOf i).toNat)
  case atStart => exact ⟨0, Nat.zero_le _, rfl, ⟨_, _, rfl, Nat.le_refl _⟩, World.ownsRow_lit w #[] 0 (Nat.le_refl _) (Nat.zero_le _) rfl, (Below.refl _ _).alloc (by omega) _⟩
  case round =>
    obtain ⟨j, hj, rfl, ⟨g, c, rfl, hgB⟩, ho, hb⟩ := hrel
    have hbs := hb.size
    have HO := Lib.hid ho
    have HB := Lib.hid hb
    clear ho hb
    by_cases hlt : j < 16
    · obtain ⟨wo, rfl⟩ : ∃ wo : World, wo = wr := ⟨_, rfl⟩
      go_wp2_with fail
      rw [show decide ((j : Int) < 16) = true from decide_eq_true (by omega)]
      go_loopw [9, 10] (fun x i wi => ∃ n : Nat, n ≤ 4 ∧ i = .int .i64 n ∧ x = .int .u32 ((part4 t.data.toList j n : Nat) : Int) ∧ SameW wi wo) (fun _ i _ => 4 - (intOf i).toNat)
      case atStart => exact ⟨0, Nat.zero_le _, rfl, rfl, rfl⟩
      case round =>
        obtain ⟨n, hn, rfl, rfl, hsw⟩ := hrel
        unfold SameW at hsw
        subst hsw
        by_cases hlt4 : n < 4
        · have hi4 : 4 * j + n < t.size := by omega
          have hc := t[4 * j + n].toNat_lt
          have hx := part4_small t.data.toList j n hlt4
          have hs := Lib.hid (show part4 t.data.toList j (n + 1) = 256 * part4 t.data.toList j n + t[4 * j + n].toNat by rw [← byte_getD t _ hi4]; rfl)
          generalize part4 t.data.toList j n = x at hx hs
          go_wp2_with fail
          go_roundw
          case rel => exact ⟨n + 1, by omega, by go_num, by rw [hs.out]; go_num, rfl⟩
          case measure => simp [intOf]; omega
        · obtain rfl : n = 4 := by omega
          rw [part4_word]
          have HW := Lib.hid (words_succ t.data.toList j)
          have hu := word4_u32 t.data.toList j
          generalize word4 t.data.toList j = x at HW hu
          obtain ⟨hu0, hu1⟩ := hu
          go_wp2_with (at_builtin; refine wpList_append_own _ rfl _ _ 26 rfl w.heap.size 41 i0 (.int .u32 0) 1 4 Tryd.underlying26 hi hz0 hz1 hz2 rfl (by decide) _ j (wordC (words t.data.toList j)) rfl (HO.out.alloc _) ⟨wr.heap.size, 0, none⟩ 1 1 [.int .u32 x] rfl rfl ?c1 ?c2 ?c3 ?c4 ?c5 ?_)
          case c1 =>
            intro i u hi'
            match i, hi' with
            | 0, hi' => simp at hi'; subst hi'; rw [addr0_add, World.cell?_alloc_at _ _ _ _ rfl]; rfl
            | i + 1, hi' => simp at hi'
          case c2 => intro u hu; simp at hu; subst hu; rfl
          case c3 => unfold maxLen; omega
          case c4 => omega
          case c5 => simp; omega
          intro v' w3 hown3 hgrow3 _
          have hbb3 : Below w.heap.size w w3 := (HB.out.alloc hbs _).grown hgrow3 (by simp; omega) (fun k hk => by cases hk; exact hgB)
          have hv' : ∃ g c, v' = .slice (some ⟨g, 0, none⟩) (j + 1) c ∧ w.heap.size ≤ g := by
            rcases hown3.2 with ⟨_, h0⟩ | ⟨g, c', cur, hv, _⟩
            · omega
            · exact ⟨_, _, hv, (hown3.lt g (by rw [hv]; rfl)).1⟩
          obtain ⟨g', c', rfl, hg'⟩ := hv'
          have HO3 := Lib.hid (show w3.ownsRow w.heap.size 41 1 (.slice (some ⟨g', 0, none⟩) (j + 1) c') (j + 1) (wordC (words t.data.toList (j + 1))) by rw [HW.out, wordC_append]; exact hown3)
          have HB3 := Lib.hid hbb3
          clear hown3 hgrow3 hbb3 HO HB
          go_wp2_with fail
          go_roundw
          case rel => exact ⟨j + 1, by omega, by go_num, ⟨_, _, rfl, hg'⟩, HO3.out, HB3.out⟩
          case measure => simp [intOf]; omega
    · have j16 : 16 ≤ j := by omega
      have H16 := Lib.hid (show wr.ownsRow w.heap.size 41 1 (.slice (some ⟨g, 0, none⟩) 16 c) 16 (wordC (sched t.data.toList 0)) by
        obtain rfl : j = 16 := by omega
        exact HO.out)
      have j16' := Lib.hid (show j = 16 by omega)
      go_wp2_with fail
      go_loopw [7, 11] (fun bv iv wr => ∃ n : Nat, 16 ≤ n ∧ n ≤ 64 ∧ iv = .int .i64 n ∧ (∃ g c, bv = .slice (some ⟨g, 0, none⟩) n c ∧ w.heap.size ≤ g) ∧ wr.ownsRow w.heap.size 41 1 bv n (wordC (sched t.data.toList (n - 16))) ∧ Below w.heap.size w wr) (fun _ i _ => 64 - (intOf i).toNat)
      case atStart => exact ⟨16, Nat.le_refl _, by decide, rfl, ⟨g, c, by rw [j16'.out], hgB⟩, by rw [j16'.out]; exact H16.out, HB.out⟩
      case round =>
        clear H16 j16' HO HB hgB j16 hlt hbs
        obtain ⟨n, hn1, hn2, rfl, ⟨g, c, rfl, hgB⟩, ho, hb⟩ := hrel
        have hbs := hb.size
        by_cases hlt : n < 64
        · have hlen := sched_length t.data.toList (n - 16)
          have hcell : ∀ i, i < n → wr.cell? ⟨g, i, none⟩ = some (.int .u32 ((sched t.data.toList (n - 16)).getD i 0)) := fun i hi => by
            rw [ho.cellAt i (by omega)]
            have h2 : i < (sched t.data.toList (n - 16)).length := by omega
            simp [wordC, h2]
          have c0 := hcell (n - 15) (by omega)
          have c1 := hcell (n - 2) (by omega)
          have c2 := hcell (n - 7) (by omega)
          have c3 := hcell (n - 16) (by omega)
          have HCELL := Lib.hid hcell
          have U := sched_u32 t.data.toList (n - 16)
          have u0 := Lib.hid (getD_u32 U (n - 15))
          have u1 := Lib.hid (getD_u32 U (n - 2))
          have u2 := Lib.hid (getD_u32 U (n - 7))
          have u3 := Lib.hid (getD_u32 U (n - 16))
          have HN := Lib.hid (show nextW ((sched t.data.toList (n - 16)).getD (n - 15) 0) ((sched t.data.toList (n - 16)).getD (n - 2) 0) ((sched t.data.toList (n - 16)).getD (n - 7) 0) ((sched t.data.toList (n - 16)).getD (n - 16) 0) = next (sched t.data.toList (n - 16)) n from rfl)
          have HO := Lib.hid ho
          have HB := Lib.hid hb
          have hgl : g < wr.heap.size := (ho.lt g rfl).2
          clear hcell U ho hb HCELL
          generalize (sched t.data.toList (n - 16)).getD (n - 15) 0 = x0 at c0 u0 HN
          generalize (sched t.data.toList (n - 16)).getD (n - 2) 0 = x1 at c1 u1 HN
          generalize (sched t.data.toList (n - 16)).getD (n - 7) 0 = x2 at c2 u2 HN
          generalize (sched t.data.toList (n - 16)).getD (n - 16) 0 = x3 at c3 u3 HN
          obtain ⟨m0, m1⟩ := u0.out
          obtain ⟨m2, m3⟩ := u1.out
          go_wp2_with fail
          have C2 := Lib.hid c2
          have C3 := Lib.hid c3
          clear c0 c1 c2 c3
          refine (turn_any x0 7 _ u0.out (by decide) (by decide)).mono ?_
          rintro e w1 ⟨rfl, hb1⟩
          have B1 := Lib.hid hb1
          clear hb1
          go_wp2_with fail
          refine (turn_any x0 18 _ u0.out (by decide) (by decide)).mono ?_
          rintro e w2 ⟨rfl, hb2⟩
          have B2 := Lib.hid (B1.out.trans (hb2.mono B1.out.size))
          clear hb2 B1
          go_wp2_with fail
          refine (turn_any x1 17 _ u1.out (by decide) (by decide)).mono ?_
          rintro e w3 ⟨rfl, hb3⟩
          have B3 := Lib.hid (B2.out.trans (hb3.mono B2.out.size))
          clear hb3 B2
          go_wp2_with fail
          refine (turn_any x1 19 _ u1.out (by decide) (by decide)).mono ?_
          rintro e w4 ⟨rfl, hb4⟩
          have b4 := B3.out.trans (hb4.mono B3.out.size)
          have c2 : w4.cell? ⟨g, n - 7, none⟩ = some (.int .u32 x2) := by rw [World.cell?_of_block (b4.block g hgl)]; exact C2.out
          have c3 : w4.cell? ⟨g, n - 16, none⟩ = some (.int .u32 x3) := by rw [World.cell?_of_block (b4.block g hgl)]; exact C3.out
          have HO4 := Lib.hid (HO.out.kept (grownBy_of_below' b4) (Or.inr (by simp [Value.ownBlock]))) 
          have HB4 := Lib.hid (HB.out.trans (b4.mono hbs))
          have hbs4 : w.heap.size ≤ w4.heap.size := Nat.le_trans hbs b4.size
          clear hb4 b4 C2 C3 B3 HO HB
          go_wp2_with fail
          have HS0 := Lib.hid (show (sig x1 17 19 1024 + x2 + sig x0 7 18 8 + x3) % 4294967296 = next (sched t.data.toList (n - 16)) n from HN.out)
          unfold sig x32 at HS0
          generalize bits BinOp.xor IntKind.u32 (bits BinOp.xor IntKind.u32 (rotr x0 7) (rotr x0 18)) (x0 / 8) = s0 at HS0 ⊢
          generalize bits BinOp.xor IntKind.u32 (bits BinOp.xor IntKind.u32 (rotr x1 17) (rotr x1 19)) (x1 / 1024) = s1 at HS0 ⊢
          clear m0 m1 m2 m3 u0 u1 u2 u3
          obtain ⟨p1, e3⟩ : ∃ p, IntKind.u32.wrap (s1 + x2) = p := ⟨_, rfl⟩
          obtain ⟨p2, e4⟩ : ∃ p, IntKind.u32.wrap (p1 + s0) = p := ⟨_, rfl⟩
          obtain ⟨p3, e5⟩ : ∃ p, IntKind.u32.wrap (p2 + x3) = p := ⟨_, rfl⟩
          have HP := Lib.hid (show p3 = next (sched t.data.toList (n - 16)) n by
            rw [← HS0.out, ← e5, ← e4, ← e3]
            simp only [IntKind.wrap_u32]
            omega)
          have e1 : IntKind.i64.wrap ((n : Int) - 7) = ((n - 7 : Nat) : Int) := by rw [IntKind.wrap_i64]; omega
          have e2 : IntKind.i64.wrap ((n : Int) - 16) = ((n - 16 : Nat) : Int) := by rw [IntKind.wrap_i64]; omega
          have i1 : ((n - 7 : Nat) : Int) < (n : Int) := by omega
          have i2 : ((n - 16 : Nat) : Int) < (n : Int) := by omega
          have n64 : n + 1 ≤ 64 := hlt
          clear hlt
          go_region_law (first
            | (refine step_append_lies _ (by rfl) _ _ _ (by rfl) w.heap.size 41 i0 _ 1 4 Tryd.underlying26 hi hz0 hz1 hz2 rfl (by decide) _ n (wordC (sched t.data.toList (n - 16))) (by rfl) ((HO4.out.alloc _).drew) ⟨w4.heap.size, 0, none⟩ 1 1 [.int .u32 p3] (by rfl) (by rfl) (World.news_of_block (cs := #[.int .u32 p3]) (t := 41) (fr := (0, 0)) (heap_alloc_new w4 _)) (by simp [Value.oneCell']) (by decide) (by unfold maxLen; omega) (by omega) (by simp; omega) (w4.heap.size + 1) (by simp) ?_; intro g3 c3 w5 hown3 hgrow3 hat3 hlt3)
            | go_simp)
          all_goals
            have hb5 := Lib.hid (show Below w.heap.size w w5 from ((HB4.out.alloc hbs4 _).drew).grown hgrow3 (by simp; omega) (fun k hk => by cases hk; exact hgB))
            have hg3 : w.heap.size ≤ g3 := by
              rcases hat3 with h | h
              · cases h; exact hgB
              · omega
            have hrow := Lib.hid (show w5.ownsRow w.heap.size 41 1 (.slice (some ⟨g3, 0, none⟩) (n + 1) c3) (n + 1) (wordC (sched t.data.toList (n + 1 - 16))) by
              rw [show n + 1 - 16 = n - 16 + 1 by omega, sched_succ, show 16 + (n - 16) = n by omega, ← HP.out, wordC_append]
              exact hown3)
            clear hown3 hgrow3 hat3 HP HN HS0 HO4 HB4 e1 e2 e3 e4 e5
            go_wp2_with fail
            go_roundw
            case rel => exact ⟨n + 1, by omega, by omega, by go_num, ⟨_, _, rfl, hg3⟩, hrow.out, hb5.out⟩
            case measure => simp [intOf]; omega
        · have n64 : 64 ≤ n := by omega
          have HO := Lib.hid ho
          have HB := Lib.hid hb
          clear ho hb hlt
          go_wp2_with fail
          have ho := HO.out
          have hb := HB.out
          have hgl : g < wr.heap.size := (ho.lt g rfl).2
          have HW := Lib.hid (show RowU wr g (sched t.data.toList 48) from ⟨hgl, fun i hi => by
            have e48 : n - 16 = 48 := by omega
            rw [e48] at ho
            rw [sched_length] at hi
            rw [ho.cellAt i (by omega)]
            have h2 : i < (sched t.data.toList 48).length := by rw [sched_length]; omega
            simp [wordC, h2]⟩)
          have hHR := HR.out.keep HR.out.1 hb
          have hHK := HK.out.keep HK.out.1 hb
          have HR2 := Lib.hid hHR
          have HK2 := Lib.hid hHK
          have gh1 : gh < w.heap.size := HR.out.1
          have n64' := Lib.hid (show n = 64 by omega)
          clear ho hb HO HR HK hHR hHK
          obtain ⟨wo, rfl⟩ : ∃ wo : World, wo = wr := ⟨_, rfl⟩
          generalize hWW : sched t.data.toList 48 = WW at HW
          have HWW := Lib.hid (SchedIs.mk hWW)
          have hWl : WW.length = 64 := by rw [← hWW, sched_length]
          clear hWW
          go_loopw [16, 17] (fun v i wr => ∃ m : Nat, m ≤ 64 ∧ i = .int .i64 m ∧ (∃ g2 c2, v = .slice (some ⟨g2, 0, none⟩) 8 c2 ∧ RowU wr g2 (rounds s WW m).toL) ∧ Below wo.heap.size wo wr) (fun _ i _ => 64 - (intOf i).toNat)
          case atStart => exact ⟨0, Nat.zero_le _, rfl, ⟨_, _, rfl, HR2.out⟩, Below.refl _ _⟩
          case round =>
            obtain ⟨m, hm, rfl, ⟨g2, c2, rfl, hv⟩, hb2⟩ := hrel
            by_cases hlt2 : m < 64
            · have hmn : m < n := by omega
              have ck1 := (HK2.out.keep HK2.out.1 hb2).2 m (by show m < 64; exact hlt2)
              have cw1 := (HW.out.keep HW.out.1 hb2).2 m (by omega)
              have HST := Lib.hid (rounds_succ' s WW m)
              have hok := rounds_ok HS.out WW m
              generalize rounds s WW m = st at hv HST hok
              generalize keysL.getD m 0 = k at ck1 HST
              generalize WW.getD m 0 = x at cw1 HST
              have ST := Lib.hid (fun w1 (h : RowU w1 g2 st.toL) => step_any st g2 c2 k x w1 hok h)
              have HV := Lib.hid hv
              have HB2 := Lib.hid hb2
              clear hv hb2 hok
              go_wp2_with fail
              go_region_law (first
                | (go_simp; go_at_call 39; refine (ST.out wr.drew (show RowU wr.drew g2 st.toL from HV.out)).mono ?_; rintro e w5 ⟨⟨g5, rfl, hv5, hge5⟩, hb5⟩)
                | go_simp)
              all_goals
                have HV5 := Lib.hid (show RowU w5 g5 (rounds s WW (m + 1)).toL by rw [HST.out]; exact hv5)
                have hb6 : Below wr.heap.size wr w5 := (show Below wr.heap.size wr wr.drew from ⟨rfl, rfl, rfl, Nat.le_refl _, fun _ _ => rfl⟩).trans hb5
                have HB5 := Lib.hid (HB2.out.trans (hb6.mono HB2.out.size))
                clear hv5 hb5 hb6 hge5 ST HV HB2 ck1 cw1
                go_wp2_with fail
                go_roundw
                case rel => exact ⟨m + 1, by omega, by go_num, ⟨_, _, rfl, HV5.out⟩, HB5.out⟩
                case measure => simp [intOf]; omega
            · have hm64 : 64 ≤ m := by omega
              have HV := Lib.hid (show RowU wr g2 (rounds s WW 64).toL by
                obtain rfl : m = 64 := by omega
                exact hv)
              have HH := Lib.hid (HR2.out.keep HR2.out.1 hb2)
              have HB3 := Lib.hid (HB.out.trans (hb2.mono hbs))
              have hbs3 : w.heap.size ≤ wr.heap.size := Nat.le_trans hbs hb2.size
              have HE := Lib.hid (show blockS s t.data.toList = s.add (rounds s WW 64) by unfold blockS; rw [HWW.out.out])
              clear hv hb2 HR2 HK2 HW HWW HB hWl
              generalize rounds s WW 64 = st at HV HE
              obtain ⟨fin, hfin⟩ : ∃ fin, blockS s t.data.toList = fin := ⟨_, rfl⟩
              have HF := Lib.hid (FinIs.mk hfin)
              rw [hfin] at HE
              clear hfin
              obtain ⟨wp, rfl⟩ : ∃ wp : World, wp = wr := ⟨_, rfl⟩
              go_wp2_with fail
              go_loopw [18, 19] (fun ov iv wr => ∃ q : Nat, q ≤ 8 ∧ iv = .int .i64 q ∧ (∃ g c, ov = .slice (some ⟨g, 0, none⟩) q c ∧ wp.heap.size ≤ g) ∧ wr.ownsRow wp.heap.size 41 1 ov q (wordC (fin.toL.take q)) ∧ Below wp.heap.size wp wr) (fun _ i _ => 8 - (intOf i).toNat)
              case atStart => exact ⟨0, Nat.zero_le _, rfl, ⟨_, _, rfl, Nat.le_refl _⟩, World.ownsRow_lit wp #[] 0 (Nat.le_refl _) (Nat.zero_le _) rfl, (Below.refl _ _).alloc (Nat.le_refl _) _⟩
              case round =>
                obtain ⟨q, hq, rfl, ⟨g6, c6, rfl, hg6⟩, ho6, hb6⟩ := hrel
                have hbs6 := hb6.size
                by_cases hlt8 : q < 8
                · have ch1 := (HH.out.keep HH.out.1 hb6).2 q (by show q < 8; exact hlt8)
                  have cv1 := (HV.out.keep HV.out.1 hb6).2 q (by show q < 8; exact hlt8)
                  have HT := Lib.hid (show fin.toL.take (q + 1) = fin.toL.take q ++ [(s.toL.getD q 0 + st.toL.getD q 0) % 4294967296] by rw [HE.out]; exact add_take s st q hlt8)
                  generalize s.toL.getD q 0 = a at ch1 HT
                  generalize st.toL.getD q 0 = b at cv1 HT
                  obtain ⟨p1, e1⟩ : ∃ p, IntKind.u32.wrap (a + b) = p := ⟨_, rfl⟩
                  have HP := Lib.hid (show (a + b) % 4294967296 = p1 by rw [← e1]; simp only [IntKind.wrap_u32])
                  have HO6 := Lib.hid ho6
                  have HB6 := Lib.hid hb6
                  clear ho6 hb6
                  go_wp2_with fail
                  go_region_law (first
                    | (refine step_append_lies _ (by rfl) _ _ _ (by rfl) wp.heap.size 41 i0 _ 1 4 Tryd.underlying26 hi hz0 hz1 hz2 rfl (by decide) _ q (wordC (fin.toL.take q)) (by rfl) ((HO6.out.alloc _).drew) ⟨wr.heap.size, 0, none⟩ 1 1 [.int .u32 p1] (by rfl) (by rfl) (World.news_of_block (cs := #[.int .u32 p1]) (t := 41) (fr := (0, 0)) (heap_alloc_new wr _)) (by simp [Value.oneCell']) (by decide) (by unfold maxLen; omega) (by omega) (by simp; omega) (wr.heap.size + 1) (by simp) ?_; intro g7 c7 w7 hown7 hgrow7 hat7 hlt7)
                    | go_simp)
                  all_goals
                    have hb7 := Lib.hid (show Below wp.heap.size wp w7 from ((HB6.out.alloc hbs6 _).drew).grown hgrow7 (by simp; omega) (fun k hk => by cases hk; exact hg6))
                    have hg7 : wp.heap.size ≤ g7 := by
                      rcases hat7 with h | h
                      · cases h; exact hg6
                      · omega
                    have hrow := Lib.hid (show w7.ownsRow wp.heap.size 41 1 (.slice (some ⟨g7, 0, none⟩) (q + 1) c7) (q + 1) (wordC (fin.toL.take (q + 1))) by
                      rw [HT.out, HP.out, wordC_append]
                      exact hown7)
                    clear hown7 hgrow7 hat7 HO6 HB6 e1
                    go_wp2_with fail
                    go_roundw
                    case rel => exact ⟨q + 1, by omega, by go_num, ⟨_, _, rfl, hg7⟩, hrow.out, hb7.out⟩
                    case measure => simp [intOf]; omega
                · have hq8 := Lib.hid (show q = 8 by omega)
                  have HV8 := Lib.hid (show RowU wr g6 fin.toL from ⟨(ho6.lt g6 rfl).2, fun i hi => by
                    have h8 : fin.toL.length = 8 := rfl
                    rw [hq8.out] at ho6
                    rw [ho6.cellAt i (by omega), List.take_of_length_le (by omega)]
                    simp [wordC, hi]⟩)
                  have HB7 := Lib.hid (HB3.out.trans (hb6.mono hbs3))
                  have hg8 : w.heap.size ≤ g6 := Nat.le_trans hbs3 hg6
                  have q8 : 8 ≤ q := by omega
                  clear ho6 hb6
                  go_wp2_with fail
                  go_ret
                  exact ⟨⟨g6, c6, by rw [← hq8.out]; rfl, by rw [HF.out.out]; exact HV8.out, hg8⟩, HB7.out⟩
end Go.Proofs.YtiebdmamjlgeoaaDoor
