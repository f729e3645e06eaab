/-
  TextParses' walk: it answers true. Conditions: the package-level variables as TEnv says.
-/
import Derived.Test.YtgkapipiegfmhaaDoorRefParseT
import Derived.Test.YtgkapipiegfmhaaDoorFew2
import Derived.Test.YtgkapipiegfmhaaDoorGetPlain
import Derived.Test.YtgkapipiegfmhaaDoorTextLaws
namespace Go.Proofs.YtgkapipiegfmhaaDoor
open Go.RowKit

theorem IsVal.kindOf {w : World} {k : Int} {a b c d : Value} {T : Val} (h : IsVal w (.agg #[.int .i64 k, a, b, c, d]) T) : T.kind = k := by
  cases h; rfl
set_option maxRecDepth 100000 in
set_option maxHeartbeats 8000000 in
theorem tparses_walk (s name : ByteArray) (kind : Int) (w : World) (he : TEnv w) (_hs : s.size ≤ maxLen) :
    Calls Tryd.prog 3 #[.string s, .string name, .int .i64 kind] w fun e w' => e = .returned (.bool true) ∧ Below w.heap.size w w' := by
  obtain ⟨p, hp⟩ : ∃ p, min s.size 4200 = p := ⟨_, rfl⟩
  have hp' : min ((s.size : Nat) : Int) 4200 = (p : Int) := by omega
  have hps : p ≤ s.size := by omega
  obtain ⟨s', hs'⟩ : ∃ s', s.extract 0 p = s' := ⟨_, rfl⟩
  have HS' := Lib.hid hs'
  have hsz : s'.size ≤ 4200 := by rw [← hs', ByteArray.size_extract]; omega
  have P1 := Lib.hid (Parse_t s' w he (by unfold maxLen; omega))
  have HE := Lib.hid he
  have AL := Lib.hid (fun w he => alive_t w he)
  have RP := Lib.hid (fun w he => refParseT s' w (by omega) he)
  clear he hs' hp
  go_enter Tryd.func3, Tryd.ntmps3
  go_wp2_with fail
  rw [HS'.out]
  refine P1.out.mono ?_
  intro e w1 hx
  have hb1 := hx.below
  have hi := hx.is
  clear hx
  by_cases hlong : 4096 < s'.size
  · rw [if_pos hlong] at hi
    obtain rfl : e = .returned (.tuple #[.agg #[.int .i64 0, .int .i64 0, .string ⟨#[]⟩, .slice none 0 0, .slice none 0 0], .int .i64 2]) := hi
    obtain ⟨W1, hW1⟩ : ∃ W1, w1.alloc (.cells #[.int .i64 0, .int .i64 0, .string ⟨#[]⟩, .slice none 0 0, .slice none 0 0] 25) = W1 := ⟨_, rfl⟩
    have hbW : Below w1.heap.size w1 W1 := by rw [← hW1]; exact below_new _ _
    have hA : At5 W1 w1.heap.size (.int .i64 0) (.int .i64 0) (.string ⟨#[]⟩) (.slice none 0 0) (.slice none 0 0) := by rw [← hW1]; exact At5.new _ _ _ _ _ _
    have HB1 := Lib.hid (Below.then hb1 hbW)
    have A1 := Lib.hid (AL.out W1 (HE.out.below HB1.out))
    have HA := Lib.hid hA
    have HW1 := Lib.hid hW1
    clear hb1 hbW hA hW1
    go_upto_region 3 with fail
    rw [HW1.out]
    go_wp2_with fail
    refine A1.out.mono ?_
    rintro e w2 ⟨rfl, hb2⟩
    have HB2 := Lib.hid (Below.then HB1.out hb2)
    obtain ⟨a0, a1, a2, a3, a4⟩ := (HA.out.keep hb2).cells
    clear hb2
    go_wp2_with fail
    go_ret
    exact ⟨rfl, HB2.out⟩
  rw [if_neg hlong] at hi
  cases hpv : parseV s' with
  | none =>
    rw [hpv] at hi
    obtain rfl : e = .returned (.tuple #[.agg #[.int .i64 0, .int .i64 0, .string ⟨#[]⟩, .slice none 0 0, .slice none 0 0], .int .i64 6]) := hi
    obtain ⟨W1, hW1⟩ : ∃ W1, w1.alloc (.cells #[.int .i64 0, .int .i64 0, .string ⟨#[]⟩, .slice none 0 0, .slice none 0 0] 25) = W1 := ⟨_, rfl⟩
    have hbW : Below w1.heap.size w1 W1 := by rw [← hW1]; exact below_new _ _
    have hA : At5 W1 w1.heap.size (.int .i64 0) (.int .i64 0) (.string ⟨#[]⟩) (.slice none 0 0) (.slice none 0 0) := by rw [← hW1]; exact At5.new _ _ _ _ _ _
    have HB1 := Lib.hid (Below.then hb1 hbW)
    have R1 := Lib.hid (RP.out W1 (HE.out.below HB1.out))
    have HA := Lib.hid hA
    have HW1 := Lib.hid hW1
    have HPV := Lib.hid hpv
    clear hb1 hbW hA hW1 hpv
    go_upto_region 3 with fail
    rw [HW1.out]
    go_wp2_with fail
    refine R1.out.mono ?_
    intro e w2 hx
    have hi := hx.is
    rw [HPV.out] at hi
    obtain rfl : e = .returned (.tuple #[.agg #[.int .i64 0, .int .i64 0, .string ⟨#[]⟩, .slice none 0 0, .slice none 0 0], .bool false]) := hi
    obtain ⟨W2, hW2⟩ : ∃ W2, w2.alloc (.cells #[.int .i64 0, .int .i64 0, .string ⟨#[]⟩, .slice none 0 0, .slice none 0 0] 25) = W2 := ⟨_, rfl⟩
    have hbW : Below w2.heap.size w2 W2 := by rw [← hW2]; exact below_new _ _
    have hbA := Below.then hx.below hbW
    have HB2 := Lib.hid (Below.then HB1.out hbA)
    have HA2 := Lib.hid (HA.out.keep hbA)
    have A1 := Lib.hid (AL.out W2 (HE.out.below HB2.out))
    have HW2 := Lib.hid hW2
    clear hx hbW hbA hW2
    go_upto_region 6 with fail
    rw [HW2.out]
    go_wp2_with fail
    refine A1.out.mono ?_
    rintro e w3 ⟨rfl, hb3⟩
    have HB3 := Lib.hid (Below.then HB2.out hb3)
    obtain ⟨a0, a1, a2, a3, a4⟩ := (HA2.out.keep hb3).cells
    clear hb3
    go_wp2_with fail
    go_ret
    exact ⟨rfl, HB3.out⟩
  | some T =>
    rw [hpv] at hi
    obtain ⟨v, rfl, hv⟩ := hi
    obtain ⟨hm6, -⟩ := (parseV_iff s' T).1 hpv
    obtain ⟨vk, vn, vs, via, vna, vli, vic, vnn, vnc, rfl⟩ := hv.shape
    obtain ⟨W1, hW1⟩ : ∃ W1, w1.alloc (.cells #[.int .i64 vk, .int .i64 vn, .string vs, .slice via vli vic, .slice vna vnn vnc] 25) = W1 := ⟨_, rfl⟩
    have hbW : Below w1.heap.size w1 W1 := by rw [← hW1]; exact below_new _ _
    have hA : At5 W1 w1.heap.size (.int .i64 vk) (.int .i64 vn) (.string vs) (.slice via vli vic) (.slice vna vnn vnc) := by rw [← hW1]; exact At5.new _ _ _ _ _ _
    have HB1 := Lib.hid (Below.then hb1 hbW)
    have R1 := Lib.hid (RP.out W1 (HE.out.below HB1.out))
    have HA := Lib.hid hA
    have HV := Lib.hid (hv.keep hbW)
    have HW1 := Lib.hid hW1
    have HPV := Lib.hid hpv
    have HM6 := Lib.hid hm6
    clear hb1 hbW hA hW1 hpv hv hm6
    go_upto_region 3 with fail
    rw [HW1.out]
    go_wp2_with fail
    refine R1.out.mono ?_
    intro e w2 hx
    have hi := hx.is
    rw [HPV.out] at hi
    obtain ⟨u, rfl, hu⟩ := hi
    have hus := hu
    cases hu with
    | mk k n us iv nv items names ev hk hn hsz' hN hz hI hsub =>
    have hNl := hN.len
    obtain ⟨na, nc, rfl, hnc⟩ := hN.shape
    obtain ⟨ia, ic, rfl, hic, hil⟩ := hI.shape
    unfold maxLen at hNl hil
    obtain ⟨nn, hnn⟩ : ∃ x, names.length = x := ⟨_, rfl⟩
    obtain ⟨li, hli⟩ : ∃ x, items.length = x := ⟨_, rfl⟩
    have HNN := Lib.hid hnn
    have HLI := Lib.hid hli
    rw [hnn, hli] at hus
    rw [hnn] at hN hNl
    rw [hli] at hI hil
    rw [hnn, hli]
    obtain ⟨W2, hW2⟩ : ∃ W2, w2.alloc (.cells #[.int .i64 k, .int .i64 n, .string us, .slice ia li ic, .slice na nn nc] 25) = W2 := ⟨_, rfl⟩
    have hbW : Below w2.heap.size w2 W2 := by rw [← hW2]; exact below_new _ _
    have hB : At5 W2 w2.heap.size (.int .i64 k) (.int .i64 n) (.string us) (.slice ia li ic) (.slice na nn nc) := by rw [← hW2]; exact At5.new _ _ _ _ _ _
    have hbA := Below.then hx.below hbW
    have HB2 := Lib.hid (Below.then HB1.out hbA)
    have hA2 := HA.out.keep hbA
    have HA2 := Lib.hid hA2
    have HBB := Lib.hid hB
    have HV2 := Lib.hid (HV.out.keep hbA)
    have HU2 := Lib.hid (hus.keep hbW)
    have HN2 := Lib.hid (hN.keep hbW)
    have HI2 := Lib.hid (hI.keep hbW)
    have HSB := Lib.hid (fun (i : Nat) (h : i < items.length) => (hsub i h).keep hbW)
    have L := Lib.hid (like_any _ _ _ _ W2 HV2.out HU2.out)
    rw [likeV_refl] at L
    have HW2 := Lib.hid hW2
    obtain ⟨a0, a1, a2, a3, a4⟩ := hA2.cells
    obtain ⟨b0, b1, b2, b3, b4⟩ := hB.cells
    clear hx hbW hbA hW2 hA2 hB hus hN hI hsub hz hk hn hsz' hnc hic hnn hli
    go_upto_region 6 with fail
    rw [HW2.out]
    go_wp2_with fail
    refine L.out.mono ?_
    rintro e w3 ⟨rfl, hb3⟩
    have HB3 := Lib.hid (Below.then HB2.out hb3)
    have HC3 := Lib.hid hb3
    have A1 := Lib.hid (AL.out w3 (HE.out.below HB3.out))
    clear hb3 a0 a1 a2 a3 a4 b0 b1 b2 b3 b4
    go_wp2_with fail
    refine A1.out.mono ?_
    rintro e w4 ⟨rfl, hb4⟩
    have HB4 := Lib.hid (Below.then HB3.out hb4)
    have HC4 := Lib.hid (Below.then HC3.out hb4)
    have G := Lib.hid (Get_t _ _ name kind w4 (HV2.out.keep HC4.out))
    obtain ⟨a0, a1, a2, a3, a4⟩ := (HA2.out.keep HC4.out).cells
    clear hb4
    go_wp2_with fail
    refine G.out.mono ?_
    intro e w5 hx
    have HB5 := Lib.hid (Below.then HB4.out hx.below)
    have hc5 := Below.then HC4.out hx.below
    have HC5 := Lib.hid hc5
    have hi := hx.is
    clear hx a0 a1 a2 a3 a4
    -- what Get answers, in one form
    obtain ⟨x, f, he5, hxv, hgf⟩ : ∃ (x : Value) (f : Int), e = .returned (.tuple #[x, .int .i64 f]) ∧ (∃ xk xn xs xia xli xic xna xnn xnc, x = .agg #[.int .i64 xk, .int .i64 xn, .string xs, .slice xia xli xic, .slice xna xnn xnc] ∧ (getV (.mk k n us items names) name kind = none → xk = 0)) ∧
        ((∃ X, getV (.mk k n us items names) name kind = some X ∧ f = 0 ∧ IsVal w5 x X) ∨ (getV (.mk k n us items names) name kind = none ∧ f = 8)) := by
      cases hg : getV (.mk k n us items names) name kind with
      | none =>
        rw [hg] at hi
        exact ⟨_, 8, hi, ⟨_, _, _, _, _, _, _, _, _, rfl, fun _ => rfl⟩, Or.inr ⟨rfl, rfl⟩⟩
      | some X =>
        rw [hg] at hi
        obtain ⟨x, e1, hx⟩ := hi
        obtain ⟨xk, xn, xs, xia, xna, xli, xic, xnn, xnc, rfl⟩ := hx.shape
        exact ⟨_, 0, e1, ⟨_, _, _, _, _, _, _, _, _, rfl, fun h => by cases h⟩, Or.inl ⟨X, rfl, rfl, hx⟩⟩
    subst he5
    obtain ⟨xk, xn, xs, xia, xli, xic, xna, xnn, xnc, rfl, hx0⟩ := hxv
    obtain ⟨W6, hW6⟩ : ∃ W6, w5.alloc (.cells #[.int .i64 xk, .int .i64 xn, .string xs, .slice xia xli xic, .slice xna xnn xnc] 25) = W6 := ⟨_, rfl⟩
    have hb6 : Below w5.heap.size w5 W6 := by rw [← hW6]; exact below_new _ _
    have hX : At5 W6 w5.heap.size (.int .i64 xk) (.int .i64 xn) (.string xs) (.slice xia xli xic) (.slice xna xnn xnc) := by rw [← hW6]; exact At5.new _ _ _ _ _ _
    have hc6 := Below.then hc5 hb6
    have HB6 := Lib.hid (Below.then HB5.out hb6)
    have HC6 := Lib.hid hc6
    have HGF := Lib.hid (show (∃ X, getV (.mk k n us items names) name kind = some X ∧ f = 0 ∧ IsVal W6 (.agg #[.int .i64 xk, .int .i64 xn, .string xs, .slice xia xli xic, .slice xna xnn xnc]) X) ∨ (getV (.mk k n us items names) name kind = none ∧ f = 8) from
      hgf.imp (fun ⟨X, h1, h2, h3⟩ => ⟨X, h1, h2, h3.keep hb6⟩) id)
    have HX0 := Lib.hid hx0
    have HW6 := Lib.hid hW6
    obtain ⟨x0, x1, x2, x3, x4⟩ := hX.cells
    obtain ⟨b0, b1, b2, b3, b4⟩ := (HBB.out.keep hc6).cells
    clear hc5 hb6 hX hc6 hgf hx0 hW6 hi
    go_upto_region 11 with fail
    rw [HW6.out]
    by_cases h4 : k = 4
    rotate_left
    · have hgn : getV (.mk k n us items names) name kind = none := if_neg fun h => h4 h.1
      have hf : f = 8 := by
        rcases HGF.out with ⟨X, h1, -⟩ | ⟨-, h2⟩
        · rw [hgn] at h1; cases h1
        · exact h2
      have hxk : xk = 0 := HX0.out hgn
      subst hf
      subst hxk
      have q : (k == 4) = false := beq_eq_false_iff_ne.2 h4
      clear h4 hgn
      go_wp2_with fail
      go_ret
      exact ⟨rfl, HB6.out⟩
    · subst h4
      have hone : OneV 4 n us items names := by
        have h := HM6.out
        rw [mayV, Bool.and_eq_true, oneV_iff] at h
        exact h.1
      have hsame : nn = li := by rw [← HNN.out, ← HLI.out]; exact hone.same rfl
      clear hone
      have HEND := Lib.hid (show (∀ (j : Nat) (hj : j < nn), names[j]'(by rw [HNN.out]; exact hj) = name → (items[j]'(by rw [HLI.out, ← hsame]; exact hj)).kind ≠ kind) → f = 8 ∧ xk = 0 from fun h => by
        have hgn : getV (.mk 4 n us items names) name kind = none := getV_miss fun j hj _ e => h j (by rw [← HNN.out]; exact hj) e
        refine ⟨?_, HX0.out hgn⟩
        rcases HGF.out with ⟨X, h1, -⟩ | ⟨-, h2⟩
        · rw [hgn] at h1; cases h1
        · exact h2)
      rcases HN2.out with ⟨h0, -⟩ | ⟨nb, no, nc', he', hn2, hn3, -, hn5⟩
      · have hnn0 : nn = 0 := by rw [← HNN.out, h0]; rfl
        obtain ⟨hf, hxk⟩ := HEND.out fun j hj => absurd hj (by omega)
        subst hsame
        subst hf
        subst hxk
        subst hnn0
        clear h0
        go_wp2_with fail
        refine wp_loop_rounds 1 ?_
        rw [rounds_succ]
        go_wp2_with fail
        go_ret
        exact ⟨rfl, HB6.out⟩
      · rw [HNN.out] at hn2 hn3 he'
        simp only [Value.slice.injEq] at he'
        obtain ⟨rfl, -, rfl⟩ := he'
        rcases HI2.out with ⟨h0, -⟩ | ⟨pb, po, pc, he', hpos, -, -, hcs⟩
        · omega
        simp only [Value.slice.injEq] at he'
        obtain ⟨rfl, -, rfl⟩ := he'
        have HN5 := Lib.hid hn5
        have HCS := Lib.hid hcs
        subst hsame
        clear hn5 hcs
        go_wp2_with fail
        go_loop [80] (fun i => ∃ j : Nat, j ≤ nn ∧ i = .int .i64 j ∧ ∀ (m : Nat) (hm : m < nn), m < j → names[m]'(by rw [HNN.out]; exact hm) = name → (items[m]'(by rw [HLI.out]; exact hm)).kind ≠ kind) (fun i => nn - (intOf i).toNat)
        case atStart => exact ⟨0, Nat.zero_le _, rfl, fun m _ h => absurd h (Nat.not_lt_zero _)⟩
        case round =>
          obtain ⟨j, hj, rfl, hall⟩ := hrel
          have HALL := Lib.hid hall
          clear hall
          by_cases hlt : j < nn
          rotate_left
          · obtain ⟨hf, hxk⟩ := HEND.out fun m hm => HALL.out m hm (by omega)
            subst hf
            subst hxk
            go_wp2_with fail
            go_ret
            exact ⟨rfl, HB6.out⟩
          · have hjn : j < names.length := by rw [HNN.out]; exact hlt
            have hji : j < items.length := by rw [HLI.out]; exact hlt
            have e0 := HN5.out j hjn
            obtain ⟨c0, c1, c2, c3, c4, hev, g0, g1, g2, g3, g4⟩ := HCS.out j hlt
            have hs1 := HSB.out j hji
            rw [hev] at hs1
            obtain ⟨yk, yn, ys, yia, yna, yli, yic, ynn, ync, hsh⟩ := hs1.shape
            simp only [Value.agg.injEq, Array.mk.injEq, List.cons.injEq, and_true] at hsh
            obtain ⟨rfl, rfl, rfl, rfl, rfl⟩ := hsh
            have hyk : (items[j]'hji).kind = yk := hs1.kindOf
            have kc : ∀ {p : Addr} {v : Value}, W2.cell? p = some v → W6.cell? p = some v := fun h => (HC6.out.cell (World.block_lt_of_cell? _ _ h)).trans h
            have v0 := kc g0
            have v1 := kc g1
            have v2 := kc g2
            have v3 := kc g3
            have v4 := kc g4
            have n0 := kc e0
            have u0 : W6.cell? ⟨pb, po + j * 5 + 0, none⟩ = some (.int .i64 yk) := v0
            have HX := Lib.hid (show ∀ w', Below W6.heap.size W6 w' → IsVal w' (.agg #[.int .i64 yk, .int .i64 yn, .string ys, .slice yia yli yic, .slice yna ynn ync]) (items[j]'hji) from fun w' h => hs1.keep (Below.then HC6.out h))
            have HN1 := Lib.hid (show (names[j]'hjn = name → yk ≠ kind) → ∀ (m : Nat) (hm : m < nn), m < j + 1 → names[m]'(by rw [HNN.out]; exact hm) = name → (items[m]'(by rw [HLI.out]; exact hm)).kind ≠ kind from fun h m hm hmj e => by
              rcases Nat.lt_or_ge m j with h1 | h1
              · exact HALL.out m hm h1 e
              · obtain rfl : m = j := by omega
                rw [hyk]; exact h e)
            have HIT := Lib.hid (show names[j]'hjn = name → yk = kind → getV (.mk 4 n us items names) name kind = some (items[j]'hji) from fun e1 e2 => by
              rw [getV_hit (d := 6) HM6.out rfl j hjn e1 hji, if_pos (by show (items[j]'hji).kind = kind; rw [hyk, e2])]
              rfl)
            obtain ⟨nm, hnm⟩ : ∃ nm, names[j]'hjn = nm := ⟨_, rfl⟩
            rw [hnm] at n0 HN1 HIT
            clear e0 g0 g1 g2 g3 g4 hev hs1 hyk kc hnm
            by_cases hnn : nm = name
            rotate_left
            · have q : (nm.toList == name.toList) = false := by rw [beqB]; exact decide_eq_false hnn
              have HN2 := Lib.hid (HN1.out fun h => absurd h hnn)
              clear hnn
              go_wp2_with fail
              go_round
              case rel => exact ⟨j + 1, by omega, by go_num, HN2.out⟩
              case measure => simp [intOf]; omega
            · subst hnn
              have q : (nm.toList == nm.toList) = true := by simp
              by_cases hkk : yk = kind
              rotate_left
              · have q2 : (yk == kind) = false := beq_eq_false_iff_ne.2 hkk
                have HN2 := Lib.hid (HN1.out fun _ => hkk)
                clear hkk
                go_wp2_with fail
                go_round
                case rel => exact ⟨j + 1, by omega, by go_num, HN2.out⟩
                case measure => simp [intOf]; omega
              · subst hkk
                obtain ⟨hf, CL⟩ : f = 0 ∧ ∀ w', Below W6.heap.size W6 w' → Calls Tryd.prog 7 #[.agg #[.int .i64 xk, .int .i64 xn, .string xs, .slice xia xli xic, .slice xna xnn xnc], .agg #[.int .i64 yk, .int .i64 yn, .string ys, .slice yia yli yic, .slice yna ynn ync]] w' fun e w2 => e = .returned (.bool true) ∧ Below w'.heap.size w' w2 := by
                  rcases HGF.out with ⟨X, h1, h2, h3⟩ | ⟨h1, -⟩
                  · rw [HIT.out rfl rfl] at h1
                    obtain rfl := Option.some.inj h1
                    refine ⟨h2, fun w' hb => ?_⟩
                    have := like_any _ _ _ _ w' (h3.keep hb) (HX.out w' hb)
                    rwa [likeV_refl] at this
                  · rw [HIT.out rfl rfl] at h1; cases h1
                subst hf
                have HCL := Lib.hid (show ∀ w', Below W6.heap.size W6 w' → Calls Tryd.prog 7 #[.agg #[.int .i64 xk, .int .i64 xn, .string xs, .slice xia xli xic, .slice xna xnn xnc], .agg #[.int .i64 yk, .int .i64 yn, .string ys, .slice yia yli yic, .slice yna ynn ync]] w' fun e w2 => e = .returned (.bool true) ∧ Below W6.heap.size W6 w2 from fun w' hb => (CL w' hb).mono fun e w2 h => ⟨h.1, Below.then hb h.2⟩)
                have q2 : (yk == yk) = true := by simp
                have hbr := Below.refl W6.heap.size W6
                clear CL
                go_wp2_with fail
                go_region_with (go_simp; go_at_call 7; refine (HCL.out _ (by first | exact hbr | exact hbr.drew)).mono ?_; rintro e w7 ⟨rfl, hb7⟩)
                all_goals
                  go_wp2_with fail
                  go_ret
                  exact ⟨rfl, HB6.out.trans (hb7.mono HB6.out.size)⟩
end Go.Proofs.YtgkapipiegfmhaaDoor
