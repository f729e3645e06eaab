/-
  GlobOnes returns true at every input: the walk. Conditions: none but sizes.
-/
import Derived.Test.YtjohjmoggldfcaaDoorGlobSome
import Derived.Test.YtjohjmoggldfcaaDoorGlobLaws
import Derived.Lib.IndexBytes
import Derived.Lib.MinMax
import Derived.SliceStrings
namespace Go.Proofs.YtjohjmoggldfcaaDoor
open Go.RowKit

theorem contains_byte (l : List UInt8) (c : UInt8) : Lib.contains l [c] = l.contains c := by
  unfold Lib.contains
  rw [Lib.index_one, Lib.contains_iff_indexByte]
theorem suffix_star (l : List UInt8) : Lib.hasSuffix l [42] = (l.getLast? == some 42) := by
  unfold Lib.hasSuffix
  rw [Bool.eq_iff_iff, List.isSuffixOf_iff_suffix, beq_iff_eq]
  constructor
  · rintro ⟨t, rfl⟩; simp
  · intro h
    obtain ⟨t, rfl⟩ := List.getLast?_eq_some_iff.1 h
    exact List.suffix_append _ _
theorem append_listG (a b : ByteArray) : (a ++ b).data.toList = a.data.toList ++ b.data.toList := by simp
theorem below_drew {w : World} (n : Nat) : Below w.heap.size w (w.drewN n) := ⟨rfl, rfl, rfl, Nat.le_refl _, fun _ _ => rfl⟩

set_option maxRecDepth 100000 in
set_option maxHeartbeats 8000000 in
theorem ones_walk (n : Int) (s p q a b : ByteArray) (w : World) (hM : SomeMax w) (hs : s.size ≤ maxLen) (hp : p.size ≤ maxLen) (hq : q.size ≤ maxLen) (ha : a.size ≤ maxLen) (hb : b.size ≤ maxLen) :
    Calls Tryd.prog 5 #[.int .i64 n, .string s, .string p, .string q, .string a, .string b] w fun e w' => e = .returned (.bool true) ∧ Below w.heap.size w w' := by
  unfold maxLen at hs hp hq ha hb
  have q1 : -20 < n.tmod 20 := by have := Int.lt_tmod_of_pos n (show (0:Int) < 20 by decide); omega
  have q2 : n.tmod 20 < 20 := Int.tmod_lt_of_pos n (by decide)
  obtain ⟨m, hm⟩ := Int.eq_ofNat_of_zero_le (Int.emod_nonneg (n.tmod 20 + 20) (show (20 : Int) ≠ 0 by decide))
  have hm20 : m < 20 := by have := Int.emod_lt_of_pos (n.tmod 20 + 20) (show (0 : Int) < 20 by decide); omega
  have HM := Lib.hid hM
  clear hM
  go_enter Tryd.func5, Tryd.ntmps5
  go_wp2_with fail
  go_quiet (fail)
  go_wp2_with fail
  obtain ⟨x, hx⟩ : ∃ x, s.extract 0 (min (s.size : Int) 60).toNat = x := ⟨_, rfl⟩
  rw [hx]
  have hxs : x.size ≤ 60 := by rw [← hx]; simp; omega
  clear hx hs
  have B00 := Lib.hid (below_drewN (Below.refl w.heap.size w) nq)
  generalize w.drewN nq = w00 at B00 ⊢
  go_quiet (fail)
  have B0 := Lib.hid (below_drewN B00.out nq)
  generalize w00.drewN nq = w0 at B0 ⊢
  clear B00
  go_wp2_with fail
  obtain ⟨px, hpx⟩ : ∃ x, p.extract 0 (min (p.size : Int) 40).toNat = x := ⟨_, rfl⟩
  obtain ⟨qx, hqx⟩ : ∃ x, q.extract 0 (min (q.size : Int) 40).toNat = x := ⟨_, rfl⟩
  obtain ⟨ax, hax⟩ : ∃ x, a.extract 0 (min (a.size : Int) 60).toNat = x := ⟨_, rfl⟩
  obtain ⟨bx, hbx⟩ : ∃ x, b.extract 0 (min (b.size : Int) 60).toNat = x := ⟨_, rfl⟩
  rw [hpx, hqx, hax, hbx]
  have hps : px.size ≤ 40 := by rw [← hpx]; simp; omega
  have hqs : qx.size ≤ 40 := by rw [← hqx]; simp; omega
  have has : ax.size ≤ 60 := by rw [← hax]; simp; omega
  have hbs : bx.size ≤ 60 := by rw [← hbx]; simp; omega
  clear hpx hqx hax hbx hp hq ha hb
  rw [show (1 : Int) + (m : Int) = ((m + 1 : Nat) : Int) by omega]
  obtain ⟨n1, hn1⟩ : ∃ k, m + 1 = k := ⟨_, rfl⟩
  rw [hn1]
  have hn20 : 1 ≤ n1 ∧ n1 ≤ 20 := by omega
  have A := Lib.hid (fun w1 (h : Below w.heap.size w w1) => alive_g w1 (HM.out.keep h))
  have RP := Lib.hid (fun w1 => Right_g px w1 (by unfold maxLen; omega))
  have RQ := Lib.hid (fun w1 => Right_g qx w1 (by unfold maxLen; omega))
  have SU := Lib.hid (fun w1 => Tryd.strings_HasSuffix px ⟨#[42]⟩ w1 (by omega))
  have MA := Lib.hid (fun w1 (h : Below w.heap.size w w1) => Match_g px ax w1 (by unfold maxLen; omega) (by unfold maxLen; omega) (HM.out.keep h))
  have MB := Lib.hid (fun w1 (h : Below w.heap.size w w1) => Match_g qx bx w1 (by unfold maxLen; omega) (by unfold maxLen; omega) (HM.out.keep h))
  have MC := Lib.hid (fun w1 (h : Below w.heap.size w w1) => Match_g (px ++ qx) (ax ++ bx) w1 (by unfold maxLen; rw [ByteArray.size_append]; omega) (by unfold maxLen; rw [ByteArray.size_append]; omega) (HM.out.keep h))
  have HMC := Lib.hid (show rightB px = true → rightB qx = true → Lib.hasSuffix px.data.toList [42] = false → matchB px ax = true → matchB qx bx = true → matchB (px ++ qx) (ax ++ bx) = true from fun h1 h2 h3 h4 h5 => by
    unfold matchB
    rw [append_listG, append_listG]
    refine match_join _ _ _ _ (by rw [size_lenG]; omega) (by rw [size_lenG]; omega) (by rw [size_lenG]; omega) (by rw [size_lenG]; omega) h1 h2 ?_ h4 h5
    intro e
    rw [suffix_star, e] at h3
    simp at h3)
  rw [show (⟨#[42]⟩ : ByteArray).data.toList = [42] from rfl] at SU
  have R := Lib.hid (Tryd.strings_Repeat ⟨#[63]⟩ n1 w0 (by omega) (by show 1 * n1 ≤ _; omega))
  have hg0 : Lib.repeatL (⟨#[63]⟩ : ByteArray).data.toList n1 = List.replicate n1 63 := by
    have h := Lib.repeatL_replicate 63 1 n1
    rw [Nat.mul_one] at h
    exact h
  rw [hg0] at R
  obtain ⟨g, hg⟩ : ∃ g : ByteArray, (⟨(List.replicate n1 (63 : UInt8)).toArray⟩ : ByteArray) = g := ⟨_, rfl⟩
  have hgl : g.data.toList = List.replicate n1 63 := by rw [← hg]
  have hgs : g.size = n1 := by rw [← size_lenG, hgl, List.length_replicate]
  rw [hg] at R
  have MG := Lib.hid (fun w1 (h : Below w.heap.size w w1) => Match_g g x w1 (by unfold maxLen; omega) (by unfold maxLen; omega) (HM.out.keep h))
  have hmo : matchB g x = (x.size == n1 && !x.data.toList.contains 47) := by
    unfold matchB
    rw [hgl, match_ones n1 _ hn20.1 hn20.2 (by rw [size_lenG]; omega), size_lenG]
  obtain ⟨mx, hmx⟩ := HM.out
  have CT := Lib.hid (fun w1 (h : Below w.heap.size w w1) => Tryd.strings_Contains x ⟨#[47]⟩ mx w1 (by omega) ((h.cell (World.block_lt_of_cell? _ _ hmx)).trans hmx))
  rw [show (⟨#[47]⟩ : ByteArray).data.toList = [47] from rfl, contains_byte] at CT
  have heq : ((x.size : Int) == (n1 : Int)) = (x.size == n1) := by rw [Bool.eq_iff_iff, beq_iff_eq, beq_iff_eq]; omega
  obtain ⟨e1, he1⟩ : ∃ e, (x.size == n1) = e := ⟨_, rfl⟩
  obtain ⟨c1, hc1⟩ : ∃ e, x.data.toList.contains 47 = e := ⟨_, rfl⟩
  obtain ⟨rp, hrp⟩ : ∃ e, rightB px = e := ⟨_, rfl⟩
  obtain ⟨rq, hrq⟩ : ∃ e, rightB qx = e := ⟨_, rfl⟩
  obtain ⟨su, hsu⟩ : ∃ e, Lib.hasSuffix px.data.toList [42] = e := ⟨_, rfl⟩
  obtain ⟨ma, hma⟩ : ∃ e, matchB px ax = e := ⟨_, rfl⟩
  obtain ⟨mb, hmb⟩ : ∃ e, matchB qx bx = e := ⟨_, rfl⟩
  obtain ⟨mc, hmc0⟩ : ∃ e, matchB (px ++ qx) (ax ++ bx) = e := ⟨_, rfl⟩
  rw [hmo, he1, hc1] at MG
  rw [hc1] at CT
  rw [he1] at heq
  rw [hrp] at RP HMC
  rw [hrq] at RQ HMC
  rw [hsu] at SU HMC
  rw [hma] at MA HMC
  rw [hmb] at MB HMC
  rw [hmc0] at MC HMC
  clear hmo he1 hc1 hrp hrq hsu hma hmb hmc0 hg hgl hg0 hmx HM hgs hn20 hm hm20 q1 q2 hn1
  refine R.out.mono ?_
  rintro e w1 ⟨rfl, hb1⟩
  have B1 := Lib.hid (B0.out.trans (hb1.mono B0.out.size))
  clear hb1
  cases e1 with
  | false =>
    go_wp2_with fail
    refine (MG.out w1 B1.out).mono ?_
    rintro e w2 ⟨rfl, hb2⟩
    have B2 := Lib.hid (B1.out.trans (hb2.mono B1.out.size))
    clear hb2
    go_wp2_with fail
    refine (A.out w2 B2.out).mono ?_
    rintro e w3 ⟨rfl, hb3⟩
    have B3 := Lib.hid (B2.out.trans (hb3.mono B2.out.size))
    clear hb3
    cases rp with
    | false =>
      go_wp2_with fail
      refine (RP.out w3).mono ?_
      rintro e w3 ⟨rfl, rfl⟩
      go_wp2_with fail
      go_ret
      exact ⟨rfl, B3.out⟩
    | true =>
      cases rq with
      | false =>
        go_wp2_with fail
        refine (RP.out w3).mono ?_
        rintro e w3 ⟨rfl, rfl⟩
        go_wp2_with fail
        refine (RQ.out w3).mono ?_
        rintro e w3 ⟨rfl, rfl⟩
        go_wp2_with fail
        go_ret
        exact ⟨rfl, B3.out⟩
      | true =>
        cases su with
        | true =>
          go_wp2_with fail
          refine (RP.out w3).mono ?_
          rintro e w3 ⟨rfl, rfl⟩
          go_wp2_with fail
          refine (RQ.out w3).mono ?_
          rintro e w3 ⟨rfl, rfl⟩
          go_wp2_with fail
          refine (SU.out w3).mono ?_
          rintro e w3 ⟨rfl, rfl⟩
          go_wp2_with fail
          go_ret
          exact ⟨rfl, B3.out⟩
        | false =>
          cases ma with
          | false =>
            go_wp2_with fail
            refine (RP.out w3).mono ?_
            rintro e w3 ⟨rfl, rfl⟩
            go_wp2_with fail
            refine (RQ.out w3).mono ?_
            rintro e w3 ⟨rfl, rfl⟩
            go_wp2_with fail
            refine (SU.out w3).mono ?_
            rintro e w3 ⟨rfl, rfl⟩
            go_wp2_with fail
            refine (MA.out w3 B3.out).mono ?_
            rintro e w4 ⟨rfl, hb4⟩
            have B4 := Lib.hid (B3.out.trans (hb4.mono B3.out.size))
            clear hb4
            go_wp2_with fail
            go_ret
            exact ⟨rfl, B4.out⟩
          | true =>
            cases mb with
            | false =>
              go_wp2_with fail
              refine (RP.out w3).mono ?_
              rintro e w3 ⟨rfl, rfl⟩
              go_wp2_with fail
              refine (RQ.out w3).mono ?_
              rintro e w3 ⟨rfl, rfl⟩
              go_wp2_with fail
              refine (SU.out w3).mono ?_
              rintro e w3 ⟨rfl, rfl⟩
              go_wp2_with fail
              refine (MA.out w3 B3.out).mono ?_
              rintro e w4 ⟨rfl, hb4⟩
              have B4 := Lib.hid (B3.out.trans (hb4.mono B3.out.size))
              clear hb4
              go_wp2_with fail
              refine (MB.out w4 B4.out).mono ?_
              rintro e w5 ⟨rfl, hb5⟩
              have B5 := Lib.hid (B4.out.trans (hb5.mono B4.out.size))
              clear hb5
              go_wp2_with fail
              go_ret
              exact ⟨rfl, B5.out⟩
            | true =>
              have hmc := HMC.out rfl rfl rfl rfl rfl
              subst hmc
              go_wp2_with fail
              refine (RP.out w3).mono ?_
              rintro e w3 ⟨rfl, rfl⟩
              go_wp2_with fail
              refine (RQ.out w3).mono ?_
              rintro e w3 ⟨rfl, rfl⟩
              go_wp2_with fail
              refine (SU.out w3).mono ?_
              rintro e w3 ⟨rfl, rfl⟩
              go_wp2_with fail
              refine (MA.out w3 B3.out).mono ?_
              rintro e w4 ⟨rfl, hb4⟩
              have B4 := Lib.hid (B3.out.trans (hb4.mono B3.out.size))
              clear hb4
              go_wp2_with fail
              refine (MB.out w4 B4.out).mono ?_
              rintro e w5 ⟨rfl, hb5⟩
              have B5 := Lib.hid (B4.out.trans (hb5.mono B4.out.size))
              clear hb5
              go_wp2_with fail
              refine (MC.out w5 B5.out).mono ?_
              rintro e w6 ⟨rfl, hb6⟩
              have B6 := Lib.hid (B5.out.trans (hb6.mono B5.out.size))
              clear hb6
              go_wp2_with fail
              go_ret
              exact ⟨rfl, B6.out⟩
  | true =>
    go_wp2_with fail
    refine (MG.out w1 B1.out).mono ?_
    rintro e w2 ⟨rfl, hb2⟩
    have B2 := Lib.hid (B1.out.trans (hb2.mono B1.out.size))
    clear hb2
    go_wp2_with fail
    refine (CT.out w2 B2.out).mono ?_
    rintro e w2 ⟨rfl, rfl⟩
    go_wp2_with fail
    refine (A.out w2 B2.out).mono ?_
    rintro e w3 ⟨rfl, hb3⟩
    have B3 := Lib.hid (B2.out.trans (hb3.mono B2.out.size))
    clear hb3
    cases rp with
    | false =>
      go_wp2_with fail
      refine (RP.out w3).mono ?_
      rintro e w3 ⟨rfl, rfl⟩
      go_wp2_with fail
      go_ret
      exact ⟨rfl, B3.out⟩
    | true =>
      cases rq with
      | false =>
        go_wp2_with fail
        refine (RP.out w3).mono ?_
        rintro e w3 ⟨rfl, rfl⟩
        go_wp2_with fail
        refine (RQ.out w3).mono ?_
        rintro e w3 ⟨rfl, rfl⟩
        go_wp2_with fail
        go_ret
        exact ⟨rfl, B3.out⟩
      | true =>
        cases su with
        | true =>
          go_wp2_with fail
          refine (RP.out w3).mono ?_
          rintro e w3 ⟨rfl, rfl⟩
          go_wp2_with fail
          refine (RQ.out w3).mono ?_
          rintro e w3 ⟨rfl, rfl⟩
          go_wp2_with fail
          refine (SU.out w3).mono ?_
          rintro e w3 ⟨rfl, rfl⟩
          go_wp2_with fail
          go_ret
          exact ⟨rfl, B3.out⟩
        | false =>
          cases ma with
          | false =>
            go_wp2_with fail
            refine (RP.out w3).mono ?_
            rintro e w3 ⟨rfl, rfl⟩
            go_wp2_with fail
            refine (RQ.out w3).mono ?_
            rintro e w3 ⟨rfl, rfl⟩
            go_wp2_with fail
            refine (SU.out w3).mono ?_
            rintro e w3 ⟨rfl, rfl⟩
            go_wp2_with fail
            refine (MA.out w3 B3.out).mono ?_
            rintro e w4 ⟨rfl, hb4⟩
            have B4 := Lib.hid (B3.out.trans (hb4.mono B3.out.size))
            clear hb4
            go_wp2_with fail
            go_ret
            exact ⟨rfl, B4.out⟩
          | true =>
            cases mb with
            | false =>
              go_wp2_with fail
              refine (RP.out w3).mono ?_
              rintro e w3 ⟨rfl, rfl⟩
              go_wp2_with fail
              refine (RQ.out w3).mono ?_
              rintro e w3 ⟨rfl, rfl⟩
              go_wp2_with fail
              refine (SU.out w3).mono ?_
              rintro e w3 ⟨rfl, rfl⟩
              go_wp2_with fail
              refine (MA.out w3 B3.out).mono ?_
              rintro e w4 ⟨rfl, hb4⟩
              have B4 := Lib.hid (B3.out.trans (hb4.mono B3.out.size))
              clear hb4
              go_wp2_with fail
              refine (MB.out w4 B4.out).mono ?_
              rintro e w5 ⟨rfl, hb5⟩
              have B5 := Lib.hid (B4.out.trans (hb5.mono B4.out.size))
              clear hb5
              go_wp2_with fail
              go_ret
              exact ⟨rfl, B5.out⟩
            | true =>
              have hmc := HMC.out rfl rfl rfl rfl rfl
              subst hmc
              go_wp2_with fail
              refine (RP.out w3).mono ?_
              rintro e w3 ⟨rfl, rfl⟩
              go_wp2_with fail
              refine (RQ.out w3).mono ?_
              rintro e w3 ⟨rfl, rfl⟩
              go_wp2_with fail
              refine (SU.out w3).mono ?_
              rintro e w3 ⟨rfl, rfl⟩
              go_wp2_with fail
              refine (MA.out w3 B3.out).mono ?_
              rintro e w4 ⟨rfl, hb4⟩
              have B4 := Lib.hid (B3.out.trans (hb4.mono B3.out.size))
              clear hb4
              go_wp2_with fail
              refine (MB.out w4 B4.out).mono ?_
              rintro e w5 ⟨rfl, hb5⟩
              have B5 := Lib.hid (B4.out.trans (hb5.mono B4.out.size))
              clear hb5
              go_wp2_with fail
              refine (MC.out w5 B5.out).mono ?_
              rintro e w6 ⟨rfl, hb6⟩
              have B6 := Lib.hid (B5.out.trans (hb6.mono B5.out.size))
              clear hb6
              go_wp2_with fail
              go_ret
              exact ⟨rfl, B6.out⟩
end Go.Proofs.YtjohjmoggldfcaaDoor
