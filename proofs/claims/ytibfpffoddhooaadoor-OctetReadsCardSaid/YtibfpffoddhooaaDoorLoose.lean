/-
  octet.Loose by its contract: the texts, or the refusal. Conditions: the package-level errors lie where they lie; at most 2^40 bytes.
-/
import Derived.Test.YtibfpffoddhooaaDoorBind
namespace Go.Proofs.YtibfpffoddhooaaDoor
open Go.RowKit

theorem extract_end (s : ByteArray) (a : Nat) : (s.extract a s.size).data.toList = s.data.toList.drop a := by
  rw [Lib.extract_data, List.take_of_length_le (by simp)]

theorem cut_ok (s : ByteArray) (n : Nat) (w : World) (hs : s.size ≤ 1099511627776) (h : n ≤ s.size) :
    Calls Tryd.prog 54 #[.string s, .int .i64 n] w fun e w' => e = .returned (.tuple #[.string (s.extract 0 n), .string (s.extract n s.size), .nilIface]) ∧ Below w.heap.size w w' := by
  go_enter Tryd.func54, Tryd.ntmps54
  go_wp2
  go_quiet (fail)
  go_wp2
  go_ret3
  exact ⟨rfl, below_drewN (Below.refl _ _) _⟩
theorem cut_no (aD aS aZ : Addr) (s : ByteArray) (n : Nat) (w : World) (he : Env w aD aS aZ) (hs : s.size ≤ 1099511627776) (h : s.size < n) (hn : n ≤ 1099511627776) :
    Calls Tryd.prog 54 #[.string s, .int .i64 n] w fun e w' => e = .returned (.tuple #[.string ⟨#[]⟩, .string ⟨#[]⟩, .iface 118 (.pointer (some aS))]) ∧ Below w.heap.size w w' := by
  have g := he.gS
  clear he
  go_enter Tryd.func54, Tryd.ntmps54
  go_wp2
  go_quiet (fail)
  go_wp2
  go_ret3
  exact ⟨rfl, below_drewN (Below.refl _ _) _⟩

theorem Clone_any (s : ByteArray) (w : World) (hs : s.size ≤ 1099511627776) :
    Calls Tryd.prog 45 #[.string s] w fun e w' => e = .returned (.string s) ∧ Below w.heap.size w w' := by
  have H := Lib.hid (Tryd.stringslite_Clone s w (by omega))
  go_enter Tryd.func45, Tryd.ntmps45
  go_wp2_with fail
  refine H.out.mono ?_
  rintro e w' ⟨rfl, hb⟩
  go_wp2_with fail
  go_ret
  exact ⟨rfl, hb⟩

theorem numL_take2_lt (l : List UInt8) (h : 2 ≤ l.length) : numL (l.take 2) < 65536 := by
  have := numL_lt (l.take 2)
  rw [List.length_take, Nat.min_eq_left h] at this
  exact this

/-- What first answers: the first text and the rest, or a refusal. -/
def FirstEnd (aD aS aZ : Addr) (s : ByteArray) (cnt : Nat) (w : World) (e : Ending) (w' : World) : Prop :=
  (∃ p r : ByteArray, 2 ≤ s.size ∧ ¬ (4096 < numL (s.data.toList.take 2) ∨ 64 ≤ cnt) ∧ ¬ s.size - 2 < numL (s.data.toList.take 2) ∧ p = ⟨((s.data.toList.drop 2).take (numL (s.data.toList.take 2))).toArray⟩ ∧ r.data.toList = (s.data.toList.drop 2).drop (numL (s.data.toList.take 2)) ∧
    e = .returned (.tuple #[.string p, .string r, .nilIface]) ∧ Below w.heap.size w w') ∨
  (∃ T v n, (s.size < 2 ∧ n = 3 ∨ 2 ≤ s.size ∧ (4096 < numL (s.data.toList.take 2) ∨ 64 ≤ cnt) ∧ n = 2 ∨ 2 ≤ s.size ∧ ¬ (4096 < numL (s.data.toList.take 2) ∨ 64 ≤ cnt) ∧ s.size - 2 < numL (s.data.toList.take 2) ∧ n = 3) ∧
    ((∃ a b, T = 73 ∧ v = .agg #[.int .i64 a, .int .i64 b] ∧ n = 2) ∨ (T = 118 ∧ v = .pointer (some aS) ∧ n = 3)) ∧ (∃ p r, e = .returned (.tuple #[.string p, .string r, .iface T v])) ∧ Below w.heap.size w w')

set_option maxRecDepth 100000 in
set_option maxHeartbeats 2000000 in
theorem first_any (aD aS aZ : Addr) (s : ByteArray) (cnt : Nat) (w : World) (he : Env w aD aS aZ) (hs : s.size ≤ 1099511627776) (hc : cnt ≤ 64) :
    Calls Tryd.prog 44 #[.string s, .int .i64 cnt] w (FirstEnd aD aS aZ s cnt w) := by
  have HE := Lib.hid he
  by_cases h2 : s.size < 2
  · have C := Lib.hid (cut_no aD aS aZ s 2 w he hs h2 (by omega))
    clear he
    go_enter Tryd.func44, Tryd.ntmps44
    go_wp2_with fail
    refine C.out.mono ?_
    rintro e w1 ⟨rfl, hb⟩
    go_wp2_with fail
    go_ret3
    exact Or.inr ⟨_, _, 3, Or.inl ⟨h2, rfl⟩, Or.inr ⟨rfl, rfl, rfl⟩, ⟨_, _, rfl⟩, hb⟩
  · have C := Lib.hid (cut_ok s 2 w hs (by omega))
    clear he
    have e1 : (s.extract 0 2).data.toList = s.data.toList.take 2 := by rw [Lib.extract_data]; simp
    have e2 : (s.extract 2 s.size).data.toList = s.data.toList.drop 2 := extract_end s 2
    have z1 : (s.extract 0 2).size = 2 := by simp; omega
    have z2 : (s.extract 2 s.size).size = s.size - 2 := by simp
    obtain ⟨n, hn⟩ : ∃ n, numL (s.data.toList.take 2) = n := ⟨_, rfl⟩
    have hn2 : n < 65536 := by rw [← hn]; exact numL_take2_lt _ (by simpa using h2)
    have W := Lib.hid (fun w => whole_ok (s.extract 0 2) w (by omega))
    rw [e1, hn] at W
    obtain ⟨x, hx⟩ : ∃ x, s.extract 0 2 = x := ⟨_, rfl⟩
    obtain ⟨y, hy⟩ : ∃ y, s.extract 2 s.size = y := ⟨_, rfl⟩
    rw [hx] at C W
    rw [hy] at C e2 z2
    have HN := Lib.hid hn
    have HE2 := Lib.hid e2
    have yz1 : y.size ≤ s.size - 2 := by omega
    have yz2 : s.size - 2 ≤ y.size := by omega
    clear hx hy z1 z2 e1 e2 hn
    have hu : IntKind.i64.wrap (n : Int) = (n : Int) := by rw [IntKind.wrap_i64]; omega
    go_enter Tryd.func44, Tryd.ntmps44
    go_wp2_with fail
    refine C.out.mono ?_
    rintro e w1 ⟨rfl, hb⟩
    have hbs := hb.size
    go_wp2_with fail
    refine (W.out w1).mono ?_
    rintro e w' ⟨rfl, rfl⟩
    by_cases hbig : 4096 < n
    · have W2 := Lib.hid (within_no n 4096 w1 (by omega))
      go_wp2_with fail
      refine W2.out.mono ?_
      rintro e w' ⟨rfl, rfl⟩
      go_wp2_with fail
      go_ret3
      exact Or.inr ⟨_, _, 2, Or.inr (Or.inl ⟨by omega, Or.inl (by rw [HN.out]; exact hbig), rfl⟩), Or.inl ⟨_, _, rfl, rfl, rfl⟩, ⟨_, _, rfl⟩, hb⟩
    · have W2 := Lib.hid (within_ok n 4096 w1 (by omega))
      go_wp2_with fail
      refine W2.out.mono ?_
      rintro e w' ⟨rfl, rfl⟩
      by_cases hcnt : 64 ≤ cnt
      · have W3 := Lib.hid (within_no (cnt + 1) 64 w1 (by omega))
        go_wp2_with fail
        refine W3.out.mono ?_
        rintro e w' ⟨rfl, rfl⟩
        go_wp2_with fail
        go_ret3
        exact Or.inr ⟨_, _, 2, Or.inr (Or.inl ⟨by omega, Or.inr hcnt, rfl⟩), Or.inl ⟨_, _, rfl, rfl, rfl⟩, ⟨_, _, rfl⟩, hb⟩
      · have W3 := Lib.hid (within_ok (cnt + 1) 64 w1 (by omega))
        go_wp2_with fail
        refine W3.out.mono ?_
        rintro e w' ⟨rfl, rfl⟩
        by_cases hshort : y.size < n
        · have C2 := Lib.hid (cut_no aD aS aZ y n w1 (HE.out.keep hb) (by omega) hshort (by omega))
          go_wp2_with fail
          refine C2.out.mono ?_
          rintro e w2 ⟨rfl, hb2⟩
          go_wp2_with fail
          go_ret3
          exact Or.inr ⟨_, _, 3, Or.inr (Or.inr ⟨by omega, by rw [HN.out]; omega, by rw [HN.out]; omega, rfl⟩), Or.inr ⟨rfl, rfl, rfl⟩, ⟨_, _, rfl⟩, hb.trans (hb2.mono hbs)⟩
        · have C2 := Lib.hid (cut_ok y n w1 (by omega) (by omega))
          have hp := Lib.hid (show y.extract 0 n = ⟨((s.data.toList.drop 2).take n).toArray⟩ ∧ (y.extract n y.size).data.toList = (s.data.toList.drop 2).drop n by
            constructor
            · apply ByteArray.ext; apply Array.ext'; rw [Lib.extract_data, HE2.out]; simp
            · rw [extract_end, HE2.out])
          go_wp2_with fail
          refine C2.out.mono ?_
          rintro e w2 ⟨rfl, hb2⟩
          go_wp2_with fail
          go_ret3
          exact Or.inl ⟨_, _, by omega, by rw [HN.out]; omega, by rw [HN.out]; omega, by rw [HN.out]; exact hp.out.1, by rw [HN.out]; exact hp.out.2, rfl, hb.trans (hb2.mono hbs)⟩

/-- What loose answers. -/
def LooseEnd (aD aS aZ : Addr) (s : ByteArray) (w : World) (e : Ending) (w' : World) : Prop :=
  (∃ ss v, looseB s = .inl ss ∧ (∀ x ∈ ss, x.size ≤ 4096) ∧ StrRow w' v ss ∧ e = .returned (.tuple #[v, .nilIface]) ∧ Below w.heap.size w w') ∨
  (∃ T v n, looseB s = .inr n ∧ Refuses aD aS aZ (.iface T v) n ∧ e = .returned (.tuple #[.slice none 0 0, .iface T v]) ∧ Below w.heap.size w w')

set_option maxRecDepth 100000 in
set_option maxHeartbeats 2000000 in
theorem loose_any (aD aS aZ : Addr) (s : ByteArray) (w : World) (he : Env w aD aS aZ) (hs : s.size ≤ 1099511627776) :
    Calls Tryd.prog 34 #[.string s] w (LooseEnd aD aS aZ s w) := by
  have HE := Lib.hid he
  clear he
  obtain ⟨i0, hi, hz0, hz1, hz2⟩ := info_parts infoStr
  go_enter Tryd.func34, Tryd.ntmps34
  go_wp2_with fail
  go_loopw [0, 4] (fun sv pv wr => ∃ (x : ByteArray) (acc : List ByteArray) (f n : Nat), x.size < f ∧ x.size ≤ s.size ∧ looseGo f x.data.toList acc = looseB s ∧ acc.length = n ∧ n ≤ 64 ∧ (∀ y ∈ acc, y.size ≤ 4096) ∧ sv = .string x ∧ (∃ a c, pv = .slice a n c) ∧ wr.ownsRow w.heap.size 9 1 pv n (strC acc) ∧ Below w.heap.size w wr) (fun sv _ _ => match sv with | .string x => x.size | _ => 0)
  case atStart => exact ⟨s, [], s.size + 1, 0, by omega, Nat.le_refl _, rfl, rfl, Nat.zero_le _, by simp, rfl, ⟨_, _, rfl⟩, World.ownsRow_nil _ _ _ _, Below.refl _ _⟩
  case round =>
    obtain ⟨x, acc, f, n, hf, hx, hgo, hal, hn, hall, rfl, ⟨a, c, rfl⟩, ho, hb⟩ := hrel
    have HG := Lib.hid hgo
    have HL := Lib.hid hal
    have HA := Lib.hid hall
    have hbs := hb.size
    clear hgo hal hall
    by_cases hx0 : x.size = 0
    · have hxe : x = ⟨#[]⟩ := by
        apply ByteArray.ext; exact Array.eq_empty_of_size_eq_zero hx0
      have hd := Lib.hid (show looseB s = .inl acc by have := HG.out; rw [hxe] at this; rw [← this]; exact looseGo_nil f acc)
      have hrow := Lib.hid (StrRow.of_own ho HL.out)
      subst hxe
      go_wp2_with fail
      go_ret2
      exact Or.inl ⟨acc, _, hd.out, HA.out, hrow.out, rfl, hb⟩
    · have h0 : (x.toList == []) = false := by
        rw [beq_eq_false_iff_ne, ByteArray.toList_eq]; intro e; apply hx0; have := congrArg List.length e; simpa using this
      have h1 : x.toList.isEmpty = false := by
        rw [ByteArray.toList_eq, List.isEmpty_eq_false_iff]; intro e; apply hx0; have := congrArg List.length e; simpa using this
      have F := Lib.hid (first_any aD aS aZ x n wr (HE.out.keep hb) (by omega) hn)
      go_wp2_with fail
      refine F.out.mono ?_
      rintro e w1 (⟨p, r, q1, q2, q3, hp, hr, rfl, hb1⟩ | ⟨T, v, m, hm, hv, ⟨p, r, rfl⟩, hb1⟩)
      · obtain ⟨f, rfl⟩ : ∃ g, f = g + 1 := ⟨f - 1, by omega⟩
        have hxl := toList_size x
        have hlen : r.data.toList.length = x.size - 2 - numL (x.data.toList.take 2) := by rw [hr, List.length_drop, List.length_drop, hxl]
        rw [toList_size] at hlen
        have hpl : p.data.toList.length ≤ 4096 := by rw [hp]; simp only [List.length_take]; omega
        rw [toList_size] at hpl
        have hgo2 := Lib.hid (show looseGo f r.data.toList (acc ++ [p]) = looseB s by
          rw [← HG.out, looseGo_more _ _ _ (by rw [hxl]; exact q1) (by rw [HL.out]; exact q2) (by rw [hxl]; exact q3), hr, hp])
        have rz : r.size < x.size := by omega
        have n64 : n < 64 := by omega
        clear hp hr q1 q2 q3 hlen hxl
        have hkeep : w1.ownsRow w.heap.size 9 1 (.slice a n c) n (strC acc) := ho.kept (grownBy_of_below hb1) (by cases (Value.slice a n c).ownBlock <;> simp)
        have hbb1 := hb.trans (hb1.mono hbs)
        have hbs1 := hbb1.size
        clear ho
        go_wp2_with fail
        refine (Clone_any p w1 (by omega)).mono ?_
        rintro e w2 ⟨rfl, hb2⟩
        have ho2 : w2.ownsRow w.heap.size 9 1 (.slice a n c) n (strC acc) := hkeep.kept (grownBy_of_below hb2) (by cases (Value.slice a n c).ownBlock <;> simp)
        have hbb2 := hbb1.trans (hb2.mono hbs1)
        have hbs2 := hbb2.size
        clear hkeep
        go_wp2_with (at_builtin; refine wpList_append_own _ rfl _ _ 36 rfl w.heap.size 9 i0 (.string ⟨#[]⟩) 1 16 Tryd.underlying36 hi hz0 hz1 hz2 rfl (by decide) _ n (strC acc) rfl (ho2.alloc _) ⟨w2.heap.size, 0, none⟩ 1 1 [.string p] rfl rfl ?c1 ?c2 ?c3 ?c4 ?c5 ?_)
        case c1 =>
          intro i u hi'
          match i, hi' with
          | 0, hi' => simp at hi'; subst hi'; rw [addr0_add, World.cell?_alloc_at _ _ _ _ rfl]; rfl
          | i + 1, hi' => simp at hi'
        case c2 => intro u hu; simp at hu; subst hu; rfl
        case c3 => unfold maxLen; omega
        case c4 => omega
        case c5 => simp; omega
        intro v' w3 hown3 hgrow3 _
        have hbb3 : Below w.heap.size w w3 := (hbb2.alloc hbs2 _).grown hgrow3 (by simp; omega) (fun k hk => (ho2.lt k hk).1)
        have hv' : ∃ a c, v' = .slice a (n + 1) c := by
          rcases hown3.2 with ⟨_, h0⟩ | ⟨g, c', cur, hv, _⟩
          · omega
          · exact ⟨_, _, hv⟩
        obtain ⟨a', c', rfl⟩ := hv'
        go_wp2
        go_roundw
        case rel =>
          refine ⟨r, acc ++ [p], f, n + 1, by omega, by omega, hgo2.out, by simp [HL.out], by omega, ?_, rfl, ⟨_, _, rfl⟩, by simpa [strC] using hown3, hbb3⟩
          intro y hy
          rcases List.mem_append.1 hy with hy | hy
          · exact HA.out y hy
          · rw [List.mem_singleton.1 hy]; exact hpl
        case measure => simpa using rz
      · obtain ⟨f, rfl⟩ : ∃ g, f = g + 1 := ⟨f - 1, by omega⟩
        have hxl := toList_size x
        have hgo2 : looseB s = .inr m := by
          rw [← HG.out]
          rcases hm with ⟨h, rfl⟩ | ⟨h, h2, rfl⟩ | ⟨h, h2, h3, rfl⟩
          · exact looseGo_short2 _ _ _ (by intro e; apply hx0; rw [← toList_size, e]; rfl) (by rw [hxl]; exact h)
          · exact looseGo_long _ _ _ (by rw [hxl]; exact h) (by rw [HL.out]; exact h2)
          · exact looseGo_short _ _ _ (by rw [hxl]; exact h) (by rw [HL.out]; exact h2) (by rw [hxl]; exact h3)
        have HR := Lib.hid (show looseB s = .inr m ∧ Refuses aD aS aZ (.iface 85 (.agg #[.int .i64 n, .iface T v])) m from ⟨hgo2, by
          rcases hv with ⟨a, b, rfl, rfl, rfl⟩ | ⟨rfl, rfl, rfl⟩
          · exact Or.inr (Or.inr (Or.inl ⟨_, _, _, rfl, rfl⟩))
          · exact Or.inr (Or.inr (Or.inr ⟨_, aS, rfl, Or.inl ⟨rfl, rfl⟩⟩))⟩)
        have hbb1 := hb.trans (hb1.mono hbs)
        clear hgo2 hm hv hxl
        go_wp2_with fail
        refine (at_any _ _ ⟨_, _, rfl⟩ w1).mono ?_
        rintro e w' ⟨rfl, rfl⟩
        go_wp2_with fail
        go_ret2
        exact Or.inr ⟨_, _, m, HR.out.1, HR.out.2, rfl, hbb1⟩

/-- What Loose answers, as a slice's strings and a number. -/
def LooseOut (s : ByteArray) (w : World) (e : Ending) (w' : World) : Prop :=
  (∃ ss v, looseB s = .inl ss ∧ (∀ x ∈ ss, x.size ≤ 4096) ∧ StrRow w' v ss ∧ e = .returned (.tuple #[v, .int .i64 0]) ∧ Below w.heap.size w w') ∨
  (∃ n, looseB s = .inr n ∧ e = .returned (.tuple #[.slice none 0 0, .int .i64 n]) ∧ Below w.heap.size w w')

theorem Loose_any (aD aS aZ : Addr) (s : ByteArray) (w : World) (he : Env w aD aS aZ) (hs : s.size ≤ 1099511627776) :
    Calls Tryd.prog 20 #[.string s] w (LooseOut s w) := by
  have H1 := Lib.hid (loose_any aD aS aZ s w he hs)
  have HE := Lib.hid he
  clear he
  go_enter Tryd.func20, Tryd.ntmps20
  go_wp2_with fail
  refine H1.out.mono ?_
  rintro e w1 (⟨ss, v, hl, hz, hr, rfl, hb⟩ | ⟨T, v, n, hl, hr, rfl, hb⟩)
  · have hv : ∃ a n c, v = .slice a n c := by
      rcases hr with ⟨rfl, rfl⟩ | ⟨b, o, cap, rfl, _⟩
      · exact ⟨_, _, _, rfl⟩
      · exact ⟨_, _, _, rfl⟩
    obtain ⟨a, n, c, rfl⟩ := hv
    have HR := Lib.hid hr
    have HLL := Lib.hid hl
    have HZ := Lib.hid hz
    have hbs := hb.size
    clear hr hl hz
    go_wp2_with fail
    refine (errno_nil w1).mono ?_
    rintro e w2 ⟨rfl, hb2⟩
    have HR2 := Lib.hid (HR.out.keep hb2)
    go_wp2_with fail
    go_ret2
    exact Or.inl ⟨ss, _, HLL.out, HZ.out, HR2.out, rfl, hb.trans (hb2.mono hbs)⟩
  · have HR := Lib.hid (errno_any aD aS aZ _ n w1 (HE.out.keep hb) hr)
    have HLL := Lib.hid hl
    have hbs := hb.size
    clear hr hl
    go_wp2_with fail
    refine HR.out.mono ?_
    rintro e w2 ⟨rfl, hb2⟩
    go_wp2_with fail
    go_ret2
    exact Or.inr ⟨n, HLL.out, rfl, hb.trans (hb2.mono hbs)⟩
end Go.Proofs.YtibfpffoddhooaaDoor
