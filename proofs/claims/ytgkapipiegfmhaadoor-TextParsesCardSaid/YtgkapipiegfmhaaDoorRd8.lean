/-
  The program's reader: the loop over an object's members. Conditions: the reader's value by its contract.
-/
import Derived.Test.YtgkapipiegfmhaaDoorRd7
namespace Go.Proofs.YtgkapipiegfmhaaDoor
open Go.RowKit

theorem nameL_shorter (names : List ByteArray) (s : List UInt8) (names' : List ByteArray) (s' : List UInt8) (h : nameL true names s = some (names', s')) : s'.length ≤ s.length ∧ names'.length = names.length + 1 := by
  unfold nameL at h
  rw [if_pos rfl] at h
  split at h
  · rename_i k c r hq
    split at h
    · simp only [Option.some.injEq, Prod.mk.injEq] at h
      obtain ⟨rfl, rfl⟩ := h
      have := quoteL_short _ _ hq
      simp at this ⊢
      omega
    · cases h
  · cases h

/-- One member, and what follows. -/
def memL (four : Bool) (en : UInt8) (f : Nat) (items : List Val) (names : List ByteArray) (s : List UInt8) : Option (List Val × List ByteArray × List UInt8) :=
  match nameL four names s with
  | none => none
  | some q => match rdL q.2 with
    | none => none
    | some p => tailL rdL four en f (items ++ [p.1]) q.1 p.2
theorem itemsL_mem (four : Bool) (en : UInt8) (f : Nat) (items : List Val) (names : List ByteArray) (s : List UInt8) : itemsL rdL four en (f + 1) items names s = memL four en f items names s := by
  rw [itemsL_one]
  unfold memL
  cases nameL four names s with
  | none => rfl
  | some q =>
    obtain ⟨q1, q2⟩ := q
    simp only
    cases rdL q2 with
    | none => rfl
    | some p => obtain ⟨p1, p2⟩ := p; rfl

/-- How what stands between two braces ends. -/
structure ListO (base B V : Nat) (a b c : Value) (s : ByteArray) (w : World) (e : Ending) (w' : World) : Prop where
  fr : Fr2 base B V w w'
  is : match listL true 123 125 s.data.toList with
    | some p => e = .returned (.tuple #[]) ∧ RdAt w' B ⟨p.2.2.toArray⟩ ∧ ∃ hv hn xs, At5 w' V a b c hv hn ∧ RowOf base w' hv hn.ownBlock p.1 xs ∧ NamesOf base w' hn p.2.1
    | none => e = stop 6

set_option maxRecDepth 100000 in
set_option maxHeartbeats 4000000 in
theorem listO_t (base B V R : Nat) (a b c : Value) (s : ByteArray) (w : World) (g : Geo base B V R) (hsz : s.size ≤ 4096)
    (CV : ∀ t : ByteArray, t.size < s.size → ∀ w, RdAt w B t → TEnv w → Calls Tryd.prog 16 #[.pointer (some ⟨B, 0, none⟩)] w (ValEnds B t w))
    (h : StO base B V R a b c w [] [] s w) (hb : headB s 123 = true) :
    Calls Tryd.prog 32 #[.pointer (some ⟨B, 0, none⟩), .int .u8 123, .int .u8 125, .func (.func 34) #[] #[.pointer (some ⟨V, 0, none⟩), .pointer (some ⟨R, 0, none⟩)]] w fun e w' => ListO base B V a b c s w e w' := by
  have C := Lib.hid (take_any B s 123 123 (by rfl) w h.rd)
  rw [hb] at C
  simp only [if_true] at C
  obtain ⟨l, hl⟩ : ∃ l, s.data.toList = 123 :: l := by
    rw [headB_cons] at hb
    cases hs : s.data.toList with
    | nil => rw [hs] at hb; cases hb
    | cons x l => rw [hs] at hb; exact ⟨l, by rw [show x = 123 by simpa using hb]⟩
  have hrl : (restB s).data.toList = l := by rw [restB_list, hl]; rfl
  have hss : s.size = l.length + 1 := by rw [Lib.size_eq, hl]; rfl
  have h1 := h.set g (restB s)
  obtain ⟨W1, hW1⟩ : ∃ W1, w.setCell ⟨B, 0, none⟩ (.string (restB s)) = W1 := ⟨_, rfl⟩
  obtain ⟨t, ht⟩ : ∃ t, restB s = t := ⟨_, rfl⟩
  rw [hW1] at C h1
  rw [ht] at h1 hrl
  have hts : t.size = l.length := by rw [Lib.size_eq, hrl]
  have HO : listL true 123 125 s.data.toList = if l.head? = some 125 then some ([], [], l.tail) else itemsL rdL true 125 (l.length + 1) [] [] l := by rw [hl, listL, if_pos rfl]
  obtain ⟨O, hO⟩ : ∃ O, listL true 123 125 s.data.toList = O := ⟨_, rfl⟩
  rw [hO] at HO
  have HOO := Lib.hid hO
  have G := Lib.hid g
  have HSZ := Lib.hid hsz
  have HTS := Lib.hid hts
  have HSS := Lib.hid hss
  have HCV := Lib.hid CV
  have D := Lib.hid (at_any B t 125 125 (by rfl) W1 h1.rd)
  cases hq : headB t 125 with
  | true =>
    rw [hq] at D
    have HSTART := Lib.hid (show ∃ (ns' : List ByteArray) (ts' : List Val) (t' : ByteArray) (f' : Nat), StO base B V R a b c w ns' ts' t' W1 ∧ tailL rdL true 125 f' ts' ns' t'.data.toList = O ∧ t'.size ≤ f' ∧ ts'.length + t'.size ≤ 4096 ∧ t'.size < s.size ∧ ns'.length = ts'.length from by
      refine ⟨[], [], t, t.size, h1, ?_, Nat.le_refl _, by simp; omega, by omega, rfl⟩
      rw [HO, hrl]
      rw [headB_cons, hrl] at hq
      cases l with
      | nil => cases hq
      | cons x l => rw [tailL, if_pos (by simpa using hq), if_pos (by rw [List.head?_cons, show x = 125 by simpa using hq])]; rfl)
    clear hb hl hrl hss h1 hW1 ht hts HO hO hsz CV h g hq
    go_enter Tryd.func32, Tryd.ntmps32
    go_wp2_with fail
    refine C.out.mono ?_
    rintro e w1 ⟨rfl, rfl⟩
    go_wp2_with fail
    refine D.out.mono ?_
    rintro e w2 ⟨rfl, rfl⟩
    go_wp2_with fail
    go_loopw [20] (fun _ wr => ∃ (ns' : List ByteArray) (ts' : List Val) (t' : ByteArray) (f' : Nat), StO base B V R a b c w ns' ts' t' wr ∧ tailL rdL true 125 f' ts' ns' t'.data.toList = O ∧ t'.size ≤ f' ∧ ts'.length + t'.size ≤ 4096 ∧ t'.size < s.size ∧ ns'.length = ts'.length) (fun _ wr => rdSize wr B)
    case atStart => exact HSTART.out
    case round =>
      obtain ⟨ns', ts', t', f', hS, hT, hf, hn, hlt, hnt⟩ := hrel
      have HS := Lib.hid hS
      have HT := Lib.hid hT
      have HF := Lib.hid hf
      have HN := Lib.hid hn
      have HLT := Lib.hid hlt
      have HNT := Lib.hid hnt
      have HM := Lib.hid hS.rd.size
      have D1 := Lib.hid (at_any B t' 125 125 (by rfl) wr hS.rd)
      cases hq : headB t' 125 with
      | true =>
        rw [hq] at D1
        have C1 := Lib.hid (take_any B t' 125 125 (by rfl) wr hS.rd)
        rw [hq] at C1
        simp only [if_true] at C1
        have HR := Lib.hid (show O = some (ts', ns', (restB t').data.toList) by
          rw [← hT, restB_list]
          rw [headB_cons] at hq
          cases hl : t'.data.toList with
          | nil => rw [hl] at hq; cases hq
          | cons x l => rw [hl] at hq; rw [tailL, if_pos (by simpa using hq)]; rfl)
        clear hS hT hf hn hlt hnt hq
        go_wp2_with fail
        refine D1.out.mono ?_
        rintro e w5 ⟨rfl, rfl⟩
        go_wp2_with fail
        refine C1.out.mono ?_
        rintro e w6 ⟨rfl, rfl⟩
        go_wp2_with fail
        go_end0
        have hst := HS.out.set G.out (restB t')
        refine ⟨hst.fr, ?_⟩
        rw [HOO.out, HR.out]
        refine ⟨rfl, ?_, hst.row⟩
        have er := bytes_eq (restB t') _ rfl
        rw [← er]
        exact hst.rd
      | false =>
        rw [hq] at D1
        have C1 := Lib.hid (take_any B t' 44 44 (by rfl) wr hS.rd)
        cases h4 : headB t' 44 with
        | false =>
          rw [h4] at C1
          simp only [Bool.false_eq_true, if_false, stop] at C1
          have HR := Lib.hid (show O = none by
            rw [← hT]
            rw [headB_cons] at hq h4
            cases hl : t'.data.toList with
            | nil => rfl
            | cons x l => rw [hl] at hq h4; rw [tailL, if_neg (by simpa using hq), if_neg (by simpa using h4)])
          clear hS hT hf hn hlt hnt hq h4
          go_wp2_with fail
          refine D1.out.mono ?_
          rintro e w5 ⟨rfl, rfl⟩
          go_wp2_with fail
          refine C1.out.mono ?_
          rintro e w6 ⟨rfl, rfl⟩
          go_wp2_with fail
          exact ⟨rfl, ⟨HS.out.fr, by rw [HOO.out, HR.out]; rfl⟩⟩
        | true =>
          rw [h4] at C1
          simp only [if_true] at C1
          have hst := hS.set G.out (restB t')
          have hrs : (restB t').size + 1 = t'.size := by
            rw [headB_cons] at h4
            have e1 := restB_list t'
            have e2 := Lib.size_eq t'
            have e3 := Lib.size_eq (restB t')
            cases hl : t'.data.toList with
            | nil => rw [hl] at h4; cases h4
            | cons x l => rw [e1, hl] at e3; rw [hl] at e2; simp at e2 e3; omega
          obtain ⟨f2, rfl⟩ : ∃ f2, f' = f2 + 1 := ⟨f' - 1, by omega⟩
          have hit : O = memL true 125 f2 ts' ns' (restB t').data.toList := by
            rw [← hT, ← itemsL_mem, restB_list]
            rw [headB_cons] at hq h4
            cases hl : t'.data.toList with
            | nil => rw [hl] at h4; cases h4
            | cons x l => rw [hl] at hq h4; rw [tailL, if_neg (by simpa using hq), if_pos (by simpa using h4)]; rfl
          have HIT := Lib.hid hit
          obtain ⟨u, hu⟩ : ∃ u, restB t' = u := ⟨_, rfl⟩
          obtain ⟨W2, hW2⟩ : ∃ W2, wr.setCell ⟨B, 0, none⟩ (.string (restB t')) = W2 := ⟨_, rfl⟩
          rw [hW2] at C1 hst
          rw [hu] at hst hrs HIT
          have E := Lib.hid (obj1_t base B V R a b c w ns' ts' u W2 G.out hst (by omega) (by omega) (by omega) (fun u' h => HCV.out u' (by omega)))
          have HRS := Lib.hid hrs
          clear hS hT hf hn hlt hnt hq h4 hit hW2 hu hst hrs
          go_wp2_with fail
          refine D1.out.mono ?_
          rintro e w5 ⟨rfl, rfl⟩
          go_wp2_with fail
          refine C1.out.mono ?_
          rintro e w6 ⟨rfl, rfl⟩
          go_wp2_with fail
          refine E.out.mono ?_
          intro e w7 h7
          have hi7 := h7.is
          have H7 := Lib.hid h7.fr
          cases hnm : nameL true ns' u.data.toList with
          | none =>
            rw [hnm] at hi7
            obtain rfl : e = .panicked [{ v := .iface 26 (.int .i64 6), recovered := false }] := hi7
            have HR := Lib.hid (show O = none by rw [HIT.out]; unfold memL; rw [hnm])
            clear hnm h7
            go_wp2_with fail
            exact ⟨rfl, ⟨H7.out, by rw [HOO.out, HR.out]; rfl⟩⟩
          | some q =>
            rw [hnm] at hi7
            simp only at hi7
            cases ho : rdL q.2 with
            | none =>
              rw [ho] at hi7
              obtain rfl : e = .panicked [{ v := .iface 26 (.int .i64 6), recovered := false }] := hi7
              have HR := Lib.hid (show O = none by rw [HIT.out]; unfold memL; rw [hnm]; simp only; rw [ho])
              clear hnm ho h7
              go_wp2_with fail
              exact ⟨rfl, ⟨H7.out, by rw [HOO.out, HR.out]; rfl⟩⟩
            | some p =>
              rw [ho] at hi7
              obtain ⟨rfl, hst7⟩ := hi7
              have HS7 := Lib.hid hst7
              have hsh := rdL_shorter _ _ _ ho
              have hsn := nameL_shorter _ _ _ _ hnm
              have hps : (⟨p.2.toArray⟩ : ByteArray).size = p.2.length := by rw [Lib.size_eq]
              have hus := Lib.size_eq u
              have HR := Lib.hid (show tailL rdL true 125 f2 (ts' ++ [p.1]) q.1 (⟨p.2.toArray⟩ : ByteArray).data.toList = O by rw [HIT.out]; unfold memL; rw [hnm]; simp only; rw [ho])
              have HQ := Lib.hid (show (⟨p.2.toArray⟩ : ByteArray).size ≤ f2 ∧ (ts' ++ [p.1]).length + (⟨p.2.toArray⟩ : ByteArray).size ≤ 4096 ∧ (⟨p.2.toArray⟩ : ByteArray).size < s.size ∧ q.1.length = (ts' ++ [p.1]).length ∧ (⟨p.2.toArray⟩ : ByteArray).size < t'.size by
                have h1 := HF.out
                have h2 := HN.out
                have h3 := HRS.out
                have h4 := HLT.out
                have h5 := HNT.out
                rw [List.length_append, List.length_singleton, hps]
                omega)
              clear hnm ho h7 hst7 hsh hsn hps hus
              go_wp2_with fail
              go_roundw
              case rel => exact ⟨_, _, _, _, HS7.out, HR.out, HQ.out.1, HQ.out.2.1, HQ.out.2.2.1, HQ.out.2.2.2.1⟩
              case measure => rw [HM.out, HS7.out.rd.size]; exact HQ.out.2.2.2.2
  | false =>
    rw [hq] at D
    have E0 := Lib.hid (obj1_t base B V R a b c w [] [] t W1 g h1 (by omega) (by simp) (by simp) (fun u' hu' => CV u' (by omega)))
    have HIT := Lib.hid (show O = memL true 125 l.length [] [] t.data.toList by
      rw [HO, hrl]
      rw [headB_cons, hrl] at hq
      rw [if_neg (by
        cases l with
        | nil => simp
        | cons x l => simpa using hq), itemsL_mem])
    clear hb hl hrl h1 hW1 ht hO HO hsz CV h g hq
    go_enter Tryd.func32, Tryd.ntmps32
    go_wp2_with fail
    refine C.out.mono ?_
    rintro e w1 ⟨rfl, rfl⟩
    go_wp2_with fail
    refine D.out.mono ?_
    rintro e w2 ⟨rfl, rfl⟩
    go_wp2_with fail
    refine E0.out.mono ?_
    intro e w7 h7
    have hi7 := h7.is
    have H7 := Lib.hid h7.fr
    cases hnm : nameL true [] t.data.toList with
    | none =>
      rw [hnm] at hi7
      obtain rfl : e = .panicked [{ v := .iface 26 (.int .i64 6), recovered := false }] := hi7
      have HR := Lib.hid (show O = none by rw [HIT.out]; unfold memL; rw [hnm])
      clear hnm h7
      go_wp2_with fail
      exact ⟨rfl, ⟨H7.out, by rw [HOO.out, HR.out]; rfl⟩⟩
    | some q =>
      rw [hnm] at hi7
      simp only at hi7
      cases ho : rdL q.2 with
      | none =>
        rw [ho] at hi7
        obtain rfl : e = .panicked [{ v := .iface 26 (.int .i64 6), recovered := false }] := hi7
        have HR := Lib.hid (show O = none by rw [HIT.out]; unfold memL; rw [hnm]; simp only; rw [ho])
        clear hnm ho h7
        go_wp2_with fail
        exact ⟨rfl, ⟨H7.out, by rw [HOO.out, HR.out]; rfl⟩⟩
      | some p =>
        rw [ho] at hi7
        obtain ⟨rfl, hst7⟩ := hi7
        have HS7 := Lib.hid hst7
        have hsh := rdL_shorter _ _ _ ho
        have hsn := nameL_shorter _ _ _ _ hnm
        have hps : (⟨p.2.toArray⟩ : ByteArray).size = p.2.length := by rw [Lib.size_eq]
        have hus := Lib.size_eq t
        have HR := Lib.hid (show tailL rdL true 125 l.length ([] ++ [p.1]) q.1 (⟨p.2.toArray⟩ : ByteArray).data.toList = O by rw [HIT.out]; unfold memL; rw [hnm]; simp only; rw [ho])
        have HSTART := Lib.hid (show ∃ (ns' : List ByteArray) (ts' : List Val) (t' : ByteArray) (f' : Nat), StO base B V R a b c w ns' ts' t' w7 ∧ tailL rdL true 125 f' ts' ns' t'.data.toList = O ∧ t'.size ≤ f' ∧ ts'.length + t'.size ≤ 4096 ∧ t'.size < s.size ∧ ns'.length = ts'.length from by
          have e1 := HTS.out
          have e2 := HSS.out
          have e3 := HSZ.out
          refine ⟨q.1, [] ++ [p.1], ⟨p.2.toArray⟩, l.length, HS7.out, HR.out, by rw [hps]; omega, by simp only [List.nil_append, List.length_singleton]; rw [hps]; omega, by rw [hps]; omega, by simpa using hsn.2⟩)
        clear hnm ho h7 hst7 hsh hsn hps hus hts hss
        go_wp2_with fail
        go_loopw [20] (fun _ wr => ∃ (ns' : List ByteArray) (ts' : List Val) (t' : ByteArray) (f' : Nat), StO base B V R a b c w ns' ts' t' wr ∧ tailL rdL true 125 f' ts' ns' t'.data.toList = O ∧ t'.size ≤ f' ∧ ts'.length + t'.size ≤ 4096 ∧ t'.size < s.size ∧ ns'.length = ts'.length) (fun _ wr => rdSize wr B)
        case atStart => exact HSTART.out
        case round =>
          obtain ⟨ns', ts', t', f', hS, hT, hf, hn, hlt, hnt⟩ := hrel
          have HS := Lib.hid hS
          have HT := Lib.hid hT
          have HF := Lib.hid hf
          have HN := Lib.hid hn
          have HLT := Lib.hid hlt
          have HNT := Lib.hid hnt
          have HM := Lib.hid hS.rd.size
          have D1 := Lib.hid (at_any B t' 125 125 (by rfl) wr hS.rd)
          cases hq : headB t' 125 with
          | true =>
            rw [hq] at D1
            have C1 := Lib.hid (take_any B t' 125 125 (by rfl) wr hS.rd)
            rw [hq] at C1
            simp only [if_true] at C1
            have HR := Lib.hid (show O = some (ts', ns', (restB t').data.toList) by
              rw [← hT, restB_list]
              rw [headB_cons] at hq
              cases hl : t'.data.toList with
              | nil => rw [hl] at hq; cases hq
              | cons x l => rw [hl] at hq; rw [tailL, if_pos (by simpa using hq)]; rfl)
            clear hS hT hf hn hlt hnt hq
            go_wp2_with fail
            refine D1.out.mono ?_
            rintro e w5 ⟨rfl, rfl⟩
            go_wp2_with fail
            refine C1.out.mono ?_
            rintro e w6 ⟨rfl, rfl⟩
            go_wp2_with fail
            go_end0
            have hst := HS.out.set G.out (restB t')
            refine ⟨hst.fr, ?_⟩
            rw [HOO.out, HR.out]
            refine ⟨rfl, ?_, hst.row⟩
            have er := bytes_eq (restB t') _ rfl
            rw [← er]
            exact hst.rd
          | false =>
            rw [hq] at D1
            have C1 := Lib.hid (take_any B t' 44 44 (by rfl) wr hS.rd)
            cases h4 : headB t' 44 with
            | false =>
              rw [h4] at C1
              simp only [Bool.false_eq_true, if_false, stop] at C1
              have HR := Lib.hid (show O = none by
                rw [← hT]
                rw [headB_cons] at hq h4
                cases hl : t'.data.toList with
                | nil => rfl
                | cons x l => rw [hl] at hq h4; rw [tailL, if_neg (by simpa using hq), if_neg (by simpa using h4)])
              clear hS hT hf hn hlt hnt hq h4
              go_wp2_with fail
              refine D1.out.mono ?_
              rintro e w5 ⟨rfl, rfl⟩
              go_wp2_with fail
              refine C1.out.mono ?_
              rintro e w6 ⟨rfl, rfl⟩
              go_wp2_with fail
              exact ⟨rfl, ⟨HS.out.fr, by rw [HOO.out, HR.out]; rfl⟩⟩
            | true =>
              rw [h4] at C1
              simp only [if_true] at C1
              have hst := hS.set G.out (restB t')
              have hrs : (restB t').size + 1 = t'.size := by
                rw [headB_cons] at h4
                have e1 := restB_list t'
                have e2 := Lib.size_eq t'
                have e3 := Lib.size_eq (restB t')
                cases hl : t'.data.toList with
                | nil => rw [hl] at h4; cases h4
                | cons x l => rw [e1, hl] at e3; rw [hl] at e2; simp at e2 e3; omega
              obtain ⟨f2, rfl⟩ : ∃ f2, f' = f2 + 1 := ⟨f' - 1, by omega⟩
              have hit : O = memL true 125 f2 ts' ns' (restB t').data.toList := by
                rw [← hT, ← itemsL_mem, restB_list]
                rw [headB_cons] at hq h4
                cases hl : t'.data.toList with
                | nil => rw [hl] at h4; cases h4
                | cons x l => rw [hl] at hq h4; rw [tailL, if_neg (by simpa using hq), if_pos (by simpa using h4)]; rfl
              have HIT := Lib.hid hit
              obtain ⟨u, hu⟩ : ∃ u, restB t' = u := ⟨_, rfl⟩
              obtain ⟨W2, hW2⟩ : ∃ W2, wr.setCell ⟨B, 0, none⟩ (.string (restB t')) = W2 := ⟨_, rfl⟩
              rw [hW2] at C1 hst
              rw [hu] at hst hrs HIT
              have E := Lib.hid (obj1_t base B V R a b c w ns' ts' u W2 G.out hst (by omega) (by omega) (by omega) (fun u' h => HCV.out u' (by omega)))
              have HRS := Lib.hid hrs
              clear hS hT hf hn hlt hnt hq h4 hit hW2 hu hst hrs
              go_wp2_with fail
              refine D1.out.mono ?_
              rintro e w5 ⟨rfl, rfl⟩
              go_wp2_with fail
              refine C1.out.mono ?_
              rintro e w6 ⟨rfl, rfl⟩
              go_wp2_with fail
              refine E.out.mono ?_
              intro e w7 h7
              have hi7 := h7.is
              have H7 := Lib.hid h7.fr
              cases hnm : nameL true ns' u.data.toList with
              | none =>
                rw [hnm] at hi7
                obtain rfl : e = .panicked [{ v := .iface 26 (.int .i64 6), recovered := false }] := hi7
                have HR := Lib.hid (show O = none by rw [HIT.out]; unfold memL; rw [hnm])
                clear hnm h7
                go_wp2_with fail
                exact ⟨rfl, ⟨H7.out, by rw [HOO.out, HR.out]; rfl⟩⟩
              | some q =>
                rw [hnm] at hi7
                simp only at hi7
                cases ho : rdL q.2 with
                | none =>
                  rw [ho] at hi7
                  obtain rfl : e = .panicked [{ v := .iface 26 (.int .i64 6), recovered := false }] := hi7
                  have HR := Lib.hid (show O = none by rw [HIT.out]; unfold memL; rw [hnm]; simp only; rw [ho])
                  clear hnm ho h7
                  go_wp2_with fail
                  exact ⟨rfl, ⟨H7.out, by rw [HOO.out, HR.out]; rfl⟩⟩
                | some p =>
                  rw [ho] at hi7
                  obtain ⟨rfl, hst7⟩ := hi7
                  have HS7 := Lib.hid hst7
                  have hsh := rdL_shorter _ _ _ ho
                  have hsn := nameL_shorter _ _ _ _ hnm
                  have hps : (⟨p.2.toArray⟩ : ByteArray).size = p.2.length := by rw [Lib.size_eq]
                  have hus := Lib.size_eq u
                  have HR := Lib.hid (show tailL rdL true 125 f2 (ts' ++ [p.1]) q.1 (⟨p.2.toArray⟩ : ByteArray).data.toList = O by rw [HIT.out]; unfold memL; rw [hnm]; simp only; rw [ho])
                  have HQ := Lib.hid (show (⟨p.2.toArray⟩ : ByteArray).size ≤ f2 ∧ (ts' ++ [p.1]).length + (⟨p.2.toArray⟩ : ByteArray).size ≤ 4096 ∧ (⟨p.2.toArray⟩ : ByteArray).size < s.size ∧ q.1.length = (ts' ++ [p.1]).length ∧ (⟨p.2.toArray⟩ : ByteArray).size < t'.size by
                    have h1 := HF.out
                    have h2 := HN.out
                    have h3 := HRS.out
                    have h4 := HLT.out
                    have h5 := HNT.out
                    rw [List.length_append, List.length_singleton, hps]
                    omega)
                  clear hnm ho h7 hst7 hsh hsn hps hus
                  go_wp2_with fail
                  go_roundw
                  case rel => exact ⟨_, _, _, _, HS7.out, HR.out, HQ.out.1, HQ.out.2.1, HQ.out.2.2.1, HQ.out.2.2.2.1⟩
                  case measure => rw [HM.out, HS7.out.rd.size]; exact HQ.out.2.2.2.2
end Go.Proofs.YtgkapipiegfmhaaDoor
