/-
  The program's reader: the loop over an object's members. Conditions: the reader's value by its contract.
  The program's reader: rows and objects. Conditions: the reader's value by its contract.
  The program's reader: a value, by induction on what is left. Conditions: the package-level variables as TEnv says; at most 4096 bytes.
-/
import Derived.Test.YtepcaglekgeamaaGreatDoorYTxt4
namespace Go.Proofs.YtepcaglekgeamaaGreatDoor
open Go.RowKit

theorem nameL_shorter (names : List ByteArray) (s : List UInt8) (names' : List ByteArray) (s' : List UInt8) (h : nameL true names s = some (names', s')) : s'.length ≤ s.length ∧ names'.length = names.length + 1 := by
  unfold nameL at h
  rw [if_pos rfl] at h
  split at h
  · rename_i k c r hq
    split at h
    · simp only [Option.some.injEq, Prod.mk.injEq] at h
      obtain ⟨rfl, rfl⟩ := h
      have := quoteL_short _ _ hq
      simp at this ⊢
      omega
    · cases h
  · cases h

def memL (four : Bool) (en : UInt8) (f : Nat) (items : List Val) (names : List ByteArray) (s : List UInt8) : Option (List Val × List ByteArray × List UInt8) :=
  match nameL four names s with
  | none => none
  | some q => match rdL q.2 with
    | none => none
    | some p => tailL rdL four en f (items ++ [p.1]) q.1 p.2

theorem itemsL_mem (four : Bool) (en : UInt8) (f : Nat) (items : List Val) (names : List ByteArray) (s : List UInt8) : itemsL rdL four en (f + 1) items names s = memL four en f items names s := by
  rw [itemsL_one]
  unfold memL
  cases nameL four names s with
  | none => rfl
  | some q =>
    obtain ⟨q1, q2⟩ := q
    simp only
    cases rdL q2 with
    | none => rfl
    | some p => obtain ⟨p1, p2⟩ := p; rfl

structure ListO (base B V : Nat) (a b c : Value) (s : ByteArray) (w : World) (e : Ending) (w' : World) : Prop where
  fr : Fr2 base B V w w'
  is : match listL true 123 125 s.data.toList with
    | some p => e = .returned (.tuple #[]) ∧ RdAt w' B ⟨p.2.2.toArray⟩ ∧ ∃ hv hn xs, At5 w' V a b c hv hn ∧ RowOf base w' hv hn.ownBlock p.1 xs ∧ NamesOf base w' hn p.2.1
    | none => e = stop 6

set_option maxRecDepth 100000 in
set_option maxHeartbeats 4000000 in
theorem listO_t (base B V R : Nat) (a b c : Value) (s : ByteArray) (w : World) (g : Geo base B V R) (hsz : s.size ≤ 4096)
    (CV : ∀ t : ByteArray, t.size < s.size → ∀ w, RdAt w B t → TEnv w → Calls Tryz.prog 122 #[.pointer (some ⟨B, 0, none⟩)] w (ValEnds B t w))
    (h : StO base B V R a b c w [] [] s w) (hb : headB s 123 = true) :
    Calls Tryz.prog 157 #[.pointer (some ⟨B, 0, none⟩), .int .u8 123, .int .u8 125, .func (.func 159) #[] #[.pointer (some ⟨V, 0, none⟩), .pointer (some ⟨R, 0, none⟩)]] w fun e w' => ListO base B V a b c s w e w' := by
  have C := Lib.hid (take_any B s 123 123 (by rfl) w h.rd)
  rw [hb] at C
  simp only [if_true] at C
  obtain ⟨l, hl⟩ : ∃ l, s.data.toList = 123 :: l := by
    rw [headB_cons] at hb
    cases hs : s.data.toList with
    | nil => rw [hs] at hb; cases hb
    | cons x l => rw [hs] at hb; exact ⟨l, by rw [show x = 123 by simpa using hb]⟩
  have hrl : (restB s).data.toList = l := by rw [restB_list, hl]; rfl
  have hss : s.size = l.length + 1 := by rw [Lib.size_eq, hl]; rfl
  have h1 := h.set g (restB s)
  obtain ⟨W1, hW1⟩ : ∃ W1, w.setCell ⟨B, 0, none⟩ (.string (restB s)) = W1 := ⟨_, rfl⟩
  obtain ⟨t, ht⟩ : ∃ t, restB s = t := ⟨_, rfl⟩
  rw [hW1] at C h1
  rw [ht] at h1 hrl
  have hts : t.size = l.length := by rw [Lib.size_eq, hrl]
  have HO : listL true 123 125 s.data.toList = if l.head? = some 125 then some ([], [], l.tail) else itemsL rdL true 125 (l.length + 1) [] [] l := by rw [hl, listL, if_pos rfl]
  obtain ⟨O, hO⟩ : ∃ O, listL true 123 125 s.data.toList = O := ⟨_, rfl⟩
  rw [hO] at HO
  have HOO := Lib.hid hO
  have G := Lib.hid g
  have HSZ := Lib.hid hsz
  have HTS := Lib.hid hts
  have HSS := Lib.hid hss
  have HCV := Lib.hid CV
  have D := Lib.hid (at_any B t 125 125 (by rfl) W1 h1.rd)
  cases hq : headB t 125 with
  | true =>
    rw [hq] at D
    have HSTART := Lib.hid (show ∃ (ns' : List ByteArray) (ts' : List Val) (t' : ByteArray) (f' : Nat), StO base B V R a b c w ns' ts' t' W1 ∧ tailL rdL true 125 f' ts' ns' t'.data.toList = O ∧ t'.size ≤ f' ∧ ts'.length + t'.size ≤ 4096 ∧ t'.size < s.size ∧ ns'.length = ts'.length from by
      refine ⟨[], [], t, t.size, h1, ?_, Nat.le_refl _, by simp; omega, by omega, rfl⟩
      rw [HO, hrl]
      rw [headB_cons, hrl] at hq
      cases l with
      | nil => cases hq
      | cons x l => rw [tailL, if_pos (by simpa using hq), if_pos (by rw [List.head?_cons, show x = 125 by simpa using hq])]; rfl)
    clear hb hl hrl hss h1 hW1 ht hts HO hO hsz CV h g hq
    go_enter Tryz.func157, Tryz.ntmps157
    go_wp2_with fail
    refine C.out.mono ?_
    rintro e w1 ⟨rfl, rfl⟩
    go_wp2_with fail
    refine D.out.mono ?_
    rintro e w2 ⟨rfl, rfl⟩
    go_wp2_with fail
    go_loopw [20] (fun _ wr => ∃ (ns' : List ByteArray) (ts' : List Val) (t' : ByteArray) (f' : Nat), StO base B V R a b c w ns' ts' t' wr ∧ tailL rdL true 125 f' ts' ns' t'.data.toList = O ∧ t'.size ≤ f' ∧ ts'.length + t'.size ≤ 4096 ∧ t'.size < s.size ∧ ns'.length = ts'.length) (fun _ wr => rdSize wr B)
    case atStart => exact HSTART.out
    case round =>
      obtain ⟨ns', ts', t', f', hS, hT, hf, hn, hlt, hnt⟩ := hrel
      have HS := Lib.hid hS
      have HT := Lib.hid hT
      have HF := Lib.hid hf
      have HN := Lib.hid hn
      have HLT := Lib.hid hlt
      have HNT := Lib.hid hnt
      have HM := Lib.hid hS.rd.size
      have D1 := Lib.hid (at_any B t' 125 125 (by rfl) wr hS.rd)
      cases hq : headB t' 125 with
      | true =>
        rw [hq] at D1
        have C1 := Lib.hid (take_any B t' 125 125 (by rfl) wr hS.rd)
        rw [hq] at C1
        simp only [if_true] at C1
        have HR := Lib.hid (show O = some (ts', ns', (restB t').data.toList) by
          rw [← hT, restB_list]
          rw [headB_cons] at hq
          cases hl : t'.data.toList with
          | nil => rw [hl] at hq; cases hq
          | cons x l => rw [hl] at hq; rw [tailL, if_pos (by simpa using hq)]; rfl)
        clear hS hT hf hn hlt hnt hq
        go_wp2_with fail
        refine D1.out.mono ?_
        rintro e w5 ⟨rfl, rfl⟩
        go_wp2_with fail
        refine C1.out.mono ?_
        rintro e w6 ⟨rfl, rfl⟩
        go_wp2_with fail
        go_end0
        have hst := HS.out.set G.out (restB t')
        refine ⟨hst.fr, ?_⟩
        rw [HOO.out, HR.out]
        refine ⟨rfl, ?_, hst.row⟩
        have er := bytes_eq (restB t') _ rfl
        rw [← er]
        exact hst.rd
      | false =>
        rw [hq] at D1
        have C1 := Lib.hid (take_any B t' 44 44 (by rfl) wr hS.rd)
        cases h4 : headB t' 44 with
        | false =>
          rw [h4] at C1
          simp only [Bool.false_eq_true, if_false, stop] at C1
          have HR := Lib.hid (show O = none by
            rw [← hT]
            rw [headB_cons] at hq h4
            cases hl : t'.data.toList with
            | nil => rfl
            | cons x l => rw [hl] at hq h4; rw [tailL, if_neg (by simpa using hq), if_neg (by simpa using h4)])
          clear hS hT hf hn hlt hnt hq h4
          go_wp2_with fail
          refine D1.out.mono ?_
          rintro e w5 ⟨rfl, rfl⟩
          go_wp2_with fail
          refine C1.out.mono ?_
          rintro e w6 ⟨rfl, rfl⟩
          go_wp2_with fail
          exact ⟨rfl, ⟨HS.out.fr, by rw [HOO.out, HR.out]; rfl⟩⟩
        | true =>
          rw [h4] at C1
          simp only [if_true] at C1
          have hst := hS.set G.out (restB t')
          have hrs : (restB t').size + 1 = t'.size := by
            rw [headB_cons] at h4
            have e1 := restB_list t'
            have e2 := Lib.size_eq t'
            have e3 := Lib.size_eq (restB t')
            cases hl : t'.data.toList with
            | nil => rw [hl] at h4; cases h4
            | cons x l => rw [e1, hl] at e3; rw [hl] at e2; simp at e2 e3; omega
          obtain ⟨f2, rfl⟩ : ∃ f2, f' = f2 + 1 := ⟨f' - 1, by omega⟩
          have hit : O = memL true 125 f2 ts' ns' (restB t').data.toList := by
            rw [← hT, ← itemsL_mem, restB_list]
            rw [headB_cons] at hq h4
            cases hl : t'.data.toList with
            | nil => rw [hl] at h4; cases h4
            | cons x l => rw [hl] at hq h4; rw [tailL, if_neg (by simpa using hq), if_pos (by simpa using h4)]; rfl
          have HIT := Lib.hid hit
          obtain ⟨u, hu⟩ : ∃ u, restB t' = u := ⟨_, rfl⟩
          obtain ⟨W2, hW2⟩ : ∃ W2, wr.setCell ⟨B, 0, none⟩ (.string (restB t')) = W2 := ⟨_, rfl⟩
          rw [hW2] at C1 hst
          rw [hu] at hst hrs HIT
          have E := Lib.hid (obj1_t base B V R a b c w ns' ts' u W2 G.out hst (by omega) (by omega) (by omega) (fun u' h => HCV.out u' (by omega)))
          have HRS := Lib.hid hrs
          clear hS hT hf hn hlt hnt hq h4 hit hW2 hu hst hrs
          go_wp2_with fail
          refine D1.out.mono ?_
          rintro e w5 ⟨rfl, rfl⟩
          go_wp2_with fail
          refine C1.out.mono ?_
          rintro e w6 ⟨rfl, rfl⟩
          go_wp2_with fail
          refine E.out.mono ?_
          intro e w7 h7
          have hi7 := h7.is
          have H7 := Lib.hid h7.fr
          cases hnm : nameL true ns' u.data.toList with
          | none =>
            rw [hnm] at hi7
            obtain rfl : e = .panicked [{ v := .iface 24 (.int .i64 6), recovered := false }] := hi7
            have HR := Lib.hid (show O = none by rw [HIT.out]; unfold memL; rw [hnm])
            clear hnm h7
            go_wp2_with fail
            exact ⟨rfl, ⟨H7.out, by rw [HOO.out, HR.out]; rfl⟩⟩
          | some q =>
            rw [hnm] at hi7
            simp only at hi7
            cases ho : rdL q.2 with
            | none =>
              rw [ho] at hi7
              obtain rfl : e = .panicked [{ v := .iface 24 (.int .i64 6), recovered := false }] := hi7
              have HR := Lib.hid (show O = none by rw [HIT.out]; unfold memL; rw [hnm]; simp only; rw [ho])
              clear hnm ho h7
              go_wp2_with fail
              exact ⟨rfl, ⟨H7.out, by rw [HOO.out, HR.out]; rfl⟩⟩
            | some p =>
              rw [ho] at hi7
              obtain ⟨rfl, hst7⟩ := hi7
              have HS7 := Lib.hid hst7
              have hsh := rdL_shorter _ _ _ ho
              have hsn := nameL_shorter _ _ _ _ hnm
              have hps : (⟨p.2.toArray⟩ : ByteArray).size = p.2.length := by rw [Lib.size_eq]
              have hus := Lib.size_eq u
              have HR := Lib.hid (show tailL rdL true 125 f2 (ts' ++ [p.1]) q.1 (⟨p.2.toArray⟩ : ByteArray).data.toList = O by rw [HIT.out]; unfold memL; rw [hnm]; simp only; rw [ho])
              have HQ := Lib.hid (show (⟨p.2.toArray⟩ : ByteArray).size ≤ f2 ∧ (ts' ++ [p.1]).length + (⟨p.2.toArray⟩ : ByteArray).size ≤ 4096 ∧ (⟨p.2.toArray⟩ : ByteArray).size < s.size ∧ q.1.length = (ts' ++ [p.1]).length ∧ (⟨p.2.toArray⟩ : ByteArray).size < t'.size by
                have h1 := HF.out
                have h2 := HN.out
                have h3 := HRS.out
                have h4 := HLT.out
                have h5 := HNT.out
                rw [List.length_append, List.length_singleton, hps]
                omega)
              clear hnm ho h7 hst7 hsh hsn hps hus
              go_wp2_with fail
              go_roundw
              case rel => exact ⟨_, _, _, _, HS7.out, HR.out, HQ.out.1, HQ.out.2.1, HQ.out.2.2.1, HQ.out.2.2.2.1⟩
              case measure => rw [HM.out, HS7.out.rd.size]; exact HQ.out.2.2.2.2
  | false =>
    rw [hq] at D
    have E0 := Lib.hid (obj1_t base B V R a b c w [] [] t W1 g h1 (by omega) (by simp) (by simp) (fun u' hu' => CV u' (by omega)))
    have HIT := Lib.hid (show O = memL true 125 l.length [] [] t.data.toList by
      rw [HO, hrl]
      rw [headB_cons, hrl] at hq
      rw [if_neg (by
        cases l with
        | nil => simp
        | cons x l => simpa using hq), itemsL_mem])
    clear hb hl hrl h1 hW1 ht hO HO hsz CV h g hq
    go_enter Tryz.func157, Tryz.ntmps157
    go_wp2_with fail
    refine C.out.mono ?_
    rintro e w1 ⟨rfl, rfl⟩
    go_wp2_with fail
    refine D.out.mono ?_
    rintro e w2 ⟨rfl, rfl⟩
    go_wp2_with fail
    refine E0.out.mono ?_
    intro e w7 h7
    have hi7 := h7.is
    have H7 := Lib.hid h7.fr
    cases hnm : nameL true [] t.data.toList with
    | none =>
      rw [hnm] at hi7
      obtain rfl : e = .panicked [{ v := .iface 24 (.int .i64 6), recovered := false }] := hi7
      have HR := Lib.hid (show O = none by rw [HIT.out]; unfold memL; rw [hnm])
      clear hnm h7
      go_wp2_with fail
      exact ⟨rfl, ⟨H7.out, by rw [HOO.out, HR.out]; rfl⟩⟩
    | some q =>
      rw [hnm] at hi7
      simp only at hi7
      cases ho : rdL q.2 with
      | none =>
        rw [ho] at hi7
        obtain rfl : e = .panicked [{ v := .iface 24 (.int .i64 6), recovered := false }] := hi7
        have HR := Lib.hid (show O = none by rw [HIT.out]; unfold memL; rw [hnm]; simp only; rw [ho])
        clear hnm ho h7
        go_wp2_with fail
        exact ⟨rfl, ⟨H7.out, by rw [HOO.out, HR.out]; rfl⟩⟩
      | some p =>
        rw [ho] at hi7
        obtain ⟨rfl, hst7⟩ := hi7
        have HS7 := Lib.hid hst7
        have hsh := rdL_shorter _ _ _ ho
        have hsn := nameL_shorter _ _ _ _ hnm
        have hps : (⟨p.2.toArray⟩ : ByteArray).size = p.2.length := by rw [Lib.size_eq]
        have hus := Lib.size_eq t
        have HR := Lib.hid (show tailL rdL true 125 l.length ([] ++ [p.1]) q.1 (⟨p.2.toArray⟩ : ByteArray).data.toList = O by rw [HIT.out]; unfold memL; rw [hnm]; simp only; rw [ho])
        have HSTART := Lib.hid (show ∃ (ns' : List ByteArray) (ts' : List Val) (t' : ByteArray) (f' : Nat), StO base B V R a b c w ns' ts' t' w7 ∧ tailL rdL true 125 f' ts' ns' t'.data.toList = O ∧ t'.size ≤ f' ∧ ts'.length + t'.size ≤ 4096 ∧ t'.size < s.size ∧ ns'.length = ts'.length from by
          have e1 := HTS.out
          have e2 := HSS.out
          have e3 := HSZ.out
          refine ⟨q.1, [] ++ [p.1], ⟨p.2.toArray⟩, l.length, HS7.out, HR.out, by rw [hps]; omega, by simp only [List.nil_append, List.length_singleton]; rw [hps]; omega, by rw [hps]; omega, by simpa using hsn.2⟩)
        clear hnm ho h7 hst7 hsh hsn hps hus hts hss
        go_wp2_with fail
        go_loopw [20] (fun _ wr => ∃ (ns' : List ByteArray) (ts' : List Val) (t' : ByteArray) (f' : Nat), StO base B V R a b c w ns' ts' t' wr ∧ tailL rdL true 125 f' ts' ns' t'.data.toList = O ∧ t'.size ≤ f' ∧ ts'.length + t'.size ≤ 4096 ∧ t'.size < s.size ∧ ns'.length = ts'.length) (fun _ wr => rdSize wr B)
        case atStart => exact HSTART.out
        case round =>
          obtain ⟨ns', ts', t', f', hS, hT, hf, hn, hlt, hnt⟩ := hrel
          have HS := Lib.hid hS
          have HT := Lib.hid hT
          have HF := Lib.hid hf
          have HN := Lib.hid hn
          have HLT := Lib.hid hlt
          have HNT := Lib.hid hnt
          have HM := Lib.hid hS.rd.size
          have D1 := Lib.hid (at_any B t' 125 125 (by rfl) wr hS.rd)
          cases hq : headB t' 125 with
          | true =>
            rw [hq] at D1
            have C1 := Lib.hid (take_any B t' 125 125 (by rfl) wr hS.rd)
            rw [hq] at C1
            simp only [if_true] at C1
            have HR := Lib.hid (show O = some (ts', ns', (restB t').data.toList) by
              rw [← hT, restB_list]
              rw [headB_cons] at hq
              cases hl : t'.data.toList with
              | nil => rw [hl] at hq; cases hq
              | cons x l => rw [hl] at hq; rw [tailL, if_pos (by simpa using hq)]; rfl)
            clear hS hT hf hn hlt hnt hq
            go_wp2_with fail
            refine D1.out.mono ?_
            rintro e w5 ⟨rfl, rfl⟩
            go_wp2_with fail
            refine C1.out.mono ?_
            rintro e w6 ⟨rfl, rfl⟩
            go_wp2_with fail
            go_end0
            have hst := HS.out.set G.out (restB t')
            refine ⟨hst.fr, ?_⟩
            rw [HOO.out, HR.out]
            refine ⟨rfl, ?_, hst.row⟩
            have er := bytes_eq (restB t') _ rfl
            rw [← er]
            exact hst.rd
          | false =>
            rw [hq] at D1
            have C1 := Lib.hid (take_any B t' 44 44 (by rfl) wr hS.rd)
            cases h4 : headB t' 44 with
            | false =>
              rw [h4] at C1
              simp only [Bool.false_eq_true, if_false, stop] at C1
              have HR := Lib.hid (show O = none by
                rw [← hT]
                rw [headB_cons] at hq h4
                cases hl : t'.data.toList with
                | nil => rfl
                | cons x l => rw [hl] at hq h4; rw [tailL, if_neg (by simpa using hq), if_neg (by simpa using h4)])
              clear hS hT hf hn hlt hnt hq h4
              go_wp2_with fail
              refine D1.out.mono ?_
              rintro e w5 ⟨rfl, rfl⟩
              go_wp2_with fail
              refine C1.out.mono ?_
              rintro e w6 ⟨rfl, rfl⟩
              go_wp2_with fail
              exact ⟨rfl, ⟨HS.out.fr, by rw [HOO.out, HR.out]; rfl⟩⟩
            | true =>
              rw [h4] at C1
              simp only [if_true] at C1
              have hst := hS.set G.out (restB t')
              have hrs : (restB t').size + 1 = t'.size := by
                rw [headB_cons] at h4
                have e1 := restB_list t'
                have e2 := Lib.size_eq t'
                have e3 := Lib.size_eq (restB t')
                cases hl : t'.data.toList with
                | nil => rw [hl] at h4; cases h4
                | cons x l => rw [e1, hl] at e3; rw [hl] at e2; simp at e2 e3; omega
              obtain ⟨f2, rfl⟩ : ∃ f2, f' = f2 + 1 := ⟨f' - 1, by omega⟩
              have hit : O = memL true 125 f2 ts' ns' (restB t').data.toList := by
                rw [← hT, ← itemsL_mem, restB_list]
                rw [headB_cons] at hq h4
                cases hl : t'.data.toList with
                | nil => rw [hl] at h4; cases h4
                | cons x l => rw [hl] at hq h4; rw [tailL, if_neg (by simpa using hq), if_pos (by simpa using h4)]; rfl
              have HIT := Lib.hid hit
              obtain ⟨u, hu⟩ : ∃ u, restB t' = u := ⟨_, rfl⟩
              obtain ⟨W2, hW2⟩ : ∃ W2, wr.setCell ⟨B, 0, none⟩ (.string (restB t')) = W2 := ⟨_, rfl⟩
              rw [hW2] at C1 hst
              rw [hu] at hst hrs HIT
              have E := Lib.hid (obj1_t base B V R a b c w ns' ts' u W2 G.out hst (by omega) (by omega) (by omega) (fun u' h => HCV.out u' (by omega)))
              have HRS := Lib.hid hrs
              clear hS hT hf hn hlt hnt hq h4 hit hW2 hu hst hrs
              go_wp2_with fail
              refine D1.out.mono ?_
              rintro e w5 ⟨rfl, rfl⟩
              go_wp2_with fail
              refine C1.out.mono ?_
              rintro e w6 ⟨rfl, rfl⟩
              go_wp2_with fail
              refine E.out.mono ?_
              intro e w7 h7
              have hi7 := h7.is
              have H7 := Lib.hid h7.fr
              cases hnm : nameL true ns' u.data.toList with
              | none =>
                rw [hnm] at hi7
                obtain rfl : e = .panicked [{ v := .iface 24 (.int .i64 6), recovered := false }] := hi7
                have HR := Lib.hid (show O = none by rw [HIT.out]; unfold memL; rw [hnm])
                clear hnm h7
                go_wp2_with fail
                exact ⟨rfl, ⟨H7.out, by rw [HOO.out, HR.out]; rfl⟩⟩
              | some q =>
                rw [hnm] at hi7
                simp only at hi7
                cases ho : rdL q.2 with
                | none =>
                  rw [ho] at hi7
                  obtain rfl : e = .panicked [{ v := .iface 24 (.int .i64 6), recovered := false }] := hi7
                  have HR := Lib.hid (show O = none by rw [HIT.out]; unfold memL; rw [hnm]; simp only; rw [ho])
                  clear hnm ho h7
                  go_wp2_with fail
                  exact ⟨rfl, ⟨H7.out, by rw [HOO.out, HR.out]; rfl⟩⟩
                | some p =>
                  rw [ho] at hi7
                  obtain ⟨rfl, hst7⟩ := hi7
                  have HS7 := Lib.hid hst7
                  have hsh := rdL_shorter _ _ _ ho
                  have hsn := nameL_shorter _ _ _ _ hnm
                  have hps : (⟨p.2.toArray⟩ : ByteArray).size = p.2.length := by rw [Lib.size_eq]
                  have hus := Lib.size_eq u
                  have HR := Lib.hid (show tailL rdL true 125 f2 (ts' ++ [p.1]) q.1 (⟨p.2.toArray⟩ : ByteArray).data.toList = O by rw [HIT.out]; unfold memL; rw [hnm]; simp only; rw [ho])
                  have HQ := Lib.hid (show (⟨p.2.toArray⟩ : ByteArray).size ≤ f2 ∧ (ts' ++ [p.1]).length + (⟨p.2.toArray⟩ : ByteArray).size ≤ 4096 ∧ (⟨p.2.toArray⟩ : ByteArray).size < s.size ∧ q.1.length = (ts' ++ [p.1]).length ∧ (⟨p.2.toArray⟩ : ByteArray).size < t'.size by
                    have h1 := HF.out
                    have h2 := HN.out
                    have h3 := HRS.out
                    have h4 := HLT.out
                    have h5 := HNT.out
                    rw [List.length_append, List.length_singleton, hps]
                    omega)
                  clear hnm ho h7 hst7 hsh hsn hps hus
                  go_wp2_with fail
                  go_roundw
                  case rel => exact ⟨_, _, _, _, HS7.out, HR.out, HQ.out.1, HQ.out.2.1, HQ.out.2.2.1, HQ.out.2.2.2.1⟩
                  case measure => rw [HM.out, HS7.out.rd.size]; exact HQ.out.2.2.2.2
end Go.Proofs.YtepcaglekgeamaaGreatDoor
namespace Go.Proofs.YtepcaglekgeamaaGreatDoor
open Go.RowKit

theorem rd_same (l : List UInt8) : ∀ s' : List UInt8, s'.length ≤ l.length → parseL (l.length + 1) s' = rdL s' := fun s' h => parseL_enough s'.length s' (Nat.le_refl _) (l.length + 1) (by omega)

theorem parseL_short (d : Nat) (s' : List UInt8) (x : Val) (r : List UInt8) (h : parseL d s' = some (x, r)) : r.length ≤ s'.length := by
  have := parseL_sound _ _ _ _ h
  rw [this]; simp

theorem rdL_row (l : List UInt8) : rdL (91 :: l) = (listL false 91 93 (91 :: l)).map fun p => (.mk 3 0 ⟨#[]⟩ p.1 p.2.1, p.2.2) := by
  have e : rdL (91 :: l) = if l.head? = some 93 then some (.mk 3 0 ⟨#[]⟩ [] [], l.tail) else (itemsL (parseL (l.length + 1)) false 93 (l.length + 1) [] [] l).map fun p => (.mk 3 0 ⟨#[]⟩ p.1 p.2.1, p.2.2) := by
    unfold rdL
    rw [List.length_cons, parseL, if_neg (by decide), if_neg (by decide)]
    rfl
  rw [e, listL, if_pos rfl]
  by_cases h : l.head? = some 93
  · rw [if_pos h, if_pos h]; rfl
  · rw [if_neg h, if_neg h, itemsL_congr (parseL (l.length + 1)) rdL false 93 _ [] [] l (rd_same l) (parseL_short _)]

theorem rdL_object (l : List UInt8) : rdL (123 :: l) = (listL true 123 125 (123 :: l)).map fun p => (.mk 4 0 ⟨#[]⟩ p.1 p.2.1, p.2.2) := by
  have e : rdL (123 :: l) = if l.head? = some 125 then some (.mk 4 0 ⟨#[]⟩ [] [], l.tail) else (itemsL (parseL (l.length + 1)) true 125 (l.length + 1) [] [] l).map fun p => (.mk 4 0 ⟨#[]⟩ p.1 p.2.1, p.2.2) := by
    unfold rdL
    rw [List.length_cons, parseL, if_neg (by decide), if_neg (by decide)]
    rfl
  rw [e, listL, if_pos rfl]
  by_cases h : l.head? = some 125
  · rw [if_pos h, if_pos h]; rfl
  · rw [if_neg h, if_neg h, itemsL_congr (parseL (l.length + 1)) rdL true 125 _ [] [] l (rd_same l) (parseL_short _)]

theorem listL_row (be : UInt8) (s : List UInt8) (p : List Val × List ByteArray × List UInt8) (h : listL false be 93 s = some p) : p.2.1 = [] := by
  cases s with
  | nil => rw [listL] at h; cases h
  | cons x l =>
    rw [listL] at h
    split at h
    · split at h
      · obtain rfl := Option.some.inj h; rfl
      · obtain ⟨I, N, r⟩ := p
        obtain ⟨y, l', ns, hI, hN, -, hz, -⟩ := itemsL_sound rdL false 93 (fun s x r h => parseL_sound _ s x r h) _ [] [] l I N r h
        rw [hz rfl] at hN
        exact hN
    · cases h

theorem valSize : (Tryz.prog.info? 71).map (·.size) = some 5 := by kernel_rfl

theorem set5_five0 {w : World} {Z : Nat} {a b c d e : Value} (h : At5 w Z a b c d e) (c0 c1 c2 c3 c4 : Value) : At5 (set5 w Z 0 c0 c1 c2 c3 c4) Z c0 c1 c2 c3 c4 := by
  have st : ∀ {w : World} {cs : Array Value} {j : Nat} {u : Value}, w.heap[Z]? = some (.cells cs 71 (0, 0)) → (w.setCell ⟨Z, j, none⟩ u).heap[Z]? = some (.cells (cs.setIfInBounds j u) 71 (0, 0)) := by
    intro w cs j u h
    show (w.heap.modify Z _)[Z]? = _
    rw [Array.getElem?_modify, if_pos rfl, h]
    rfl
  exact st (st (st (st (st h))))

theorem val_done {B Z N : Nat} {s : ByteArray} {w w2 : World} {c0 c1 c2 c3 c4 : Value} {T : Val} {r : List UInt8} (hZ : w.heap.size ≤ Z) (hZb : Z < N) (hB : B < w.heap.size) (hg : Gone B w w2) (hr : RdAt w2 B ⟨r.toArray⟩)
    (hv : ValIn (fun b => N ≤ b) w2 (.agg #[c0, c1, c2, c3, c4]) T) (ho : rdL s.data.toList = some (T, r)) : ValEnds B s w (.returned (.agg #[c0, c1, c2, c3, c4])) (set5 w2 Z 0 c0 c1 c2 c3 c4) := by
  obtain ⟨s1, s2, s3⟩ := set5_rest w2 Z 0 c0 c1 c2 c3 c4
  refine ⟨⟨s1.trans hg.os, s2.trans hg.tape, s3.trans hg.output, by rw [set5_size]; exact hg.size, fun k hk h1 => ?_⟩, ?_⟩
  · rw [set5_block _ _ _ _ _ _ _ _ k (by omega)]
    exact hg.block k hk h1
  · rw [ho]
    exact ⟨_, rfl, hv.keep fun b hS hl => ⟨set5_block _ _ _ _ _ _ _ _ b (by omega), by omega⟩, hr.kept (set5_block _ _ _ _ _ _ _ _ B (by omega))⟩

theorem NamesOf.strs {base : Nat} {w : World} {hn : Value} {ns : List ByteArray} (h : NamesOf base w hn ns) : StrsAt w hn ns ∧ InS (fun b => base ≤ b) hn ns.length := by
  obtain ⟨hl, h2⟩ := h.own
  rcases h2 with ⟨rfl, h0⟩ | ⟨g, cap, cur, rfl, hb, hc, h3, h4, h5, h6⟩
  · exact ⟨Or.inl ⟨List.length_eq_zero_iff.1 h0, Or.inl rfl⟩, fun h => by omega⟩
  · refine ⟨?_, fun _ => ⟨g, 0, _, cap, rfl, hb⟩⟩
    by_cases h0 : ns.length = 0
    · exact Or.inl ⟨List.length_eq_zero_iff.1 h0, Or.inr ⟨⟨g, 0, none⟩, cap, by rw [h0], h4⟩⟩
    · refine Or.inr ⟨g, 0, cap, rfl, by omega, h3, h4, fun i hi => ?_⟩
      have := h.own.cellAt i (by omega)
      rw [Nat.zero_add, this, List.getElem?_map, List.getElem?_eq_getElem hi]
      rfl

set_option maxRecDepth 100000 in
set_option maxHeartbeats 4000000 in
theorem row_t (B : Nat) (s : ByteArray) (w : World) (hr : RdAt w B s) (he : TEnv w) (hB : 13 ≤ B) (hsz : s.size ≤ 4096) (hb : headB s 91 = true)
    (CV : ∀ t : ByteArray, t.size < s.size → ∀ w, RdAt w B t → TEnv w → Calls Tryz.prog 122 #[.pointer (some ⟨B, 0, none⟩)] w (ValEnds B t w)) :
    Calls Tryz.prog 143 #[.pointer (some ⟨B, 0, none⟩)] w fun e w' => ValEnds B s w e w' := by
  have hg : Geo (w.heap.size + 3) B (w.heap.size + 1 + 1) w.heap.size := by
    have := hr.lt
    have := he.size
    exact ⟨hB, by omega, by omega, by omega, by omega, by omega, by omega, by omega⟩
  obtain ⟨W0, hW0⟩ : ∃ W0, ((w.alloc (.cells #[.pointer (some ⟨B, 0, none⟩)] 188)).alloc (.cells #[.int .i64 0, .int .i64 0, .string ⟨#[]⟩, .slice none 0 0, .slice none 0 0] 71)).alloc (.cells #[.int .i64 3, .int .i64 0, .string ⟨#[]⟩, .slice none 0 0, .slice none 0 0] 71) = W0 := ⟨_, rfl⟩
  have hs0 : W0.heap.size = w.heap.size + 3 := by rw [← hW0]; simp
  have hbw : Below w.heap.size w W0 := by
    rw [← hW0]
    exact (((Below.refl _ _).alloc (Nat.le_refl _) _).alloc (by simp) _).alloc (by simp; omega) _
  have hq1 : ∀ o, (w.alloc o).heap.size = w.heap.size + 1 := fun o => by simp
  have hq2 : ∀ o o', ((w.alloc o).alloc o').heap.size = w.heap.size + 1 + 1 := fun o o' => by simp
  have hp : PtrAt W0 w.heap.size B := by
    rw [← hW0]
    exact (Below.heap_alloc _ _ _ (by rw [hq2]; omega)).trans ((Below.heap_alloc _ _ _ (by rw [hq1]; omega)).trans (heap_alloc_new w _))
  have hz5 : At5 W0 (w.heap.size + 1) (.int .i64 0) (.int .i64 0) (.string ⟨#[]⟩) (.slice none 0 0) (.slice none 0 0) := by
    rw [← hW0]
    have e := heap_alloc_new (w.alloc (.cells #[.pointer (some ⟨B, 0, none⟩)] 188)) (.cells #[.int .i64 0, .int .i64 0, .string ⟨#[]⟩, .slice none 0 0, .slice none 0 0] 71)
    rw [hq1] at e
    exact (Below.heap_alloc _ _ _ (by rw [hq2]; omega)).trans e
  have h5 : At5 W0 (w.heap.size + 1 + 1) (.int .i64 3) (.int .i64 0) (.string ⟨#[]⟩) (.slice none 0 0) (.slice none 0 0) := by
    rw [← hW0]
    have e := heap_alloc_new ((w.alloc (.cells #[.pointer (some ⟨B, 0, none⟩)] 188)).alloc (.cells #[.int .i64 0, .int .i64 0, .string ⟨#[]⟩, .slice none 0 0, .slice none 0 0] 71)) (.cells #[.int .i64 3, .int .i64 0, .string ⟨#[]⟩, .slice none 0 0, .slice none 0 0] 71)
    rw [hq2] at e
    exact e
  have hst : StR (w.heap.size + 3) B (w.heap.size + 1 + 1) w.heap.size (.int .i64 3) (.int .i64 0) (.string ⟨#[]⟩) (.slice none 0 0) W0 [] s W0 :=
    ⟨Fr2.refl _ _ _ _, hr.kept (hbw.block B hr.lt), he.below hbw, hp, by rw [hs0]; exact Nat.le_refl _, ⟨.slice none 0 0, [], h5, RowOf.start _ _ _⟩⟩
  have C := Lib.hid (listR_t (w.heap.size + 3) B (w.heap.size + 1 + 1) w.heap.size (.int .i64 3) (.int .i64 0) (.string ⟨#[]⟩) (.slice none 0 0) s W0 hg hsz CV hst hb)
  obtain ⟨l, hl⟩ : ∃ l, s.data.toList = 91 :: l := by
    rw [headB_cons] at hb
    cases hs : s.data.toList with
    | nil => rw [hs] at hb; cases hb
    | cons x l => rw [hs] at hb; exact ⟨l, by rw [show x = 91 by simpa using hb]⟩
  have HRL := Lib.hid (show rdL s.data.toList = (listL false 91 93 s.data.toList).map fun p => (.mk 3 0 ⟨#[]⟩ p.1 p.2.1, p.2.2) by rw [hl]; exact rdL_row l)
  have HBW := Lib.hid hbw
  have HG := Lib.hid hg
  have HZ5 := Lib.hid hz5
  have HS0 := Lib.hid hs0
  have HLT := Lib.hid hr.lt
  have HW0 := Lib.hid hW0
  have hmf : ∀ (fn : Fn) (first cap : Array Value) (w : World), (Instr.makeFunc fn first cap).run Tryz.prog w = .ok (.func fn first cap) w := fun _ _ _ _ => rfl
  clear hr he hB hsz hb CV hg hs0 hbw hp hz5 h5 hst hl hW0 hq1 hq2
  go_enter Tryz.func143, Tryz.ntmps143
  go_wp2_with fail
  rw [HW0.out]
  clear HW0
  refine C.out.mono ?_
  intro e w2 hx
  have hi := hx.is
  have HFR := Lib.hid hx.fr
  have HGO := Lib.hid (show Gone B w w2 from
    ⟨hx.fr.os.trans HBW.out.os, hx.fr.tape.trans HBW.out.tape, hx.fr.output.trans HBW.out.output, Nat.le_trans HBW.out.size hx.fr.size, fun k hk h1 => (hx.fr.block k (by omega) (fun e => h1 (by rw [e])) (by omega)).trans (HBW.out.block k hk)⟩)
  cases ho : listL false 91 93 s.data.toList with
  | none =>
    rw [ho] at hi
    obtain rfl : e = .panicked [{ v := .iface 24 (.int .i64 6), recovered := false }] := hi
    have HO := Lib.hid (show rdL s.data.toList = none by rw [HRL.out, ho]; rfl)
    clear ho hx
    go_wp2_with fail
    exact ⟨rfl, ⟨HGO.out, by rw [HO.out]; rfl⟩⟩
  | some p =>
    rw [ho] at hi
    obtain ⟨rfl, hrd, HROW⟩ := hi
    have HRD := Lib.hid hrd
    have HO := Lib.hid (show rdL s.data.toList = some (.mk 3 0 ⟨#[]⟩ p.1 p.2.1, p.2.2) by rw [HRL.out, ho]; rfl)
    have hz2 : At5 w2 (w.heap.size + 1) (.int .i64 0) (.int .i64 0) (.string ⟨#[]⟩) (.slice none 0 0) (.slice none 0 0) := (hx.fr.block (w.heap.size + 1) (by omega) (by have := HLT.out; omega) (by omega)).trans HZ5.out
    obtain ⟨z0, z1, z2, z3, z4⟩ := hz2.cells
    have f0 := hz2.frozen 0
    have f1 := hz2.frozen 1
    have f2 := hz2.frozen 2
    have f3 := hz2.frozen 3
    have f4 := hz2.frozen 4
    obtain ⟨hv, xs, h5, hrow⟩ := HROW
    have hnm : p.2.1 = [] := listL_row _ _ _ ho
    have HNM := Lib.hid hnm
    obtain ⟨v0, v1, v2, v3, v4⟩ := h5.cells
    obtain ⟨ev, hf5, hin, hsub⟩ := hrow.fives
    have HV := Lib.hid (show ValIn (fun b => w.heap.size + 3 ≤ b) w2 (.agg #[.int .i64 3, .int .i64 0, .string ⟨#[]⟩, hv, .slice none 0 0]) (.mk 3 0 ⟨#[]⟩ p.1 p.2.1) by
      rw [hnm]
      exact .mk 3 0 ⟨#[]⟩ hv _ p.1 [] ev (by decide) (by decide) (by decide) (Or.inl ⟨rfl, Or.inl rfl⟩) (fun h => absurd h (by simp)) (by simp) hf5 hin hsub)
    obtain ⟨ha, hc, rfl⟩ : ∃ ha hc, hv = .slice ha p.1.length hc := by
      rcases hrow.own.2 with ⟨e, h0⟩ | ⟨g, cap, cur, e, -⟩
      · exact ⟨none, 0, by rw [e, h0]⟩
      · exact ⟨_, _, e⟩
    obtain ⟨n, hn⟩ : ∃ n, p.1.length = n := ⟨_, rfl⟩
    rw [hn] at HV v3
    have HZ2 := Lib.hid hz2
    clear ho hx hrd hnm h5 hrow hf5 hin hsub hz2 hn
    go_wp2_with fail
    exact bodyPost_ret (results_cell_row (p := 2) rfl _ _ (w.heap.size + 1) 71 _ (0, 0) _ rfl (set5_five0 HZ2.out _ _ _ _ _) Tryz.underlying71 rfl valSize) rfl (val_done (Nat.le_succ _) (by omega) HLT.out HGO.out HRD.out HV.out HO.out)

set_option maxRecDepth 100000 in
set_option maxHeartbeats 4000000 in
theorem object_t (B : Nat) (s : ByteArray) (w : World) (hr : RdAt w B s) (he : TEnv w) (hB : 13 ≤ B) (hsz : s.size ≤ 4096) (hb : headB s 123 = true)
    (CV : ∀ t : ByteArray, t.size < s.size → ∀ w, RdAt w B t → TEnv w → Calls Tryz.prog 122 #[.pointer (some ⟨B, 0, none⟩)] w (ValEnds B t w)) :
    Calls Tryz.prog 144 #[.pointer (some ⟨B, 0, none⟩)] w fun e w' => ValEnds B s w e w' := by
  have hg : Geo (w.heap.size + 3) B (w.heap.size + 1 + 1) w.heap.size := by
    have := hr.lt
    have := he.size
    exact ⟨hB, by omega, by omega, by omega, by omega, by omega, by omega, by omega⟩
  obtain ⟨W0, hW0⟩ : ∃ W0, ((w.alloc (.cells #[.pointer (some ⟨B, 0, none⟩)] 188)).alloc (.cells #[.int .i64 0, .int .i64 0, .string ⟨#[]⟩, .slice none 0 0, .slice none 0 0] 71)).alloc (.cells #[.int .i64 4, .int .i64 0, .string ⟨#[]⟩, .slice none 0 0, .slice none 0 0] 71) = W0 := ⟨_, rfl⟩
  have hs0 : W0.heap.size = w.heap.size + 3 := by rw [← hW0]; simp
  have hbw : Below w.heap.size w W0 := by
    rw [← hW0]
    exact (((Below.refl _ _).alloc (Nat.le_refl _) _).alloc (by simp) _).alloc (by simp; omega) _
  have hq1 : ∀ o, (w.alloc o).heap.size = w.heap.size + 1 := fun o => by simp
  have hq2 : ∀ o o', ((w.alloc o).alloc o').heap.size = w.heap.size + 1 + 1 := fun o o' => by simp
  have hp : PtrAt W0 w.heap.size B := by
    rw [← hW0]
    exact (Below.heap_alloc _ _ _ (by rw [hq2]; omega)).trans ((Below.heap_alloc _ _ _ (by rw [hq1]; omega)).trans (heap_alloc_new w _))
  have hz5 : At5 W0 (w.heap.size + 1) (.int .i64 0) (.int .i64 0) (.string ⟨#[]⟩) (.slice none 0 0) (.slice none 0 0) := by
    rw [← hW0]
    have e := heap_alloc_new (w.alloc (.cells #[.pointer (some ⟨B, 0, none⟩)] 188)) (.cells #[.int .i64 0, .int .i64 0, .string ⟨#[]⟩, .slice none 0 0, .slice none 0 0] 71)
    rw [hq1] at e
    exact (Below.heap_alloc _ _ _ (by rw [hq2]; omega)).trans e
  have h5 : At5 W0 (w.heap.size + 1 + 1) (.int .i64 4) (.int .i64 0) (.string ⟨#[]⟩) (.slice none 0 0) (.slice none 0 0) := by
    rw [← hW0]
    have e := heap_alloc_new ((w.alloc (.cells #[.pointer (some ⟨B, 0, none⟩)] 188)).alloc (.cells #[.int .i64 0, .int .i64 0, .string ⟨#[]⟩, .slice none 0 0, .slice none 0 0] 71)) (.cells #[.int .i64 4, .int .i64 0, .string ⟨#[]⟩, .slice none 0 0, .slice none 0 0] 71)
    rw [hq2] at e
    exact e
  have hst : StO (w.heap.size + 3) B (w.heap.size + 1 + 1) w.heap.size (.int .i64 4) (.int .i64 0) (.string ⟨#[]⟩) W0 [] [] s W0 :=
    ⟨Fr2.refl _ _ _ _, hr.kept (hbw.block B hr.lt), he.below hbw, hp, by rw [hs0]; exact Nat.le_refl _, ⟨.slice none 0 0, .slice none 0 0, [], h5, RowOf.start _ _ _, ⟨World.ownsRow_nil _ _ _ _, by simp⟩⟩⟩
  have C := Lib.hid (listO_t (w.heap.size + 3) B (w.heap.size + 1 + 1) w.heap.size (.int .i64 4) (.int .i64 0) (.string ⟨#[]⟩) s W0 hg hsz CV hst hb)
  obtain ⟨l, hl⟩ : ∃ l, s.data.toList = 123 :: l := by
    rw [headB_cons] at hb
    cases hs : s.data.toList with
    | nil => rw [hs] at hb; cases hb
    | cons x l => rw [hs] at hb; exact ⟨l, by rw [show x = 123 by simpa using hb]⟩
  have HRL := Lib.hid (show rdL s.data.toList = (listL true 123 125 s.data.toList).map fun p => (.mk 4 0 ⟨#[]⟩ p.1 p.2.1, p.2.2) by rw [hl]; exact rdL_object l)
  have HBW := Lib.hid hbw
  have HG := Lib.hid hg
  have HZ5 := Lib.hid hz5
  have HS0 := Lib.hid hs0
  have HLT := Lib.hid hr.lt
  have HW0 := Lib.hid hW0
  have hmf : ∀ (fn : Fn) (first cap : Array Value) (w : World), (Instr.makeFunc fn first cap).run Tryz.prog w = .ok (.func fn first cap) w := fun _ _ _ _ => rfl
  clear hr he hB hsz hb CV hg hs0 hbw hp hz5 h5 hst hl hW0 hq1 hq2
  go_enter Tryz.func144, Tryz.ntmps144
  go_wp2_with fail
  rw [HW0.out]
  clear HW0
  refine C.out.mono ?_
  intro e w2 hx
  have hi := hx.is
  have HFR := Lib.hid hx.fr
  have HGO := Lib.hid (show Gone B w w2 from
    ⟨hx.fr.os.trans HBW.out.os, hx.fr.tape.trans HBW.out.tape, hx.fr.output.trans HBW.out.output, Nat.le_trans HBW.out.size hx.fr.size, fun k hk h1 => (hx.fr.block k (by omega) (fun e => h1 (by rw [e])) (by omega)).trans (HBW.out.block k hk)⟩)
  cases ho : listL true 123 125 s.data.toList with
  | none =>
    rw [ho] at hi
    obtain rfl : e = .panicked [{ v := .iface 24 (.int .i64 6), recovered := false }] := hi
    have HO := Lib.hid (show rdL s.data.toList = none by rw [HRL.out, ho]; rfl)
    clear ho hx
    go_wp2_with fail
    exact ⟨rfl, ⟨HGO.out, by rw [HO.out]; rfl⟩⟩
  | some p =>
    rw [ho] at hi
    obtain ⟨rfl, hrd, HROW⟩ := hi
    have HRD := Lib.hid hrd
    have HO := Lib.hid (show rdL s.data.toList = some (.mk 4 0 ⟨#[]⟩ p.1 p.2.1, p.2.2) by rw [HRL.out, ho]; rfl)
    have hz2 : At5 w2 (w.heap.size + 1) (.int .i64 0) (.int .i64 0) (.string ⟨#[]⟩) (.slice none 0 0) (.slice none 0 0) := (hx.fr.block (w.heap.size + 1) (by omega) (by have := HLT.out; omega) (by omega)).trans HZ5.out
    obtain ⟨z0, z1, z2, z3, z4⟩ := hz2.cells
    have f0 := hz2.frozen 0
    have f1 := hz2.frozen 1
    have f2 := hz2.frozen 2
    have f3 := hz2.frozen 3
    have f4 := hz2.frozen 4
    obtain ⟨hv, hn, xs, h5, hrow, hnames⟩ := HROW
    obtain ⟨v0, v1, v2, v3, v4⟩ := h5.cells
    obtain ⟨ev, hf5, hin, hsub⟩ := hrow.fives
    have hNS := hnames.strs
    have HV := Lib.hid (show ValIn (fun b => w.heap.size + 3 ≤ b) w2 (.agg #[.int .i64 4, .int .i64 0, .string ⟨#[]⟩, hv, hn]) (.mk 4 0 ⟨#[]⟩ p.1 p.2.1) from
      .mk 4 0 ⟨#[]⟩ hv hn p.1 p.2.1 ev (by decide) (by decide) (by decide) hNS.1 hNS.2 (fun x hx => Nat.le_trans (hnames.size x hx) (by decide)) hf5 hin hsub)
    obtain ⟨ha, hc, rfl⟩ : ∃ ha hc, hv = .slice ha p.1.length hc := by
      rcases hrow.own.2 with ⟨e, h0⟩ | ⟨g, cap, cur, e, -⟩
      · exact ⟨none, 0, by rw [e, h0]⟩
      · exact ⟨_, _, e⟩
    obtain ⟨na, nc, rfl⟩ : ∃ na nc, hn = .slice na p.2.1.length nc := by
      rcases hnames.own.2 with ⟨e, h0⟩ | ⟨g, cap, cur, e, -⟩
      · exact ⟨none, 0, by rw [e, h0]⟩
      · exact ⟨_, _, e⟩
    obtain ⟨n, hnn⟩ : ∃ n, p.1.length = n := ⟨_, rfl⟩
    obtain ⟨m, hmm⟩ : ∃ m, p.2.1.length = m := ⟨_, rfl⟩
    rw [hnn] at HV v3
    rw [hmm] at HV v4
    have HZ2 := Lib.hid hz2
    clear ho hx hrd h5 hrow hnames hf5 hin hsub hz2 hnn hmm hNS
    go_wp2_with fail
    exact bodyPost_ret (results_cell_row (p := 2) rfl _ _ (w.heap.size + 1) 71 _ (0, 0) _ rfl (set5_five0 HZ2.out _ _ _ _ _) Tryz.underlying71 rfl valSize) rfl (val_done (Nat.le_succ _) (by omega) HLT.out HGO.out HRD.out HV.out HO.out)
end Go.Proofs.YtepcaglekgeamaaGreatDoor
namespace Go.Proofs.YtepcaglekgeamaaGreatDoor
open Go.RowKit

theorem rdL_word (l : List UInt8) : rdL (34 :: l) = (quoteL (34 :: l)).map fun p => (.mk 2 0 ⟨p.1.toArray⟩ [] [], p.2) := by
  unfold rdL
  rw [List.length_cons, parseL, if_pos rfl, quoteL, if_pos rfl]

theorem rdL_whole (s : List UInt8) (h : s.head? ≠ some 34 ∧ s.head? ≠ some 91 ∧ s.head? ≠ some 123) : rdL s = wholeL s := by
  cases s with
  | nil => rfl
  | cons c l =>
    simp only [List.head?_cons, ne_eq, Option.some.injEq] at h
    unfold rdL
    rw [List.length_cons, parseL, if_neg h.1, if_pos ⟨h.2.1, h.2.2⟩]

theorem headB_head (s : ByteArray) (c : UInt8) : (headB s c = true ↔ s.data.toList.head? = some c) := by unfold headB; rw [beq_iff_eq]

set_option maxRecDepth 100000 in
set_option maxHeartbeats 4000000 in
theorem value_step (s : ByteArray) (hsz : s.size ≤ 4096) (B : Nat) (w : World) (hr : RdAt w B s) (he : TEnv w) (hB : 13 ≤ B)
    (CV : ∀ t : ByteArray, t.size < s.size → ∀ w, RdAt w B t → TEnv w → Calls Tryz.prog 122 #[.pointer (some ⟨B, 0, none⟩)] w (ValEnds B t w)) :
    Calls Tryz.prog 122 #[.pointer (some ⟨B, 0, none⟩)] w fun e w' => ValEnds B s w e w' := by
  obtain ⟨W0, hW0⟩ : ∃ W0, w.alloc (.cells #[.int .i64 0, .int .i64 0, .string ⟨#[]⟩, .slice none 0 0, .slice none 0 0] 71) = W0 := ⟨_, rfl⟩
  have hs0 : W0.heap.size = w.heap.size + 1 := by rw [← hW0]; simp
  have hbw : Below w.heap.size w W0 := by rw [← hW0]; exact below_new w _
  have hz5 : At5 W0 w.heap.size (.int .i64 0) (.int .i64 0) (.string ⟨#[]⟩) (.slice none 0 0) (.slice none 0 0) := by rw [← hW0]; exact At5.new w _ _ _ _ _
  have hr0 : RdAt W0 B s := hr.kept (hbw.block B hr.lt)
  have he0 : TEnv W0 := he.below hbw
  have HLT := Lib.hid hr.lt
  have HS0 := Lib.hid hs0
  have HZ5 := Lib.hid hz5
  have HBW := Lib.hid hbw
  have HW0 := Lib.hid hW0
  have A1 := Lib.hid (at_any B s 34 34 (by rfl) W0 hr0)
  have A2 := Lib.hid (at_any B s 91 91 (by rfl) W0 hr0)
  have A3 := Lib.hid (at_any B s 123 123 (by rfl) W0 hr0)
  have HSZ := Lib.hid hsz
  have HGZ := Lib.hid (show ∀ w2, Gone B W0 w2 → Gone B w w2 ∧ At5 w2 w.heap.size (.int .i64 0) (.int .i64 0) (.string ⟨#[]⟩) (.slice none 0 0) (.slice none 0 0) from fun w2 h =>
    ⟨(Gone.below hbw).trans h, (h.block w.heap.size (by omega) (fun e => by have := Option.some.inj e; have := hr.lt; omega)).trans hz5⟩)
  cases h34 : headB s 34 with
  | true =>
    rw [h34] at A1
    have C := Lib.hid (word_t B s W0 (by omega) hr0 he0 hB)
    have HRD := Lib.hid (show rdL s.data.toList = (quoteL s.data.toList).map fun p => (.mk 2 0 ⟨p.1.toArray⟩ [] [], p.2) by
      rw [headB_head] at h34
      cases hl : s.data.toList with
      | nil => rw [hl] at h34; cases h34
      | cons x l => rw [hl, List.head?_cons] at h34; rw [Option.some.inj h34]; exact rdL_word l)
    clear A2 A3 hr he hB CV hs0 hbw hz5 hr0 he0 hW0 hsz h34
    go_enter Tryz.func122, Tryz.ntmps122
    go_wp2_with fail
    rw [HW0.out]
    refine A1.out.mono ?_
    rintro e w1 ⟨rfl, rfl⟩
    go_wp2_with fail
    refine C.out.mono ?_
    intro e w2 hx
    have hi := hx.is
    have HGO := Lib.hid (HGZ.out w2 hx.gone).1
    have hz2 := (HGZ.out w2 hx.gone).2
    cases ho : quoteL s.data.toList with
    | none =>
      rw [ho] at hi
      obtain rfl : e = .panicked [{ v := .iface 24 (.int .i64 6), recovered := false }] := hi
      have HO := Lib.hid (show rdL s.data.toList = none by rw [HRD.out, ho]; rfl)
      clear ho hx hz2
      go_wp2_with fail
      exact ⟨rfl, ⟨HGO.out, by rw [HO.out]; rfl⟩⟩
    | some p =>
      rw [ho] at hi
      obtain ⟨rfl, hrd⟩ := hi
      have HR2 := Lib.hid hrd
      have HO := Lib.hid (show rdL s.data.toList = some (.mk 2 0 ⟨p.1.toArray⟩ [] [], p.2) by rw [HRD.out, ho]; rfl)
      have hks : (⟨p.1.toArray⟩ : ByteArray).size ≤ maxLen := by
        have h1 := quoteL_short _ _ ho
        have h2 := Lib.size_eq s
        have h3 := HSZ.out
        rw [Lib.size_eq]
        simp only [maxLen]
        omega
      obtain ⟨x, hxk⟩ : ∃ x : ByteArray, (⟨p.1.toArray⟩ : ByteArray) = x := ⟨_, rfl⟩
      rw [hxk] at HO hks ⊢
      have HV := Lib.hid (ValIn.plain (fun b => w.heap.size + 1 ≤ b) w2 2 0 x (by decide) (by decide) hks)
      have HZ2 := Lib.hid hz2
      obtain ⟨z0, z1, z2, z3, z4⟩ := hz2.cells
      have f0 := hz2.frozen 0
      have f1 := hz2.frozen 1
      have f2 := hz2.frozen 2
      have f3 := hz2.frozen 3
      have f4 := hz2.frozen 4
      clear ho hx hz2 hrd hks hxk
      go_wp2_with fail
      exact bodyPost_ret (results_cell_row (p := 2) rfl _ _ w.heap.size 71 _ (0, 0) _ rfl (set5_five0 HZ2.out _ _ _ _ _) Tryz.underlying71 rfl valSize) rfl (val_done (Nat.le_refl _) (Nat.lt_succ_self _) HLT.out HGO.out HR2.out HV.out HO.out)
  | false =>
    rw [h34] at A1
    cases h91 : headB s 91 with
    | true =>
      rw [h91] at A2
      have C := Lib.hid (row_t B s W0 hr0 he0 hB hsz h91 CV)
      clear A3 h34 h91 hr he hB CV hs0 hbw hz5 hr0 he0 hW0 hsz
      go_enter Tryz.func122, Tryz.ntmps122
      go_wp2_with fail
      rw [HW0.out]
      refine A1.out.mono ?_
      rintro e w1 ⟨rfl, rfl⟩
      go_wp2_with fail
      refine A2.out.mono ?_
      rintro e w1 ⟨rfl, rfl⟩
      go_wp2_with fail
      refine C.out.mono ?_
      intro e w2 hx
      have hi := hx.is
      have HGO := Lib.hid (HGZ.out w2 hx.gone).1
      have hz2 := (HGZ.out w2 hx.gone).2
      cases ho : rdL s.data.toList with
      | none =>
        rw [ho] at hi
        obtain rfl : e = .panicked [{ v := .iface 24 (.int .i64 6), recovered := false }] := hi
        have HO := Lib.hid ho
        clear ho hx hz2
        go_wp2_with fail
        exact ⟨rfl, ⟨HGO.out, by rw [HO.out]; rfl⟩⟩
      | some p =>
        rw [ho] at hi
        obtain ⟨v, rfl, hv, hrd⟩ := hi
        obtain ⟨xk, xn, xs', xia, xna, xli, xic, xnn, xnc, rfl⟩ := hv.isVal.shape
        rw [HS0.out] at hv
        have HR2 := Lib.hid hrd
        have HO := Lib.hid (show rdL s.data.toList = some (p.1, p.2) from ho)
        have HV := Lib.hid hv
        have HZ2 := Lib.hid hz2
        obtain ⟨z0, z1, z2, z3, z4⟩ := hz2.cells
        have f0 := hz2.frozen 0
        have f1 := hz2.frozen 1
        have f2 := hz2.frozen 2
        have f3 := hz2.frozen 3
        have f4 := hz2.frozen 4
        clear ho hx hz2 hrd hv
        go_wp2_with fail
        exact bodyPost_ret (results_cell_row (p := 2) rfl _ _ w.heap.size 71 _ (0, 0) _ rfl (set5_five0 HZ2.out _ _ _ _ _) Tryz.underlying71 rfl valSize) rfl (val_done (Nat.le_refl _) (Nat.lt_succ_self _) HLT.out HGO.out HR2.out HV.out HO.out)
    | false =>
      rw [h91] at A2
      cases h123 : headB s 123 with
      | true =>
        rw [h123] at A3
        have C := Lib.hid (object_t B s W0 hr0 he0 hB hsz h123 CV)
        clear h34 h91 h123 hr he hB CV hs0 hbw hz5 hr0 he0 hW0 hsz
        go_enter Tryz.func122, Tryz.ntmps122
        go_wp2_with fail
        rw [HW0.out]
        refine A1.out.mono ?_
        rintro e w1 ⟨rfl, rfl⟩
        go_wp2_with fail
        refine A2.out.mono ?_
        rintro e w1 ⟨rfl, rfl⟩
        go_wp2_with fail
        refine A3.out.mono ?_
        rintro e w1 ⟨rfl, rfl⟩
        go_wp2_with fail
        refine C.out.mono ?_
        intro e w2 hx
        have hi := hx.is
        have HGO := Lib.hid (HGZ.out w2 hx.gone).1
        have hz2 := (HGZ.out w2 hx.gone).2
        cases ho : rdL s.data.toList with
        | none =>
          rw [ho] at hi
          obtain rfl : e = .panicked [{ v := .iface 24 (.int .i64 6), recovered := false }] := hi
          have HO := Lib.hid ho
          clear ho hx hz2
          go_wp2_with fail
          exact ⟨rfl, ⟨HGO.out, by rw [HO.out]; rfl⟩⟩
        | some p =>
          rw [ho] at hi
          obtain ⟨v, rfl, hv, hrd⟩ := hi
          obtain ⟨xk, xn, xs', xia, xna, xli, xic, xnn, xnc, rfl⟩ := hv.isVal.shape
          rw [HS0.out] at hv
          have HR2 := Lib.hid hrd
          have HO := Lib.hid (show rdL s.data.toList = some (p.1, p.2) from ho)
          have HV := Lib.hid hv
          have HZ2 := Lib.hid hz2
          obtain ⟨z0, z1, z2, z3, z4⟩ := hz2.cells
          have f0 := hz2.frozen 0
          have f1 := hz2.frozen 1
          have f2 := hz2.frozen 2
          have f3 := hz2.frozen 3
          have f4 := hz2.frozen 4
          clear ho hx hz2 hrd hv
          go_wp2_with fail
          exact bodyPost_ret (results_cell_row (p := 2) rfl _ _ w.heap.size 71 _ (0, 0) _ rfl (set5_five0 HZ2.out _ _ _ _ _) Tryz.underlying71 rfl valSize) rfl (val_done (Nat.le_refl _) (Nat.lt_succ_self _) HLT.out HGO.out HR2.out HV.out HO.out)
      | false =>
        rw [h123] at A3
        have C := Lib.hid (whole_t B s W0 (by omega) hr0 he0)
        have HRD := Lib.hid (show rdL s.data.toList = wholeL s.data.toList from rdL_whole _ ⟨(fun e => by rw [← headB_head, h34] at e; cases e), (fun e => by rw [← headB_head, h91] at e; cases e), (fun e => by rw [← headB_head, h123] at e; cases e)⟩)
        clear hr he hB CV hs0 hbw hz5 hr0 he0 hW0 hsz h34 h91 h123
        go_enter Tryz.func122, Tryz.ntmps122
        go_wp2_with fail
        rw [HW0.out]
        refine A1.out.mono ?_
        rintro e w1 ⟨rfl, rfl⟩
        go_wp2_with fail
        refine A2.out.mono ?_
        rintro e w1 ⟨rfl, rfl⟩
        go_wp2_with fail
        refine A3.out.mono ?_
        rintro e w1 ⟨rfl, rfl⟩
        go_wp2_with fail
        refine C.out.mono ?_
        intro e w2 hx
        have hi := hx.is
        have HGO := Lib.hid (HGZ.out w2 hx.gone).1
        have hz2 := (HGZ.out w2 hx.gone).2
        cases ho : wholeL s.data.toList with
        | none =>
          rw [ho] at hi
          obtain rfl : e = .panicked [{ v := .iface 24 (.int .i64 6), recovered := false }] := hi
          have HO := Lib.hid (show rdL s.data.toList = none by rw [HRD.out, ho])
          clear ho hx hz2
          go_wp2_with fail
          exact ⟨rfl, ⟨HGO.out, by rw [HO.out]; rfl⟩⟩
        | some p =>
          rw [ho] at hi
          obtain ⟨m, hp1, n0, n1, rfl, hrd⟩ := hi
          have HR2 := Lib.hid hrd
          have HO := Lib.hid (show rdL s.data.toList = some (.mk 1 m ⟨#[]⟩ [] [], p.2) by rw [HRD.out, ho, ← hp1])
          have HV := Lib.hid (ValIn.plain (fun b => w.heap.size + 1 ≤ b) w2 1 m ⟨#[]⟩ (by decide) ⟨n0, n1⟩ (by decide))
          have HZ2 := Lib.hid hz2
          obtain ⟨z0, z1, z2, z3, z4⟩ := hz2.cells
          have f0 := hz2.frozen 0
          have f1 := hz2.frozen 1
          have f2 := hz2.frozen 2
          have f3 := hz2.frozen 3
          have f4 := hz2.frozen 4
          clear ho hx hz2 hrd hp1 n0 n1
          go_wp2_with fail
          exact bodyPost_ret (results_cell_row (p := 2) rfl _ _ w.heap.size 71 _ (0, 0) _ rfl (set5_five0 HZ2.out _ _ _ _ _) Tryz.underlying71 rfl valSize) rfl (val_done (Nat.le_refl _) (Nat.lt_succ_self _) HLT.out HGO.out HR2.out HV.out HO.out)

set_option maxRecDepth 100000 in
set_option maxHeartbeats 4000000 in
theorem value_go : ∀ (n : Nat) (s : ByteArray), s.size ≤ n → s.size ≤ 4096 → ∀ (B : Nat) (w : World), RdAt w B s → TEnv w → 13 ≤ B →
    Calls Tryz.prog 122 #[.pointer (some ⟨B, 0, none⟩)] w fun e w' => ValEnds B s w e w' := by
  intro n
  induction n with
  | zero =>
    intro s hs
    intro hsz B w hr he hB
    exact value_step s hsz B w hr he hB (fun t ht => absurd ht (by omega))
  | succ n ih =>
    intro s hs hsz B w hr he hB
    exact value_step s hsz B w hr he hB (fun t ht w hr he => ih t (by omega) (by omega) B w hr he hB)
end Go.Proofs.YtepcaglekgeamaaGreatDoor
