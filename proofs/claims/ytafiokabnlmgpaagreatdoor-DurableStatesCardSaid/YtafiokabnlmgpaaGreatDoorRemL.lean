/- The log's removeLater. Condition: the disk's power has no end. -/
import Derived.Test.YtafiokabnlmgpaaGreatDoorNamesN
namespace Go.Proofs.YtafiokabnlmgpaaGreatDoor
open Go.RowKit Go.Maps

structure RemAt (w w1 wr : World) (gd gl : Nat) (p : PD) (L : PL) (S' : Nat → Prop) (i : Nat) (M : List PF) : Prop where
  wl : WL w wr gd { p with files := M } gl L S'
  fr : Fr (Loose w S') w1 wr
  dl : ldel L.name L.last (9 - L.last - i) M = ldel L.name L.last (9 - L.last) p.files
  same : ∀ j, j ≤ 9 - i → pfind M (lfile L.name j) = pfind p.files (lfile L.name j)
def LRemPost (w w0 : World) (gd gl : Nat) (p : PD) (L : PL) (S : Nat → Prop) (e : Ending) (w' : World) : Prop := e = .returned (.int .i64 0) ∧ WL w w' gd (lrem p L) gl L S ∧ Fr (Loose w S) w0 w'
theorem RemAt.skip {w w1 wr w' : World} {gd gl : Nat} {p : PD} {L : PL} {S' : Nat → Prop} {i : Nat} {M : List PF} (h : RemAt w w1 wr gd gl p L S' i M) (hi : L.last + i < 9) (hf : Fr NoBlk wr w') (hn : pfind p.files (lfile L.name (9 - i)) = none) : RemAt w w1 w' gd gl p L S' (i + 1) M := by
  refine ⟨h.wl.nofr hf, h.fr.trans (hf.mono fun _ _ h => h.elim), ?_, fun j hj => h.same j (by omega)⟩
  rw [← h.dl]
  obtain ⟨f, hf⟩ : ∃ f, 9 - L.last - i = f + 1 := ⟨9 - L.last - i - 1, by omega⟩
  rw [hf, show 9 - L.last - (i + 1) = f from by omega]
  show _ = ldel L.name L.last f (pdel M (lfile L.name (L.last + f + 1)))
  rw [del_none]
  rw [show L.last + f + 1 = 9 - i from by omega, h.same _ (by omega)]
  exact hn
theorem RemAt.drop {w w1 wr w' : World} {gd gl : Nat} {p : PD} {L : PL} {S' : Nat → Prop} {i : Nat} {M : List PF} (h : RemAt w w1 wr gd gl p L S' i M) (hi : L.last + i < 9) (hw : WL w w' gd { p with files := pdel M (lfile L.name (9 - i)) } gl L S') (hf : Fr (Loose w S') wr w') : RemAt w w1 w' gd gl p L S' (i + 1) (pdel M (lfile L.name (9 - i))) := by
  refine ⟨hw, h.fr.trans hf, ?_, fun j hj => ?_⟩
  · rw [← h.dl]
    obtain ⟨f, hf⟩ : ∃ f, 9 - L.last - i = f + 1 := ⟨9 - L.last - i - 1, by omega⟩
    rw [hf, show 9 - L.last - (i + 1) = f from by omega]
    show _ = ldel L.name L.last f (pdel M (lfile L.name (L.last + f + 1)))
    rw [show L.last + f + 1 = 9 - i from by omega]
  · rw [find_del, if_neg (fun e => by have := lfile_inj (by omega) (by omega) e; omega)]
    exact h.same j (by omega)

set_option maxRecDepth 100000 in
set_option maxHeartbeats 4000000 in
theorem lrem_any (w w0 : World) (gd gl : Nat) (p : PD) (L : PL) (S : Nat → Prop) (h : WL w w0 gd p gl L S) (hon : On' p) :
    Calls Tryz.prog 107 #[.pointer (some ⟨gl, 0, none⟩)] w0 (LRemPost w w0 gd gl p L S) := by
  have HW := Lib.hid h
  obtain ⟨g, hgp, hlg, hag, hsg, htg⟩ := h
  have hlast : g.last = L.last := congrArg PL.last hgp
  have hl9 : L.last ≤ 9 := by rw [← hlast]; exact hlg.lst
  have hnm8 : L.name.length ≤ 8 := by
    have e : g.name = L.name := congrArg PL.name hgp
    rw [← e]; exact hlg.nm
  have c0 : w0.cell? ⟨gl, 0, none⟩ = some (.pointer (some ⟨gd, 0, none⟩)) := hlg.bk.cell 0
  have HB := Lib.hid hlg.bk
  have HN := Lib.hid (namesN hag)
  have HON := Lib.hid hon
  have HLA := Lib.hid hlast
  have HTG := Lib.hid htg
  have hfl := hag.fits.2.2.1
  have e1 : IntKind.i64.wrap (9 - (L.last : Int)) = 9 - (L.last : Int) := IntWalk.i64_in _ (by omega)
  clear hgp hlg hag hsg htg hon hlast
  go_enter Tryz.func107, Tryz.ntmps107
  go_wp2_with fail
  refine HN.out.mono ?_
  clear HN
  rintro e w1 ⟨A1, c1, rfl, ht1⟩
  obtain ⟨ns, hns⟩ : ∃ ns, ns = p.files.map (·.name) := ⟨_, rfl⟩
  have hnl : ns.length ≤ 32 := by rw [hns, List.length_map]; exact hfl
  rw [← hns] at ht1 ⊢
  have HNS := Lib.hid hns
  have HRN := Lib.hid ht1.rd
  have d3 : w1.cell? ⟨gl, 3, none⟩ = some (.int .i64 L.last) := by
    rw [(HB.out.fr ht1.fr fun h => h).cell 3, ← HLA.out]
    rfl
  have HR0 : Hid (∃ M, RemAt w w1 w1 gd gl p L (fun k => S k ∨ ablk A1 k) 0 M) := by
    refine ⟨p.files, HW.out.widen ht1.fr (fun k hk => hk.imp id (ht1.new k)) (fun k hk => hk.elim (fun h => Nat.lt_of_lt_of_le (HTG.out k h) ht1.fr.size) (ht1.lt k)), Fr.refl _ _, rfl, fun _ _ => rfl⟩
  have HF1 : Hid (Fr (Loose w S) w0 w1) := ht1.fr.mono fun _ _ h => h.elim
  clear hns ht1 hfl HB HW HLA HTG c0
  go_wp2_with fail
  go_loopw [17] (fun s wr => ∃ (i : Nat), i ≤ 9 - L.last ∧ s = .int .i64 i ∧ Hid (∃ M, RemAt w w1 wr gd gl p L (fun k => S k ∨ ablk A1 k) i M)) (fun s _ => 9 - (intOf s).toNat)
  case atStart => exact ⟨0, Nat.zero_le _, rfl, HR0⟩
  case round =>
    clear HR0
    obtain ⟨i, hi, rfl, HX⟩ := hrel
    obtain ⟨M, hM⟩ := HX.out
    by_cases hlt : L.last + i < 9
    · obtain ⟨g, hgp, hlg, hag, hsg, htg⟩ := hM.wl
      have hnm : g.name = L.name := congrArg PL.name hgp
      have HFI : Hid (Calls Tryz.prog 123 #[.pointer (some ⟨gl, 0, none⟩), .int .i64 ((9 : Int) - (i : Int))] wr fun e w' => e = .returned (.string (bstr (lfile L.name (9 - i)))) ∧ wr = w') := by
        have h := file_any wr gd gl g hlg.bk hlg.nm (9 - i) (by omega)
        rw [hnm, show (((9 - i : Nat)) : Int) = (9 : Int) - (i : Int) from by omega] at h
        exact h
      have hrn : Rd wr A1 (sts ns) := HRN.out.fr hM.fr fun k hk hc => hc.1 (.inr hk)
      have HCO := Lib.hid (contains_any wr A1 ns.length c1 ns (lfile L.name (9 - i)) rfl hrn (by unfold maxLen; omega))
      have hlf : (lfile L.name (9 - i)).length ≤ maxLen := by rw [lfile_len]; unfold maxLen; omega
      have HRM := Lib.hid (removeS hag (Mine.lt hlg htg) (lfile L.name (9 - i)) hlf)
      have k0 : wr.cell? ⟨gl, 0, none⟩ = some (.pointer (some ⟨gd, 0, none⟩)) := hlg.bk.cell 0
      have e2 : IntKind.i64.wrap (9 - (i : Int)) = 9 - (i : Int) := IntWalk.i64_in _ (by omega)
      have HMA := Lib.hid hM
      have HLG := Lib.hid hlg
      have HGP := Lib.hid hgp
      have HSG := Lib.hid hsg
      have HTG := Lib.hid htg
      have f1 : (i : Int) < 9 - (L.last : Int) := by omega
      clear hM HX hgp hlg hag hsg htg hnm hrn hlf
      cases hin : inB ns (lfile L.name (9 - i)) with
      | false =>
        have HNX : Hid (∃ M, RemAt w w1 wr gd gl p L (fun k => S k ∨ ablk A1 k) (i + 1) M) := by
          refine ⟨M, HMA.out.skip hlt (Fr.refl _ _) ?_⟩
          cases hpf : pfind p.files (lfile L.name (9 - i)) with
          | none => rfl
          | some x =>
            have := (inB_iff ns (lfile L.name (9 - i))).2 (by rw [HNS.out]; exact named_find hpf)
            rw [hin] at this
            cases this
        rw [hin] at HCO
        clear hin HRM
        generalize lfile L.name (9 - i) = nk at *
        go_wp2_with fail
        refine HFI.out.mono ?_
        rintro e w3 ⟨rfl, rfl⟩
        clear HFI
        go_wp2_with fail
        refine HCO.out.mono ?_
        rintro e w4 ⟨rfl, rfl⟩
        clear HCO
        go_wp2_with fail
        go_roundw
        case rel => exact ⟨i + 1, by omega, by go_num, HNX⟩
        case measure => simp [intOf]; omega
      | true =>
        have HPX : Hid (∃ x, pfind M (lfile L.name (9 - i)) = some x) := by
          have h := (inB_iff ns (lfile L.name (9 - i))).1 hin
          rw [HNS.out] at h
          obtain ⟨x, hx⟩ := find_named h
          exact ⟨x, by rw [HMA.out.same _ (by omega)]; exact hx⟩
        rw [hin] at HCO
        have HQ : Hid (pRemove { p with files := M } (lfile L.name (9 - i)) = ({ p with files := pdel M (lfile L.name (9 - i)) }, 0)) := by
          obtain ⟨x, hx⟩ := HPX.out
          exact remove_on (p := { p with files := M }) HON.out hx
        rw [HQ.out] at HRM
        clear hin HPX HQ
        have HDR := Lib.hid fun w' hw hf => HMA.out.drop (w' := w') hlt hw hf
        generalize lfile L.name (9 - i) = nk at *
        go_wp2_with fail
        refine HFI.out.mono ?_
        rintro e w3 ⟨rfl, rfl⟩
        clear HFI
        go_wp2_with fail
        refine HCO.out.mono ?_
        rintro e w4 ⟨rfl, rfl⟩
        clear HCO
        go_wp2_with fail
        refine HRM.out.mono ?_
        clear HRM
        rintro e w5 ⟨rfl, ha5, hf5⟩
        have hw5 := WL.disk HGP.out HLG.out HSG.out HTG.out ha5 hf5
        have HNX : Hid (∃ M, RemAt w w1 w5 gd gl p L (fun k => S k ∨ ablk A1 k) (i + 1) M) := ⟨_, HDR.out w5 hw5.1 hw5.2⟩
        clear ha5 hf5 hw5 HDR
        go_wp2_with fail
        go_roundw
        case rel => exact ⟨i + 1, by omega, by go_num, HNX⟩
        case measure => simp [intOf]; omega
    · have HZ : Hid (LRemPost w w0 gd gl p L S (.returned (.int .i64 0)) wr) := by
        have h := hM.dl
        rw [show 9 - L.last - i = 0 from by omega] at h
        have h : M = _ := h
        refine ⟨rfl, ?_, HF1.out.trans (hM.fr.less fun k hk => .inl hk)⟩
        unfold lrem
        rw [← h]
        exact hM.wl.less fun k hk => .inl hk
      have f1 : ¬ (i : Int) < 9 - (L.last : Int) := by omega
      clear hM HX
      go_wp2_with fail
      go_ret
      exact HZ.out
end Go.Proofs.YtafiokabnlmgpaaGreatDoor
