/- Save and Load over the document's disk. Conditions: lengths; the table holds its numbers. -/
import Derived.Test.YtafiokabnlmgpaaGreatDoorUnpack
import Derived.Test.YtafiokabnlmgpaaGreatDoorAtS2
namespace Go.Proofs.YtafiokabnlmgpaaGreatDoor
open Go.RowKit Go.Maps

theorem bstr_append (a b : Bs) : bstr a ++ bstr b = bstr (a ++ b) := by
  apply ByteArray.ext
  rw [ByteArray.data_append]
  simp [bstr]
def draft (n : Bs) : Bs := n ++ [126]
/-- what Save makes of a disk, and its answer. -/
def psave (p : PD) (n b : Bs) : PD × Int :=
  if n.length < 1 ∨ 15 < n.length then (p, 1)
  else if (pRemove p (draft n)).2 ≠ 0 ∧ (pRemove p (draft n)).2 ≠ 60 then pRemove p (draft n)
  else if (pAppend (pRemove p (draft n)).1 (draft n) (pk b)).2 ≠ 0 then pAppend (pRemove p (draft n)).1 (draft n) (pk b)
  else if (pSync (pAppend (pRemove p (draft n)).1 (draft n) (pk b)).1 (draft n)).2 ≠ 0 then pSync (pAppend (pRemove p (draft n)).1 (draft n) (pk b)).1 (draft n)
  else pRename (pSync (pAppend (pRemove p (draft n)).1 (draft n) (pk b)).1 (draft n)).1 (draft n) n
def pload (p : PD) (n : Bs) : Bs × Int := if (pRead p n).2 ≠ 0 then ([], (pRead p n).2) else ((unpk (pRead p n).1).1, (unpk (pRead p n).1).2)
def CallPost (w wr : World) (gd : Nat) (r : PD × Int) (S : Nat → Prop) (e : Ending) (w' : World) : Prop := e = .returned (.int .i64 r.2) ∧ AtS w w' gd r.1 S ∧ Fr (Loose w S) wr w'
def LoadPost (w w' : World) (e : Ending) (u : Bs × Int) : Prop := ∃ v', e = .returned (.tuple #[v', .int .i64 u.2]) ∧ New w w' v' u.1
theorem pfind_len {L : List PF} {k : Bs} {x : PF} (h : pfind L k = some x) : x.data.length ≤ ptotal L := by
  induction L with
  | nil => cases h
  | cons f t ih =>
    unfold pfind at h
    split at h
    · injection h with h
      subst h
      exact Nat.le_add_right _ _
    · have := ih h
      show _ ≤ f.data.length + ptotal t
      omega
theorem pread_len (p : PD) (k : Bs) : (pRead p k).1.length ≤ ptotal p.files := by
  unfold pRead
  split
  · exact Nat.zero_le _
  · split
    · exact Nat.zero_le _
    · rename_i x h
      exact pfind_len h
set_option maxRecDepth 100000 in
set_option maxHeartbeats 1000000 in
theorem load_any (w wr : World) (gd : Nat) (p : PD) (S : Nat → Prop) (h : AtS w wr gd p S) (ht : Tab w) (k : Bs) (hk : k.length ≤ maxLen) :
    Calls Tryz.prog 52 #[.pointer (some ⟨gd, 0, none⟩), .string (bstr k)] wr fun e w' => LoadPost wr w' e (pload p k) := by
  have hl := pread_len p k
  have hft := h.fits
  have HR := Lib.hid (readS h k hk)
  have HT := Lib.hid (ht.fr h.fr fun h => h)
  have HPL : Hid (pload p k = if (pRead p k).2 ≠ 0 then ([], (pRead p k).2) else ((unpk (pRead p k).1).1, ((unpk (pRead p k).1).2 : Int))) := rfl
  generalize pload p k = q at *
  generalize pRead p k = r at *
  generalize bstr k = ks at *
  obtain ⟨d, er⟩ := r
  dsimp only at hl HPL
  have hd : d.length ≤ 10000000 := by omega
  clear hl hft h ht hk
  go_enter Tryz.func52, Tryz.ntmps52
  go_wp2_with fail
  refine HR.out.mono ?_
  clear HR
  rintro e w1 ⟨A1, c1, rfl, hg⟩
  have HG := Lib.hid hg
  clear hg
  dsimp only at HG ⊢
  by_cases h0 : er = 0
  · subst h0
    have HU := Lib.hid (unpack_any w1 (HT.out.fr HG.out.got.fr fun h => h) A1 c1 d ⟨HG.out.got.rd, HG.out.got.nil⟩ HG.out.got.le hd)
    generalize d.length = dl at *
    go_wp2_with fail
    refine HU.out.mono ?_
    clear HU
    rintro e w2 ⟨v2, rfl, hn2⟩
    have HZ : Hid (LoadPost wr w2 (.returned (.tuple #[v2, .int .i64 (unpk d).2])) q) := by
      rw [HPL.out, if_neg (by simp)]
      exact ⟨v2, rfl, own_base hn2.own HG.out.got.fr.size, HG.out.got.fr.trans hn2.fr⟩
    clear hn2
    go_wp2_with fail
    go_ret2
    exact HZ.out
  · have t1 : (er != 0) = true := by rw [bne_iff_ne]; exact h0
    have HZ : Hid (LoadPost wr w1 (.returned (.tuple #[.slice none 0 0, .int .i64 er])) q) := by
      rw [HPL.out, if_pos h0]
      exact ⟨_, rfl, World.ownsRow_nil _ _ _ _, HG.out.got.fr⟩
    generalize d.length = dl at *
    go_wp2_with fail
    go_ret2
    exact HZ.out
set_option maxRecDepth 100000 in
set_option maxHeartbeats 4000000 in
theorem save_any (w wr : World) (gd : Nat) (p : PD) (S : Nat → Prop) (h : AtS w wr gd p S) (hS : ∀ k, S k → k < wr.heap.size) (ht : Tab w) (n : Bs) (hn : n.length ≤ maxLen) (A : Option Addr) (c : Nat) (b : Bs) (hb : Part wr (A, c, b)) (hc : b.length ≤ c) (hbl : b.length ≤ 1000000) (hA : 0 < b.length → ∀ k, ablk A k → k < w.heap.size ∨ S k) :
    Calls Tryz.prog 51 #[.pointer (some ⟨gd, 0, none⟩), .string (bstr n), .slice A b.length c] wr fun e w' => CallPost w wr gd (psave p n b) S e w' := by
  have HP : Hid (psave p n b = psave p n b) := rfl
  have HSV : Hid (∀ e w', CallPost w wr gd (psave p n b) S e w' → CallPost w wr gd (psave p n b) S e w') := fun _ _ h => h
  have HHB := Lib.hid hb
  have HC := Lib.hid hc
  have HBA := Lib.hid hA
  have HT := Lib.hid ht
  have HS := Lib.hid hS
  have z0 := bstr_size n
  have HND : Hid (bstr n ++ { data := #[126] } = bstr (draft n)) := bstr_append n [126]
  have HDN : Hid ((draft n).length = n.length + 1) := by show _ = _; simp [draft]
  unfold maxLen at hn
  have HF0 : Hid (Fr (Loose w S) wr wr) := Fr.refl _ _
  have HAT := Lib.hid h
  by_cases hl0 : n.length < 1
  · have HZ : Hid (CallPost w wr gd (psave p n b) S (.returned (.int .i64 1)) wr) := by
      unfold psave
      rw [if_pos (.inl hl0)]
      exact ⟨rfl, h, Fr.refl _ _⟩
    have z1 : (bstr n).size < 1 := by omega
    have z2 : (bstr n).size ≤ 9223372036854775807 := by omega
    generalize bstr n = nm at *
    generalize psave p n b = rr at *
    clear h hS ht hb hc hA z0 HP HSV
    generalize b.length = bl at *
    go_enter Tryz.func51, Tryz.ntmps51
    go_wp2_with fail
    go_ret
    exact HZ.out
  by_cases hl1 : 15 < n.length
  · have HZ : Hid (CallPost w wr gd (psave p n b) S (.returned (.int .i64 1)) wr) := by
      unfold psave
      rw [if_pos (.inr hl1)]
      exact ⟨rfl, h, Fr.refl _ _⟩
    have z1 : ¬ (bstr n).size < 1 := by omega
    have z3 : 15 < (bstr n).size := by omega
    have z2 : (bstr n).size ≤ 9223372036854775807 := by omega
    generalize bstr n = nm at *
    generalize psave p n b = rr at *
    clear h hS ht hb hc hA z0 HP HSV
    generalize b.length = bl at *
    go_enter Tryz.func51, Tryz.ntmps51
    go_wp2_with fail
    go_ret
    exact HZ.out
  have HPS : Hid (psave p n b = if (pRemove p (draft n)).2 ≠ 0 ∧ (pRemove p (draft n)).2 ≠ 60 then pRemove p (draft n)
      else if (pAppend (pRemove p (draft n)).1 (draft n) (pk b)).2 ≠ 0 then pAppend (pRemove p (draft n)).1 (draft n) (pk b)
      else if (pSync (pAppend (pRemove p (draft n)).1 (draft n) (pk b)).1 (draft n)).2 ≠ 0 then pSync (pAppend (pRemove p (draft n)).1 (draft n) (pk b)).1 (draft n)
      else pRename (pSync (pAppend (pRemove p (draft n)).1 (draft n) (pk b)).1 (draft n)).1 (draft n) n) := by
    show _ = _
    unfold psave
    rw [if_neg (by omega)]
  have hdl : (draft n).length ≤ maxLen := by have := HDN.out; unfold maxLen; omega
  have hnl : n.length ≤ maxLen := by unfold maxLen; omega
  have HDL := Lib.hid hdl
  have hr1 := removeS h hS (draft n) hdl
  rw [← HND.out] at hr1
  have HR := Lib.hid hr1
  have z1 : ¬ (bstr n).size < 1 := by omega
  have z3 : ¬ 15 < (bstr n).size := by omega
  have z2 : (bstr n).size ≤ 15 := by omega
  have HNL := Lib.hid hnl
  generalize psave p n b = rr at *
  clear h hS ht hb hc hA z0 hdl hnl hr1 hn hl0 hl1 HP HSV
  obtain ⟨bl, hbl'⟩ : ∃ bl, bl = b.length := ⟨_, rfl⟩
  have HBL := Lib.hid hbl'
  rw [← hbl'] at hbl ⊢
  clear hbl'
  obtain ⟨nm, hnm⟩ : ∃ nm, nm = bstr n := ⟨_, rfl⟩
  rw [← hnm] at z1 z2 z3 HR HND ⊢
  have HNM := Lib.hid hnm
  clear hnm
  go_enter Tryz.func51, Tryz.ntmps51
  go_wp2_with fail
  refine HR.out.mono ?_
  clear HR
  rintro e w1 ⟨rfl, h1, hf1⟩
  have HAT1 := Lib.hid h1
  have HF1 := Lib.hid hf1
  clear h1 hf1
  generalize pRemove p (draft n) = r1 at *
  obtain ⟨p1, e1⟩ := r1
  dsimp only at HAT1 HPS ⊢
  by_cases h10 : e1 = 0
  · subst h10
    have HSL1 : Hid (∀ k, S k → k < w1.heap.size) := fun k hk => Nat.lt_of_lt_of_le (HS.out k hk) HF1.out.size
    have hpt : Part w1 (A, c, b) := ⟨HHB.out.1.fr' HF1.out fun hpos k hk hlo => by
        rcases HBA.out (by rw [cb_length] at hpos; exact hpos) k hk with h | h
        · have := hlo.2; omega
        · exact hlo.1 h, HHB.out.2⟩
    have hpk := pack_any w1 (HT.out.fr HAT1.out.fr fun h => h) A c b hpt HC.out (by have := HBL.out; omega)
    rw [← HBL.out] at hpk
    have HPK := Lib.hid hpk
    clear hpt hpk
    go_wp2_with fail
    refine HPK.out.mono ?_
    clear HPK
    rintro e w2 ⟨v2, rfl, hn2⟩
    obtain ⟨A2, c2, rfl, hc2, hA2⟩ := own_form hn2.own
    have HF2 : Hid (Fr (Loose w S) wr w2) := HF1.out.trans (hn2.fr.mono fun _ _ h => h.elim)
    have HAT2 := Lib.hid (HAT1.out.nofr hn2.fr)
    have HSL2 : Hid (∀ k, S k → k < w2.heap.size) := fun k hk => Nat.lt_of_lt_of_le (HS.out k hk) HF2.out.size
    have hap := appendS HAT2.out HSL2.out (draft n) HDL.out A2 (pk b).length c2 (pk b) rfl (Rd.of_own hn2.own) hA2 (by have := pk_len b (by rw [← HBL.out]; omega); rw [← HBL.out] at this; unfold maxLen; omega)
    rw [← HND.out] at hap
    have HAP := Lib.hid hap
    clear hap hn2 hc2 hA2
    generalize (pk b).length = pl at *
    go_wp2_with fail
    refine HAP.out.mono ?_
    clear HAP
    rintro e w3 ⟨rfl, h3, hf3⟩
    have HAT3 := Lib.hid h3
    have HF3 := Lib.hid (HF2.out.trans hf3)
    clear h3 hf3
    generalize pAppend p1 (draft n) (pk b) = r2 at *
    obtain ⟨p2, e2⟩ := r2
    dsimp only at HAT3 HPS ⊢
    by_cases h20 : e2 = 0
    · subst h20
      have HSL3 : Hid (∀ k, S k → k < w3.heap.size) := fun k hk => Nat.lt_of_lt_of_le (HS.out k hk) HF3.out.size
      have hsy := syncS HAT3.out HSL3.out (draft n) HDL.out
      rw [← HND.out] at hsy
      have HSY := Lib.hid hsy
      clear hsy
      go_wp2_with fail
      refine HSY.out.mono ?_
      clear HSY
      rintro e w4 ⟨rfl, h4, hf4⟩
      have HAT4 := Lib.hid h4
      have HF4 := Lib.hid (HF3.out.trans hf4)
      clear h4 hf4
      generalize pSync p2 (draft n) = r3 at *
      obtain ⟨p3, e3⟩ := r3
      dsimp only at HAT4 HPS ⊢
      by_cases h30 : e3 = 0
      · subst h30
        have HSL4 : Hid (∀ k, S k → k < w4.heap.size) := fun k hk => Nat.lt_of_lt_of_le (HS.out k hk) HF4.out.size
        have hre := renameS HAT4.out HSL4.out (draft n) HDL.out n HNL.out
        rw [← HND.out, ← HNM.out] at hre
        have HRE := Lib.hid hre
        clear hre
        go_wp2_with fail
        refine HRE.out.mono ?_
        clear HRE
        rintro e w5 ⟨rfl, h5, hf5⟩
        have HZ : Hid (CallPost w wr gd rr S (.returned (.int .i64 (pRename p3 (draft n) n).2)) w5) := by
          rw [HPS.out, if_neg (by simp), if_neg (by simp), if_neg (by simp)]
          exact ⟨rfl, h5, HF4.out.trans hf5⟩
        clear h5 hf5
        go_wp2_with fail
        go_ret
        exact HZ.out
      · have t1 : (e3 != 0) = true := by rw [bne_iff_ne]; exact h30
        have HZ : Hid (CallPost w wr gd rr S (.returned (.int .i64 e3)) w4) := by
          rw [HPS.out, if_neg (by simp), if_neg (by simp), if_pos h30]
          exact ⟨rfl, HAT4.out, HF4.out⟩
        go_wp2_with fail
        go_ret
        exact HZ.out
    · have t1 : (e2 != 0) = true := by rw [bne_iff_ne]; exact h20
      have HZ : Hid (CallPost w wr gd rr S (.returned (.int .i64 e2)) w3) := by
        rw [HPS.out, if_neg (by simp), if_pos h20]
        exact ⟨rfl, HAT3.out, HF3.out⟩
      go_wp2_with fail
      go_ret
      exact HZ.out
  by_cases h16 : e1 = 60
  · subst h16
    have HSL1 : Hid (∀ k, S k → k < w1.heap.size) := fun k hk => Nat.lt_of_lt_of_le (HS.out k hk) HF1.out.size
    have hpt : Part w1 (A, c, b) := ⟨HHB.out.1.fr' HF1.out fun hpos k hk hlo => by
        rcases HBA.out (by rw [cb_length] at hpos; exact hpos) k hk with h | h
        · have := hlo.2; omega
        · exact hlo.1 h, HHB.out.2⟩
    have hpk := pack_any w1 (HT.out.fr HAT1.out.fr fun h => h) A c b hpt HC.out (by have := HBL.out; omega)
    rw [← HBL.out] at hpk
    have HPK := Lib.hid hpk
    clear hpt hpk
    go_wp2_with fail
    refine HPK.out.mono ?_
    clear HPK
    rintro e w2 ⟨v2, rfl, hn2⟩
    obtain ⟨A2, c2, rfl, hc2, hA2⟩ := own_form hn2.own
    have HF2 : Hid (Fr (Loose w S) wr w2) := HF1.out.trans (hn2.fr.mono fun _ _ h => h.elim)
    have HAT2 := Lib.hid (HAT1.out.nofr hn2.fr)
    have HSL2 : Hid (∀ k, S k → k < w2.heap.size) := fun k hk => Nat.lt_of_lt_of_le (HS.out k hk) HF2.out.size
    have hap := appendS HAT2.out HSL2.out (draft n) HDL.out A2 (pk b).length c2 (pk b) rfl (Rd.of_own hn2.own) hA2 (by have := pk_len b (by rw [← HBL.out]; omega); rw [← HBL.out] at this; unfold maxLen; omega)
    rw [← HND.out] at hap
    have HAP := Lib.hid hap
    clear hap hn2 hc2 hA2
    generalize (pk b).length = pl at *
    go_wp2_with fail
    refine HAP.out.mono ?_
    clear HAP
    rintro e w3 ⟨rfl, h3, hf3⟩
    have HAT3 := Lib.hid h3
    have HF3 := Lib.hid (HF2.out.trans hf3)
    clear h3 hf3
    generalize pAppend p1 (draft n) (pk b) = r2 at *
    obtain ⟨p2, e2⟩ := r2
    dsimp only at HAT3 HPS ⊢
    by_cases h20 : e2 = 0
    · subst h20
      have HSL3 : Hid (∀ k, S k → k < w3.heap.size) := fun k hk => Nat.lt_of_lt_of_le (HS.out k hk) HF3.out.size
      have hsy := syncS HAT3.out HSL3.out (draft n) HDL.out
      rw [← HND.out] at hsy
      have HSY := Lib.hid hsy
      clear hsy
      go_wp2_with fail
      refine HSY.out.mono ?_
      clear HSY
      rintro e w4 ⟨rfl, h4, hf4⟩
      have HAT4 := Lib.hid h4
      have HF4 := Lib.hid (HF3.out.trans hf4)
      clear h4 hf4
      generalize pSync p2 (draft n) = r3 at *
      obtain ⟨p3, e3⟩ := r3
      dsimp only at HAT4 HPS ⊢
      by_cases h30 : e3 = 0
      · subst h30
        have HSL4 : Hid (∀ k, S k → k < w4.heap.size) := fun k hk => Nat.lt_of_lt_of_le (HS.out k hk) HF4.out.size
        have hre := renameS HAT4.out HSL4.out (draft n) HDL.out n HNL.out
        rw [← HND.out, ← HNM.out] at hre
        have HRE := Lib.hid hre
        clear hre
        go_wp2_with fail
        refine HRE.out.mono ?_
        clear HRE
        rintro e w5 ⟨rfl, h5, hf5⟩
        have HZ : Hid (CallPost w wr gd rr S (.returned (.int .i64 (pRename p3 (draft n) n).2)) w5) := by
          rw [HPS.out, if_neg (by simp), if_neg (by simp), if_neg (by simp)]
          exact ⟨rfl, h5, HF4.out.trans hf5⟩
        clear h5 hf5
        go_wp2_with fail
        go_ret
        exact HZ.out
      · have t1 : (e3 != 0) = true := by rw [bne_iff_ne]; exact h30
        have HZ : Hid (CallPost w wr gd rr S (.returned (.int .i64 e3)) w4) := by
          rw [HPS.out, if_neg (by simp), if_neg (by simp), if_pos h30]
          exact ⟨rfl, HAT4.out, HF4.out⟩
        go_wp2_with fail
        go_ret
        exact HZ.out
    · have t1 : (e2 != 0) = true := by rw [bne_iff_ne]; exact h20
      have HZ : Hid (CallPost w wr gd rr S (.returned (.int .i64 e2)) w3) := by
        rw [HPS.out, if_neg (by simp), if_pos h20]
        exact ⟨rfl, HAT3.out, HF3.out⟩
      go_wp2_with fail
      go_ret
      exact HZ.out
  have t1 : (e1 != 0) = true := by rw [bne_iff_ne]; exact h10
  have t2 : (e1 != 60) = true := by rw [bne_iff_ne]; exact h16
  have HZ : Hid (CallPost w wr gd rr S (.returned (.int .i64 e1)) w1) := by
    rw [HPS.out, if_pos ⟨h10, h16⟩]
    exact ⟨rfl, HAT1.out, HF1.out⟩
  go_wp2_with fail
  go_ret
  exact HZ.out
end Go.Proofs.YtafiokabnlmgpaaGreatDoor
