/- WalKeeps is true: behind any crash a log has all records that were synced, and a beginning of those appended since. No condition but what the card ties. -/
import Derived.Test.YtibidileddfhpaaDoorKeepP
import Derived.Test.YtibidileddfhpaaDoorLaw
import Derived.Test.YtibidileddfhpaaDoorOpen2
import Derived.Deep.RegionHeld3
namespace Go.Proofs.YtibidileddfhpaaDoor.walKeeps
open Go.ChangeShapes Go.WideShapes Go.ChangeAt Go.RowKit

theorem low_bits (k : Int) (m : Nat) (hm : m ≤ 65535) : ∃ q : Nat, bits .and .i64 k (m : Int) = (q : Int) ∧ q ≤ m := by
  have e : (BitVec.ofInt 64 (m : Int)).toNat = m := by rw [BitVec.ofInt_natCast, BitVec.toNat_ofNat]; omega
  have hq : (BitVec.ofInt 64 k &&& BitVec.ofInt 64 (m : Int)).toNat ≤ m := by
    rw [BitVec.toNat_and]
    have := Nat.and_le_right (n := (BitVec.ofInt 64 k).toNat) (m := (BitVec.ofInt 64 (m : Int)).toNat)
    omega
  refine ⟨(BitVec.ofInt 64 k &&& BitVec.ofInt 64 (m : Int)).toNat, ?_, hq⟩
  show IntKind.i64.wrap (((BitVec.ofInt 64 k &&& BitVec.ofInt 64 (m : Int)).toNat : Nat) : Int) = _
  generalize (BitVec.ofInt 64 k &&& BitVec.ofInt 64 (m : Int)).toNat = q at *
  exact IntWalk.i64_in _ (by omega)
theorem one_sl (ps : List Prt) : ∀ u ∈ ps.map sl, u.oneCell' = true := by
  intro u hu
  obtain ⟨x, _, rfl⟩ := List.mem_map.1 hu
  rfl
def logN : Bs := [108, 111, 103]

theorem take_mid (a b : List Bs) (j : Nat) : a ++ b.take j = (a ++ b).take (a.length + j) := by
  have e : a.take (a.length + j) = a := List.take_of_length_le (by omega)
  rw [List.take_append, e, Nat.add_sub_cancel_left]
def KR (w1 wr : World) (gd gl : Nat) (v rv : Value) (rws : List Prt) (put i : Nat) : Prop := ∃ p L init cur s al, KA w1 wr gd gl p L init cur s logN v rv rws al put ∧ al.map (·.2.2) = L.recs ∧ al.length ≤ i

set_option maxRecDepth 100000 in
set_option maxHeartbeats 8000000 in
theorem walk (w : World) (ht : Tab w) (A : Option Addr) (c : Nat) (ps : List Prt) (A' : Option Addr) (c' : Nat) (qs : List Prt) (K : Option Addr) (kc : Nat) (ks : List Int) (size : Int)
    (hr : Rd w A (ps.map sl)) (hA : A = none → c = 0) (hp : ∀ p ∈ ps, Part w p ∧ p.2.2.length ≤ p.2.1 ∧ p.2.1 ≤ maxLen) (hm : ps.length ≤ maxLen)
    (hr' : Rd w A' (qs.map sl)) (hA' : A' = none → c' = 0) (hp' : ∀ p ∈ qs, Part w p ∧ p.2.2.length ≤ p.2.1 ∧ p.2.1 ≤ maxLen) (hm' : qs.length ≤ maxLen) (hk : Rd w K (ics ks)) (hkl : ks.length ≤ maxLen) :
    Calls Tryd.prog 3 #[.agg #[.slice A ps.length c, .slice A' qs.length c', .slice K ks.length kc], .int .i64 size] w fun e w' => e = .returned (.bool true) ∧ Fr NoBlk w w' := by
  have HF0 : Hid (Fr NoBlk w (w.alloc (.cells #[.slice A ps.length c, .slice A' qs.length c', .slice K ks.length kc] 25))) := (Fr.refl _ _).alloc _
  have HB0 : Hid (Bk (w.alloc (.cells #[.slice A ps.length c, .slice A' qs.length c', .slice K ks.length kc] 25)) w.heap.size 25 #[.slice A ps.length c, .slice A' qs.length c', .slice K ks.length kc]) := Bk.new _ _ _
  have HT := Lib.hid ht
  have HR := Lib.hid hr
  have HR' := Lib.hid hr'
  have HAC := Lib.hid hA
  have HAC' := Lib.hid hA'
  have HP := Lib.hid hp
  have HP' := Lib.hid hp'
  have HK := Lib.hid hk
  have HKL := Lib.hid hkl
  clear ht hr hp hr' hp' hk hkl hA hA'
  unfold maxLen at hm hm'
  obtain ⟨i0, hi, hz0, hz1, hz2⟩ := info_parts bytesInfo
  go_enter Tryd.func3, Tryd.ntmps3
  go_wp2_with fail
  refine (speaks_any _ (HT.out.fr HF0.out fun h => h)).mono ?_
  rintro e w1 ⟨rfl, hf1⟩
  have HF1 := Lib.hid (HF0.out.trans hf1)
  have HB1 := Lib.hid (HB0.out.fr hf1 fun h => h)
  have k01 : w1.cell? ⟨w.heap.size, 0, none⟩ = some (.slice A ps.length c) := HB1.out.cell 0
  have k11 : w1.cell? ⟨w.heap.size, 1, none⟩ = some (.slice A' qs.length c') := HB1.out.cell 1
  clear hf1 HB0 HF0
  by_cases hb1 : 40 < ps.length
  · go_wp2_with fail
    go_ret
    exact ⟨rfl, HF1.out⟩
  by_cases hb2 : 40 < qs.length
  · go_wp2_with fail
    go_ret
    exact ⟨rfl, HF1.out⟩
  obtain ⟨rq, hrq, hrq1⟩ := low_bits size 1023 (by omega)
  rw [show ((1023 : Nat) : Int) = 1023 from rfl] at hrq
  obtain ⟨sz, hsz⟩ : ∃ sz, sz = 16 + rq := ⟨_, rfl⟩
  have hsz2 : (16 : Int) + (rq : Int) = (sz : Int) := by omega
  have hsz3 : IntKind.i64.wrap (sz : Int) = (sz : Int) := IntWalk.i64_in _ (by omega)
  have hsz4 : 16 ≤ sz ∧ sz ≤ 65536 := by omega
  clear hsz hrq1
  go_wp2_with fail
  refine (new_at w1 w1 (Fr.refl _ _) 1048576 (by omega) (by omega)).mono ?_
  rintro e w2 ⟨gd, rfl, h2, hf2⟩
  have ha2 : AtS w1 w2 gd (pNew 1048576) NoS := h2.prot (Fr.refl NoBlk _) fun _ h => h.elim
  have hc := lopen_any w1 w2 gd (pNew 1048576) NoS ha2 (fun _ h => h.elim) (HT.out.fr HF1.out fun h => h) ⟨rfl, rfl⟩ logN (by simp [logN]) (by simp [logN]) sz hsz4.1 hsz4.2
  rw [lopen_new] at hc
  have HC := Lib.hid hc
  clear h2 hf2 ha2 hc k01 k11
  go_wp2_with fail
  refine HC.out.mono ?_
  clear HC
  rintro e w4 ⟨gl, rfl, hw4, _⟩
  have HW4 := Lib.hid hw4
  have HSZ4 : Hid (w1.heap.size ≤ w4.heap.size) := hw4.fr.size
  obtain ⟨w5, hw5⟩ : ∃ w5, w5 = w4.alloc (.cells #[] 34) := ⟨_, rfl⟩
  have HW5E := Lib.hid hw5
  have hf45 : Fr NoBlk w4 w5 := by rw [hw5]; exact (Fr.refl _ _).alloc _
  have HF5 : Hid (Fr NoBlk w1 w5) := hw4.fr.trans hf45
  have HS5 : Hid (w1.heap.size ≤ w5.heap.size) := HF5.out.size
  have HO4 : Hid (w5.ownsRow w1.heap.size 34 1 (.slice (some ⟨w4.heap.size, 0, none⟩) 0 0) 0 []) := by
    rw [hw5]
    exact World.ownsRow_made (base := w1.heap.size) (e := 34) (size := 1) w4 #[] 0 HSZ4.out (by decide) rfl
  have HLT5 : Hid (w4.heap.size < w5.heap.size) := by rw [hw5]; show _ < _; rw [World.size_alloc]; omega
  have HW45 : Hid (Fr NoBlk w4 w5) := hf45
  have HBX := Lib.hid HB1.out
  have HRP := Lib.hid (HR.out.nofr (HF1.out.trans HF5.out))
  have HRQ := Lib.hid (HR'.out.nofr HF1.out)
  have k05 : w5.cell? ⟨w.heap.size, 0, none⟩ = some (.slice A ps.length c) := (HBX.out.fr HF5.out fun h => h).cell 0
  have k15 : w5.cell? ⟨w.heap.size, 1, none⟩ = some (.slice A' qs.length c') := (HBX.out.fr HF5.out fun h => h).cell 1
  clear hw4 hf45 hw5
  go_wp2_with fail
  rw [← HW5E.out]
  refine wp_region_held_drew (S := fun w' => w'.cell? ⟨w.heap.size, 0, none⟩ = some (.slice A ps.length c) ∧ w'.cell? ⟨w.heap.size, 1, none⟩ = some (.slice A' qs.length c')) (by kernel_rfl) (by exact ⟨k05, k15⟩) (fun hHeld => ?_)
  refine wpAnyH_take (i := 1) (oi := ⟨some 48, _, _, _, _, _⟩) (v := ?_) rfl (by kernel_rfl) (by kernel_rfl) (by kernel_rfl) (fun _ _ _ h => h) (Or.inl ⟨by rfl, ?_⟩) (by assumption) ?_
  rotate_left 1
  · (intro w hSw; (try dsimp only at hSw); go_simp) <;> (with_reducible rfl)
  try simp only [Act.put, List.setIfInBounds_toArray, List.set_cons_zero, List.set_cons_succ]
  refine wpAnyH_take (i := 2) (oi := ⟨some 49, _, _, _, _, _⟩) (v := ?_) rfl (by kernel_rfl) (by kernel_rfl) (by kernel_rfl) (fun _ _ _ h => h) (Or.inl ⟨by rfl, ?_⟩) (by assumption) ?_
  rotate_left 1
  · (intro w hSw; (try dsimp only at hSw); go_simp) <;> (with_reducible rfl)
  try simp only [Act.put, List.setIfInBounds_toArray, List.set_cons_zero, List.set_cons_succ]
  refine wpAnyH_take (i := 4) (oi := ⟨some 51, _, _, _, _, _⟩) (v := ?_) rfl (by kernel_rfl) (by kernel_rfl) (by kernel_rfl) (fun _ _ _ h => h) (Or.inl ⟨by rfl, ?_⟩) (by assumption) ?_
  rotate_left 1
  · (intro w hSw; (try dsimp only at hSw); go_simp) <;> (with_reducible rfl)
  try simp only [Act.put, List.setIfInBounds_toArray, List.set_cons_zero, List.set_cons_succ]
  refine wpAnyH_take (i := 5) (oi := ⟨some 52, _, _, _, _, _⟩) (v := ?_) rfl (by kernel_rfl) (by kernel_rfl) (by kernel_rfl) (fun _ _ _ h => h) (Or.inl ⟨by rfl, ?_⟩) (by assumption) ?_
  rotate_left 1
  · (intro w hSw; (try dsimp only at hSw); go_simp) <;> (with_reducible rfl)
  try simp only [Act.put, List.setIfInBounds_toArray, List.set_cons_zero, List.set_cons_succ]
  refine wpAnyH_take (i := 8) (oi := ⟨some 55, _, _, _, _, _⟩) (v := ?_) rfl (by kernel_rfl) (by kernel_rfl) (by kernel_rfl) (fun _ _ _ h => h) (Or.inl ⟨by rfl, ?_⟩) (by assumption) ?_
  rotate_left 1
  · (intro w hSw; (try dsimp only at hSw); go_simp) <;> (with_reducible rfl)
  try simp only [Act.put, List.setIfInBounds_toArray, List.set_cons_zero, List.set_cons_succ]
  refine wpAnyH_ready (rs := [0]) (by kernel_rfl) (by simp) ?_
  refine AllReadyH.cons (o := ⟨some 47, _, _, _, _, _⟩) rfl (fun K hK => ?_) AllReadyH.nil
  go_simp
  have HF6 : Hid (Fr NoBlk w5 (w5.drew.alloc (.cells #[] 34))) := ((Fr.refl NoBlk w5).drew).alloc _
  have HB5 : Hid ((w5.drew.alloc (.cells #[] 34)).ownsRow w1.heap.size 34 1 (.slice (some ⟨w5.heap.size, 0, none⟩) 0 0) 0 []) := World.ownsRow_made (base := w1.heap.size) (e := 34) (size := 1) w5.drew #[] 0 HS5.out (by decide) rfl
  have k06 := (HBX.out.fr (HF5.out.trans HF6.out) fun h => h).cell 0
  have k16 := (HBX.out.fr (HF5.out.trans HF6.out) fun h => h).cell 1
  skip
  refine hK.out _ _ ?_ (fun hHeld => ?_)
  · first | exact ⟨k05, k15⟩ | exact ⟨k06, k16⟩ | exact ⟨k07, k17⟩ | exact ⟨k08, k18⟩
  clear hK K
  try simp only [Act.put, List.setIfInBounds_toArray, List.set_cons_zero, List.set_cons_succ]
  refine wpAnyH_ready (rs := [3]) (by kernel_rfl) (by simp) ?_
  refine AllReadyH.cons (o := ⟨some 50, _, _, _, _, _⟩) rfl (fun K hK => ?_) AllReadyH.nil
  refine step_app rfl _ _ 22 rfl w1.heap.size 34 i0 (.slice none 0 0) 24 Tryd.underlying22 hi hz0 hz1 hz2 rfl (.slice (some ⟨w5.heap.size, 0, none⟩) 0 0) 0 [] rfl HB5.out A c ps.length (ps.map sl) rfl (List.length_map _) (HRP.out.nofr HF6.out) (one_sl ps) HAC.out (by unfold maxLen; omega) (by omega) (by have := HF6.out.size; have := HS5.out; simp; omega) ?_
  intro v7 w7 ho7 hgrow7 _ hblk7
  have HO7 : Hid (w7.ownsRow w1.heap.size 34 1 v7 ps.length (ps.map sl)) := by
    have h := ho7
    rw [Nat.zero_add, List.nil_append] at h
    exact h
  have HF7 : Hid (Fr NoBlk w5 w7) := HF6.out.step (Fr.ofGrown hgrow7) fun i hi e => by
    have : w5.heap.size = i := by simpa [Value.ownBlock] using e.symm
    omega
  have HG7 : Hid (∀ k, v7.ownBlock = some k → w5.heap.size ≤ k) := fun k hk => by
    rcases hblk7 with e | e
    · rw [e] at hk
      have : w5.heap.size = k := by simpa [Value.ownBlock] using hk
      omega
    · rw [e] at hk
      injection hk with hk
      have e9 : w5.heap.size + 1 = k := by simpa using hk
      omega
  obtain ⟨A7, c7, rfl, hc7, hA7⟩ := own_form HO7.out
  have k07 := (HBX.out.fr (HF5.out.trans HF7.out) fun h => h).cell 0
  have k17 := (HBX.out.fr (HF5.out.trans HF7.out) fun h => h).cell 1
  clear ho7 hgrow7 hblk7 hc7 hA7
  skip
  refine hK.out _ _ ?_ (fun hHeld => ?_)
  · first | exact ⟨k05, k15⟩ | exact ⟨k06, k16⟩ | exact ⟨k07, k17⟩ | exact ⟨k08, k18⟩
  clear hK K
  try simp only [Act.put, List.setIfInBounds_toArray, List.set_cons_zero, List.set_cons_succ]
  refine wpAnyH_ready (rs := [6]) (by kernel_rfl) (by simp) ?_
  refine AllReadyH.cons (o := ⟨some 53, _, _, _, _, _⟩) rfl (fun K hK => ?_) AllReadyH.nil
  refine step_app rfl _ _ 22 rfl w1.heap.size 34 i0 (.slice none 0 0) 24 Tryd.underlying22 hi hz0 hz1 hz2 rfl (.slice A7 ps.length c7) ps.length (ps.map sl) rfl HO7.out A' c' qs.length (qs.map sl) rfl (List.length_map _) (HRQ.out.nofr (HF5.out.trans HF7.out)) (one_sl qs) HAC'.out (by unfold maxLen; omega) (by omega) (by have := HF7.out.size; have := HS5.out; omega) ?_
  intro v8 w8 ho8 hgrow8 _ hblk8
  have HO8 : Hid (w8.ownsRow w1.heap.size 34 1 v8 (ps.length + qs.length) ((ps ++ qs).map sl)) := by
    have h := ho8
    rw [← List.map_append] at h
    exact h
  have HF8 : Hid (Fr NoBlk w5 w8) := HF7.out.step (Fr.ofGrown hgrow8) fun i hi e => by
    have := HG7.out i e.symm
    omega
  have HG8 : Hid (∀ k, v8.ownBlock = some k → w5.heap.size ≤ k) := fun k hk => by
    rcases hblk8 with e | e
    · rw [e] at hk
      exact HG7.out k hk
    · rw [e] at hk
      injection hk with hk
      have := HF7.out.size
      omega
  obtain ⟨A8, c8, rfl, hc8, hA8⟩ := own_form HO8.out
  have k08 := (HBX.out.fr (HF5.out.trans HF8.out) fun h => h).cell 0
  have k18 := (HBX.out.fr (HF5.out.trans HF8.out) fun h => h).cell 1
  clear ho8 hgrow8 hblk8 hc8 hA8
  skip
  refine hK.out _ _ ?_ (fun hHeld => ?_)
  · first | exact ⟨k05, k15⟩ | exact ⟨k06, k16⟩ | exact ⟨k07, k17⟩ | exact ⟨k08, k18⟩
  clear hK K
  try simp only [Act.put, List.setIfInBounds_toArray, List.set_cons_zero, List.set_cons_succ]
  refine wpAnyH_take (i := 7) (oi := ⟨some 54, _, _, _, _, _⟩) (v := ?_) rfl (by kernel_rfl) (by kernel_rfl) (by kernel_rfl) (fun _ _ _ h => h) (Or.inl ⟨by rfl, ?_⟩) (by assumption) ?_
  rotate_left 1
  · (intro w hSw; (try dsimp only at hSw); go_simp) <;> (with_reducible rfl)
  try simp only [Act.put, List.setIfInBounds_toArray, List.set_cons_zero, List.set_cons_succ]
  refine wpAnyH_done (by kernel_rfl) ?_ _
  obtain ⟨rws, hrws⟩ : ∃ rws, rws = ps ++ qs := ⟨_, rfl⟩
  obtain ⟨T, hT⟩ : ∃ T, T = ps.length + qs.length := ⟨_, rfl⟩
  have hTb : T ≤ 80 := by omega
  have HRT : Hid (rws.length = T) := by show _ = _; rw [hrws, List.length_append, hT]
  obtain ⟨rv, hrv⟩ : ∃ rv, rv = Value.slice A8 T c8 := ⟨_, rfl⟩
  have HO9 : Hid (w8.ownsRow w1.heap.size 34 1 rv rws.length (rws.map sl)) := by
    have h := HO8.out
    rw [← hrws, ← hT, ← hrv] at h
    rw [HRT.out]
    exact h
  rw [← hT, ← hrv] at HG8
  have hTi : (ps.length : Int) + (qs.length : Int) = (T : Int) := by omega
  rw [← hT]
  try rw [hTi]
  clear hTi
  have HRVE := Lib.hid hrv
  have HRWS := Lib.hid hrws
  have HPW : Hid (∀ q ∈ rws, Part w q ∧ q.2.2.length ≤ q.2.1 ∧ q.2.1 ≤ maxLen) := by
    rw [hrws]
    exact fun q hq => (List.mem_append.1 hq).elim (HP.out q) (HP'.out q)
  have HF48 : Hid (Fr NoBlk w4 w8) := HW45.out.trans HF8.out
  have HK0 : Hid (KR w1 w8 gd gl (.slice (some ⟨w4.heap.size, 0, none⟩) 0 0) rv rws 0 0) := by
    have hfs : Files (pNew 1048576) logN [] [] 0 := Files.none_ ⟨rfl, rfl⟩ ⟨by simp [logN], by simp [logN]⟩ fun _ _ => rfl
    obtain ⟨j, hj, _, hinv, _⟩ := hfs.open_ sz
    obtain rfl : j = 0 := by simpa using hj
    rw [lopen_new] at hinv
    refine ⟨_, _, [], [], 0, [], ⟨HW4.out.widen HF48.out (fun k hk => ?_) (fun k hk => ?_), hinv, rfl, own_fr HO4.out HF8.out fun _ _ h => h, (fun a ha => by cases ha), HO9.out, (fun k hk hr => ?_), Nat.zero_le _⟩, rfl, Nat.le_refl _⟩
    · rcases hk with hk | hk
      · have : w4.heap.size = k := by simpa [Value.ownBlock] using hk
        exact .inr (by omega)
      · have := HG8.out k hk
        have := HLT5.out
        exact .inr (by omega)
    · rcases hk with hk | hk
      · have e : w4.heap.size = k := by simpa [Value.ownBlock] using hk
        have := HLT5.out
        have := HF8.out.size
        omega
      · exact (own_lt HO9.out hk).2
    · have e : w4.heap.size = k := by simpa [Value.ownBlock] using hk
      have := HG8.out k hr
      have := HLT5.out
      omega
  clear hT hrws hrv HO8 HG8 HO9 HF48 HW4 HO4 HLT5 HW45 HRP HRQ HF6 HB5 HO7 HF7 HG7 k05 k15 k06 k16 k07 k17 k08 k18 hHeld HW5E HF5 HS5 HSZ4
  go_wp2_with fail
  go_loopw [9, 10, 55] (fun u v z wr => ∃ i put : Nat, i ≤ T ∧ z = .int .i64 i ∧ u = .int .i64 put ∧ Hid (KR w1 wr gd gl v rv rws put i)) (fun _ _ z _ => T - (intOf z).toNat)
  case atStart => exact ⟨0, 0, Nat.zero_le _, rfl, rfl, HK0⟩
  case round =>
    clear HK0
    obtain ⟨i, put, hin, rfl, rfl, HX⟩ := hrel
    obtain ⟨p, L, init, cur, s, al, hka, hal0, hai⟩ := HX.out
    have HKA := Lib.hid hka
    have HAL := Lib.hid hal0
    have HAI := Lib.hid hai
    obtain ⟨Av, cv, hv, hcv, _⟩ := own_form hka.all
    have HCV := Lib.hid hcv
    subst hv
    have hv : Value.slice Av al.length cv = Value.slice Av al.length cv := rfl
    have HA100 : Hid (al.length ≤ 100) := by show _ ≤ _; omega
    obtain ⟨v, hvv⟩ : ∃ v, v = Value.slice Av al.length cv := ⟨_, rfl⟩
    rw [← hvv] at HKA
    have hv := hvv
    clear hka hal0 hai hcv HX hvv
    by_cases hlt : i < T
    · obtain ⟨q, hq⟩ : ∃ q, rws[i]? = some q := ⟨_, List.getElem?_eq_getElem (by rw [HRT.out]; exact hlt)⟩
      have hrow := HKA.out.row
      rw [HRVE.out] at hrow
      rw [HRT.out] at hrow
      obtain ⟨b, o, rfl, hcell⟩ := (Rd.of_own hrow).at_ (k := i) (v := sl q) (by rw [List.getElem?_map, hq]; rfl)
      have HQM := Lib.hid (List.mem_of_getElem? hq)
      have HPQ := Lib.hid (HPW.out q (List.mem_of_getElem? hq))
      obtain ⟨Aq, cq, lq⟩ := q
      unfold sl at hcell
      dsimp only at hcell HPQ
      have hqm : lq.length ≤ 9223372036854775807 := by
        have h1 := HPQ.out.2.1
        have h2 := HPQ.out.2.2
        unfold maxLen at h2
        omega
      have k0 : wr.cell? ⟨w.heap.size, 0, none⟩ = some (.slice A ps.length c) := (HBX.out.fr HKA.out.wl.fr fun h => h).cell 0
      have hal := HA100.out
      clear hq hrow
      by_cases c1 : al.length = ps.length
      · by_cases c2 : put = 0
        · subst c2
          have i1 : ((al.length : Int) == (ps.length : Int)) = true := by rw [beq_iff_eq]; omega
          have i3 : decide ((al.length : Int) = (ps.length : Int)) = true := decide_eq_true (by omega)
          have C1 := Lib.hid c1
          clear c1
          have HSY := Lib.hid (lsync_any w1 wr gd gl p L (SK v rv) HKA.out.wl)
          have HSI := Lib.hid (lsync_inv HKA.out.inv)
          have HSN := Lib.hid (lsync_name p L)
          have HPB : Hid (al.length = init.flatten.length + cur.length) := by
            have h1 := congrArg List.length HAL.out
            rw [HKA.out.inv.recs, List.length_map, List.length_append] at h1
            exact h1
          go_wp2_with fail
          refine HSY.out.mono ?_
          clear HSY
          rintro e w5 ⟨rfl, hw5, hf5⟩
          have HKB : Hid (KA w1 w5 gd gl (lsync p L).1 (lsync p L).2.1 init cur cur.length logN v rv rws al al.length) := HKA.out.call hw5 hf5 HSI.out.2.1 (HSN.out.1.trans HKA.out.nm) (by rw [HPB.out]; exact Nat.le_refl _)
          have HALB : Hid (al.map (·.2.2) = (lsync p L).2.1.recs) := by show _ = _; rw [HAL.out, HSN.out.2]
          rw [HSI.out.1]
          generalize (lsync p L).1 = pa at *
          generalize (lsync p L).2.1 = La at *
          have HRX := Lib.hid (lrecs_any w1 w5 gd gl pa La _ HKB.out.wl)
          have HLR : Hid (La.recs.length = al.length) := by show _ = _; rw [← HALB.out, List.length_map]
          clear hw5 hf5 HSI HSN HKA HAL k0
          go_wp2_with fail
          refine HRX.out.mono ?_
          clear HRX
          rintro e w7 ⟨A7', c7', gq7, rfl, h7⟩
          rw [HLR.out]
          have HKA := Lib.hid (HKB.out.nofr h7.fr)
          have HAL := HALB
          have hal := HA100.out
          clear h7 HKB HALB HLR
          by_cases hlong : 1000 < lq.length
          · have HZ := Lib.hid (HF1.out.trans HKA.out.wl.fr)
            clear HKA
            go_wp2_with fail
            go_ret
            exact ⟨rfl, HZ.out⟩
          · have HRQ0 := Lib.hid (HPQ.out.1.1.nofr (HF1.out.trans HKA.out.wl.fr))
            have hla := lappend_any w1 w7 gd gl pa La (SK v rv) HKA.out.wl (HT.out.fr HF1.out fun h => h) Aq cq lq HRQ0.out HPQ.out.1.2 (by omega) (fun hp k hk => .inl (((HPQ.out.1.1).nofr HF1.out).lt (by rw [cb_length]; exact hp) hk)) (HKA.out.few (by rw [← HAL.out, List.length_map]) HA100.out) HKA.out.used
            have HLA := Lib.hid hla
            have HLI := Lib.hid (lappend_inv HKA.out.inv lq (by omega))
            have HNM := Lib.hid (lappend_name pa La lq)
            clear hla
            go_wp2_with fail
            refine HLA.out.mono ?_
            clear HLA
            rintro e w6 ⟨rfl, hw6, hf6⟩
            rcases HLI.out with ⟨hz, s', hs', hi'⟩ | ⟨hz, init', cur', s', hi', hfl, hst⟩
            · have HKB : Hid (KA w1 w6 gd gl (lappend pa La lq).1 (lappend pa La lq).2.1 init cur s' logN v rv rws al al.length) := HKA.out.call hw6 hf6 hi' (HNM.out.1.trans HKA.out.nm) (by have := HKA.out.put; omega)
              have HALB : Hid (al.map (·.2.2) = (lappend pa La lq).2.1.recs) := by
                show _ = _
                rw [HAL.out, HNM.out.2.2 (by rw [hz]; decide)]
              rw [hz]
              generalize (lappend pa La lq).1 = p2 at *
              generalize (lappend pa La lq).2.1 = L2 at *
              clear hz hs' hi' hw6 hf6 HLI HNM HKA HAL HRQ0
              have HKA := HKB
              have HAL := HALB
              clear HKB HALB
              obtain ⟨g, hgp, hlg, hag, hsg, htg⟩ := HKA.out.wl
              have hfw : Fr NoBlk w1 w6 := HKA.out.wl.fr
              have k2 : w6.cell? ⟨w.heap.size, 2, none⟩ = some (.slice K ks.length kc) := (HBX.out.fr hfw fun h => h).cell 2
              have HCR := Lib.hid (crashS hag K ks.length kc ks rfl (HK.out.nofr (HF1.out.trans hfw)) HKL.out)
              have HSL : Hid (∀ k, SK v rv k → k < w6.heap.size) := htg
              have HAG := Lib.hid (HKA.out.inv.again ks sz)
              have HFW := Lib.hid hfw
              clear hgp hlg hag hsg htg hfw
              go_wp2_with fail
              refine HCR.out.mono ?_
              clear HCR
              rintro e w20 ⟨gx, rfl, hx, hfx⟩
              have hx2 := hx (SK v rv) HSL.out
              have ho := lopen_any w1 w20 gx (pCrash p2 ks) (SK v rv) hx2 (fun k hk => Nat.lt_of_lt_of_le (HSL.out k hk) hfx.size) (HT.out.fr HF1.out fun h => h) ⟨rfl, rfl⟩ logN (by simp [logN]) (by simp [logN]) sz hsz4.1 hsz4.2
              obtain ⟨j, hj1, hj2, hi3, _, _⟩ := HAG.out
              rw [HKA.out.nm] at hi3
              have HRC := Lib.hid hi3.recs
              have HJ1 := Lib.hid hj1
              have HJ2 := Lib.hid hj2
              generalize lopen (pCrash p2 ks) logN sz = rr at *
              have HO := Lib.hid ho
              have HFX := Lib.hid hfx
              clear hx hx2 ho hi3 hj1 hj2 HAG hfx k2
              go_wp2_with fail
              refine HO.out.mono ?_
              clear HO
              rintro e w21 ⟨gm, rfl, hw21, hf21⟩
              have hrc := lrecs_any w1 w21 gx gm _ _ _ hw21
              obtain ⟨G, hG⟩ : ∃ G, G = rr.2.recs := ⟨_, rfl⟩
              rw [← hG] at hrc
              have HGE : Hid (G = init.flatten ++ cur.take j) := hG.trans HRC.out
              have HC := Lib.hid hrc
              have HF21 := Lib.hid hf21
              have HW21 := Lib.hid hw21.fr
              clear hw21 hf21 hrc hG
              go_wp2_with fail
              refine HC.out.mono ?_
              clear HC
              rintro e w22 ⟨A22, c22, gq, rfl, h22⟩
              have HQ := Lib.hid h22
              have HAR : Hid (w22.ownsRow w1.heap.size 34 1 v al.length (al.map sl)) := own_fr (own_fr (own_fr HKA.out.all HFX.out fun _ _ h => h) HF21.out fun k hk hc => hc.1 (.inl hk)) h22.fr fun _ _ h => h
              have HWZ : Hid (Fr NoBlk w1 w22) := HW21.out.trans h22.fr
              obtain ⟨Gl, hGl⟩ : ∃ Gl, Gl = G.length := ⟨_, rfl⟩
              have HGL := Lib.hid hGl
              have hcl : cur.length + init.flatten.length = al.length := by
                have h1 := congrArg List.length HAL.out
                rw [HKA.out.inv.recs, List.length_map, List.length_append] at h1
                omega
              have hg1 : Gl = init.flatten.length + j := by
                have h1 := HJ2.out
                rw [hGl, HGE.out, List.length_append, List.length_take]; omega
              have b1 : ((al.length : Nat) : Int) ≤ (Gl : Int) := by
                have h1 := HKA.out.put
                have h2 := HJ1.out
                omega
              have b2 : (Gl : Int) ≤ (al.length : Int) := by
                have h2 := HJ2.out
                omega
              have HTK : Hid (gq.map (·.2.2) = (al.take Gl).map (·.2.2)) := by
                show _ = _
                rw [h22.eq, List.map_take, HAL.out, HKA.out.inv.recs, hg1, HGE.out]
                exact take_mid _ _ _
              have HLT : Hid (Gl = (al.take Gl).length) := by show _ = _; rw [List.length_take]; omega
              have HLQ : Hid (Gl = gq.length) := by
                have h1 := congrArg List.length h22.eq
                rw [List.length_map] at h1
                show _ = _
                omega
              have HRA : Hid (Rd w22 Av ((al.take Gl).map sl)) := by
                have h := HAR.out
                rw [hv] at h
                rw [List.map_take]
                exact (Rd.of_own h).take Gl
              have HPA : Hid (∀ a ∈ al.take Gl, Part w22 a) := fun a ha => by
                have h := HPW.out a (HKA.out.allp a (List.mem_of_mem_take ha))
                exact ⟨h.1.1.nofr (HF1.out.trans HWZ.out), h.1.2⟩
              have hal := HA100.out
              have HSM := Lib.hid (same_any w22 A22 c22 gq Av cv (al.take Gl) Gl HLQ.out HLT.out h22.rd HRA.out (fun q hq => (h22.part q hq).1) HPA.out HTK.out (by omega))
              have b3 : (Gl : Int) ≤ (cv : Int) := by have h := HCV.out; omega
              rw [← hGl]
              clear h22 hGl hcl hg1
              go_wp2_with fail
              refine HSM.out.mono ?_
              clear HSM
              rintro e w23 ⟨rfl, hf23⟩
              have HZ := Lib.hid ((HF1.out.trans HWZ.out).trans hf23)
              clear hf23
              go_wp2_with fail
              go_ret
              exact ⟨rfl, HZ.out⟩
            · have HKB : Hid (KA w1 w6 gd gl (lappend pa La lq).1 (lappend pa La lq).2.1 init' cur' s' logN v rv rws al al.length) := HKA.out.call hw6 hf6 hi' (HNM.out.1.trans HKA.out.nm) (by have := HKA.out.put; omega)
              have HALB : Hid (al.map (·.2.2) ++ [lq] = (lappend pa La lq).2.1.recs) := by
                show _ = _
                rw [HAL.out, HNM.out.2.1 hz]
              rw [hz]
              generalize (lappend pa La lq).1 = p2 at *
              generalize (lappend pa La lq).2.1 = L2 at *
              clear hz hi' hfl hst hw6 hf6 HLI HNM HKA HAL HRQ0
              have HKC : Hid (KA w1 (w6.alloc (.cells #[.slice Aq lq.length cq] 34)) gd gl p2 L2 init' cur' s' logN v rv rws al al.length) := HKB.out.nofr ((Fr.refl _ _).alloc _)
              have HOV : Hid ((w6.alloc (.cells #[.slice Aq lq.length cq] 34)).ownsRow w1.heap.size 34 1 (.slice Av al.length cv) al.length (al.map sl)) := by
                have h := HKC.out.all
                rw [hv] at h
                exact h
              have hal := HA100.out
              go_wp2_with (at_builtin; refine wpList_app rfl _ _ 22 rfl w1.heap.size 34 i0 (.slice none 0 0) 24 Tryd.underlying22 hi hz0 hz1 hz2 rfl (.slice Av al.length cv) al.length (al.map sl) rfl HOV.out (some ⟨w6.heap.size, 0, none⟩) 1 1 [.slice Aq lq.length cq] rfl rfl ?c1 ?c2 ?c3 ?c4 ?c5 ?c6 ?_)
              case c1 => exact Rd.new_marked w6 [.slice Aq lq.length cq] 34 (0, 0)
              case c2 => intro u hu; rw [List.mem_singleton.1 hu]; rfl
              case c3 => intro h; cases h
              case c4 => unfold maxLen; omega
              case c5 => omega
              case c6 => exact HKC.out.wl.fr.size
              intro v9 w9 ho9 hgrow9 _ hblk9
              have HNX : Hid (KR w1 w9 gd gl v9 rv rws al.length (i + 1)) := by
                rw [← hv] at hgrow9 hblk9
                refine ⟨p2, L2, init', cur', s', al ++ [(Aq, cq, lq)], HKC.out.grow (q := (Aq, cq, lq)) HQM.out ho9 hgrow9 (by rw [World.size_alloc]; exact hblk9), ?_, ?_⟩
                · rw [List.map_append]; exact HALB.out
                · rw [List.length_append]; have := HAI.out; show al.length + 1 ≤ i + 1; omega
              clear ho9 hgrow9 hblk9 HKC HKB HOV HALB
              go_wp2_with fail
              go_roundw
              case rel => exact ⟨i + 1, al.length, by omega, by go_num, rfl, HNX⟩
              case measure => simp [intOf]; omega
        · have i1 : ((al.length : Int) == (ps.length : Int)) = true := by rw [beq_iff_eq]; omega
          have i3 : decide ((al.length : Int) = (ps.length : Int)) = true := decide_eq_true (by omega)
          have C1 := Lib.hid c1
          clear c1
          have i2 : ¬ ((put : Int) = 0) := by omega
          by_cases hlong : 1000 < lq.length
          · have HZ := Lib.hid (HF1.out.trans HKA.out.wl.fr)
            clear HKA
            go_wp2_with fail
            go_ret
            exact ⟨rfl, HZ.out⟩
          · have HRQ0 := Lib.hid (HPQ.out.1.1.nofr (HF1.out.trans HKA.out.wl.fr))
            have hla := lappend_any w1 wr gd gl p L (SK v rv) HKA.out.wl (HT.out.fr HF1.out fun h => h) Aq cq lq HRQ0.out HPQ.out.1.2 (by omega) (fun hp k hk => .inl (((HPQ.out.1.1).nofr HF1.out).lt (by rw [cb_length]; exact hp) hk)) (HKA.out.few (by rw [← HAL.out, List.length_map]) HA100.out) HKA.out.used
            have HLA := Lib.hid hla
            have HLI := Lib.hid (lappend_inv HKA.out.inv lq (by omega))
            have HNM := Lib.hid (lappend_name p L lq)
            clear hla
            go_wp2_with fail
            refine HLA.out.mono ?_
            clear HLA
            rintro e w6 ⟨rfl, hw6, hf6⟩
            rcases HLI.out with ⟨hz, s', hs', hi'⟩ | ⟨hz, init', cur', s', hi', hfl, hst⟩
            · have HKB : Hid (KA w1 w6 gd gl (lappend p L lq).1 (lappend p L lq).2.1 init cur s' logN v rv rws al put) := HKA.out.call hw6 hf6 hi' (HNM.out.1.trans HKA.out.nm) (by have := HKA.out.put; omega)
              have HALB : Hid (al.map (·.2.2) = (lappend p L lq).2.1.recs) := by
                show _ = _
                rw [HAL.out, HNM.out.2.2 (by rw [hz]; decide)]
              rw [hz]
              generalize (lappend p L lq).1 = p2 at *
              generalize (lappend p L lq).2.1 = L2 at *
              clear hz hs' hi' hw6 hf6 HLI HNM HKA HAL HRQ0
              have HKA := HKB
              have HAL := HALB
              clear HKB HALB
              obtain ⟨g, hgp, hlg, hag, hsg, htg⟩ := HKA.out.wl
              have hfw : Fr NoBlk w1 w6 := HKA.out.wl.fr
              have k2 : w6.cell? ⟨w.heap.size, 2, none⟩ = some (.slice K ks.length kc) := (HBX.out.fr hfw fun h => h).cell 2
              have HCR := Lib.hid (crashS hag K ks.length kc ks rfl (HK.out.nofr (HF1.out.trans hfw)) HKL.out)
              have HSL : Hid (∀ k, SK v rv k → k < w6.heap.size) := htg
              have HAG := Lib.hid (HKA.out.inv.again ks sz)
              have HFW := Lib.hid hfw
              clear hgp hlg hag hsg htg hfw
              go_wp2_with fail
              refine HCR.out.mono ?_
              clear HCR
              rintro e w20 ⟨gx, rfl, hx, hfx⟩
              have hx2 := hx (SK v rv) HSL.out
              have ho := lopen_any w1 w20 gx (pCrash p2 ks) (SK v rv) hx2 (fun k hk => Nat.lt_of_lt_of_le (HSL.out k hk) hfx.size) (HT.out.fr HF1.out fun h => h) ⟨rfl, rfl⟩ logN (by simp [logN]) (by simp [logN]) sz hsz4.1 hsz4.2
              obtain ⟨j, hj1, hj2, hi3, _, _⟩ := HAG.out
              rw [HKA.out.nm] at hi3
              have HRC := Lib.hid hi3.recs
              have HJ1 := Lib.hid hj1
              have HJ2 := Lib.hid hj2
              generalize lopen (pCrash p2 ks) logN sz = rr at *
              have HO := Lib.hid ho
              have HFX := Lib.hid hfx
              clear hx hx2 ho hi3 hj1 hj2 HAG hfx k2
              go_wp2_with fail
              refine HO.out.mono ?_
              clear HO
              rintro e w21 ⟨gm, rfl, hw21, hf21⟩
              have hrc := lrecs_any w1 w21 gx gm _ _ _ hw21
              obtain ⟨G, hG⟩ : ∃ G, G = rr.2.recs := ⟨_, rfl⟩
              rw [← hG] at hrc
              have HGE : Hid (G = init.flatten ++ cur.take j) := hG.trans HRC.out
              have HC := Lib.hid hrc
              have HF21 := Lib.hid hf21
              have HW21 := Lib.hid hw21.fr
              clear hw21 hf21 hrc hG
              go_wp2_with fail
              refine HC.out.mono ?_
              clear HC
              rintro e w22 ⟨A22, c22, gq, rfl, h22⟩
              have HQ := Lib.hid h22
              have HAR : Hid (w22.ownsRow w1.heap.size 34 1 v al.length (al.map sl)) := own_fr (own_fr (own_fr HKA.out.all HFX.out fun _ _ h => h) HF21.out fun k hk hc => hc.1 (.inl hk)) h22.fr fun _ _ h => h
              have HWZ : Hid (Fr NoBlk w1 w22) := HW21.out.trans h22.fr
              obtain ⟨Gl, hGl⟩ : ∃ Gl, Gl = G.length := ⟨_, rfl⟩
              have HGL := Lib.hid hGl
              have hcl : cur.length + init.flatten.length = al.length := by
                have h1 := congrArg List.length HAL.out
                rw [HKA.out.inv.recs, List.length_map, List.length_append] at h1
                omega
              have hg1 : Gl = init.flatten.length + j := by
                have h1 := HJ2.out
                rw [hGl, HGE.out, List.length_append, List.length_take]; omega
              have b1 : ((put : Nat) : Int) ≤ (Gl : Int) := by
                have h1 := HKA.out.put
                have h2 := HJ1.out
                omega
              have b2 : (Gl : Int) ≤ (al.length : Int) := by
                have h2 := HJ2.out
                omega
              have HTK : Hid (gq.map (·.2.2) = (al.take Gl).map (·.2.2)) := by
                show _ = _
                rw [h22.eq, List.map_take, HAL.out, HKA.out.inv.recs, hg1, HGE.out]
                exact take_mid _ _ _
              have HLT : Hid (Gl = (al.take Gl).length) := by show _ = _; rw [List.length_take]; omega
              have HLQ : Hid (Gl = gq.length) := by
                have h1 := congrArg List.length h22.eq
                rw [List.length_map] at h1
                show _ = _
                omega
              have HRA : Hid (Rd w22 Av ((al.take Gl).map sl)) := by
                have h := HAR.out
                rw [hv] at h
                rw [List.map_take]
                exact (Rd.of_own h).take Gl
              have HPA : Hid (∀ a ∈ al.take Gl, Part w22 a) := fun a ha => by
                have h := HPW.out a (HKA.out.allp a (List.mem_of_mem_take ha))
                exact ⟨h.1.1.nofr (HF1.out.trans HWZ.out), h.1.2⟩
              have hal := HA100.out
              have HSM := Lib.hid (same_any w22 A22 c22 gq Av cv (al.take Gl) Gl HLQ.out HLT.out h22.rd HRA.out (fun q hq => (h22.part q hq).1) HPA.out HTK.out (by omega))
              have b3 : (Gl : Int) ≤ (cv : Int) := by have h := HCV.out; omega
              rw [← hGl]
              clear h22 hGl hcl hg1
              go_wp2_with fail
              refine HSM.out.mono ?_
              clear HSM
              rintro e w23 ⟨rfl, hf23⟩
              have HZ := Lib.hid ((HF1.out.trans HWZ.out).trans hf23)
              clear hf23
              go_wp2_with fail
              go_ret
              exact ⟨rfl, HZ.out⟩
            · have HKB : Hid (KA w1 w6 gd gl (lappend p L lq).1 (lappend p L lq).2.1 init' cur' s' logN v rv rws al put) := HKA.out.call hw6 hf6 hi' (HNM.out.1.trans HKA.out.nm) (by have := HKA.out.put; omega)
              have HALB : Hid (al.map (·.2.2) ++ [lq] = (lappend p L lq).2.1.recs) := by
                show _ = _
                rw [HAL.out, HNM.out.2.1 hz]
              rw [hz]
              generalize (lappend p L lq).1 = p2 at *
              generalize (lappend p L lq).2.1 = L2 at *
              clear hz hi' hfl hst hw6 hf6 HLI HNM HKA HAL HRQ0
              have HKC : Hid (KA w1 (w6.alloc (.cells #[.slice Aq lq.length cq] 34)) gd gl p2 L2 init' cur' s' logN v rv rws al put) := HKB.out.nofr ((Fr.refl _ _).alloc _)
              have HOV : Hid ((w6.alloc (.cells #[.slice Aq lq.length cq] 34)).ownsRow w1.heap.size 34 1 (.slice Av al.length cv) al.length (al.map sl)) := by
                have h := HKC.out.all
                rw [hv] at h
                exact h
              have hal := HA100.out
              go_wp2_with (at_builtin; refine wpList_app rfl _ _ 22 rfl w1.heap.size 34 i0 (.slice none 0 0) 24 Tryd.underlying22 hi hz0 hz1 hz2 rfl (.slice Av al.length cv) al.length (al.map sl) rfl HOV.out (some ⟨w6.heap.size, 0, none⟩) 1 1 [.slice Aq lq.length cq] rfl rfl ?c1 ?c2 ?c3 ?c4 ?c5 ?c6 ?_)
              case c1 => exact Rd.new_marked w6 [.slice Aq lq.length cq] 34 (0, 0)
              case c2 => intro u hu; rw [List.mem_singleton.1 hu]; rfl
              case c3 => intro h; cases h
              case c4 => unfold maxLen; omega
              case c5 => omega
              case c6 => exact HKC.out.wl.fr.size
              intro v9 w9 ho9 hgrow9 _ hblk9
              have HNX : Hid (KR w1 w9 gd gl v9 rv rws put (i + 1)) := by
                rw [← hv] at hgrow9 hblk9
                refine ⟨p2, L2, init', cur', s', al ++ [(Aq, cq, lq)], HKC.out.grow (q := (Aq, cq, lq)) HQM.out ho9 hgrow9 (by rw [World.size_alloc]; exact hblk9), ?_, ?_⟩
                · rw [List.map_append]; exact HALB.out
                · rw [List.length_append]; have := HAI.out; show al.length + 1 ≤ i + 1; omega
              clear ho9 hgrow9 hblk9 HKC HKB HOV HALB
              go_wp2_with fail
              go_roundw
              case rel => exact ⟨i + 1, put, by omega, by go_num, rfl, HNX⟩
              case measure => simp [intOf]; omega
      · have i1 : ¬ ((al.length : Int) = (ps.length : Int)) := by omega
        by_cases hlong : 1000 < lq.length
        · have HZ := Lib.hid (HF1.out.trans HKA.out.wl.fr)
          clear HKA
          go_wp2_with fail
          go_ret
          exact ⟨rfl, HZ.out⟩
        · have HRQ0 := Lib.hid (HPQ.out.1.1.nofr (HF1.out.trans HKA.out.wl.fr))
          have hla := lappend_any w1 wr gd gl p L (SK v rv) HKA.out.wl (HT.out.fr HF1.out fun h => h) Aq cq lq HRQ0.out HPQ.out.1.2 (by omega) (fun hp k hk => .inl (((HPQ.out.1.1).nofr HF1.out).lt (by rw [cb_length]; exact hp) hk)) (HKA.out.few (by rw [← HAL.out, List.length_map]) HA100.out) HKA.out.used
          have HLA := Lib.hid hla
          have HLI := Lib.hid (lappend_inv HKA.out.inv lq (by omega))
          have HNM := Lib.hid (lappend_name p L lq)
          clear hla
          go_wp2_with fail
          refine HLA.out.mono ?_
          clear HLA
          rintro e w6 ⟨rfl, hw6, hf6⟩
          rcases HLI.out with ⟨hz, s', hs', hi'⟩ | ⟨hz, init', cur', s', hi', hfl, hst⟩
          · have HKB : Hid (KA w1 w6 gd gl (lappend p L lq).1 (lappend p L lq).2.1 init cur s' logN v rv rws al put) := HKA.out.call hw6 hf6 hi' (HNM.out.1.trans HKA.out.nm) (by have := HKA.out.put; omega)
            have HALB : Hid (al.map (·.2.2) = (lappend p L lq).2.1.recs) := by
              show _ = _
              rw [HAL.out, HNM.out.2.2 (by rw [hz]; decide)]
            rw [hz]
            generalize (lappend p L lq).1 = p2 at *
            generalize (lappend p L lq).2.1 = L2 at *
            clear hz hs' hi' hw6 hf6 HLI HNM HKA HAL HRQ0
            have HKA := HKB
            have HAL := HALB
            clear HKB HALB
            obtain ⟨g, hgp, hlg, hag, hsg, htg⟩ := HKA.out.wl
            have hfw : Fr NoBlk w1 w6 := HKA.out.wl.fr
            have k2 : w6.cell? ⟨w.heap.size, 2, none⟩ = some (.slice K ks.length kc) := (HBX.out.fr hfw fun h => h).cell 2
            have HCR := Lib.hid (crashS hag K ks.length kc ks rfl (HK.out.nofr (HF1.out.trans hfw)) HKL.out)
            have HSL : Hid (∀ k, SK v rv k → k < w6.heap.size) := htg
            have HAG := Lib.hid (HKA.out.inv.again ks sz)
            have HFW := Lib.hid hfw
            clear hgp hlg hag hsg htg hfw
            go_wp2_with fail
            refine HCR.out.mono ?_
            clear HCR
            rintro e w20 ⟨gx, rfl, hx, hfx⟩
            have hx2 := hx (SK v rv) HSL.out
            have ho := lopen_any w1 w20 gx (pCrash p2 ks) (SK v rv) hx2 (fun k hk => Nat.lt_of_lt_of_le (HSL.out k hk) hfx.size) (HT.out.fr HF1.out fun h => h) ⟨rfl, rfl⟩ logN (by simp [logN]) (by simp [logN]) sz hsz4.1 hsz4.2
            obtain ⟨j, hj1, hj2, hi3, _, _⟩ := HAG.out
            rw [HKA.out.nm] at hi3
            have HRC := Lib.hid hi3.recs
            have HJ1 := Lib.hid hj1
            have HJ2 := Lib.hid hj2
            generalize lopen (pCrash p2 ks) logN sz = rr at *
            have HO := Lib.hid ho
            have HFX := Lib.hid hfx
            clear hx hx2 ho hi3 hj1 hj2 HAG hfx k2
            go_wp2_with fail
            refine HO.out.mono ?_
            clear HO
            rintro e w21 ⟨gm, rfl, hw21, hf21⟩
            have hrc := lrecs_any w1 w21 gx gm _ _ _ hw21
            obtain ⟨G, hG⟩ : ∃ G, G = rr.2.recs := ⟨_, rfl⟩
            rw [← hG] at hrc
            have HGE : Hid (G = init.flatten ++ cur.take j) := hG.trans HRC.out
            have HC := Lib.hid hrc
            have HF21 := Lib.hid hf21
            have HW21 := Lib.hid hw21.fr
            clear hw21 hf21 hrc hG
            go_wp2_with fail
            refine HC.out.mono ?_
            clear HC
            rintro e w22 ⟨A22, c22, gq, rfl, h22⟩
            have HQ := Lib.hid h22
            have HAR : Hid (w22.ownsRow w1.heap.size 34 1 v al.length (al.map sl)) := own_fr (own_fr (own_fr HKA.out.all HFX.out fun _ _ h => h) HF21.out fun k hk hc => hc.1 (.inl hk)) h22.fr fun _ _ h => h
            have HWZ : Hid (Fr NoBlk w1 w22) := HW21.out.trans h22.fr
            obtain ⟨Gl, hGl⟩ : ∃ Gl, Gl = G.length := ⟨_, rfl⟩
            have HGL := Lib.hid hGl
            have hcl : cur.length + init.flatten.length = al.length := by
              have h1 := congrArg List.length HAL.out
              rw [HKA.out.inv.recs, List.length_map, List.length_append] at h1
              omega
            have hg1 : Gl = init.flatten.length + j := by
              have h1 := HJ2.out
              rw [hGl, HGE.out, List.length_append, List.length_take]; omega
            have b1 : ((put : Nat) : Int) ≤ (Gl : Int) := by
              have h1 := HKA.out.put
              have h2 := HJ1.out
              omega
            have b2 : (Gl : Int) ≤ (al.length : Int) := by
              have h2 := HJ2.out
              omega
            have HTK : Hid (gq.map (·.2.2) = (al.take Gl).map (·.2.2)) := by
              show _ = _
              rw [h22.eq, List.map_take, HAL.out, HKA.out.inv.recs, hg1, HGE.out]
              exact take_mid _ _ _
            have HLT : Hid (Gl = (al.take Gl).length) := by show _ = _; rw [List.length_take]; omega
            have HLQ : Hid (Gl = gq.length) := by
              have h1 := congrArg List.length h22.eq
              rw [List.length_map] at h1
              show _ = _
              omega
            have HRA : Hid (Rd w22 Av ((al.take Gl).map sl)) := by
              have h := HAR.out
              rw [hv] at h
              rw [List.map_take]
              exact (Rd.of_own h).take Gl
            have HPA : Hid (∀ a ∈ al.take Gl, Part w22 a) := fun a ha => by
              have h := HPW.out a (HKA.out.allp a (List.mem_of_mem_take ha))
              exact ⟨h.1.1.nofr (HF1.out.trans HWZ.out), h.1.2⟩
            have hal := HA100.out
            have HSM := Lib.hid (same_any w22 A22 c22 gq Av cv (al.take Gl) Gl HLQ.out HLT.out h22.rd HRA.out (fun q hq => (h22.part q hq).1) HPA.out HTK.out (by omega))
            have b3 : (Gl : Int) ≤ (cv : Int) := by have h := HCV.out; omega
            rw [← hGl]
            clear h22 hGl hcl hg1
            go_wp2_with fail
            refine HSM.out.mono ?_
            clear HSM
            rintro e w23 ⟨rfl, hf23⟩
            have HZ := Lib.hid ((HF1.out.trans HWZ.out).trans hf23)
            clear hf23
            go_wp2_with fail
            go_ret
            exact ⟨rfl, HZ.out⟩
          · have HKB : Hid (KA w1 w6 gd gl (lappend p L lq).1 (lappend p L lq).2.1 init' cur' s' logN v rv rws al put) := HKA.out.call hw6 hf6 hi' (HNM.out.1.trans HKA.out.nm) (by have := HKA.out.put; omega)
            have HALB : Hid (al.map (·.2.2) ++ [lq] = (lappend p L lq).2.1.recs) := by
              show _ = _
              rw [HAL.out, HNM.out.2.1 hz]
            rw [hz]
            generalize (lappend p L lq).1 = p2 at *
            generalize (lappend p L lq).2.1 = L2 at *
            clear hz hi' hfl hst hw6 hf6 HLI HNM HKA HAL HRQ0
            have HKC : Hid (KA w1 (w6.alloc (.cells #[.slice Aq lq.length cq] 34)) gd gl p2 L2 init' cur' s' logN v rv rws al put) := HKB.out.nofr ((Fr.refl _ _).alloc _)
            have HOV : Hid ((w6.alloc (.cells #[.slice Aq lq.length cq] 34)).ownsRow w1.heap.size 34 1 (.slice Av al.length cv) al.length (al.map sl)) := by
              have h := HKC.out.all
              rw [hv] at h
              exact h
            have hal := HA100.out
            go_wp2_with (at_builtin; refine wpList_app rfl _ _ 22 rfl w1.heap.size 34 i0 (.slice none 0 0) 24 Tryd.underlying22 hi hz0 hz1 hz2 rfl (.slice Av al.length cv) al.length (al.map sl) rfl HOV.out (some ⟨w6.heap.size, 0, none⟩) 1 1 [.slice Aq lq.length cq] rfl rfl ?c1 ?c2 ?c3 ?c4 ?c5 ?c6 ?_)
            case c1 => exact Rd.new_marked w6 [.slice Aq lq.length cq] 34 (0, 0)
            case c2 => intro u hu; rw [List.mem_singleton.1 hu]; rfl
            case c3 => intro h; cases h
            case c4 => unfold maxLen; omega
            case c5 => omega
            case c6 => exact HKC.out.wl.fr.size
            intro v9 w9 ho9 hgrow9 _ hblk9
            have HNX : Hid (KR w1 w9 gd gl v9 rv rws put (i + 1)) := by
              rw [← hv] at hgrow9 hblk9
              refine ⟨p2, L2, init', cur', s', al ++ [(Aq, cq, lq)], HKC.out.grow (q := (Aq, cq, lq)) HQM.out ho9 hgrow9 (by rw [World.size_alloc]; exact hblk9), ?_, ?_⟩
              · rw [List.map_append]; exact HALB.out
              · rw [List.length_append]; have := HAI.out; show al.length + 1 ≤ i + 1; omega
            clear ho9 hgrow9 hblk9 HKC HKB HOV HALB
            go_wp2_with fail
            go_roundw
            case rel => exact ⟨i + 1, put, by omega, by go_num, rfl, HNX⟩
            case measure => simp [intOf]; omega
    · have hend : i = T := by omega
      obtain ⟨g, hgp, hlg, hag, hsg, htg⟩ := HKA.out.wl
      have hfw : Fr NoBlk w1 wr := HKA.out.wl.fr
      have k2 : wr.cell? ⟨w.heap.size, 2, none⟩ = some (.slice K ks.length kc) := (HBX.out.fr hfw fun h => h).cell 2
      have HCR := Lib.hid (crashS hag K ks.length kc ks rfl (HK.out.nofr (HF1.out.trans hfw)) HKL.out)
      have HSL : Hid (∀ k, SK v rv k → k < wr.heap.size) := htg
      have HAG := Lib.hid (HKA.out.inv.again ks sz)
      have HFW := Lib.hid hfw
      clear hgp hlg hag hsg htg hfw
      go_wp2_with fail
      refine HCR.out.mono ?_
      clear HCR
      rintro e w20 ⟨gx, rfl, hx, hfx⟩
      have hx2 := hx (SK v rv) HSL.out
      have ho := lopen_any w1 w20 gx (pCrash p ks) (SK v rv) hx2 (fun k hk => Nat.lt_of_lt_of_le (HSL.out k hk) hfx.size) (HT.out.fr HF1.out fun h => h) ⟨rfl, rfl⟩ logN (by simp [logN]) (by simp [logN]) sz hsz4.1 hsz4.2
      obtain ⟨j, hj1, hj2, hi3, _, _⟩ := HAG.out
      rw [HKA.out.nm] at hi3
      have HRC := Lib.hid hi3.recs
      have HJ1 := Lib.hid hj1
      have HJ2 := Lib.hid hj2
      generalize lopen (pCrash p ks) logN sz = rr at *
      have HO := Lib.hid ho
      have HFX := Lib.hid hfx
      clear hx hx2 ho hi3 hj1 hj2 HAG hfx k2
      go_wp2_with fail
      refine HO.out.mono ?_
      clear HO
      rintro e w21 ⟨gm, rfl, hw21, hf21⟩
      have hrc := lrecs_any w1 w21 gx gm _ _ _ hw21
      obtain ⟨G, hG⟩ : ∃ G, G = rr.2.recs := ⟨_, rfl⟩
      rw [← hG] at hrc
      have HGE : Hid (G = init.flatten ++ cur.take j) := hG.trans HRC.out
      have HC := Lib.hid hrc
      have HF21 := Lib.hid hf21
      have HW21 := Lib.hid hw21.fr
      clear hw21 hf21 hrc hG
      go_wp2_with fail
      refine HC.out.mono ?_
      clear HC
      rintro e w22 ⟨A22, c22, gq, rfl, h22⟩
      have HQ := Lib.hid h22
      have HAR : Hid (w22.ownsRow w1.heap.size 34 1 v al.length (al.map sl)) := own_fr (own_fr (own_fr HKA.out.all HFX.out fun _ _ h => h) HF21.out fun k hk hc => hc.1 (.inl hk)) h22.fr fun _ _ h => h
      have HWZ : Hid (Fr NoBlk w1 w22) := HW21.out.trans h22.fr
      obtain ⟨Gl, hGl⟩ : ∃ Gl, Gl = G.length := ⟨_, rfl⟩
      have HGL := Lib.hid hGl
      have hcl : cur.length + init.flatten.length = al.length := by
        have h1 := congrArg List.length HAL.out
        rw [HKA.out.inv.recs, List.length_map, List.length_append] at h1
        omega
      have hg1 : Gl = init.flatten.length + j := by
        have h1 := HJ2.out
        rw [hGl, HGE.out, List.length_append, List.length_take]; omega
      have b1 : ((put : Nat) : Int) ≤ (Gl : Int) := by
        have h1 := HKA.out.put
        have h2 := HJ1.out
        omega
      have b2 : (Gl : Int) ≤ (al.length : Int) := by
        have h2 := HJ2.out
        omega
      have HTK : Hid (gq.map (·.2.2) = (al.take Gl).map (·.2.2)) := by
        show _ = _
        rw [h22.eq, List.map_take, HAL.out, HKA.out.inv.recs, hg1, HGE.out]
        exact take_mid _ _ _
      have HLT : Hid (Gl = (al.take Gl).length) := by show _ = _; rw [List.length_take]; omega
      have HLQ : Hid (Gl = gq.length) := by
        have h1 := congrArg List.length h22.eq
        rw [List.length_map] at h1
        show _ = _
        omega
      have HRA : Hid (Rd w22 Av ((al.take Gl).map sl)) := by
        have h := HAR.out
        rw [hv] at h
        rw [List.map_take]
        exact (Rd.of_own h).take Gl
      have HPA : Hid (∀ a ∈ al.take Gl, Part w22 a) := fun a ha => by
        have h := HPW.out a (HKA.out.allp a (List.mem_of_mem_take ha))
        exact ⟨h.1.1.nofr (HF1.out.trans HWZ.out), h.1.2⟩
      have hal := HA100.out
      have HSM := Lib.hid (same_any w22 A22 c22 gq Av cv (al.take Gl) Gl HLQ.out HLT.out h22.rd HRA.out (fun q hq => (h22.part q hq).1) HPA.out HTK.out (by omega))
      have b3 : (Gl : Int) ≤ (cv : Int) := by have h := HCV.out; omega
      rw [← hGl]
      clear h22 hGl hcl hg1
      go_wp2_with fail
      refine HSM.out.mono ?_
      clear HSM
      rintro e w23 ⟨rfl, hf23⟩
      have HZ := Lib.hid ((HF1.out.trans HWZ.out).trans hf23)
      clear hf23
      go_wp2_with fail
      go_ret
      exact ⟨rfl, HZ.out⟩

theorem paramsOk : ∀ t ∈ Tryd.f3.params.toList, Tryd.prog.readableRec t = true ∧ t < Tryd.prog.types.size := fun t ht => by
  have h := List.all_eq_true.1 (show (Tryd.f3.params.toList.all fun t => Tryd.prog.readableRec t && decide (t < Tryd.prog.types.size)) = true by kernel_rfl) t ht
  simpa using h
theorem paramsPlain : ∀ (j : Nat) t, Tryd.f3.params[j]? = some t → Tryd.prog.wantsStandIn t = false := fun j t ht => by
  have h := List.all_eq_true.1 (show (Tryd.f3.params.toList.all fun t => !Tryd.prog.wantsStandIn t) = true by kernel_rfl) t (by simpa using Array.mem_of_getElem? ht)
  simpa using h

set_option maxRecDepth 100000 in
theorem contract (H : Type) (enc : TypeId × Value → H) (W : World) (args : Array Value) (ds gs : List (DataW H)) (before : List MemPlace)
    (base : Nat) (hval : ∀ (j : Nat) t v, Tryd.f3.params[j]? = some t → args[j]? = some v → Value.okWide Tryd.prog W .any base t v)
    (hW : DataW.Whole enc Tryd.prog Tryd.f3.params.toList Rows.walKeepsSpec.vars false W args.toList ds gs before) (hL : laidMetH Tryd.prog Rows.walKeepsRow.laid W) :
    Calls Tryd.prog 3 args W fun e W' => ∃ v, e = .returned v ∧ Rows.walKeepsSpec.post enc Tryd.prog Tryd.f3 false true false false W args v W' := by
  have hW' := hW
  obtain ⟨p, q, hA, hV, rfl, _, _⟩ := hW
  rw [Tryd.params3] at hA hval
  obtain ⟨v0, vs0, d0, ds0, p0, q0, hargs, rfl, rfl, h0, r0⟩ := trodAll_cons hA
  obtain ⟨v1, vs1, d1, ds1, p1, q1, rfl, rfl, rfl, h1, r1⟩ := trodAll_cons r0
  obtain ⟨rfl, rfl, rfl⟩ := trodAll_nil r1
  obtain rfl : args = #[v0, v1] := by cases args; simp_all
  obtain ⟨rfl, rfl⟩ := trodVars_none hV
  obtain ⟨x0, x1, x2, y0, y1, y2, n, rfl, g0, g1, g2⟩ := open_agg3 Tryd.underlying25 (by kernel_rfl) (by kernel_rfl) (hval 0 _ v0 rfl rfl) h0
  obtain ⟨A, c, ps, rfl, hr, hp, hpc, hc, hA1⟩ := rows_of_trod g0
  obtain ⟨A', c', qs, rfl, hr', hp', hpc', hc', hA1'⟩ := rows_of_trod g1
  obtain ⟨⟨K, kc, ks⟩, rfl, hk, hkc, hkm⟩ := nums_of_trod g2
  obtain ⟨z, rfl, rfl, rfl, wz⟩ := open_int Tryd.underlying3 (hval 1 _ v1 rfl rfl) h1
  have walk := walk W (table hL) A c ps A' c' qs K kc ks z hr hA1 hp (Nat.le_trans hpc hc) hr' hA1' hp' (Nat.le_trans hpc' hc') hk.1 (Nat.le_trans hkc hkm)
  refine walk.mono fun e W' ⟨he, hf⟩ => ?_
  subst he
  exact ⟨_, rfl, law_post laidOut paramsOk rfl rfl Tryd.underlying4 hW' rfl rfl rfl hf⟩

theorem laid_met (os : Os) : laidMet Tryd.prog Rows.walKeepsRow.laid ((laidWorld os).forCall (fun _ _ => 0) ⟨#[], #[.agg #[.slice none 0 0, .slice none 0 0, .slice none 0 0], .int .i64 0], []⟩).memory :=
  laidMet_of_run' 20 (by kernel_rfl) (by kernel_rfl)
theorem reads (os : Os) {H : Type} (enc : TypeId × Value → H) : ∃ places, DataW.whole enc Tryd.prog ((laidWorld os).forCall (fun _ _ => 0) ⟨#[], #[.agg #[.slice none 0 0, .slice none 0 0, .slice none 0 0], .int .i64 0], []⟩).memory Tryd.f3.params.toList Rows.walKeepsSpec.vars false (#[.agg #[.slice none 0 0, .slice none 0 0, .slice none 0 0], .int .i64 0] : Array Value).toList 8 = some ([.agg [.nil, .nil, .nil], .lit (.int .i64 0)], [], places) :=
  ⟨[], by kernel_rfl⟩

set_option maxRecDepth 100000 in
theorem lifted (os : Os) (started : os.Started) (H : Type) (enc : TypeId × Value → H) (F : Stop.Interp) :
    ReturnsInHanded {} Tryd.checked os 3 .any ((OpenSpec.ofChange Rows.walKeepsSpec).preRow enc Tryd.prog Tryd.f3 Rows.walKeepsRow.domain false Rows.walKeepsRow.laid) (((OpenSpec.ofChange Rows.walKeepsSpec).at F).post enc Tryd.prog Tryd.f3 false true false false) := by
  obtain ⟨places, hx⟩ := reads os enc
  refine returnsInHanded_of_row (C := Tryd.checked) (s := OpenSpec.ofChange Rows.walKeepsSpec) own started (by kernel_rfl) Tryd.func3
    (witness_row_at (enc := enc) (C := Tryd.checked) false (laidWorld os) #[.agg #[.slice none 0 0, .slice none 0 0, .slice none 0 0], .int .i64 0] rfl (by kernel_rfl) (by kernel_rfl) (by kernel_rfl)
      (OpenSpec.preRow_of_cond 8 hx (by kernel_rfl) (fun k hk => by cases hk) (by kernel_rfl) (laid_met os))) ?_
  intro W base args ds gs before hval hW _ _ _ hL _ _
  exact contract H enc W args ds gs before base hval hW hL

theorem said : Rows.WalKeepsSaid :=
  OpenClaim.holds_of_cond 3 Tryd.f3 rfl rfl rfl rfl rfl rfl rfl ⟨rfl, rfl, rfl, rfl, rfl⟩ rfl rfl rfl rfl rfl (by kernel_rfl) Tryd.func3 (by kernel_rfl)
    (of_decide_eq_true (by kernel_rfl)) (by unfold Func.isWrapper; first | (rw [if_pos (by decide +kernel)]; kernel_rfl) | (rw [if_neg (by decide +kernel)]; exact ⟨rfl, rfl⟩))
    (fun os started H enc _ F => by rw [OpenClaim.pre_eq_preRow]; exact lifted os started H enc F)

theorem plain (f : FuncId) (fn : Func) (hf : Tryd.pinned.checked.prog.funcNamed "argosy/argosylaw04.WalKeeps" = some f) (hfn : Tryd.pinned.checked.prog.funcs[f]? = some fn) :
    false = Tryd.pinned.checked.prog.looks [] ∧ ∀ (j : Nat) t, fn.params[j]? = some t → Tryd.pinned.checked.prog.wantsStandIn t = false := by
  obtain rfl : f = 3 := Option.some.inj ((show Tryd.prog.funcNamed "argosy/argosylaw04.WalKeeps" = some 3 by kernel_rfl).symm.trans hf) |>.symm
  obtain rfl : fn = Tryd.f3 := (Option.some.inj (Tryd.func3.symm.trans hfn)).symm
  exact ⟨by kernel_rfl, paramsPlain⟩

theorem card : Rows.WalKeepsCardSaid :=
  Claim7.holds_tied_plain_at .later [] _ _ _ _ said (fun _ h => by cases h) (by kernel_rfl) (fun _ h => by cases h) walKeeps_row_tie rfl ⟨rfl, rfl⟩ (by kernel_rfl) rfl plain (by kernel_rfl)
end Go.Proofs.YtibidileddfhpaaDoor.walKeeps
