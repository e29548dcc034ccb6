/- WalGoesOn is true: a log that is opened again goes on: its records are those that there were, and those that come then. No condition but what the card ties. -/
import Derived.Test.YtibidileddfhpaaDoorKeepP
import Derived.Test.YtibidileddfhpaaDoorSz
import Derived.Test.YtibidileddfhpaaDoorLParts
import Derived.Test.YtibidileddfhpaaDoorLaw
import Derived.Test.YtibidileddfhpaaDoorOpen2
namespace Go.Proofs.YtibidileddfhpaaDoor.walGoesOn
open Go.ChangeShapes Go.WideShapes Go.ChangeAt Go.RowKit

theorem low_bits (k : Int) (m : Nat) (hm : m ≤ 65535) : ∃ q : Nat, bits .and .i64 k (m : Int) = (q : Int) ∧ q ≤ m := by
  have e : (BitVec.ofInt 64 (m : Int)).toNat = m := by rw [BitVec.ofInt_natCast, BitVec.toNat_ofNat]; omega
  have hq : (BitVec.ofInt 64 k &&& BitVec.ofInt 64 (m : Int)).toNat ≤ m := by
    rw [BitVec.toNat_and]
    have := Nat.and_le_right (n := (BitVec.ofInt 64 k).toNat) (m := (BitVec.ofInt 64 (m : Int)).toNat)
    omega
  refine ⟨(BitVec.ofInt 64 k &&& BitVec.ofInt 64 (m : Int)).toNat, ?_, hq⟩
  show IntKind.i64.wrap (((BitVec.ofInt 64 k &&& BitVec.ofInt 64 (m : Int)).toNat : Nat) : Int) = _
  generalize (BitVec.ofInt 64 k &&& BitVec.ofInt 64 (m : Int)).toNat = q at *
  exact IntWalk.i64_in _ (by omega)
def logN : Bs := [108, 111, 103]
def S1 (v : Value) : Nat → Prop := fun k => v.ownBlock = some k
/-- a log, all of which lasts, and beside it a row v of records al. -/
structure KB (w1 wr : World) (gd gl : Nat) (p : PD) (L : PL) (init : List (List Bs)) (cur : List Bs) (s : Nat) (v : Value) (ps al : List Prt) (a b : Nat) : Prop where
  wl : WL w1 wr gd p gl L (S1 v)
  inv : LInv p L init cur s
  nm : L.name = logN
  all : wr.ownsRow w1.heap.size 34 1 v al.length (al.map sl)
  allp : ∀ x ∈ al, x ∈ ps
  sz : Sz p a b
section
variable {w1 wr w' : World} {gd gl : Nat} {p p' : PD} {L L' : PL} {init init' : List (List Bs)} {cur cur' : List Bs} {s s' : Nat} {v v' : Value} {ps al : List Prt} {a b a' b' : Nat}
theorem WL.nodup {S : Nat → Prop} (h : WL w1 wr gd p gl L S) : (p.files.map (·.name)).Nodup := by
  obtain ⟨g, _, _, ha, _⟩ := h
  exact ha.fits.2.2.2.1
theorem KB.used (h : KB w1 wr gd gl p L init cur s v ps al a b) : L.used ≤ 1048576 := by
  rw [h.inv.used]
  rcases h.inv.curF with ⟨rfl, _⟩ | ⟨l, hf, _⟩
  · exact Nat.zero_le _
  · exact Nat.le_trans (find_len hf) h.wl.fits
theorem KB.nofr (h : KB w1 wr gd gl p L init cur s v ps al a b) (hf : Fr NoBlk wr w') : KB w1 w' gd gl p L init cur s v ps al a b :=
  ⟨h.wl.nofr hf, h.inv, h.nm, own_fr h.all hf fun _ _ h => h, h.allp, h.sz⟩
theorem KB.call (h : KB w1 wr gd gl p L init cur s v ps al a b) (hw : WL w1 w' gd p' gl L' (S1 v)) (hf : Fr (Loose w1 (S1 v)) wr w') (hi : LInv p' L' init' cur' s') (hn : L'.name = logN) (hz : Sz p' a' b') : KB w1 w' gd gl p' L' init' cur' s' v ps al a' b' :=
  ⟨hw, hi, hn, own_fr h.all hf fun _ hk hc => hc.1 hk, h.allp, hz⟩
theorem KB.grow (h : KB w1 wr gd gl p L init cur s v ps al a b) {q : Prt} (hq : q ∈ ps) (ho : w'.ownsRow w1.heap.size 34 1 v' (al.length + 1) (al.map sl ++ [sl q])) (hg : wr.grownBy w' v.ownBlock) (hb : v'.ownBlock = v.ownBlock ∨ v'.ownBlock = some wr.heap.size) : KB w1 w' gd gl p L init cur s v' ps (al ++ [q]) a b := by
  have hf : Fr (fun k => v.ownBlock = some k) wr w' := (Fr.ofGrown hg).mono fun _ _ e => e.symm
  refine ⟨h.wl.far hf (fun k _ hk => ⟨hk, (own_lt h.all hk).1⟩) (fun k hk => ?_) (fun k hk => (own_lt ho hk).2), h.inv, h.nm, by rw [List.length_append, List.map_append]; exact ho, fun x hx => ?_, h.sz⟩
  · have hk : v'.ownBlock = some k := hk
    rcases hb with e | e
    · refine .inl ?_
      show v.ownBlock = some k
      rw [← e]; exact hk
    · rw [e] at hk
      injection hk with hk
      exact .inr (by omega)
  · rcases List.mem_append.1 hx with hx | hx
    · exact h.allp x hx
    · rw [List.mem_singleton.1 hx]; exact hq
end
theorem Sz.le {p : PD} {a b a' b' : Nat} (h : Sz p a b) (h1 : a ≤ a') (h2 : b ≤ b') : Sz p a' b' := ⟨Nat.le_trans h.1 h1, Nat.le_trans h.2.1 h2, h.2.2⟩
/-- a full log has ten files. -/
theorem ten {p : PD} {L : PL} {init : List (List Bs)} {cur : List Bs} {s : Nat} (h : LInv p L init cur s) (h9 : L.last = 9) (hu : 0 < L.used) : pcount (p.files.map (·.name)) L.name 10 = 10 := by
  have hl : init.length = 9 := by rw [← h.last]; exact h9
  refine pcount_all 10 fun i hi => (inB_iff _ _).2 ?_
  by_cases hi9 : i < 9
  · obtain ⟨rs, hrs⟩ : ∃ rs, init[i]? = some rs := ⟨_, List.getElem?_eq_getElem (by omega)⟩
    exact named_find (h.full i rs hrs)
  · obtain rfl : i = 9 := by omega
    rcases h.curF with ⟨rfl, _⟩ | ⟨l, hf, _⟩
    · rw [h.used] at hu
      simp [frames] at hu
    · rw [hl] at hf
      exact named_find hf
def KR (w1 wr : World) (gd gl : Nat) (v : Value) (ps : List Prt) (i : Nat) : Prop := ∃ p L init cur s al, KB w1 wr gd gl p L init cur s v ps al i (36 * i) ∧ al.map (·.2.2) = L.recs ∧ al.length ≤ i ∧ s = cur.length

set_option maxRecDepth 100000 in
set_option maxHeartbeats 8000000 in
theorem walk (w : World) (ht : Tab w) (A : Option Addr) (c : Nat) (ps : List Prt) (K : Option Addr) (kc : Nat) (ks : List Int) (size : Int)
    (hr : Rd w A (ps.map sl)) (hp : ∀ p ∈ ps, Part w p ∧ p.2.2.length ≤ p.2.1 ∧ p.2.1 ≤ maxLen) (hm : ps.length ≤ maxLen) (hk : Rd w K (ics ks)) (hkl : ks.length ≤ maxLen) :
    Calls Tryd.prog 5 #[.slice A ps.length c, .slice K ks.length kc, .int .i64 size] w fun e w' => e = .returned (.bool true) ∧ Fr NoBlk w w' := by
  have HT := Lib.hid ht
  have HR := Lib.hid hr
  have HP := Lib.hid hp
  have HK := Lib.hid hk
  clear ht hr hp hk
  unfold maxLen at hm hkl
  obtain ⟨i0, hi, hz0, hz1, hz2⟩ := info_parts bytesInfo
  go_enter Tryd.func5, Tryd.ntmps5
  go_wp2_with fail
  refine (speaks_any _ HT.out).mono ?_
  rintro e w1 ⟨rfl, hf1⟩
  have HF1 := Lib.hid hf1
  clear hf1
  by_cases hb1 : 30 < ps.length
  · go_wp2_with fail
    go_ret
    exact ⟨rfl, HF1.out⟩
  by_cases hb2 : 30 < ks.length
  · go_wp2_with fail
    go_ret
    exact ⟨rfl, HF1.out⟩
  obtain ⟨rq, hrq, hrq1⟩ := low_bits size 4095 (by omega)
  rw [show ((4095 : Nat) : Int) = 4095 from rfl] at hrq
  obtain ⟨sz, hsz⟩ : ∃ sz, sz = 40 + rq := ⟨_, rfl⟩
  have hsz2 : (40 : Int) + (rq : Int) = (sz : Int) := by omega
  have hsz3 : IntKind.i64.wrap (sz : Int) = (sz : Int) := IntWalk.i64_in _ (by omega)
  have hsz4 : 16 ≤ sz ∧ sz ≤ 65536 := by omega
  clear hsz hrq1
  go_wp2_with fail
  refine (new_at w1 w1 (Fr.refl _ _) 1048576 (by omega) (by omega)).mono ?_
  rintro e w2 ⟨gd0, rfl, h2, hf2⟩
  have ha2 : AtS w1 w2 gd0 (pNew 1048576) NoS := h2.prot (Fr.refl NoBlk _) fun _ h => h.elim
  have hc := lopen_any w1 w2 gd0 (pNew 1048576) NoS ha2 (fun _ h => h.elim) (HT.out.fr HF1.out fun h => h) ⟨rfl, rfl⟩ logN (by simp [logN]) (by simp [logN]) sz hsz4.1 hsz4.2
  rw [lopen_new] at hc
  have HC := Lib.hid hc
  clear h2 hf2 ha2 hc
  go_wp2_with fail
  refine HC.out.mono ?_
  clear HC
  rintro e w4 ⟨gl0, rfl, hw4, _⟩
  have HK0 : Hid (KR w1 (w4.alloc (.cells #[] 34)) gd0 gl0 (.slice (some ⟨w4.heap.size, 0, none⟩) 0 0) ps 0) := by
    have hfs : Files (pNew 1048576) logN [] [] 0 := Files.none_ ⟨rfl, rfl⟩ ⟨by simp [logN], by simp [logN]⟩ fun _ _ => rfl
    obtain ⟨j, hj, _, hinv, _⟩ := hfs.open_ sz
    obtain rfl : j = 0 := by simpa using hj
    rw [lopen_new] at hinv
    refine ⟨_, _, [], [], 0, [], ⟨hw4.widen ((Fr.refl _ _).alloc _) (fun k hk => ?_) (fun k hk => ?_), hinv, rfl, World.ownsRow_made (base := w1.heap.size) (e := 34) (size := 1) w4 #[] 0 hw4.fr.size (by decide) rfl, (fun a ha => by cases ha), ⟨Nat.le_refl _, Nat.le_refl _, rfl⟩⟩, rfl, Nat.le_refl _, rfl⟩
    · have : w4.heap.size = k := by simpa [S1, Value.ownBlock] using hk
      exact .inr (by omega)
    · have : w4.heap.size = k := by simpa [S1, Value.ownBlock] using hk
      rw [World.size_alloc]; omega
  clear hw4
  go_wp2_with fail
  go_loopw [8, 10, 12, 46] (fun dv lv v z wr => ∃ (i gd gl : Nat), i ≤ ps.length ∧ z = .int .i64 i ∧ dv = .pointer (some ⟨gd, 0, none⟩) ∧ lv = .pointer (some ⟨gl, 0, none⟩) ∧ Hid (KR w1 wr gd gl v ps i)) (fun _ _ _ z _ => ps.length - (intOf z).toNat)
  case atStart => exact ⟨0, _, _, Nat.zero_le _, rfl, rfl, rfl, HK0⟩
  case round =>
    clear HK0
    obtain ⟨i, gd, gl, hin, rfl, rfl, rfl, HX⟩ := hrel
    obtain ⟨p, L, init, cur, s, al, hka, hal0, hai, hsc⟩ := HX.out
    have HKA := Lib.hid hka
    have HAL := Lib.hid hal0
    have HAI := Lib.hid hai
    have HSC := Lib.hid hsc
    obtain ⟨Av, cv, hv, _, _⟩ := own_form hka.all
    subst hv
    have HA100 : Hid (al.length ≤ 100) := by show _ ≤ _; omega
    have HF := Lib.hid (HF1.out.trans hka.wl.fr)
    obtain ⟨v, hv⟩ : ∃ v, v = Value.slice Av al.length cv := ⟨_, rfl⟩
    rw [← hv] at HKA
    clear hka hal0 hai HX hsc
    by_cases hlt : i < ps.length
    · obtain ⟨q, hq⟩ : ∃ q, ps[i]? = some q := ⟨_, List.getElem?_eq_getElem hlt⟩
      obtain ⟨b, o, rfl, hcell⟩ := (HR.out.nofr HF.out).at_ (k := i) (v := sl q) (by rw [List.getElem?_map, hq]; rfl)
      have HQM := Lib.hid (List.mem_of_getElem? hq)
      have HPQ := Lib.hid (HP.out q (List.mem_of_getElem? hq))
      obtain ⟨Aq, cq, lq⟩ := q
      unfold sl at hcell
      dsimp only at hcell HPQ
      have hqm : lq.length ≤ 9223372036854775807 := by
        have h1 := HPQ.out.2.1
        have h2 := HPQ.out.2.2
        unfold maxLen at h2
        omega
      clear hq
      by_cases hlong : 30 < lq.length
      · clear HKA
        go_wp2_with fail
        go_ret
        exact ⟨rfl, HF.out⟩
      have hla := lappend_any w1 wr gd gl p L (S1 v) HKA.out.wl (HT.out.fr HF1.out fun h => h) Aq cq lq (HPQ.out.1.1.nofr HF.out) HPQ.out.1.2 (by omega) (fun hp k hk => .inl (((HPQ.out.1.1).nofr HF1.out).lt (by rw [cb_length]; exact hp) hk)) (by rw [← HAL.out, List.length_map]; have := HA100.out; omega) HKA.out.used
      have HLA := Lib.hid hla
      have HLI := Lib.hid (lappend_inv HKA.out.inv lq (by omega))
      have HNM := Lib.hid (lappend_name p L lq)
      have HLZ := Lib.hid (lappend_sz HKA.out.inv.on HKA.out.inv.nm (WL.nodup HKA.out.wl) HKA.out.sz lq (by omega) (by omega))
      clear hla
      go_wp2_with fail
      refine HLA.out.mono ?_
      clear HLA
      rintro e w6 ⟨rfl, hw6, hf6⟩
      rcases HLI.out with ⟨hz, s', hs', hi'⟩ | ⟨hz, init', cur', s', hi', hfl, hst⟩
      · obtain ⟨hsame, h9, hu⟩ := HLZ.out.2 hz
        rw [hsame] at hw6
        have HTEN := Lib.hid (ten HKA.out.inv h9 hu)
        have HKB : Hid (KB w1 w6 gd gl p L init cur s v ps al i (36 * i)) := HKA.out.call hw6 hf6 HKA.out.inv HKA.out.nm HKA.out.sz
        have hpa := lparts_any w1 w6 gd gl p L _ HKB.out.wl
        rw [HTEN.out] at hpa
        have HPA := Lib.hid hpa
        rw [hz]
        clear hz hs' hi' hsame h9 hu hw6 hf6 HLI HNM HLZ HKA hpa HTEN
        go_wp2_with fail
        refine HPA.out.mono ?_
        clear HPA
        rintro e w7 ⟨rfl, hf7⟩
        have HKA := Lib.hid (HKB.out.nofr hf7)
        clear HKB hf7
        have HRC := Lib.hid (lrecs_any w1 w7 gd gl p L _ HKA.out.wl)
        have hal := HA100.out
        go_wp2_with fail
        refine HRC.out.mono ?_
        clear HRC
        rintro e w22 ⟨A22, c22, gq, rfl, h22⟩
        have HK22 := Lib.hid (HKA.out.nofr h22.fr)
        have HLQ : Hid (al.length = gq.length) := by
          have h1 := congrArg List.length h22.eq
          have h2 := congrArg List.length HAL.out
          rw [List.length_map] at h1 h2
          show _ = _
          omega
        have HRA : Hid (Rd w22 Av (al.map sl)) := by
          have h := HK22.out.all
          rw [hv] at h
          exact Rd.of_own h
        have HPA : Hid (∀ x ∈ al, Part w22 x) := fun x hx => by
          have h := HP.out x (HKA.out.allp x hx)
          exact ⟨h.1.1.nofr (HF1.out.trans HK22.out.wl.fr), h.1.2⟩
        have HSM := Lib.hid (same_any w22 A22 c22 gq Av cv al al.length HLQ.out rfl h22.rd HRA.out (fun q hq => (h22.part q hq).1) HPA.out (by rw [h22.eq, HAL.out]) (by omega))
        have HRN : Hid (L.recs.length = al.length) := by show _ = _; rw [← HAL.out, List.length_map]
        rw [HRN.out]
        clear h22
        go_wp2_with fail
        refine HSM.out.mono ?_
        clear HSM
        rintro e w23 ⟨rfl, hf23⟩
        have HKF := Lib.hid (HK22.out.nofr hf23)
        clear hf23 HK22
        go_wp2_with fail
        go_ret
        exact ⟨rfl, HF1.out.trans HKF.out.wl.fr⟩
      · have HKB : Hid (KB w1 w6 gd gl (lappend p L lq).1 (lappend p L lq).2.1 init' cur' s' v ps al (i + 1) (36 * (i + 1))) := HKA.out.call hw6 hf6 hi' (HNM.out.1.trans HKA.out.nm) (Sz.le HLZ.out.1 (Nat.le_refl _) (by omega))
        have HALB : Hid (al.map (·.2.2) ++ [lq] = (lappend p L lq).2.1.recs) := by
          show _ = _
          rw [HAL.out, HNM.out.2.1 hz]
        rw [hz]
        generalize (lappend p L lq).1 = p2 at *
        generalize (lappend p L lq).2.1 = L2 at *
        have HSY := Lib.hid (lsync_any w1 w6 gd gl p2 L2 (S1 v) HKB.out.wl)
        have HSI := Lib.hid (lsync_inv HKB.out.inv)
        have HSN := Lib.hid (lsync_name p2 L2)
        clear hz hi' hfl hst hw6 hf6 HLI HNM HLZ HKA HAL
        go_wp2_with fail
        refine HSY.out.mono ?_
        clear HSY
        rintro e w7 ⟨rfl, hw7, hf7⟩
        have HKC : Hid (KB w1 w7 gd gl (lsync p2 L2).1 (lsync p2 L2).2.1 init' cur' cur'.length v ps al (i + 1) (36 * (i + 1))) := HKB.out.call hw7 hf7 HSI.out.2.1 (HSN.out.1.trans HKB.out.nm) (lsync_sz HKB.out.inv.on HKB.out.sz)
        have HALC : Hid (al.map (·.2.2) ++ [lq] = (lsync p2 L2).2.1.recs) := by show _ = _; rw [HALB.out, HSN.out.2]
        rw [HSI.out.1]
        generalize (lsync p2 L2).1 = p3 at *
        generalize (lsync p2 L2).2.1 = L3 at *
        clear hw7 hf7 HSI HSN HKB HALB
        have HKD : Hid (KB w1 (w7.alloc (.cells #[.slice Aq lq.length cq] 34)) gd gl p3 L3 init' cur' cur'.length v ps al (i + 1) (36 * (i + 1))) := HKC.out.nofr ((Fr.refl _ _).alloc _)
        have HOV : Hid ((w7.alloc (.cells #[.slice Aq lq.length cq] 34)).ownsRow w1.heap.size 34 1 (.slice Av al.length cv) al.length (al.map sl)) := by
          have h := HKD.out.all
          rw [hv] at h
          exact h
        have hal := HA100.out
        go_wp2_with (at_builtin; refine wpList_app rfl _ _ 22 rfl w1.heap.size 34 i0 (.slice none 0 0) 24 Tryd.underlying22 hi hz0 hz1 hz2 rfl (.slice Av al.length cv) al.length (al.map sl) rfl HOV.out (some ⟨w7.heap.size, 0, none⟩) 1 1 [.slice Aq lq.length cq] rfl rfl ?c1 ?c2 ?c3 ?c4 ?c5 ?c6 ?_)
        case c1 => exact Rd.new_marked w7 [.slice Aq lq.length cq] 34 (0, 0)
        case c2 => intro u hu; rw [List.mem_singleton.1 hu]; rfl
        case c3 => intro h; cases h
        case c4 => unfold maxLen; omega
        case c5 => omega
        case c6 => exact HKD.out.wl.fr.size
        intro v9 w9 ho9 hgrow9 _ hblk9
        obtain ⟨al9, hal9⟩ : ∃ al9, al9 = al ++ [(Aq, cq, lq)] := ⟨_, rfl⟩
        have HKE : Hid (KB w1 w9 gd gl p3 L3 init' cur' cur'.length v9 ps al9 (i + 1) (36 * (i + 1))) := by
          rw [← hv] at hgrow9 hblk9
          rw [hal9]
          exact HKD.out.grow (q := (Aq, cq, lq)) HQM.out ho9 hgrow9 (by rw [World.size_alloc]; exact hblk9)
        have HALE : Hid (al9.map (·.2.2) = L3.recs) := by
          rw [hal9, List.map_append]
          exact HALC.out
        have HLE : Hid (al9.length ≤ i + 1) := by
          show _ ≤ _
          rw [hal9, List.length_append]
          have := HAI.out
          show al.length + 1 ≤ _
          omega
        obtain ⟨Av9, cv9, hv9, _, _⟩ := own_form HKE.out.all
        clear ho9 hgrow9 hblk9 HKD HKC HOV HALC hal9 HA100 HAI hal
        subst hv9
        obtain ⟨v, hv⟩ : ∃ v, v = Value.slice Av9 al9.length cv9 := ⟨_, rfl⟩
        rw [← hv] at HKE
        have HKA := HKE
        have HAL := HALE
        clear HKE HALE
        have hal := HLE.out
        by_cases hst : i < ks.length
        · obtain ⟨zk, hzk⟩ : ∃ zk, ks[i]? = some zk := ⟨_, List.getElem?_eq_getElem hst⟩
          obtain ⟨bk, ok, rfl, hck⟩ := (HK.out.nofr (HF1.out.trans HKA.out.wl.fr)).at_ (k := i) (v := .int .i64 zk) (by show (ks.map _)[i]? = _; rw [List.getElem?_map, hzk]; rfl)
          obtain ⟨qk, hqk, hqk1⟩ := low_bits zk 1 (by omega)
          rw [show ((1 : Nat) : Int) = 1 from rfl] at hqk
          clear hzk
          by_cases hq1 : qk = 1
          · subst hq1
            obtain ⟨g, hgp, hlg, hag, hsg, htg⟩ := HKA.out.wl
            have HCR := Lib.hid (crashS hag none 0 0 [] rfl (Rd.none_ _ _) (by unfold maxLen; simp))
            have HSL : Hid (∀ k, S1 v k → k < w9.heap.size) := htg
            have HAG := Lib.hid (HKA.out.inv.again [] sz)
            clear hgp hlg hag hsg htg
            go_wp2_with fail
            refine HCR.out.mono ?_
            clear HCR
            rintro e w20 ⟨gx, rfl, hx, hfx⟩
            have hx2 := hx (S1 v) HSL.out
            have ho := lopen_any w1 w20 gx (pCrash p3 []) (S1 v) hx2 (fun k hk => Nat.lt_of_lt_of_le (HSL.out k hk) hfx.size) (HT.out.fr HF1.out fun h => h) ⟨rfl, rfl⟩ logN (by simp [logN]) (by simp [logN]) sz hsz4.1 hsz4.2
            obtain ⟨j, hj1, hj2, hi3, hn3, _⟩ := HAG.out
            obtain rfl : j = cur'.length := by omega
            rw [HKA.out.nm] at hi3 hn3
            rw [List.take_length] at hi3
            have HI3 := Lib.hid hi3
            have HN3 := Lib.hid hn3
            have HZ3 := Lib.hid (lopen_sz (p := pCrash p3 []) ⟨rfl, rfl⟩ (crash_sz HKA.out.sz []) logN sz)
            generalize lopen (pCrash p3 []) logN sz = rr at *
            have HO := Lib.hid ho
            have HOX := Lib.hid (own_fr HKA.out.all hfx fun _ _ h => h)
            clear hx hx2 ho hi3 hn3 hj1 hj2 HAG hfx
            go_wp2_with fail
            refine HO.out.mono ?_
            clear HO
            rintro e w21 ⟨gm, rfl, hw21, hf21⟩
            have HKZ : Hid (KB w1 w21 gx gm rr.1 rr.2 init' cur' cur'.length v ps al9 (i + 1) (36 * (i + 1))) := ⟨hw21, HI3.out, HN3.out, own_fr HOX.out hf21 fun _ hk hc => hc.1 hk, HKA.out.allp, HZ3.out⟩
            have HALZ : Hid (al9.map (·.2.2) = rr.2.recs) := by show _ = _; rw [HI3.out.recs, HAL.out, HKA.out.inv.recs]
            clear hw21 hf21 HOX
            have HRC := Lib.hid (lrecs_any w1 w21 gx gm rr.1 rr.2 _ HKZ.out.wl)
            clear HKA HAL
            have HKA := HKZ
            have HAL := HALZ
            clear HKZ HALZ
            go_wp2_with fail
            refine HRC.out.mono ?_
            clear HRC
            rintro e w22 ⟨A22, c22, gq, rfl, h22⟩
            have HK22 := Lib.hid (HKA.out.nofr h22.fr)
            have HLQ : Hid (al9.length = gq.length) := by
              have h1 := congrArg List.length h22.eq
              have h2 := congrArg List.length HAL.out
              rw [List.length_map] at h1 h2
              show _ = _
              omega
            have HRA : Hid (Rd w22 Av9 (al9.map sl)) := by
              have h := HK22.out.all
              rw [hv] at h
              exact Rd.of_own h
            have HPA : Hid (∀ x ∈ al9, Part w22 x) := fun x hx => by
              have h := HP.out x (HKA.out.allp x hx)
              exact ⟨h.1.1.nofr (HF1.out.trans HK22.out.wl.fr), h.1.2⟩
            have HSM := Lib.hid (same_any w22 A22 c22 gq Av9 cv9 al9 al9.length HLQ.out rfl h22.rd HRA.out (fun q hq => (h22.part q hq).1) HPA.out (by rw [h22.eq, HAL.out]) (by omega))
            have HRN : Hid (rr.2.recs.length = al9.length) := by show _ = _; rw [← HAL.out, List.length_map]
            rw [HRN.out]
            clear h22
            go_wp2_with fail
            refine HSM.out.mono ?_
            clear HSM
            rintro e w23 ⟨rfl, hf23⟩
            have HKF := Lib.hid (HK22.out.nofr hf23)
            clear hf23 HK22
            go_wp2_with fail
            go_roundw
            case rel => exact ⟨i + 1, gx, gm, by omega, by go_num, rfl, rfl, by rw [← hv]; exact ⟨_, _, _, _, _, al9, HKF.out, HAL.out, HLE.out, rfl⟩⟩
            case measure => simp [intOf]; omega
          · obtain rfl : qk = 0 := by omega
            have HRC := Lib.hid (lrecs_any w1 w9 gd gl p3 L3 _ HKA.out.wl)
            go_wp2_with fail
            refine HRC.out.mono ?_
            clear HRC
            rintro e w22 ⟨A22, c22, gq, rfl, h22⟩
            have HK22 := Lib.hid (HKA.out.nofr h22.fr)
            have HLQ : Hid (al9.length = gq.length) := by
              have h1 := congrArg List.length h22.eq
              have h2 := congrArg List.length HAL.out
              rw [List.length_map] at h1 h2
              show _ = _
              omega
            have HRA : Hid (Rd w22 Av9 (al9.map sl)) := by
              have h := HK22.out.all
              rw [hv] at h
              exact Rd.of_own h
            have HPA : Hid (∀ x ∈ al9, Part w22 x) := fun x hx => by
              have h := HP.out x (HKA.out.allp x hx)
              exact ⟨h.1.1.nofr (HF1.out.trans HK22.out.wl.fr), h.1.2⟩
            have HSM := Lib.hid (same_any w22 A22 c22 gq Av9 cv9 al9 al9.length HLQ.out rfl h22.rd HRA.out (fun q hq => (h22.part q hq).1) HPA.out (by rw [h22.eq, HAL.out]) (by omega))
            have HRN : Hid (L3.recs.length = al9.length) := by show _ = _; rw [← HAL.out, List.length_map]
            rw [HRN.out]
            clear h22
            go_wp2_with fail
            refine HSM.out.mono ?_
            clear HSM
            rintro e w23 ⟨rfl, hf23⟩
            have HKF := Lib.hid (HK22.out.nofr hf23)
            clear hf23 HK22
            go_wp2_with fail
            go_roundw
            case rel => exact ⟨i + 1, gd, gl, by omega, by go_num, rfl, rfl, by rw [← hv]; exact ⟨_, _, _, _, _, al9, HKF.out, HAL.out, HLE.out, rfl⟩⟩
            case measure => simp [intOf]; omega
        · have f1 : ¬ (i : Int) < (ks.length : Int) := by omega
          have HRC := Lib.hid (lrecs_any w1 w9 gd gl p3 L3 _ HKA.out.wl)
          go_wp2_with fail
          refine HRC.out.mono ?_
          clear HRC
          rintro e w22 ⟨A22, c22, gq, rfl, h22⟩
          have HK22 := Lib.hid (HKA.out.nofr h22.fr)
          have HLQ : Hid (al9.length = gq.length) := by
            have h1 := congrArg List.length h22.eq
            have h2 := congrArg List.length HAL.out
            rw [List.length_map] at h1 h2
            show _ = _
            omega
          have HRA : Hid (Rd w22 Av9 (al9.map sl)) := by
            have h := HK22.out.all
            rw [hv] at h
            exact Rd.of_own h
          have HPA : Hid (∀ x ∈ al9, Part w22 x) := fun x hx => by
            have h := HP.out x (HKA.out.allp x hx)
            exact ⟨h.1.1.nofr (HF1.out.trans HK22.out.wl.fr), h.1.2⟩
          have HSM := Lib.hid (same_any w22 A22 c22 gq Av9 cv9 al9 al9.length HLQ.out rfl h22.rd HRA.out (fun q hq => (h22.part q hq).1) HPA.out (by rw [h22.eq, HAL.out]) (by omega))
          have HRN : Hid (L3.recs.length = al9.length) := by show _ = _; rw [← HAL.out, List.length_map]
          rw [HRN.out]
          clear h22
          go_wp2_with fail
          refine HSM.out.mono ?_
          clear HSM
          rintro e w23 ⟨rfl, hf23⟩
          have HKF := Lib.hid (HK22.out.nofr hf23)
          clear hf23 HK22
          go_wp2_with fail
          go_roundw
          case rel => exact ⟨i + 1, gd, gl, by omega, by go_num, rfl, rfl, by rw [← hv]; exact ⟨_, _, _, _, _, al9, HKF.out, HAL.out, HLE.out, rfl⟩⟩
          case measure => simp [intOf]; omega
    · clear HKA
      go_wp2_with fail
      go_ret
      exact ⟨rfl, HF.out⟩

theorem paramsOk : ∀ t ∈ Tryd.f5.params.toList, Tryd.prog.readableRec t = true ∧ t < Tryd.prog.types.size := fun t ht => by
  have h := List.all_eq_true.1 (show (Tryd.f5.params.toList.all fun t => Tryd.prog.readableRec t && decide (t < Tryd.prog.types.size)) = true by kernel_rfl) t ht
  simpa using h
theorem paramsPlain : ∀ (j : Nat) t, Tryd.f5.params[j]? = some t → Tryd.prog.wantsStandIn t = false := fun j t ht => by
  have h := List.all_eq_true.1 (show (Tryd.f5.params.toList.all fun t => !Tryd.prog.wantsStandIn t) = true by kernel_rfl) t (by simpa using Array.mem_of_getElem? ht)
  simpa using h

set_option maxRecDepth 100000 in
theorem contract (H : Type) (enc : TypeId × Value → H) (W : World) (args : Array Value) (ds gs : List (DataW H)) (before : List MemPlace)
    (base : Nat) (hval : ∀ (j : Nat) t v, Tryd.f5.params[j]? = some t → args[j]? = some v → Value.okWide Tryd.prog W .any base t v)
    (hW : DataW.Whole enc Tryd.prog Tryd.f5.params.toList Rows.walGoesOnSpec.vars false W args.toList ds gs before) (hL : laidMetH Tryd.prog Rows.walGoesOnRow.laid W) :
    Calls Tryd.prog 5 args W fun e W' => ∃ v, e = .returned v ∧ Rows.walGoesOnSpec.post enc Tryd.prog Tryd.f5 false true false false W args v W' := by
  have hW' := hW
  obtain ⟨p, q, hA, hV, rfl, _, _⟩ := hW
  rw [Tryd.params5] at hA hval
  obtain ⟨v0, vs0, d0, ds0, p0, q0, hargs, rfl, rfl, h0, r0⟩ := trodAll_cons hA
  obtain ⟨v1, vs1, d1, ds1, p1, q1, rfl, rfl, rfl, h1, r1⟩ := trodAll_cons r0
  obtain ⟨v2, vs2, d2, ds2, p2, q2, rfl, rfl, rfl, h2, r2⟩ := trodAll_cons r1
  obtain ⟨rfl, rfl, rfl⟩ := trodAll_nil r2
  obtain rfl : args = #[v0, v1, v2] := by cases args; simp_all
  obtain ⟨rfl, rfl⟩ := trodVars_none hV
  obtain ⟨A, c, ps, rfl, hr, hp, hpc, hc⟩ := open_rows (hval 0 _ v0 rfl rfl) h0
  obtain ⟨K, kc, ks, rfl, hk, _, hkc, hkm⟩ := open_ints1 (hval 1 _ v1 rfl rfl) h1
  obtain ⟨z, rfl, rfl, rfl, wz⟩ := open_int Tryd.underlying3 (hval 2 _ v2 rfl rfl) h2
  have walk := walk W (table hL) A c ps K kc ks z hr hp (Nat.le_trans hpc hc) hk (Nat.le_trans hkc hkm)
  refine walk.mono fun e W' ⟨he, hf⟩ => ?_
  subst he
  exact ⟨_, rfl, law_post laidOut paramsOk rfl rfl Tryd.underlying4 hW' rfl rfl rfl hf⟩

theorem laid_met (os : Os) : laidMet Tryd.prog Rows.walGoesOnRow.laid ((laidWorld os).forCall (fun _ _ => 0) ⟨#[], #[.slice none 0 0, .slice none 0 0, .int .i64 0], []⟩).memory :=
  laidMet_of_run' 20 (by kernel_rfl) (by kernel_rfl)
theorem reads (os : Os) {H : Type} (enc : TypeId × Value → H) : ∃ places, DataW.whole enc Tryd.prog ((laidWorld os).forCall (fun _ _ => 0) ⟨#[], #[.slice none 0 0, .slice none 0 0, .int .i64 0], []⟩).memory Tryd.f5.params.toList Rows.walGoesOnSpec.vars false (#[.slice none 0 0, .slice none 0 0, .int .i64 0] : Array Value).toList 8 = some ([.nil, .nil, .lit (.int .i64 0)], [], places) :=
  ⟨[], by kernel_rfl⟩

set_option maxRecDepth 100000 in
theorem lifted (os : Os) (started : os.Started) (H : Type) (enc : TypeId × Value → H) (F : Stop.Interp) :
    ReturnsInHanded {} Tryd.checked os 5 .any ((OpenSpec.ofChange Rows.walGoesOnSpec).preRow enc Tryd.prog Tryd.f5 Rows.walGoesOnRow.domain false Rows.walGoesOnRow.laid) (((OpenSpec.ofChange Rows.walGoesOnSpec).at F).post enc Tryd.prog Tryd.f5 false true false false) := by
  obtain ⟨places, hx⟩ := reads os enc
  refine returnsInHanded_of_row (C := Tryd.checked) (s := OpenSpec.ofChange Rows.walGoesOnSpec) own started (by kernel_rfl) Tryd.func5
    (witness_row_at (enc := enc) (C := Tryd.checked) false (laidWorld os) #[.slice none 0 0, .slice none 0 0, .int .i64 0] rfl (by kernel_rfl) (by kernel_rfl) (by kernel_rfl)
      (OpenSpec.preRow_of_cond 8 hx (by kernel_rfl) (fun k hk => by cases hk) (by kernel_rfl) (laid_met os))) ?_
  intro W base args ds gs before hval hW _ _ _ hL _ _
  exact contract H enc W args ds gs before base hval hW hL

theorem said : Rows.WalGoesOnSaid :=
  OpenClaim.holds_of_cond 5 Tryd.f5 rfl rfl rfl rfl rfl rfl rfl ⟨rfl, rfl, rfl, rfl, rfl⟩ rfl rfl rfl rfl rfl (by kernel_rfl) Tryd.func5 (by kernel_rfl)
    (of_decide_eq_true (by kernel_rfl)) (by unfold Func.isWrapper; first | (rw [if_pos (by decide +kernel)]; kernel_rfl) | (rw [if_neg (by decide +kernel)]; exact ⟨rfl, rfl⟩))
    (fun os started H enc _ F => by rw [OpenClaim.pre_eq_preRow]; exact lifted os started H enc F)

theorem plain (f : FuncId) (fn : Func) (hf : Tryd.pinned.checked.prog.funcNamed "argosy/argosylaw04.WalGoesOn" = some f) (hfn : Tryd.pinned.checked.prog.funcs[f]? = some fn) :
    false = Tryd.pinned.checked.prog.looks [] ∧ ∀ (j : Nat) t, fn.params[j]? = some t → Tryd.pinned.checked.prog.wantsStandIn t = false := by
  obtain rfl : f = 5 := Option.some.inj ((show Tryd.prog.funcNamed "argosy/argosylaw04.WalGoesOn" = some 5 by kernel_rfl).symm.trans hf) |>.symm
  obtain rfl : fn = Tryd.f5 := (Option.some.inj (Tryd.func5.symm.trans hfn)).symm
  exact ⟨by kernel_rfl, paramsPlain⟩

theorem card : Rows.WalGoesOnCardSaid :=
  Claim7.holds_tied_plain_at .later [] _ _ _ _ said (fun _ h => by cases h) (by kernel_rfl) (fun _ h => by cases h) walGoesOn_row_tie rfl ⟨rfl, rfl⟩ (by kernel_rfl) rfl plain (by kernel_rfl)
end Go.Proofs.YtibidileddfhpaaDoor.walGoesOn
