/- A link's Receive. Conditions: the link lies in blocks of its own; its numbers are below 2^62; the packet's data lie elsewhere. -/
import Derived.Test.YtchlafhmoncldaaCame
namespace Go.Proofs.Ytchlafhmoncldaa
open Go.RowKit Go.Maps Go.ChangeMaps Go.MapKept Go.WideShapes

/-- what came does, by the data alone. -/
def CameD (L : Lk) (seq : Nat) (d : List UInt8) (ps : List Prt) (L' : Lk) : Prop :=
  if seq < L.expects ∨ L.expects + 16 ≤ seq then ps = [] ∧ L' = L
  else ∃ (p : Prt) (n : Nat) (E : Nat → Option Prt), p.2.2 = d ∧ Drained (waits L seq p) L.expects ps.length ps E ∧ L' = { L with expects := L.expects + ps.length, n := n, early := E } ∧ n + ps.length ≤ L.n + 1 ∧ E (L.expects + ps.length) = none
structure CameIn (O : Nat → Prop) (W : World) (g : Nat) (L : Lk) (seq : Nat) (d : List UInt8) (A : Option Addr) (c : Nat) (ps : List Prt) (O' : Nat → Prop) (L' : Lk) (W' : World) : Prop where
  own : W'.ownsRow W.heap.size 30 1 (.slice A ps.length c) ps.length (ps.map sl)
  parts : ∀ q ∈ ps, PartO O' W' q
  lk : LkIn O' W' g L'
  fr : Fr (St O W) W W'
  blks : (∀ k, O k → O' k) ∧ ∀ k, O' k → O k ∨ W.heap.size ≤ k
  data : CameD L seq d ps L'
theorem came_ex {O : Nat → Prop} {W W' : World} {g : Nat} {L : Lk} {seq : Nat} {d : List UInt8} {e : Ending} (hL : LkIn O W g L) (h : CamePost O W g L seq d e W') : ∃ A c ps O' L', e = .returned (.slice A ps.length c) ∧ CameIn O W g L seq d A c ps O' L' W' := by
  unfold CamePost at h
  split at h
  · rename_i hc
    obtain ⟨rfl, rfl⟩ := h
    exact ⟨none, 0, [], O, L, rfl, ⟨World.ownsRow_nil _ _ _ _, (fun _ h => by cases h), hL, Fr.refl _ _, ⟨fun _ h => h, fun _ h => .inl h⟩, by unfold CameD; rw [if_pos hc]; exact ⟨rfl, rfl⟩⟩⟩
  · rename_i hc
    obtain ⟨A, c, ps, p, n, E, rfl, h1, h2, h3, h4, h5, h6, h7, h8⟩ := h
    exact ⟨A, c, ps, Plus O W W', _, rfl, ⟨h1, h2, h5, h6, ⟨fun _ h => .inl h, fun _ h => h.imp id (fun h => h.1)⟩, by unfold CameD; rw [if_neg hc]; exact ⟨p, n, E, h3, h4, rfl, h7, h8⟩⟩⟩
/-- a packet that tells how far all came. -/
def AnsD (L : Lk) (x : Pk) : Prop := x.ep = L.epoch ∧ x.pe = L.peer ∧ x.sq = 0 ∧ x.ak = akN L.expects ∧ x.d.2.2 = []
def metL (L : Lk) (ep : Nat) : Lk := if L.peer < ep then { L with peer := ep, expects := 1, base := 1, n := 0, early := fun _ => none } else L
/-- what Receive does, by the data alone. -/
def RecD (L : Lk) (P : Pk) (ps : List Prt) (xs : List Pk) (L' : Lk) : Prop :=
  if P.ep = 0 ∨ P.ep < L.peer then ps = [] ∧ xs = [] ∧ L' = L
  else if P.pe ≠ L.epoch then ps = [] ∧ (∃ x, xs = [x] ∧ AnsD (metL L P.ep) x) ∧ L' = metL L P.ep
  else if P.sq = 0 then ps = [] ∧ xs = [] ∧ L' = acked (metL L P.ep) P.ak
  else (∃ x, xs = [x] ∧ AnsD L' x) ∧ CameD (acked (metL L P.ep) P.ak) P.sq P.d.2.2 ps L'
structure RecIn (O : Nat → Prop) (W : World) (g : Nat) (L : Lk) (P : Pk) (A : Option Addr) (c : Nat) (ps : List Prt) (B : Option Addr) (c' : Nat) (xs : List Pk) (O' : Nat → Prop) (L' : Lk) (W' : World) : Prop where
  own : W'.ownsRow W.heap.size 30 1 (.slice A ps.length c) ps.length (ps.map sl)
  parts : ∀ q ∈ ps, PartO O' W' q
  pks : PksIn W W' B c' xs
  lk : LkIn O' W' g L'
  fr : Fr (St O W) W W'
  blks : (∀ k, O k → O' k) ∧ ∀ k, O' k → O k ∨ W.heap.size ≤ k
  data : RecD L P ps xs L'
def RecPost (O : Nat → Prop) (W : World) (g : Nat) (L : Lk) (P : Pk) (e : Ending) (W' : World) : Prop :=
  ∃ A c ps B c' xs O' L', e = .returned (.tuple #[.slice A ps.length c, .slice B xs.length c']) ∧ RecIn O W g L P A c ps B c' xs O' L' W'
theorem PksIn.base {W0 W W' : World} {A : Option Addr} {c : Nat} {xs : List Pk} (h : PksIn W W' A c xs) (hs : W0.heap.size ≤ W.heap.size) : PksIn W0 W' A c xs := ⟨own_base h.own hs, fun x hx => own_base (h.data x hx) hs⟩
theorem PksIn.none_ (W W' : World) : PksIn W W' none 0 [] := ⟨World.ownsRow_nil _ _ _ _, fun _ h => by cases h⟩
theorem acked_same (L : Lk) (a : Nat) : (acked L a).expects = L.expects ∧ (acked L a).n = L.n ∧ (acked L a).peer = L.peer ∧ (acked L a).epoch = L.epoch := by
  unfold acked
  split <;> exact ⟨rfl, rfl, rfl, rfl⟩

set_option maxRecDepth 100000 in
set_option maxHeartbeats 4000000 in
theorem rec_any (W : World) (O : Nat → Prop) (g : Nat) (L : Lk) (h : LkIn O W g L) (P : Pk) (hep : P.ep < 2 ^ 64) (hsq : P.sq < 2 ^ 64) (hak : P.ak < 2 ^ 64) (hr : ∀ w, Fr (St O W) W w → Rd w P.d.1 (cb P.d.2.2)) (hA : P.d.1 = none → P.d.2.1 = 0) (hd : P.d.2.2.length ≤ 1000000) (hx : L.expects < 2 ^ 62) (hn : L.n ≤ 1000000) :
    Calls Try.prog 14 #[.pointer (some ⟨g, 0, none⟩), .agg (pka P)] W (RecPost O W g L P) := by
  have HL := Lib.hid h
  have HR := Lib.hid hr
  have HA := Lib.hid hA
  have HD := Lib.hid hd
  have HXN : Hid (L.expects < 2 ^ 62 ∧ L.n ≤ 1000000 ∧ P.ep < 2 ^ 64 ∧ P.sq < 2 ^ 64 ∧ P.ak < 2 ^ 64) := ⟨hx, hn, hep, hsq, hak⟩
  have HP : Hid (∀ A c ps B c' xs O' L' W', RecIn O W g L P A c ps B c' xs O' L' W' → RecPost O W g L P (.returned (.tuple #[.slice A ps.length c, .slice B xs.length c'])) W') := fun A c ps B c' xs O' L' W' h => ⟨A, c, ps, B, c', xs, O', L', rfl, h⟩
  have HRD : Hid (∀ ps xs L', RecD L P ps xs L' = if P.ep = 0 ∨ P.ep < L.peer then ps = [] ∧ xs = [] ∧ L' = L
    else if P.pe ≠ L.epoch then ps = [] ∧ (∃ x, xs = [x] ∧ AnsD (metL L P.ep) x) ∧ L' = metL L P.ep
    else if P.sq = 0 then ps = [] ∧ xs = [] ∧ L' = acked (metL L P.ep) P.ak
    else (∃ x, xs = [x] ∧ AnsD L' x) ∧ CameD (acked (metL L P.ep) P.ak) P.sq P.d.2.2 ps L') := fun _ _ _ => rfl
  obtain ⟨gb, hgb⟩ : ∃ gb, gb = W.heap.size := ⟨_, rfl⟩
  have HGB : Hid (¬ O gb) := fun e => by have := h.ol gb e; omega
  obtain ⟨w0, hw0⟩ : ∃ w0, w0 = W.alloc (.cells #[.int .u64 (P.ep : Int), .int .u64 (P.pe : Int), .int .u64 (P.sq : Int), .int .u64 (P.ak : Int), .slice P.d.1 P.d.2.2.length P.d.2.1] 32) := ⟨_, rfl⟩
  have HF0 : Hid (Fr NoBlk W w0) := by show Fr _ _ _; rw [hw0]; exact (Fr.refl _ _).alloc _
  have HL0 := Lib.hid (h.nofr HF0.out)
  have HB0 : Hid (Bk w0 gb 32 (pka P)) := by show Bk _ _ _ _; rw [hw0, hgb]; exact Bk.new _ _ _
  have HBC : Hid (∀ w, Bk w gb 32 (pka P) → w.cell? ⟨gb, 0, none⟩ = some (.int .u64 (P.ep : Int)) ∧ w.cell? ⟨gb, 1, none⟩ = some (.int .u64 (P.pe : Int)) ∧ w.cell? ⟨gb, 2, none⟩ = some (.int .u64 (P.sq : Int)) ∧ w.cell? ⟨gb, 3, none⟩ = some (.int .u64 (P.ak : Int)) ∧ w.cell? ⟨gb, 4, none⟩ = some (.slice P.d.1 P.d.2.2.length P.d.2.1)) := fun w hb => ⟨hb.cell 0, hb.cell 1, hb.cell 2, hb.cell 3, hb.cell 4⟩
  obtain ⟨c0, c1, c2, c3, c4, c5⟩ := HL0.out.cells
  obtain ⟨p0, p1, p2, p3, p4⟩ := HBC.out w0 HB0.out
  clear h hr hA hd hx hn hsq hak hep c2 c3 c4 c5 p1 p2 p3 p4
  have henter : ∀ Q : Ending → World → Prop, Calls Try.prog 14 #[.pointer (some ⟨g, 0, none⟩), .agg #[.int .u64 (P.ep : Int), .int .u64 (P.pe : Int), .int .u64 (P.sq : Int), .int .u64 (P.ak : Int), .slice P.d.1 P.d.2.2.length P.d.2.1]] W Q → Calls Try.prog 14 #[.pointer (some ⟨g, 0, none⟩), .agg (pka P)] W Q := fun Q h => h
  refine henter _ ?_
  clear henter
  go_enter Try.func14, Try.ntmps14
  go_upto_region 1 with fail
  rw [← hw0, ← hgb]
  clear hw0 hgb
  by_cases k1 : P.ep = 0
  · have q1 : ((P.ep : Int) == 0) = true := by simp [k1]
    have HH : Hid (P.ep = 0 ∨ P.ep < L.peer) := .inl k1
    clear k1
    go_region
    go_wp2_with fail
    refine bodyPost_ret (results_tmp2 rfl _ _ _) rfl ?_
    exact HP.out none 0 [] none 0 [] O L _ ⟨World.ownsRow_nil _ _ _ _, (fun _ h => by cases h), PksIn.none_ _ _, HL0.out.nofr (Fr.refl _ _).drew, (HF0.out.mono fun _ _ h => h.elim).drew, ⟨fun _ h => h, fun _ h => .inl h⟩, by rw [HRD.out, if_pos HH.out]; exact ⟨rfl, rfl, rfl⟩⟩
  have q1 : ((P.ep : Int) == 0) = false := beq_eq_false_iff_ne.2 (by omega)
  by_cases k2 : P.ep < L.peer
  · have q2 : (P.ep : Int) < (L.peer : Int) := by omega
    have HH : Hid (P.ep = 0 ∨ P.ep < L.peer) := .inr k2
    clear k1 k2
    go_region
    go_wp2_with fail
    refine bodyPost_ret (results_tmp2 rfl _ _ _) rfl ?_
    exact HP.out none 0 [] none 0 [] O L _ ⟨World.ownsRow_nil _ _ _ _, (fun _ h => by cases h), PksIn.none_ _ _, HL0.out.nofr (Fr.refl _ _).drew, (HF0.out.mono fun _ _ h => h.elim).drew, ⟨fun _ h => h, fun _ h => .inl h⟩, by rw [HRD.out, if_pos HH.out]; exact ⟨rfl, rfl, rfl⟩⟩
  have q2 : ¬ (P.ep : Int) < (L.peer : Int) := by omega
  have HH : Hid (¬ (P.ep = 0 ∨ P.ep < L.peer)) := by rintro (h | h); exact k1 h; exact k2 h
  go_region
  go_wp2_with fail
  by_cases k3 : L.peer < P.ep
  · have q3 : (L.peer : Int) < (P.ep : Int) := by omega
    have HM : Hid (metL L P.ep = { L with peer := P.ep, expects := 1, base := 1, n := 0, early := fun _ => none }) := if_pos k3
    clear k1 k2 k3 q1 q2
    go_upto_region 3 with fail
    go_region
    go_wp2_with fail
    refine (meet_any _ O g L (HL0.out.nofr (((Fr.refl NoBlk w0).drew).drew)) P.ep HXN.out.2.2.1).mono ?_
    rintro e w1 ⟨rfl, hl1, hf1⟩
    rw [← HM.out] at hl1
    have HL1 := Lib.hid hl1
    have HF1 : Hid (Fr (St O w0) w0 w1) := (((Fr.refl (St O w0) w0).drew).drew).stT hf1
    have HM2 : Hid ((metL L P.ep).epoch = L.epoch ∧ (metL L P.ep).expects < 2 ^ 62 ∧ (metL L P.ep).n ≤ 1000000) := by show _ ∧ _; rw [HM.out]; exact ⟨rfl, by show (1 : Nat) < _; omega, Nat.zero_le _⟩
    clear hl1 hf1 HM q3 c0 c1 p0
    have HB1 := Lib.hid (HB0.out.fr HF1.out (fun e => HGB.out e.1))
    have HFW : Hid (Fr (St O W) W w1) := Fr.stT (O := O) (HF0.out.mono fun _ _ h => h.elim) HF1.out
    obtain ⟨L1, hL1⟩ : ∃ L1, L1 = metL L P.ep := ⟨_, rfl⟩
    rw [← hL1] at HL1 HM2 HRD
    clear hL1
    obtain ⟨c0, c1, c2, c3, c4, c5⟩ := HL1.out.cells
    rw [HM2.out.1] at c0
    obtain ⟨p0, p1, p2, p3, p4⟩ := HBC.out w1 HB1.out
    clear c1 c2 c3 c4 c5 p0 p2 p3 p4
    go_upto_region 5 with fail
    by_cases k4 : P.pe = L.epoch
    · have q4 : ((P.pe : Int) == (L.epoch : Int)) = true := by simp [k4]
      have q4' : ((P.pe : Int) != (L.epoch : Int)) = false := by simp [k4]
      have q4'' : (P.pe : Int) = (L.epoch : Int) := by omega
      have HK4 := Lib.hid k4
      clear k4
      go_region
      have HBd : Hid (Bk w1.drew gb 32 (pka P)) := HB1.out
      obtain ⟨p0, p1', p2, p3, p4⟩ := HBC.out w1 HB1.out
      clear p0 p1' p2 p4
      go_wp2_with fail
      refine (ack_any _ O g L1 (HL1.out.nofr (Fr.refl NoBlk w1).drew) P.ak HXN.out.2.2.2.2).mono ?_
      rintro e w2 ⟨rfl, hl2, hf2⟩
      obtain ⟨s1, s2, s3, s4⟩ := acked_same L1 P.ak
      obtain ⟨L2, hL2⟩ : ∃ L2, L2 = acked L1 P.ak := ⟨_, rfl⟩
      rw [← hL2] at hl2 s1 s2 s3 s4 HRD
      have HL2 := Lib.hid hl2
      have HF2 : Hid (Fr (St O w1) w1 w2) := ((Fr.refl (St O w1) w1).drew).stT hf2
      have HB2 := Lib.hid (HB1.out.fr HF2.out (fun e => HGB.out e.1))
      have HS : Hid (L2.expects < 2 ^ 62 ∧ L2.n ≤ 1000000) := ⟨by rw [s1]; exact HM2.out.2.1, by rw [s2]; exact HM2.out.2.2⟩
      have HFW2 := Lib.hid (HFW.out.stT HF2.out)
      have HRW : Hid (Rd w2 P.d.1 (cb P.d.2.2)) := HR.out w2 HFW2.out
      clear hL2 hl2 hf2 s1 s2 s3 s4 c0 p1 p3 q4 q4' q4'' HBd
      obtain ⟨p0, p1, p2, p3, p4⟩ := HBC.out w2 HB2.out
      clear p0 p1 p3
      by_cases k5 : P.sq = 0
      · have q5 : ((P.sq : Int) == 0) = true := by simp [k5]
        have HK5 := Lib.hid k5
        clear k5
        go_wp2_with fail
        refine bodyPost_ret (results_tmp2 rfl _ _ _) rfl ?_
        exact HP.out none 0 [] none 0 [] O L2 _ ⟨World.ownsRow_nil _ _ _ _, (fun _ h => by cases h), PksIn.none_ _ _, HL2.out, HFW2.out, ⟨fun _ h => h, fun _ h => .inl h⟩, by rw [HRD.out, if_neg HH.out, if_neg (by simp [HK4.out]), if_pos HK5.out]; exact ⟨rfl, rfl, rfl⟩⟩
      · have q5 : ((P.sq : Int) == 0) = false := beq_eq_false_iff_ne.2 (by omega)
        have HK5 := Lib.hid k5
        clear k5
        go_wp2_with fail
        refine (came_any _ O g L2 HL2.out P.sq HXN.out.2.2.2.1 P.d.1 P.d.2.1 P.d.2.2 HRW.out HA.out HD.out HS.out.1 HS.out.2).mono ?_
        intro e w3 hpost
        obtain ⟨A3, c3, ps, O3, L3, rfl, hc⟩ := came_ex HL2.out hpost
        have HC := Lib.hid hc
        clear hpost hc
        go_wp2_with fail
        refine (answer_any _ O3 g L3 HC.out.lk).mono ?_
        rintro e w4 ⟨A4, c4, x, rfl, hpk, a1, a2, a3, a4, a5, hf4⟩
        have HPK := Lib.hid hpk
        have HAN : Hid (AnsD L3 x) := ⟨a1, a2, a3, a4, a5⟩
        have HF4 := Lib.hid hf4
        clear hpk a1 a2 a3 a4 a5 hf4
        go_wp2_with fail
        refine bodyPost_ret (results_tmp2 rfl _ _ _) rfl ?_
        have hs : W.heap.size ≤ w2.heap.size := HFW2.out.size
        exact HP.out A3 c3 ps A4 c4 [x] O3 L3 _ ⟨own_base (own_fr HC.out.own HF4.out (fun _ _ h => h)) hs, fun q hq => (HC.out.parts q hq).fr HF4.out (fun _ _ h => h), HPK.out.base (Nat.le_trans hs HC.out.fr.size), HC.out.lk.nofr HF4.out, (HFW2.out.stT HC.out.fr).trans (HF4.out.mono fun _ _ h => h.elim), ⟨HC.out.blks.1, fun k hk => (HC.out.blks.2 k hk).imp id (fun h => Nat.le_trans hs h)⟩, by rw [HRD.out, if_neg HH.out, if_neg (by simp [HK4.out]), if_neg HK5.out]; exact ⟨⟨x, rfl, HAN.out⟩, HC.out.data⟩⟩
    · have q4 : ((P.pe : Int) == (L.epoch : Int)) = false := beq_eq_false_iff_ne.2 (by omega)
      have q4' : ((P.pe : Int) != (L.epoch : Int)) = true := by simp; omega
      have q4'' : ¬ (P.pe : Int) = (L.epoch : Int) := by omega
      have HK4 := Lib.hid k4
      clear k4
      go_region
      go_wp2_with fail
      refine (answer_any _ O g L1 (HL1.out.nofr (Fr.refl NoBlk w1).drew)).mono ?_
      rintro e w4 ⟨A4, c4, x, rfl, hpk, a1, a2, a3, a4, a5, hf4⟩
      have HPK := Lib.hid hpk
      have HAN : Hid (AnsD L1 x) := ⟨a1, a2, a3, a4, a5⟩
      have HF4 : Hid (Fr NoBlk w1 w4) := ((Fr.refl NoBlk w1).drew).trans hf4
      clear hpk a1 a2 a3 a4 a5 hf4
      go_wp2_with fail
      refine bodyPost_ret (results_tmp2 rfl _ _ _) rfl ?_
      exact HP.out none 0 [] A4 c4 [x] O L1 _ ⟨World.ownsRow_nil _ _ _ _, (fun _ h => by cases h), HPK.out.base HFW.out.size, HL1.out.nofr HF4.out, HFW.out.trans (HF4.out.mono fun _ _ h => h.elim), ⟨fun _ h => h, fun _ h => .inl h⟩, by rw [HRD.out, if_neg HH.out, if_pos HK4.out]; exact ⟨rfl, ⟨x, rfl, HAN.out⟩, rfl⟩⟩
  · have q3 : ¬ (L.peer : Int) < (P.ep : Int) := by omega
    have HM : Hid (metL L P.ep = L) := if_neg k3
    clear k1 k2 k3 q1 q2
    go_upto_region 3 with fail
    go_region
    go_wp2_with fail
    obtain ⟨w1, hw1⟩ : ∃ w1, w1 = w0.drew.drew := ⟨_, rfl⟩
    have HL1 : Hid (LkIn O w1 g (metL L P.ep)) := by show LkIn _ _ _ _; rw [HM.out, hw1]; exact HL0.out.nofr ((Fr.refl NoBlk w0).drew).drew
    have HF1 : Hid (Fr (St O w0) w0 w1) := by show Fr _ _ _; rw [hw1]; exact ((Fr.refl (St O w0) w0).drew).drew
    have HM2 : Hid ((metL L P.ep).epoch = L.epoch ∧ (metL L P.ep).expects < 2 ^ 62 ∧ (metL L P.ep).n ≤ 1000000) := by show _ ∧ _; rw [HM.out]; exact ⟨rfl, HXN.out.1, HXN.out.2.1⟩
    clear HM q3 c0 c1 p0
    try rw [← hw1]
    clear hw1
    have HB1 := Lib.hid (HB0.out.fr HF1.out (fun e => HGB.out e.1))
    have HFW : Hid (Fr (St O W) W w1) := Fr.stT (O := O) (HF0.out.mono fun _ _ h => h.elim) HF1.out
    obtain ⟨L1, hL1⟩ : ∃ L1, L1 = metL L P.ep := ⟨_, rfl⟩
    rw [← hL1] at HL1 HM2 HRD
    clear hL1
    obtain ⟨c0, c1, c2, c3, c4, c5⟩ := HL1.out.cells
    rw [HM2.out.1] at c0
    obtain ⟨p0, p1, p2, p3, p4⟩ := HBC.out w1 HB1.out
    clear c1 c2 c3 c4 c5 p0 p2 p3 p4
    go_upto_region 5 with fail
    by_cases k4 : P.pe = L.epoch
    · have q4 : ((P.pe : Int) == (L.epoch : Int)) = true := by simp [k4]
      have q4' : ((P.pe : Int) != (L.epoch : Int)) = false := by simp [k4]
      have q4'' : (P.pe : Int) = (L.epoch : Int) := by omega
      have HK4 := Lib.hid k4
      clear k4
      go_region
      have HBd : Hid (Bk w1.drew gb 32 (pka P)) := HB1.out
      obtain ⟨p0, p1', p2, p3, p4⟩ := HBC.out w1 HB1.out
      clear p0 p1' p2 p4
      go_wp2_with fail
      refine (ack_any _ O g L1 (HL1.out.nofr (Fr.refl NoBlk w1).drew) P.ak HXN.out.2.2.2.2).mono ?_
      rintro e w2 ⟨rfl, hl2, hf2⟩
      obtain ⟨s1, s2, s3, s4⟩ := acked_same L1 P.ak
      obtain ⟨L2, hL2⟩ : ∃ L2, L2 = acked L1 P.ak := ⟨_, rfl⟩
      rw [← hL2] at hl2 s1 s2 s3 s4 HRD
      have HL2 := Lib.hid hl2
      have HF2 : Hid (Fr (St O w1) w1 w2) := ((Fr.refl (St O w1) w1).drew).stT hf2
      have HB2 := Lib.hid (HB1.out.fr HF2.out (fun e => HGB.out e.1))
      have HS : Hid (L2.expects < 2 ^ 62 ∧ L2.n ≤ 1000000) := ⟨by rw [s1]; exact HM2.out.2.1, by rw [s2]; exact HM2.out.2.2⟩
      have HFW2 := Lib.hid (HFW.out.stT HF2.out)
      have HRW : Hid (Rd w2 P.d.1 (cb P.d.2.2)) := HR.out w2 HFW2.out
      clear hL2 hl2 hf2 s1 s2 s3 s4 c0 p1 p3 q4 q4' q4'' HBd
      obtain ⟨p0, p1, p2, p3, p4⟩ := HBC.out w2 HB2.out
      clear p0 p1 p3
      by_cases k5 : P.sq = 0
      · have q5 : ((P.sq : Int) == 0) = true := by simp [k5]
        have HK5 := Lib.hid k5
        clear k5
        go_wp2_with fail
        refine bodyPost_ret (results_tmp2 rfl _ _ _) rfl ?_
        exact HP.out none 0 [] none 0 [] O L2 _ ⟨World.ownsRow_nil _ _ _ _, (fun _ h => by cases h), PksIn.none_ _ _, HL2.out, HFW2.out, ⟨fun _ h => h, fun _ h => .inl h⟩, by rw [HRD.out, if_neg HH.out, if_neg (by simp [HK4.out]), if_pos HK5.out]; exact ⟨rfl, rfl, rfl⟩⟩
      · have q5 : ((P.sq : Int) == 0) = false := beq_eq_false_iff_ne.2 (by omega)
        have HK5 := Lib.hid k5
        clear k5
        go_wp2_with fail
        refine (came_any _ O g L2 HL2.out P.sq HXN.out.2.2.2.1 P.d.1 P.d.2.1 P.d.2.2 HRW.out HA.out HD.out HS.out.1 HS.out.2).mono ?_
        intro e w3 hpost
        obtain ⟨A3, c3, ps, O3, L3, rfl, hc⟩ := came_ex HL2.out hpost
        have HC := Lib.hid hc
        clear hpost hc
        go_wp2_with fail
        refine (answer_any _ O3 g L3 HC.out.lk).mono ?_
        rintro e w4 ⟨A4, c4, x, rfl, hpk, a1, a2, a3, a4, a5, hf4⟩
        have HPK := Lib.hid hpk
        have HAN : Hid (AnsD L3 x) := ⟨a1, a2, a3, a4, a5⟩
        have HF4 := Lib.hid hf4
        clear hpk a1 a2 a3 a4 a5 hf4
        go_wp2_with fail
        refine bodyPost_ret (results_tmp2 rfl _ _ _) rfl ?_
        have hs : W.heap.size ≤ w2.heap.size := HFW2.out.size
        exact HP.out A3 c3 ps A4 c4 [x] O3 L3 _ ⟨own_base (own_fr HC.out.own HF4.out (fun _ _ h => h)) hs, fun q hq => (HC.out.parts q hq).fr HF4.out (fun _ _ h => h), HPK.out.base (Nat.le_trans hs HC.out.fr.size), HC.out.lk.nofr HF4.out, (HFW2.out.stT HC.out.fr).trans (HF4.out.mono fun _ _ h => h.elim), ⟨HC.out.blks.1, fun k hk => (HC.out.blks.2 k hk).imp id (fun h => Nat.le_trans hs h)⟩, by rw [HRD.out, if_neg HH.out, if_neg (by simp [HK4.out]), if_neg HK5.out]; exact ⟨⟨x, rfl, HAN.out⟩, HC.out.data⟩⟩
    · have q4 : ((P.pe : Int) == (L.epoch : Int)) = false := beq_eq_false_iff_ne.2 (by omega)
      have q4' : ((P.pe : Int) != (L.epoch : Int)) = true := by simp; omega
      have q4'' : ¬ (P.pe : Int) = (L.epoch : Int) := by omega
      have HK4 := Lib.hid k4
      clear k4
      go_region
      go_wp2_with fail
      refine (answer_any _ O g L1 (HL1.out.nofr (Fr.refl NoBlk w1).drew)).mono ?_
      rintro e w4 ⟨A4, c4, x, rfl, hpk, a1, a2, a3, a4, a5, hf4⟩
      have HPK := Lib.hid hpk
      have HAN : Hid (AnsD L1 x) := ⟨a1, a2, a3, a4, a5⟩
      have HF4 : Hid (Fr NoBlk w1 w4) := ((Fr.refl NoBlk w1).drew).trans hf4
      clear hpk a1 a2 a3 a4 a5 hf4
      go_wp2_with fail
      refine bodyPost_ret (results_tmp2 rfl _ _ _) rfl ?_
      exact HP.out none 0 [] A4 c4 [x] O L1 _ ⟨World.ownsRow_nil _ _ _ _, (fun _ h => by cases h), HPK.out.base HFW.out.size, HL1.out.nofr HF4.out, HFW.out.trans (HF4.out.mono fun _ _ h => h.elim), ⟨fun _ h => h, fun _ h => .inl h⟩, by rw [HRD.out, if_neg HH.out, if_pos HK4.out]; exact ⟨rfl, ⟨x, rfl, HAN.out⟩, rfl⟩⟩
end Go.Proofs.Ytchlafhmoncldaa
