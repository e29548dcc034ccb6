/- A link that meets life 4 and sends: how many data are open, what an acknowledgement makes of it. No condition but that few are sent. -/
import Derived.Test.YtamdjmccaamfeaaSpk19
import Derived.Test.YtamdjmccaamfeaaOpenL
namespace Go.Proofs.Ytamdjmccaamfeaa
open Go.RowKit Go.Maps Go.ChangeMaps Go.MapKept Go.WideShapes

theorem u64Info : (Try.prog.info? 22).map (fun i => (i.zero, i.size, i.bytes)) = some (some (.int .u64 0), 1, 8) := by kernel_rfl
/-- an int's lowest bits. -/
theorem i64_low (k : Int) (b : Nat) (hb : b < 63) : ∃ q : Nat, q < 2 ^ b ∧ bits .and .i64 k ((2 ^ b - 1 : Nat) : Int) = (q : Int) := by
  have h2 : 2 ^ b ≤ 2 ^ 62 := Nat.pow_le_pow_right (by omega) (by omega)
  have h1 : 0 < 2 ^ b := Nat.two_pow_pos b
  refine ⟨(BitVec.ofInt 64 k &&& BitVec.ofInt 64 ((2 ^ b - 1 : Nat) : Int)).toNat, ?_, ?_⟩
  · rw [BitVec.toNat_and, BitVec.ofInt_natCast, BitVec.toNat_ofNat]
    have := Nat.and_le_right (n := (BitVec.ofInt 64 k).toNat) (m := (2 ^ b - 1) % 2 ^ 64)
    have := Nat.mod_le (2 ^ b - 1) (2 ^ 64)
    omega
  · show IntKind.i64.wrap (((BitVec.ofInt 64 k &&& BitVec.ofInt 64 ((2 ^ b - 1 : Nat) : Int)).toNat : Nat) : Int) = _
    have hq : (BitVec.ofInt 64 k &&& BitVec.ofInt 64 ((2 ^ b - 1 : Nat) : Int)).toNat ≤ 2 ^ 62 := by
      rw [BitVec.toNat_and, BitVec.ofInt_natCast, BitVec.toNat_ofNat]
      have := Nat.and_le_right (n := (BitVec.ofInt 64 k).toNat) (m := (2 ^ b - 1) % 2 ^ 64)
      have := Nat.mod_le (2 ^ b - 1) (2 ^ 64)
      omega
    generalize (BitVec.ofInt 64 k &&& BitVec.ofInt 64 ((2 ^ b - 1 : Nat) : Int)).toNat = q at *
    exact IntWalk.i64_in _ (by omega)

/-- s were sent, dn are acknowledged. -/
structure Room (L : Lk) (s dn : Nat) : Prop where
  ep : L.epoch = 1
  pe : L.peer = 4
  ba : L.base = dn + 1
  ex : L.expects = 1
  n : L.n = 0
  len : L.sent.length = s - dn
  le : dn ≤ s
  small : ∀ p ∈ L.sent, p.2.2.length ≤ 1000000
theorem Room.ack {L : Lk} {s dn : Nat} (h : Room L s dn) (hs : s < 2 ^ 62) (a : Nat) (ha : a < 2 ^ 64) : Room (acked L a) s (max dn (min a s)) := by
  obtain ⟨h1, h2, h3, h4, h5, h6, h7, h8⟩ := h
  unfold acked ackN
  rw [h3, h6]
  split
  · have e : max dn (min a s) = dn := by omega
    rw [e]
    exact ⟨h1, h2, h3, h4, h5, h6, h7, h8⟩
  · have e : min ((a - (dn + 1) + 1) % 2 ^ 64) (s - dn) = max dn (min a s) - dn := by omega
    rw [e]
    refine ⟨h1, h2, ?_, h4, h5, ?_, by omega, fun p hp => h8 p (List.mem_of_mem_drop hp)⟩
    · show (dn + 1 + (max dn (min a s) - dn)) % 2 ^ 64 = _
      omega
    · show (L.sent.drop _).length = _
      rw [List.length_drop, h6]
      omega
/-- the link lies in new blocks, none of them rb; all of rb is as it was in wb. -/
structure RoomIn (w wb W : World) (rb g s dn : Nat) : Prop where
  ex : ∃ O L, LkIn O W g L ∧ Room L s dn ∧ (∀ k, O k → w.heap.size ≤ k) ∧ ∀ k, O k → k ≠ rb
  fr : Fr NoBlk w W
  keep : Fr (fun k => k ≠ rb) wb W
  lt : rb < wb.heap.size
theorem RoomIn.nofr {w wb W W' : World} {rb g s dn : Nat} (h : RoomIn w wb W rb g s dn) (hf : Fr NoBlk W W') : RoomIn w wb W' rb g s dn := by
  obtain ⟨⟨O, L, h1, h2, h3⟩, h4, h5, h6⟩ := h
  exact ⟨⟨O, L, h1.nofr hf, h2, h3⟩, h4.trans hf, h5.trans (hf.mono fun _ _ h => h.elim), h6⟩
theorem RoomIn.step {w wb W W' : World} {rb g s' dn' : Nat} {O O' : Nat → Prop} {L' : Lk} (h4 : Fr NoBlk w W) (h5 : Fr (fun k => k ≠ rb) wb W) (h6 : rb < wb.heap.size) (h3 : (∀ k, O k → w.heap.size ≤ k) ∧ ∀ k, O k → k ≠ rb) (hl : LkIn O' W' g L') (hr : Room L' s' dn') (hO : ∀ k, O' k → O k ∨ W.heap.size ≤ k) (hf : Fr O W W') : RoomIn w wb W' rb g s' dn' :=
  ⟨⟨O', L', hl, hr, fun k hk => (hO k hk).elim (h3.1 k) (fun h => Nat.le_trans h4.size h), fun k hk => (hO k hk).elim (h3.2 k) (fun h e => by have := h5.size; omega)⟩, h4.step hf fun k hk e => by have := h3.1 k e; omega, h5.step hf fun k _ e => h3.2 k e, h6⟩
theorem RoomIn.open_ {w wb W : World} {rb g s dn : Nat} (h : RoomIn w wb W rb g s dn) : Calls Try.prog 20 #[.pointer (some ⟨g, 0, none⟩)] W fun e W' => e = .returned (.int .i64 ((s - dn : Nat) : Int)) ∧ W = W' := by
  obtain ⟨⟨O, L, h1, h2, h3⟩, _⟩ := h
  rw [← h2.len]
  exact open_any W O g L h1
theorem RoomIn.recv {w wb W : World} {rb g s dn : Nat} (h : RoomIn w wb W rb g s dn) (hs : s < 2 ^ 62) (a : Nat) (ha : a < 2 ^ 64) :
    Calls Try.prog 14 #[.pointer (some ⟨g, 0, none⟩), .agg #[.int .u64 4, .int .u64 1, .int .u64 0, .int .u64 (a : Int), .slice none 0 0]] W fun e W' => (∃ u v, e = .returned (.tuple #[u, v])) ∧ RoomIn w wb W' rb g s (max dn (min a s)) := by
  obtain ⟨⟨O, L, h1, h2, h3⟩, h4, h5, h6⟩ := h
  refine (rec_any W O g L h1 ⟨4, 1, 0, a, none, 0, []⟩ (by show (4 : Nat) < _; omega) (by show (0 : Nat) < _; omega) ha (fun _ _ => Rd.nil_ _ _) (fun _ => rfl) (by simp) (by rw [h2.ex]; omega) (by rw [h2.n]; omega)).mono ?_
  rintro e W' ⟨A, c, ps, B, c', xs, O', L', rfl, hr⟩
  have hd := hr.data
  unfold RecD metL at hd
  rw [if_neg (by rw [h2.pe]; simp), if_neg (by rw [h2.ep]; simp), if_pos rfl, if_neg (by rw [h2.pe]; simp)] at hd
  obtain ⟨_, _, rfl⟩ := hd
  exact ⟨⟨_, _, rfl⟩, RoomIn.step h4 h5 h6 h3 hr.lk (h2.ack hs a ha) hr.blks.2 hr.fr⟩
theorem RoomIn.send {w wb W : World} {rb g s dn : Nat} (h : RoomIn w wb W rb g s dn) (A : Option Addr) (b : UInt8) (hr : Rd W A (cb [b])) (hA : A = none → (1 : Nat) = 0) :
    Calls Try.prog 12 #[.pointer (some ⟨g, 0, none⟩), .slice A 1 1] W fun e W' => if s - dn < 16 then e = .returned (.int .i64 0) ∧ RoomIn w wb W' rb g (s + 1) dn else e = .returned (.int .i64 2) ∧ RoomIn w wb W' rb g s dn := by
  obtain ⟨⟨O, L, h1, h2, h3⟩, h4, h5, h9⟩ := h
  refine (send_any W O g L h1 A 1 [b] hr hA (by simp)).mono ?_
  intro e W' hs
  unfold SendPost at hs
  rw [h2.len] at hs
  split
  · rw [if_neg (by omega)] at hs
    obtain ⟨rfl, hf, A', c', A2, c2, hl⟩ := hs
    have h7 := h2.le
    have h6 := h2.len
    exact ⟨rfl, RoomIn.step h4 h5 h9 h3 hl ⟨h2.ep, h2.pe, h2.ba, h2.ex, h2.n, by show (L.sent ++ _).length = _; rw [List.length_append, h6]; simp; omega, by omega, fun p hp => by
      rcases List.mem_append.1 hp with hp | hp
      · exact h2.small p hp
      · rw [List.mem_singleton.1 hp]; simp⟩ (fun k hk => hk.imp id fun h => h.1) hf⟩
  · rw [if_pos (by omega)] at hs
    obtain ⟨rfl, rfl⟩ := hs
    exact ⟨rfl, ⟨O, L, h1, h2, h3⟩, h4, h5, h9⟩
theorem RoomIn.packets {w wb W : World} {rb g s dn : Nat} (h : RoomIn w wb W rb g s dn) (hs : s < 2 ^ 62) :
    Calls Try.prog 18 #[.pointer (some ⟨g, 0, none⟩)] W fun e W' => ∃ (A : Option Addr) (c : Nat), e = .returned (.slice A (s - dn) c) ∧ (0 < s - dn → ∃ b, A = some ⟨b, 0, none⟩ ∧ W'.cell? ⟨b, 2, none⟩ = some (.int .u64 ((dn + 1 : Nat) : Int))) ∧ RoomIn w wb W' rb g s dn := by
  obtain ⟨⟨O, L, h1, h2, h3⟩, h4, h5, h9⟩ := h
  refine (packets_any W O g L h1 h2.small).mono ?_
  rintro e W' ⟨A, c, xs, rfl, hp, hf, hpa⟩
  unfold PacketsAre at hpa
  have hlen := h2.len
  have hle := h2.le
  have hx : xs.length = s - dn := by
    split at hpa
    · rename_i h0; rw [hpa, ← hlen, h0]; rfl
    · rw [if_neg (by rw [h2.pe]; simp)] at hpa
      rw [hpa.1, hlen]
  refine ⟨A, c, by rw [hx], fun hpos => ?_, ⟨O, L, h1.nofr hf, h2, h3⟩, h4.trans hf, h5.trans (hf.mono fun _ _ h => h.elim), h9⟩
  rw [if_neg (fun e => by rw [e] at hlen; simp at hlen; omega), if_neg (by rw [h2.pe]; simp)] at hpa
  obtain ⟨x, hx0⟩ : ∃ x, xs[0]? = some x := ⟨_, List.getElem?_eq_getElem (by omega)⟩
  obtain ⟨_, _, hsq, _, _⟩ := hpa.2 0 x hx0
  obtain ⟨b, o, e, hc⟩ := (hp.rd (by have := h1.few; omega)).at_ hx0
  rcases hp.own.2 with ⟨_, e0⟩ | ⟨g', cap, cur, e1, _⟩
  · omega
  · injection e1 with e1
    rw [e] at e1
    injection e1 with e1
    injection e1 with e1 e2
    subst e2
    obtain ⟨_, _, a2, _⟩ := hc W' (Fr.refl _ _)
    refine ⟨b, e, ?_⟩
    have e3 : x.sq = dn + 1 := by rw [hsq, h2.ba]; omega
    rw [e3] at a2
    simpa only [Nat.zero_mul, Nat.add_zero, Nat.zero_add] using a2
end Go.Proofs.Ytamdjmccaamfeaa
