/- A link's came. Conditions: the link lies in blocks of its own; its numbers are below 2^62. -/
import Derived.Test.YtchlafhmoncldaaAck
namespace Go.Proofs.Ytchlafhmoncldaa
open Go.RowKit Go.Maps Go.ChangeMaps Go.MapKept Go.WideShapes

theorem u64KeyT : KeyT Try.prog 22 u64v u64l u64ok :=
  ⟨int_keyed Try.underlying22, fun x hx => keyOf_int_mk Try.underlying22 (by
    have hx' : x < 2 ^ 64 := hx
    simp only [Lit.wf, Bool.and_eq_true, decide_eq_true_eq, show IntKind.min .u64 = 0 from by decide, show IntKind.max .u64 = 18446744073709551615 from by decide]
    omega), fun x y _ _ h => by injection h with _ h; exact Int.ofNat.inj h⟩
theorem Kg.pos {κ : Type} {P : Program} {k : TypeId} {w : World} {b s : Nat} {f : κ → Option Value} {lit : κ → Lit} {ok : κ → Prop} (h : Kg P k lit ok w b s f) {x : κ} (hx : ok x) (hs : (f x).isSome = true) : 0 < s := by
  obtain ⟨D, ⟨es, clock, hb, F, hsz, hD⟩, h2, h3⟩ := h
  have h4 := (h3 x hx).1
  rw [hs] at h4
  rcases Nat.eq_zero_or_pos s with e | e
  · exfalso
    rw [e] at h2
    rw [hD] at h2 h4
    unfold Maps.size at h2
    have h5 := List.eq_nil_of_length_eq_zero h2
    rw [h5] at h4
    cases h4
  · exact e
theorem LkIn.mono {O O' : Nat → Prop} {W : World} {g : Nat} {L : Lk} (h : LkIn O W g L) (hO : ∀ k, O k → O' k) (hl : ∀ k, O' k → k < W.heap.size) : LkIn O' W g L :=
  ⟨h.bk, h.own, h.map, fun p hp => (h.parts p hp).mono hO, fun k p hp => (h.eparts k p hp).mono hO, hO _ h.og, hO _ h.om, fun b hb => hO _ (h.os b hb), hl, h.nums, h.few⟩
theorem LkIn.ty {O : Nat → Prop} {W W' : World} {g : Nat} {L : Lk} (h : LkIn O W g L) (hf : Fr (fun j => j = L.gm) W W') {base : Nat} {e : TypeId} {size n : Nat} {v : Value} {xs : List Value} (ho : W.ownsRow base e size v n xs) : W'.ownsRow base e size v n xs :=
  own_fr ho hf fun k hk e => by
    obtain ⟨es, cl, hh⟩ := h.map.blk
    rcases ho.2 with ⟨e1, _⟩ | ⟨q, cap, cur, e1, _, h4, _⟩
    · rw [e1] at hk; cases hk
    · rw [e1] at hk
      have e2 : q = k := by simpa [Value.ownBlock] using hk
      rw [e2, e, hh] at h4
      cases h4
/-- its map changed. -/
theorem LkIn.remap {O : Nat → Prop} {W W' : World} {g : Nat} {L : Lk} (h : LkIn O W g L) {n' : Nat} {early' : Nat → Option Prt} (hf : Fr (fun j => j = L.gm) W W') (hm : Kg Try.prog 22 u64l u64ok W' L.gm n' (fun k => (early' k).map sl))
    (hp : ∀ k p, early' k = some p → (∃ j, L.early j = some p) ∨ PartO O W p) : LkIn O W' g { L with n := n', early := early' } ∧ Fr (St O W) W W' := by
  have hg : ¬ g = L.gm := fun e => h.map.ne h.bk e
  refine ⟨⟨h.bk.fr hf hg, h.ty hf h.own, hm, fun p hp => ⟨h.ty hf (h.parts p hp).1, (h.parts p hp).2⟩, fun k p hk => ?_, h.og, h.om, h.os, fun k hk => Nat.lt_of_lt_of_le (h.ol k hk) hf.size, h.nums, h.few⟩, hf.mono fun k _ e => by rw [e]; exact h.stm⟩
  rcases hp k p hk with ⟨j, hj⟩ | h1
  · exact ⟨h.ty hf (h.eparts j p hj).1, (h.eparts j p hj).2⟩
  · exact ⟨h.ty hf h1.1, h1.2⟩
/-- what k rounds took out. -/
structure Drained (e0 : Nat → Option Prt) (x k : Nat) (ps : List Prt) (E : Nat → Option Prt) : Prop where
  len : ps.length = k
  got : ∀ j, j < k → e0 (x + j) = ps[j]?
  rest : E = fun y => if x ≤ y ∧ y < x + k then none else e0 y
theorem Drained.snoc {e0 : Nat → Option Prt} {x k y : Nat} {ps : List Prt} {E : Nat → Option Prt} (h : Drained e0 x k ps E) {q : Prt} (hy : y = x + k) (hq : E y = some q) : Drained e0 x (k + 1) (ps ++ [q]) (fun z => if z = y then none else E z) := by
  obtain ⟨h1, h2, h3⟩ := h
  subst h3 hy
  refine ⟨by simp [h1], fun j hj => ?_, ?_⟩
  · by_cases hjk : j < k
    · rw [List.getElem?_append_left (by omega)]
      exact h2 j hjk
    · obtain rfl : j = k := by omega
      rw [List.getElem?_append_right (by omega), h1, Nat.sub_self]
      dsimp only at hq
      rw [if_neg (by omega)] at hq
      exact hq
  · funext z
    by_cases hz : z = x + k
    · rw [if_pos hz, if_pos (by omega)]
    · rw [if_neg hz]
      dsimp only
      by_cases hz2 : x ≤ z ∧ z < x + k
      · rw [if_pos hz2, if_pos (by omega)]
      · rw [if_neg hz2, if_neg (by omega)]
/-- the data that wait, one more among them. -/
def waits (L : Lk) (seq : Nat) (p : Prt) : Nat → Option Prt := fun y => if y = seq then (if (L.early seq).isSome then L.early seq else some p) else L.early y
def CamePost (O : Nat → Prop) (W : World) (g : Nat) (L : Lk) (seq : Nat) (d : List UInt8) (e : Ending) (W' : World) : Prop :=
  if seq < L.expects ∨ L.expects + 16 ≤ seq then e = .returned (.slice none 0 0) ∧ W = W'
  else ∃ (A : Option Addr) (c : Nat) (ps : List Prt) (p : Prt) (n : Nat) (E : Nat → Option Prt), e = .returned (.slice A ps.length c) ∧ W'.ownsRow W.heap.size 30 1 (.slice A ps.length c) ps.length (ps.map sl) ∧ (∀ q ∈ ps, PartO (Plus O W W') W' q) ∧ p.2.2 = d ∧
    Drained (waits L seq p) L.expects ps.length ps E ∧ LkIn (Plus O W W') W' g { L with expects := L.expects + ps.length, n := n, early := E } ∧ Fr (St O W) W W' ∧ n + ps.length ≤ L.n + 1 ∧ E (L.expects + ps.length) = none

set_option maxRecDepth 100000 in
set_option maxHeartbeats 4000000 in
theorem came_any (W : World) (O : Nat → Prop) (g : Nat) (L : Lk) (h : LkIn O W g L) (seq : Nat) (hs : seq < 2 ^ 64) (A : Option Addr) (c : Nat) (d : List UInt8) (hr : Rd W A (cb d)) (hA : A = none → c = 0) (hd : d.length ≤ 1000000) (hx : L.expects < 2 ^ 62) (hn : L.n ≤ 1000000) :
    Calls Try.prog 29 #[.pointer (some ⟨g, 0, none⟩), .int .u64 (seq : Int), .slice A d.length c] W (CamePost O W g L seq d) := by
  obtain ⟨i0, hi, hz0, hz1, hz2⟩ := info_parts sliceInfo
  obtain ⟨c0, c1, c2', c3, c4, c5⟩ := h.cells
  have HL := Lib.hid h
  have HCL := Lib.hid fun w (hf : Fr NoBlk W w) => clone_any w A d.length c d rfl (hr.nofr hf) hA (by omega)
  have HP : Hid (∀ e W', CamePost O W g L seq d e W' = if seq < L.expects ∨ L.expects + 16 ≤ seq then e = .returned (.slice none 0 0) ∧ W = W'
    else ∃ (A : Option Addr) (c : Nat) (ps : List Prt) (p : Prt) (n : Nat) (E : Nat → Option Prt), e = .returned (.slice A ps.length c) ∧ W'.ownsRow W.heap.size 30 1 (.slice A ps.length c) ps.length (ps.map sl) ∧ (∀ q ∈ ps, PartO (Plus O W W') W' q) ∧ p.2.2 = d ∧
      Drained (waits L seq p) L.expects ps.length ps E ∧ LkIn (Plus O W W') W' g { L with expects := L.expects + ps.length, n := n, early := E } ∧ Fr (St O W) W W' ∧ n + ps.length ≤ L.n + 1 ∧ E (L.expects + ps.length) = none) := fun _ _ => rfl
  have HB0 : Hid (L.expects < 2 ^ 62 ∧ L.n ≤ 1000000 ∧ seq < 2 ^ 64) := ⟨hx, hn, hs⟩
  clear h hr hA
  by_cases h1 : seq < L.expects
  · have h1' : (seq : Int) < (L.expects : Int) := by omega
    have HH : Hid (seq < L.expects ∨ L.expects + 16 ≤ seq) := .inl h1
    clear h1
    go_enter Try.func29, Try.ntmps29
    go_wp2_with fail
    go_ret
    rw [HP.out, if_pos HH.out]
    exact ⟨rfl, rfl⟩
  have h1' : ¬ (seq : Int) < (L.expects : Int) := by omega
  obtain ⟨m, hm⟩ : ∃ m, m = seq - L.expects := ⟨_, rfl⟩
  have a1 : IntKind.u64.wrap ((seq : Int) - (L.expects : Int)) = (m : Int) := by
    simp only [IntKind.wrap, IntKind.bits, IntKind.signed]
    simp
    omega
  have a1' : ((seq : Int) - (L.expects : Int)) % 18446744073709551616 = (m : Int) := by omega
  by_cases h2 : L.expects + 16 ≤ seq
  · have h2' : (16 : Int) ≤ (m : Int) := by omega
    have HH : Hid (seq < L.expects ∨ L.expects + 16 ≤ seq) := .inr h2
    clear h1 h2 hm
    go_enter Try.func29, Try.ntmps29
    go_wp2_with fail
    go_ret
    rw [HP.out, if_pos HH.out]
    exact ⟨rfl, rfl⟩
  have h2' : ¬ (16 : Int) ≤ (m : Int) := by omega
  have HNO : Hid (¬ (seq < L.expects ∨ L.expects + 16 ≤ seq)) := by rintro (h | h); exact h1 h; exact h2 h
  clear h1 h2 hm hx hn
  have hld := HL.out.map.look u64KeyT Try.underlying68 (zeroSl W) (x := seq) hs
  obtain ⟨o, ho⟩ : ∃ o, o = L.early seq := ⟨_, rfl⟩
  rw [← ho] at hld
  have HO := Lib.hid ho
  clear ho
  cases o with
  | some q =>
    have hlk : (Instr.lookup 68 (.map (some L.gm)) (.int .u64 (seq : Int)) true).run Try.prog W = .ok (.tuple #[.slice q.1 q.2.2.length q.2.1, .bool true]) W := hld
    clear hld
    go_enter Try.func29, Try.ntmps29
    go_upto_region 6 with fail
    have HSAME : Hid (waits L seq (none, 0, d) = L.early) := by
      show _ = _
      funext y
      unfold waits
      split
      · rename_i hy
        rw [hy, if_pos (by rw [← HO.out]; rfl)]
      · rfl
    have HEND : Hid (∀ (k n c : Nat) (A : Option Addr) (ps : List Prt) (E : Nat → Option Prt) (wr : World), Drained L.early L.expects k ps E → ps.length = k → n + k ≤ L.n → E (L.expects + k) = none → wr.ownsRow W.heap.size 30 1 (.slice A ps.length c) ps.length (ps.map sl) → (∀ p ∈ ps, PartO O wr p) → LkIn O wr g { L with expects := L.expects + k, n := n, early := E } → Fr (St O W) W wr → CamePost O W g L seq d (.returned (.slice A ps.length c)) wr.drew) := by
      intro k n c A ps E wr hd hk hn hE ht hps hl hf
      have hnf : Fr NoBlk wr wr.drew := (Fr.refl _ _).drew
      have hno : ∀ k, Plus O W wr.drew k → k < wr.drew.heap.size := fun j hj => by
        rcases hj with hj | hj
        · exact Nat.lt_of_lt_of_le (hl.ol j hj) hnf.size
        · exact hj.2
      subst hk
      rw [HP.out, if_neg HNO.out]
      exact ⟨A, c, ps, (none, 0, d), n, E, rfl, own_fr ht hnf (fun _ _ h => h), fun p hp => ((hps p hp).fr hnf (fun _ _ h => h)).mono fun _ h => .inl h, rfl, by rw [HSAME.out]; exact hd, (hl.nofr hnf).mono (fun _ h => .inl h) hno, hf.drew, by omega, hE⟩
    have HO1 : Hid ((∀ k, O k → O k) ∧ ∀ k, O k → k < W.heap.size) := ⟨fun _ h => h, HL.out.ol⟩
    have HB1 : Hid (L.expects < 2 ^ 62 ∧ L.n ≤ 1000001) := by have := HB0.out; exact ⟨this.1, by omega⟩
    clear hlk c0 c1 c2' c3 c4 c5 h1' h2' a1 a1' HCL

    go_wp2_with fail
    go_loopw [9] (fun s wr => ∃ (k n c : Nat) (A : Option Addr) (ps : List Prt) (E : Nat → Option Prt), s = .slice A ps.length c ∧ ps.length = k ∧ n + k ≤ L.n ∧ Hid (Drained L.early L.expects k ps E) ∧ Hid (wr.ownsRow W.heap.size 30 1 (.slice A ps.length c) ps.length (ps.map sl)) ∧ Hid (∀ p ∈ ps, PartO O wr p) ∧ Hid (LkIn O wr g { L with expects := L.expects + k, n := n, early := E }) ∧ Hid (Fr (St O W) W wr)) (fun s _ => L.n + 1 - (match s with | .slice _ n _ => n | _ => 0))
    case atStart => exact ⟨0, L.n, 0, none, [], L.early, rfl, rfl, by omega, ⟨rfl, fun j h => absurd h (Nat.not_lt_zero j), by funext y; rw [if_neg (by omega)]⟩, World.ownsRow_nil _ _ _ _, (fun _ h => by cases h), by exact HL.out, Fr.refl _ _⟩
    case round =>
      obtain ⟨k, n, c, A, ps, E, rfl, hk, hn, HDR, HT, HPS, HLr, HFr⟩ := hrel
      obtain ⟨c0, c1, c2, c3, c4, c5⟩ := HLr.out.cells
      dsimp only at c0 c1 c2 c3 c4 c5
      have hxk : L.expects + k < 2 ^ 63 := by have := HB1.out; omega
      obtain ⟨x, hx⟩ : ∃ x, x = L.expects + k := ⟨_, rfl⟩
      rw [← hx] at c4 hxk
      have HX := Lib.hid hx
      have hld := (HLr.out.nofr (Fr.refl _ _).drew).map.look u64KeyT Try.underlying68 (zeroSl wr.drew) (x := x) (show x < 2 ^ 64 by omega)
      dsimp only at hld
      obtain ⟨o, ho⟩ : ∃ o, o = E x := ⟨_, rfl⟩
      rw [← ho] at hld
      have HO := Lib.hid ho
      have HLEN : Hid (ps.length = k ∧ n + k ≤ L.n) := ⟨hk, hn⟩
      clear ho hx hk hn
      cases o with
      | none =>
        have hlk : (Instr.lookup 68 (.map (some L.gm)) (.int .u64 (x : Int)) true).run Try.prog wr.drew = .ok (.tuple #[.slice none 0 0, .bool false]) wr.drew := hld
        clear hld
        go_upto_region 7 with fail
        go_region
        go_wp2_with fail
        go_ret
        exact HEND.out _ _ _ _ _ _ _ HDR.out (HLEN.out.1) HLEN.out.2 ((congrArg E HX.out).symm.trans HO.out.symm) HT.out HPS.out HLr.out HFr.out
      | some q =>
        have hlk : (Instr.lookup 68 (.map (some L.gm)) (.int .u64 (x : Int)) true).run Try.prog wr.drew = .ok (.tuple #[.slice q.1 q.2.2.length q.2.1, .bool true]) wr.drew := hld
        have HPOS : Hid (0 < n) := HLr.out.map.pos (x := x) (show x < 2 ^ 64 by omega) (by show ((E x).map sl).isSome = true; rw [← HO.out]; rfl)
        clear hld
        go_upto_region 7 with fail
        go_region
        have HQ : Hid (PartO O wr.drew q) := (HLr.out.eparts x q HO.out.symm).fr (Fr.refl NoBlk _).drew (fun _ _ h => h)
        have HT3 : Hid ((wr.drew.alloc (.cells #[.slice q.1 q.2.2.length q.2.1] 30)).ownsRow W.heap.size 30 1 (.slice A ps.length c) ps.length (ps.map sl)) := own_fr HT.out (((Fr.refl NoBlk _).drew).alloc _) (fun _ _ h => h)
        have HF3 : Hid (Fr NoBlk wr (wr.drew.alloc (.cells #[.slice q.1 q.2.2.length q.2.1] 30))) := ((Fr.refl NoBlk _).drew).alloc _
        have HR3 : Hid (Rd (wr.drew.alloc (.cells #[.slice q.1 q.2.2.length q.2.1] 30)) (some ⟨wr.heap.size, 0, none⟩) [.slice q.1 q.2.2.length q.2.1]) := Rd.of_cells (Bk.new wr.drew _ _)
        have HBB := Lib.hid HB1.out
        clear hlk c0 c1 c2 c3 c4 c5
        go_wp2_with (at_builtin; refine wpList_appO rfl _ _ 38 rfl W.heap.size 30 i0 _ 1 24 Try.underlying38 hi hz0 hz1 hz2 rfl (by decide) (.slice A ps.length c) ps.length (ps.map sl) rfl HT3.out ⟨wr.heap.size, 0, none⟩ 1 1 [.slice q.1 q.2.2.length q.2.1] rfl rfl HR3.out ?q1 ?q2 ?q3 (Nat.le_trans HFr.out.size HF3.out.size) ?_)
        case q1 => intro y hy; rw [List.mem_singleton.1 hy]; rfl
        case q2 => have := HBB.out; have := HLEN.out; unfold maxLen; omega
        case q3 => have := HBB.out; have := HLEN.out; omega
        intro v4 w4 ho4 hg4 _
        obtain ⟨A4, c4', rfl, _, _⟩ := own_form ho4
        have hgf : Fr (fun j => (Value.slice A ps.length c).ownBlock = some j) wr w4 := (HF3.out.mono fun _ _ h => h.elim).trans ((Fr.ofGrown hg4).mono fun _ _ e => e.symm)
        have hgn : ∀ j, O j → ¬ (Value.slice A ps.length c).ownBlock = some j := fun j hj e => by have := HO1.out.2 j hj; have := (own_blk HT.out e).1; omega
        have HL4 := Lib.hid (HLr.out.fr hgf hgn)
        have HF4 : Hid (Fr (St O W) W w4) := HFr.out.step hgf fun j hj e => by have := (own_blk HT.out e).1; omega
        have HP4 : Hid (∀ p ∈ ps ++ [q], PartO O w4 p) := fun p hp => by
          rcases List.mem_append.1 hp with hp | hp
          · exact (HPS.out p hp).fr hgf hgn
          · rw [List.mem_singleton.1 hp]
            exact (HLr.out.eparts x q HO.out.symm).fr hgf hgn
        have HT4 : Hid (w4.ownsRow W.heap.size 30 1 (.slice A4 (ps.length + 1) c4') (ps.length + 1) (ps.map sl ++ [sl q])) := ho4
        obtain ⟨c0, c1, c2, c3, c4, c5⟩ := HL4.out.cells
        dsimp only at c0 c1 c2 c3 c4 c5
        rw [← HX.out] at c4
        obtain ⟨w5, hd5, hk5, hf5⟩ := (HL4.out.nofr (Fr.refl _ _).drew).map.del u64KeyT Try.underlying68 (x := x) (show x < 2 ^ 64 by omega) 0
        have hdl : (Builtin.delete_ #[68, 22] 0 #[.map (some L.gm), .int .u64 (x : Int)]).run Try.prog w4.drew = .ok (.tuple #[]) w5 := hd5
        have h5 := (HL4.out.nofr (Fr.refl _ _).drew).remap (n' := n - 1) (early' := fun y => if y = x then none else E y) hf5 (by
          have e1 : (fun y => (if y = x then none else E y : Option Prt).map sl) = updG (fun y => (E y).map sl) x none := by funext y; unfold updG; split <;> rfl
          dsimp only at hk5
          have hE : (Option.map sl (E x)).isSome = true := by rw [← HO.out]; rfl
          rw [if_pos hE] at hk5
          show Kg _ _ _ _ _ _ _ (fun y => (if y = x then none else E y : Option Prt).map sl)
          rw [e1]
          exact hk5) (fun y p hp => by
          split at hp
          · cases hp
          · exact .inl ⟨y, hp⟩)
        have hx1 : x + 1 < 2 ^ 64 := by omega
        have h6 := h5.1.put (L' := { L with expects := x + 1, n := n - 1, early := fun y => if y = x then none else E y }) 4 (.int .u64 ((x + 1 : Nat) : Int)) (by unfold lka; simp only [List.setIfInBounds_toArray, List.set_cons_zero, List.set_cons_succ]) rfl ⟨HLr.out.nums.1, HLr.out.nums.2.1, HLr.out.nums.2.2.1, hx1⟩
        have d4 : w5.cell? ⟨g, 4, none⟩ = some (.int .u64 (x : Int)) := by have := h5.1.bk.cell 4; unfold lka at this; dsimp only at this; rw [← HX.out] at this; exact this
        have f4 := h5.1.bk.free 4
        have e4 : IntKind.u64.wrap ((x : Int) + 1) = (((x + 1 : Nat)) : Int) := by
          simp only [IntKind.wrap, IntKind.bits, IntKind.signed]
          simp
          omega
        have e4' : ((x : Int) + 1) % 18446744073709551616 = ((x + 1 : Nat) : Int) := by omega
        obtain ⟨x1, hx1e⟩ : ∃ x1, x1 = x + 1 := ⟨_, rfl⟩
        rw [← hx1e] at e4 e4' h6
        obtain ⟨w6, hw6⟩ : ∃ w6, w6 = w5.setCell ⟨g, 4, none⟩ (.int .u64 (x1 : Int)) := ⟨_, rfl⟩
        rw [← hw6] at h6
        have hf46 : Fr (St O w4) w4 w6 := (((Fr.refl (St O w4) w4).drew).stT h5.2).stT h6.2
        have HF6 : Hid (Fr (St O W) W w6) := HF4.out.stT hf46
        have HT6 : Hid (w6.ownsRow W.heap.size 30 1 (.slice A4 (ps.length + 1) c4') (ps.length + 1) (ps.map sl ++ [sl q])) := own_fr HT4.out hf46 fun j hj e => by have := HO1.out.2 j e.1; have := (own_blk HT4.out hj).1; omega
        have HP6 : Hid (∀ p ∈ ps ++ [q], PartO O w6 p) := fun p hp => by
          have hp4 := HP4.out p hp
          have h1 := h5.2
          refine ⟨?_, hp4.2⟩
          have h2 : w5.ownsRow 0 5 1 (sl p) p.2.2.length (cb p.2.2) := (HL4.out.nofr (Fr.refl _ _).drew).ty hf5 (own_fr hp4.1 (Fr.refl NoBlk _).drew (fun _ _ h => h))
          rw [hw6]
          exact own_set h2 h5.1.bk (by decide)
        have HL6 : Hid (LkIn O w6 g { L with expects := x1, n := n - 1, early := fun y => if y = x then none else E y }) := h6.1
        have HDN : Hid (Drained L.early L.expects (k + 1) (ps ++ [q]) (fun y => if y = x then none else E y)) := HDR.out.snoc HX.out HO.out.symm
        have HXX : Hid (x1 = L.expects + (k + 1)) := by show _ = _; have := HX.out; omega
        have HW6 := Lib.hid hw6
        have hl4 : ps.length + 1 = (ps ++ [q]).length := by simp
        have hl5 : ps.map sl ++ [sl q] = (ps ++ [q]).map sl := by simp
        rw [hl4, hl5] at HT6
        rw [hl4]
        clear ho4 hg4 hgf hgn hd5 hk5 hf5 h5 h6 hf46 hw6 HT HT3 HF3 HR3 HT4 HP4 HQ HL4 HF4 hx1 hx1e hxk
        go_upto_region 11 with fail
        go_region
        go_wp2_with fail
        rw [← HW6.out]
        clear HW6
        go_roundw
        case rel => exact ⟨k + 1, n - 1, c4', A4, ps ++ [q], _, rfl, by rw [← hl4, HLEN.out.1], by have := HPOS.out; have := HLEN.out; omega, HDN, HT6, HP6, by rw [← HXX.out]; exact HL6, HF6⟩
        case measure => have := HLEN.out; have := HPOS.out; simp; omega
  | none =>
    have hlk : (Instr.lookup 68 (.map (some L.gm)) (.int .u64 (seq : Int)) true).run Try.prog W = .ok (.tuple #[.slice none 0 0, .bool false]) W := hld
    clear hld
    go_enter Try.func29, Try.ntmps29
    go_upto_region 5 with fail
    clear hlk c0 c1 c2' c3 c4 c5 h1' h2' a1 a1'
    refine wp_region_held_drew (S := fun _ => True) (by kernel_rfl) trivial (fun hHeld => ?_)
    refine wpAnyH_take (i := 0) (oi := ⟨some 38, _, _, _, _, _⟩) (v := ?_) rfl (by kernel_rfl) (by kernel_rfl) (by kernel_rfl) (fun _ _ _ h => h) (Or.inl ⟨by rfl, ?_⟩) (by assumption) ?_
    rotate_left 1
    · (intro w hSw; (try dsimp only at hSw); go_simp) <;> (with_reducible rfl)
    try simp only [Act.put, List.setIfInBounds_toArray, List.set_cons_zero, List.set_cons_succ]
    refine wpAnyH_take (i := 1) (oi := ⟨some 39, _, _, _, _, _⟩) (v := ?_) rfl (by kernel_rfl) (by kernel_rfl) (by kernel_rfl) (fun _ _ _ h => h) (Or.inl ⟨by rfl, ?_⟩) (by assumption) ?_
    rotate_left 1
    · (intro w hSw; (try dsimp only at hSw); go_simp) <;> (with_reducible rfl)
    try simp only [Act.put, List.setIfInBounds_toArray, List.set_cons_zero, List.set_cons_succ]
    refine wpAnyH_take (i := 2) (oi := ⟨some 40, _, _, _, _, _⟩) (v := ?_) rfl (by kernel_rfl) (by kernel_rfl) (by kernel_rfl) (fun _ _ _ h => h) (Or.inl ⟨by rfl, ?_⟩) (by assumption) ?_
    rotate_left 1
    · (intro w hSw; (try dsimp only at hSw); go_simp) <;> (with_reducible rfl)
    try simp only [Act.put, List.setIfInBounds_toArray, List.set_cons_zero, List.set_cons_succ]
    refine wpAnyH_take (i := 4) (oi := ⟨some 42, _, _, _, _, _⟩) (v := ?_) rfl (by kernel_rfl) (by kernel_rfl) (by kernel_rfl) (fun _ _ _ h => h) (Or.inl ⟨by rfl, ?_⟩) (by assumption) ?_
    rotate_left 1
    · (intro w hSw; (try dsimp only at hSw); go_simp) <;> (with_reducible rfl)
    try simp only [Act.put, List.setIfInBounds_toArray, List.set_cons_zero, List.set_cons_succ]
    refine wpAnyH_take (i := 5) (oi := ⟨some 43, _, _, _, _, _⟩) (v := ?_) rfl (by kernel_rfl) (by kernel_rfl) (by kernel_rfl) (fun _ _ _ h => h) (Or.inl ⟨by rfl, ?_⟩) (by assumption) ?_
    rotate_left 1
    · (intro w hSw; (try dsimp only at hSw); go_simp) <;> (with_reducible rfl)
    try simp only [Act.put, List.setIfInBounds_toArray, List.set_cons_zero, List.set_cons_succ]
    refine wpAnyH_ready (rs := [3, 6]) (by kernel_rfl) (by simp) ?_
    refine AllReadyH.cons (o := ⟨some 41, _, _, _, _, _⟩) rfl (fun K hK => ?_) (AllReadyH.cons (o := ⟨some 44, _, _, _, _, _⟩) rfl (fun K hK => ?_) AllReadyH.nil)
    · have o5 : (W.drew).cell? ⟨g, 5, none⟩ = some (.map (some L.gm)) := (HL.out.nofr ((Fr.refl NoBlk W).drew)).cells.2.2.2.2.2
      go_simp
      clear hHeld
      refine hK.out _ _ ?_ (fun hHeld => ?_)
      · trivial
      clear hK K
      try simp only [Act.put, List.setIfInBounds_toArray, List.set_cons_zero, List.set_cons_succ]
      clear o5
      refine wpAnyH_ready (rs := [6]) (by kernel_rfl) (by simp) ?_
      refine AllReadyH.cons (o := ⟨some 44, _, _, _, _, _⟩) rfl (fun K hK => ?_) AllReadyH.nil
      go_simp
      go_at_call 25
      refine (HCL.out _ ((Fr.refl NoBlk W).drew)).mono ?_
      rintro e w2 ⟨v2, rfl, hn2⟩
      obtain ⟨A2, cc2, rfl, _, _⟩ := own_form hn2.own
      have HN2 := Lib.hid hn2
      have HF2 : Hid (Fr NoBlk W w2) := ((Fr.refl NoBlk W).drew).trans hn2.fr
      clear hn2
      clear hHeld
      refine hK.out _ _ ?_ (fun hHeld => ?_)
      · trivial
      clear hK K
      try simp only [Act.put, List.setIfInBounds_toArray, List.set_cons_zero, List.set_cons_succ]
      refine wpAnyH_ready (rs := [7]) (by kernel_rfl) (by simp) ?_
      refine AllReadyH.cons (o := ⟨none, _, _, _, _, _⟩) rfl (fun K hK => ?_) AllReadyH.nil
      have hk2 := HL.out.map.fr HF2.out (fun h => h)
      obtain ⟨w3, hput, hk3, hf3⟩ := hk2.put u64KeyT Try.underlying68 (by have := HB0.out.2.1; unfold maxLen; omega) (x := seq) (show seq < 2 ^ 64 from HB0.out.2.2) (sl (A2, cc2, d))
      have hput' : (Instr.mapUpdate 68 (.map (some L.gm)) (.int .u64 (seq : Int)) (.slice A2 d.length cc2)).run Try.prog w2 = .ok () w3 := hput
      have hl2 : LkIn (Plus O W w2) w2 g L := (HL.out.nofr HF2.out).mono (fun _ h => .inl h) fun j hj => by
        rcases hj with hj | hj
        · exact Nat.lt_of_lt_of_le (HL.out.ol j hj) HF2.out.size
        · exact hj.2
      have hr := hl2.remap (n' := L.n + 1) (early' := waits L seq (A2, cc2, d)) hf3 (by
        have e1 : (fun y => (waits L seq (A2, cc2, d) y).map sl) = updG (fun y => (L.early y).map sl) seq (some (sl (A2, cc2, d))) := by
          funext y
          unfold updG waits
          rw [← HO.out]
          split <;> rfl
        have hE : ¬ (Option.map sl (L.early seq)).isSome = true := by rw [← HO.out]; simp
        rw [if_neg hE] at hk3
        rw [e1]
        exact hk3) (fun y p hp => by
        unfold waits at hp
        rw [← HO.out] at hp
        split at hp
        · rw [if_neg (by simp)] at hp
          injection hp with hp
          subst hp
          exact .inr ⟨own_base HN2.out.own (Nat.zero_le _), fun j hj => .inr ⟨(own_blk HN2.out.own hj).1, (own_blk HN2.out.own hj).2⟩⟩
        · exact .inl ⟨y, hp⟩)
      obtain ⟨O1, hO1⟩ : ∃ O1, O1 = Plus O W w2 := ⟨_, rfl⟩
      rw [← hO1] at hr hl2
      have HL3 := Lib.hid hr.1
      have HF13 : Hid (Fr (St O W) W w3) := Fr.stS (O := O) (HF2.out.mono fun _ _ h => h.elim) hr.2 fun j hj e => by
        rw [hO1] at e
        rcases e with e | e
        · exact e
        · omega
      have HO1 : Hid ((∀ k, O1 k → O k ∨ (W.heap.size ≤ k)) ∧ ∀ k, O1 k → k < w3.heap.size) := ⟨fun k hk => by rw [hO1] at hk; exact hk.imp id (fun h => h.1), hr.1.ol⟩
      clear hput hk2 hk3 hf3 hl2 hr hO1
      go_simp
      clear hHeld
      refine hK.out _ _ ?_ (fun hHeld => ?_)
      · trivial
      clear hK K
      try simp only [Act.put, List.setIfInBounds_toArray, List.set_cons_zero, List.set_cons_succ]
      refine wpAnyH_done (by kernel_rfl) ?_ _
      clear hput' hHeld HN2 HF2 HCL
      have HEND : Hid (∀ (k n c : Nat) (A : Option Addr) (ps : List Prt) (E : Nat → Option Prt) (wr : World), Drained (waits L seq (A2, cc2, d)) L.expects k ps E → ps.length = k → n + k ≤ L.n + 1 → E (L.expects + k) = none → wr.ownsRow w3.heap.size 30 1 (.slice A ps.length c) ps.length (ps.map sl) → (∀ p ∈ ps, PartO O1 wr p) → LkIn O1 wr g { L with expects := L.expects + k, n := n, early := E } → Fr (St O1 w3) w3 wr → CamePost O W g L seq d (.returned (.slice A ps.length c)) wr.drew) := by
        intro k n c A ps E wr hd hk hn hE ht hps hl hf
        have hnf : Fr NoBlk wr wr.drew := (Fr.refl _ _).drew
        have hop : ∀ k, O1 k → Plus O W wr.drew k := fun j hj => by
          rcases HO1.out.1 j hj with h | h
          · exact .inl h
          · exact .inr ⟨h, Nat.lt_of_lt_of_le (hl.ol j hj) hnf.size⟩
        have hno : ∀ k, Plus O W wr.drew k → k < wr.drew.heap.size := fun j hj => by
          rcases hj with hj | hj
          · exact Nat.lt_of_lt_of_le (Nat.lt_of_lt_of_le (Nat.lt_of_lt_of_le (HL.out.ol j hj) HF13.out.size) hf.size) hnf.size
          · exact hj.2
        have hfw : Fr (St O W) W wr := HF13.out.stS hf fun j hj e => by
          rcases HO1.out.1 j e with h | h
          · exact h
          · omega
        subst hk
        rw [HP.out, if_neg HNO.out]
        exact ⟨A, c, ps, (A2, cc2, d), n, E, rfl, own_base (own_fr ht hnf (fun _ _ h => h)) HF13.out.size, fun p hp => ((hps p hp).fr hnf (fun _ _ h => h)).mono hop, rfl, hd, (hl.nofr hnf).mono hop hno, hfw.drew, hn, hE⟩
      have HB1 : Hid (L.expects < 2 ^ 62 ∧ L.n + 1 ≤ 1000001) := by have := HB0.out; exact ⟨this.1, by omega⟩

      go_wp2_with fail
      go_loopw [9] (fun s wr => ∃ (k n c : Nat) (A : Option Addr) (ps : List Prt) (E : Nat → Option Prt), s = .slice A ps.length c ∧ ps.length = k ∧ n + k ≤ (L.n + 1) ∧ Hid (Drained (waits L seq (A2, cc2, d)) L.expects k ps E) ∧ Hid (wr.ownsRow w3.heap.size 30 1 (.slice A ps.length c) ps.length (ps.map sl)) ∧ Hid (∀ p ∈ ps, PartO O1 wr p) ∧ Hid (LkIn O1 wr g { L with expects := L.expects + k, n := n, early := E }) ∧ Hid (Fr (St O1 w3) w3 wr)) (fun s _ => (L.n + 1) + 1 - (match s with | .slice _ n _ => n | _ => 0))
      case atStart => exact ⟨0, (L.n + 1), 0, none, [], (waits L seq (A2, cc2, d)), rfl, rfl, by omega, ⟨rfl, fun j h => absurd h (Nat.not_lt_zero j), by funext y; rw [if_neg (by omega)]⟩, World.ownsRow_nil _ _ _ _, (fun _ h => by cases h), by exact HL3.out, Fr.refl _ _⟩
      case round =>
        obtain ⟨k, n, c, A, ps, E, rfl, hk, hn, HDR, HT, HPS, HLr, HFr⟩ := hrel
        obtain ⟨c0, c1, c2, c3, c4, c5⟩ := HLr.out.cells
        dsimp only at c0 c1 c2 c3 c4 c5
        have hxk : L.expects + k < 2 ^ 63 := by have := HB1.out; omega
        obtain ⟨x, hx⟩ : ∃ x, x = L.expects + k := ⟨_, rfl⟩
        rw [← hx] at c4 hxk
        have HX := Lib.hid hx
        have hld := (HLr.out.nofr (Fr.refl _ _).drew).map.look u64KeyT Try.underlying68 (zeroSl wr.drew) (x := x) (show x < 2 ^ 64 by omega)
        dsimp only at hld
        obtain ⟨o, ho⟩ : ∃ o, o = E x := ⟨_, rfl⟩
        rw [← ho] at hld
        have HO := Lib.hid ho
        have HLEN : Hid (ps.length = k ∧ n + k ≤ (L.n + 1)) := ⟨hk, hn⟩
        clear ho hx hk hn
        cases o with
        | none =>
          have hlk : (Instr.lookup 68 (.map (some L.gm)) (.int .u64 (x : Int)) true).run Try.prog wr.drew = .ok (.tuple #[.slice none 0 0, .bool false]) wr.drew := hld
          clear hld
          go_upto_region 7 with fail
          go_region
          go_wp2_with fail
          go_ret
          exact HEND.out _ _ _ _ _ _ _ HDR.out (HLEN.out.1) HLEN.out.2 ((congrArg E HX.out).symm.trans HO.out.symm) HT.out HPS.out HLr.out HFr.out
        | some q =>
          have hlk : (Instr.lookup 68 (.map (some L.gm)) (.int .u64 (x : Int)) true).run Try.prog wr.drew = .ok (.tuple #[.slice q.1 q.2.2.length q.2.1, .bool true]) wr.drew := hld
          have HPOS : Hid (0 < n) := HLr.out.map.pos (x := x) (show x < 2 ^ 64 by omega) (by show ((E x).map sl).isSome = true; rw [← HO.out]; rfl)
          clear hld
          go_upto_region 7 with fail
          go_region
          have HQ : Hid (PartO O1 wr.drew q) := (HLr.out.eparts x q HO.out.symm).fr (Fr.refl NoBlk _).drew (fun _ _ h => h)
          have HT3 : Hid ((wr.drew.alloc (.cells #[.slice q.1 q.2.2.length q.2.1] 30)).ownsRow w3.heap.size 30 1 (.slice A ps.length c) ps.length (ps.map sl)) := own_fr HT.out (((Fr.refl NoBlk _).drew).alloc _) (fun _ _ h => h)
          have HF3 : Hid (Fr NoBlk wr (wr.drew.alloc (.cells #[.slice q.1 q.2.2.length q.2.1] 30))) := ((Fr.refl NoBlk _).drew).alloc _
          have HR3 : Hid (Rd (wr.drew.alloc (.cells #[.slice q.1 q.2.2.length q.2.1] 30)) (some ⟨wr.heap.size, 0, none⟩) [.slice q.1 q.2.2.length q.2.1]) := Rd.of_cells (Bk.new wr.drew _ _)
          have HBB := Lib.hid HB1.out
          clear hlk c0 c1 c2 c3 c4 c5
          go_wp2_with (at_builtin; refine wpList_appO rfl _ _ 38 rfl w3.heap.size 30 i0 _ 1 24 Try.underlying38 hi hz0 hz1 hz2 rfl (by decide) (.slice A ps.length c) ps.length (ps.map sl) rfl HT3.out ⟨wr.heap.size, 0, none⟩ 1 1 [.slice q.1 q.2.2.length q.2.1] rfl rfl HR3.out ?q1 ?q2 ?q3 (Nat.le_trans HFr.out.size HF3.out.size) ?_)
          case q1 => intro y hy; rw [List.mem_singleton.1 hy]; rfl
          case q2 => have := HBB.out; have := HLEN.out; unfold maxLen; omega
          case q3 => have := HBB.out; have := HLEN.out; omega
          intro v4 w4 ho4 hg4 _
          obtain ⟨A4, c4', rfl, _, _⟩ := own_form ho4
          have hgf : Fr (fun j => (Value.slice A ps.length c).ownBlock = some j) wr w4 := (HF3.out.mono fun _ _ h => h.elim).trans ((Fr.ofGrown hg4).mono fun _ _ e => e.symm)
          have hgn : ∀ j, O1 j → ¬ (Value.slice A ps.length c).ownBlock = some j := fun j hj e => by have := HO1.out.2 j hj; have := (own_blk HT.out e).1; omega
          have HL4 := Lib.hid (HLr.out.fr hgf hgn)
          have HF4 : Hid (Fr (St O1 w3) w3 w4) := HFr.out.step hgf fun j hj e => by have := (own_blk HT.out e).1; omega
          have HP4 : Hid (∀ p ∈ ps ++ [q], PartO O1 w4 p) := fun p hp => by
            rcases List.mem_append.1 hp with hp | hp
            · exact (HPS.out p hp).fr hgf hgn
            · rw [List.mem_singleton.1 hp]
              exact (HLr.out.eparts x q HO.out.symm).fr hgf hgn
          have HT4 : Hid (w4.ownsRow w3.heap.size 30 1 (.slice A4 (ps.length + 1) c4') (ps.length + 1) (ps.map sl ++ [sl q])) := ho4
          obtain ⟨c0, c1, c2, c3, c4, c5⟩ := HL4.out.cells
          dsimp only at c0 c1 c2 c3 c4 c5
          rw [← HX.out] at c4
          obtain ⟨w5, hd5, hk5, hf5⟩ := (HL4.out.nofr (Fr.refl _ _).drew).map.del u64KeyT Try.underlying68 (x := x) (show x < 2 ^ 64 by omega) 0
          have hdl : (Builtin.delete_ #[68, 22] 0 #[.map (some L.gm), .int .u64 (x : Int)]).run Try.prog w4.drew = .ok (.tuple #[]) w5 := hd5
          have h5 := (HL4.out.nofr (Fr.refl _ _).drew).remap (n' := n - 1) (early' := fun y => if y = x then none else E y) hf5 (by
            have e1 : (fun y => (if y = x then none else E y : Option Prt).map sl) = updG (fun y => (E y).map sl) x none := by funext y; unfold updG; split <;> rfl
            dsimp only at hk5
            have hE : (Option.map sl (E x)).isSome = true := by rw [← HO.out]; rfl
            rw [if_pos hE] at hk5
            show Kg _ _ _ _ _ _ _ (fun y => (if y = x then none else E y : Option Prt).map sl)
            rw [e1]
            exact hk5) (fun y p hp => by
            split at hp
            · cases hp
            · exact .inl ⟨y, hp⟩)
          have hx1 : x + 1 < 2 ^ 64 := by omega
          have h6 := h5.1.put (L' := { L with expects := x + 1, n := n - 1, early := fun y => if y = x then none else E y }) 4 (.int .u64 ((x + 1 : Nat) : Int)) (by unfold lka; simp only [List.setIfInBounds_toArray, List.set_cons_zero, List.set_cons_succ]) rfl ⟨HLr.out.nums.1, HLr.out.nums.2.1, HLr.out.nums.2.2.1, hx1⟩
          have d4 : w5.cell? ⟨g, 4, none⟩ = some (.int .u64 (x : Int)) := by have := h5.1.bk.cell 4; unfold lka at this; dsimp only at this; rw [← HX.out] at this; exact this
          have f4 := h5.1.bk.free 4
          have e4 : IntKind.u64.wrap ((x : Int) + 1) = (((x + 1 : Nat)) : Int) := by
            simp only [IntKind.wrap, IntKind.bits, IntKind.signed]
            simp
            omega
          have e4' : ((x : Int) + 1) % 18446744073709551616 = ((x + 1 : Nat) : Int) := by omega
          obtain ⟨x1, hx1e⟩ : ∃ x1, x1 = x + 1 := ⟨_, rfl⟩
          rw [← hx1e] at e4 e4' h6
          obtain ⟨w6, hw6⟩ : ∃ w6, w6 = w5.setCell ⟨g, 4, none⟩ (.int .u64 (x1 : Int)) := ⟨_, rfl⟩
          rw [← hw6] at h6
          have hf46 : Fr (St O1 w4) w4 w6 := (((Fr.refl (St O1 w4) w4).drew).stT h5.2).stT h6.2
          have HF6 : Hid (Fr (St O1 w3) w3 w6) := HF4.out.stT hf46
          have HT6 : Hid (w6.ownsRow w3.heap.size 30 1 (.slice A4 (ps.length + 1) c4') (ps.length + 1) (ps.map sl ++ [sl q])) := own_fr HT4.out hf46 fun j hj e => by have := HO1.out.2 j e.1; have := (own_blk HT4.out hj).1; omega
          have HP6 : Hid (∀ p ∈ ps ++ [q], PartO O1 w6 p) := fun p hp => by
            have hp4 := HP4.out p hp
            have h1 := h5.2
            refine ⟨?_, hp4.2⟩
            have h2 : w5.ownsRow 0 5 1 (sl p) p.2.2.length (cb p.2.2) := (HL4.out.nofr (Fr.refl _ _).drew).ty hf5 (own_fr hp4.1 (Fr.refl NoBlk _).drew (fun _ _ h => h))
            rw [hw6]
            exact own_set h2 h5.1.bk (by decide)
          have HL6 : Hid (LkIn O1 w6 g { L with expects := x1, n := n - 1, early := fun y => if y = x then none else E y }) := h6.1
          have HDN : Hid (Drained (waits L seq (A2, cc2, d)) L.expects (k + 1) (ps ++ [q]) (fun y => if y = x then none else E y)) := HDR.out.snoc HX.out HO.out.symm
          have HXX : Hid (x1 = L.expects + (k + 1)) := by show _ = _; have := HX.out; omega
          have HW6 := Lib.hid hw6
          have hl4 : ps.length + 1 = (ps ++ [q]).length := by simp
          have hl5 : ps.map sl ++ [sl q] = (ps ++ [q]).map sl := by simp
          rw [hl4, hl5] at HT6
          rw [hl4]
          clear ho4 hg4 hgf hgn hd5 hk5 hf5 h5 h6 hf46 hw6 HT HT3 HF3 HR3 HT4 HP4 HQ HL4 HF4 hx1 hx1e hxk
          go_upto_region 11 with fail
          go_region
          go_wp2_with fail
          rw [← HW6.out]
          clear HW6
          go_roundw
          case rel => exact ⟨k + 1, n - 1, c4', A4, ps ++ [q], _, rfl, by rw [← hl4, HLEN.out.1], by have := HPOS.out; have := HLEN.out; omega, HDN, HT6, HP6, by rw [← HXX.out]; exact HL6, HF6⟩
          case measure => have := HLEN.out; have := HPOS.out; simp; omega
    · go_simp
      go_at_call 25
      refine (HCL.out _ ((Fr.refl NoBlk W).drew)).mono ?_
      rintro e w2 ⟨v2, rfl, hn2⟩
      obtain ⟨A2, cc2, rfl, _, _⟩ := own_form hn2.own
      have HN2 := Lib.hid hn2
      have HF2 : Hid (Fr NoBlk W w2) := ((Fr.refl NoBlk W).drew).trans hn2.fr
      clear hn2
      clear hHeld
      refine hK.out _ _ ?_ (fun hHeld => ?_)
      · trivial
      clear hK K
      try simp only [Act.put, List.setIfInBounds_toArray, List.set_cons_zero, List.set_cons_succ]
      refine wpAnyH_ready (rs := [3]) (by kernel_rfl) (by simp) ?_
      refine AllReadyH.cons (o := ⟨some 41, _, _, _, _, _⟩) rfl (fun K hK => ?_) AllReadyH.nil
      have o5 : (w2).cell? ⟨g, 5, none⟩ = some (.map (some L.gm)) := (HL.out.nofr HF2.out).cells.2.2.2.2.2
      go_simp
      clear hHeld
      refine hK.out _ _ ?_ (fun hHeld => ?_)
      · trivial
      clear hK K
      try simp only [Act.put, List.setIfInBounds_toArray, List.set_cons_zero, List.set_cons_succ]
      clear o5
      refine wpAnyH_ready (rs := [7]) (by kernel_rfl) (by simp) ?_
      refine AllReadyH.cons (o := ⟨none, _, _, _, _, _⟩) rfl (fun K hK => ?_) AllReadyH.nil
      have hk2 := HL.out.map.fr HF2.out (fun h => h)
      obtain ⟨w3, hput, hk3, hf3⟩ := hk2.put u64KeyT Try.underlying68 (by have := HB0.out.2.1; unfold maxLen; omega) (x := seq) (show seq < 2 ^ 64 from HB0.out.2.2) (sl (A2, cc2, d))
      have hput' : (Instr.mapUpdate 68 (.map (some L.gm)) (.int .u64 (seq : Int)) (.slice A2 d.length cc2)).run Try.prog w2 = .ok () w3 := hput
      have hl2 : LkIn (Plus O W w2) w2 g L := (HL.out.nofr HF2.out).mono (fun _ h => .inl h) fun j hj => by
        rcases hj with hj | hj
        · exact Nat.lt_of_lt_of_le (HL.out.ol j hj) HF2.out.size
        · exact hj.2
      have hr := hl2.remap (n' := L.n + 1) (early' := waits L seq (A2, cc2, d)) hf3 (by
        have e1 : (fun y => (waits L seq (A2, cc2, d) y).map sl) = updG (fun y => (L.early y).map sl) seq (some (sl (A2, cc2, d))) := by
          funext y
          unfold updG waits
          rw [← HO.out]
          split <;> rfl
        have hE : ¬ (Option.map sl (L.early seq)).isSome = true := by rw [← HO.out]; simp
        rw [if_neg hE] at hk3
        rw [e1]
        exact hk3) (fun y p hp => by
        unfold waits at hp
        rw [← HO.out] at hp
        split at hp
        · rw [if_neg (by simp)] at hp
          injection hp with hp
          subst hp
          exact .inr ⟨own_base HN2.out.own (Nat.zero_le _), fun j hj => .inr ⟨(own_blk HN2.out.own hj).1, (own_blk HN2.out.own hj).2⟩⟩
        · exact .inl ⟨y, hp⟩)
      obtain ⟨O1, hO1⟩ : ∃ O1, O1 = Plus O W w2 := ⟨_, rfl⟩
      rw [← hO1] at hr hl2
      have HL3 := Lib.hid hr.1
      have HF13 : Hid (Fr (St O W) W w3) := Fr.stS (O := O) (HF2.out.mono fun _ _ h => h.elim) hr.2 fun j hj e => by
        rw [hO1] at e
        rcases e with e | e
        · exact e
        · omega
      have HO1 : Hid ((∀ k, O1 k → O k ∨ (W.heap.size ≤ k)) ∧ ∀ k, O1 k → k < w3.heap.size) := ⟨fun k hk => by rw [hO1] at hk; exact hk.imp id (fun h => h.1), hr.1.ol⟩
      clear hput hk2 hk3 hf3 hl2 hr hO1
      go_simp
      clear hHeld
      refine hK.out _ _ ?_ (fun hHeld => ?_)
      · trivial
      clear hK K
      try simp only [Act.put, List.setIfInBounds_toArray, List.set_cons_zero, List.set_cons_succ]
      refine wpAnyH_done (by kernel_rfl) ?_ _
      clear hput' hHeld HN2 HF2 HCL
      have HEND : Hid (∀ (k n c : Nat) (A : Option Addr) (ps : List Prt) (E : Nat → Option Prt) (wr : World), Drained (waits L seq (A2, cc2, d)) L.expects k ps E → ps.length = k → n + k ≤ L.n + 1 → E (L.expects + k) = none → wr.ownsRow w3.heap.size 30 1 (.slice A ps.length c) ps.length (ps.map sl) → (∀ p ∈ ps, PartO O1 wr p) → LkIn O1 wr g { L with expects := L.expects + k, n := n, early := E } → Fr (St O1 w3) w3 wr → CamePost O W g L seq d (.returned (.slice A ps.length c)) wr.drew) := by
        intro k n c A ps E wr hd hk hn hE ht hps hl hf
        have hnf : Fr NoBlk wr wr.drew := (Fr.refl _ _).drew
        have hop : ∀ k, O1 k → Plus O W wr.drew k := fun j hj => by
          rcases HO1.out.1 j hj with h | h
          · exact .inl h
          · exact .inr ⟨h, Nat.lt_of_lt_of_le (hl.ol j hj) hnf.size⟩
        have hno : ∀ k, Plus O W wr.drew k → k < wr.drew.heap.size := fun j hj => by
          rcases hj with hj | hj
          · exact Nat.lt_of_lt_of_le (Nat.lt_of_lt_of_le (Nat.lt_of_lt_of_le (HL.out.ol j hj) HF13.out.size) hf.size) hnf.size
          · exact hj.2
        have hfw : Fr (St O W) W wr := HF13.out.stS hf fun j hj e => by
          rcases HO1.out.1 j e with h | h
          · exact h
          · omega
        subst hk
        rw [HP.out, if_neg HNO.out]
        exact ⟨A, c, ps, (A2, cc2, d), n, E, rfl, own_base (own_fr ht hnf (fun _ _ h => h)) HF13.out.size, fun p hp => ((hps p hp).fr hnf (fun _ _ h => h)).mono hop, rfl, hd, (hl.nofr hnf).mono hop hno, hfw.drew, hn, hE⟩
      have HB1 : Hid (L.expects < 2 ^ 62 ∧ L.n + 1 ≤ 1000001) := by have := HB0.out; exact ⟨this.1, by omega⟩

      go_wp2_with fail
      go_loopw [9] (fun s wr => ∃ (k n c : Nat) (A : Option Addr) (ps : List Prt) (E : Nat → Option Prt), s = .slice A ps.length c ∧ ps.length = k ∧ n + k ≤ (L.n + 1) ∧ Hid (Drained (waits L seq (A2, cc2, d)) L.expects k ps E) ∧ Hid (wr.ownsRow w3.heap.size 30 1 (.slice A ps.length c) ps.length (ps.map sl)) ∧ Hid (∀ p ∈ ps, PartO O1 wr p) ∧ Hid (LkIn O1 wr g { L with expects := L.expects + k, n := n, early := E }) ∧ Hid (Fr (St O1 w3) w3 wr)) (fun s _ => (L.n + 1) + 1 - (match s with | .slice _ n _ => n | _ => 0))
      case atStart => exact ⟨0, (L.n + 1), 0, none, [], (waits L seq (A2, cc2, d)), rfl, rfl, by omega, ⟨rfl, fun j h => absurd h (Nat.not_lt_zero j), by funext y; rw [if_neg (by omega)]⟩, World.ownsRow_nil _ _ _ _, (fun _ h => by cases h), by exact HL3.out, Fr.refl _ _⟩
      case round =>
        obtain ⟨k, n, c, A, ps, E, rfl, hk, hn, HDR, HT, HPS, HLr, HFr⟩ := hrel
        obtain ⟨c0, c1, c2, c3, c4, c5⟩ := HLr.out.cells
        dsimp only at c0 c1 c2 c3 c4 c5
        have hxk : L.expects + k < 2 ^ 63 := by have := HB1.out; omega
        obtain ⟨x, hx⟩ : ∃ x, x = L.expects + k := ⟨_, rfl⟩
        rw [← hx] at c4 hxk
        have HX := Lib.hid hx
        have hld := (HLr.out.nofr (Fr.refl _ _).drew).map.look u64KeyT Try.underlying68 (zeroSl wr.drew) (x := x) (show x < 2 ^ 64 by omega)
        dsimp only at hld
        obtain ⟨o, ho⟩ : ∃ o, o = E x := ⟨_, rfl⟩
        rw [← ho] at hld
        have HO := Lib.hid ho
        have HLEN : Hid (ps.length = k ∧ n + k ≤ (L.n + 1)) := ⟨hk, hn⟩
        clear ho hx hk hn
        cases o with
        | none =>
          have hlk : (Instr.lookup 68 (.map (some L.gm)) (.int .u64 (x : Int)) true).run Try.prog wr.drew = .ok (.tuple #[.slice none 0 0, .bool false]) wr.drew := hld
          clear hld
          go_upto_region 7 with fail
          go_region
          go_wp2_with fail
          go_ret
          exact HEND.out _ _ _ _ _ _ _ HDR.out (HLEN.out.1) HLEN.out.2 ((congrArg E HX.out).symm.trans HO.out.symm) HT.out HPS.out HLr.out HFr.out
        | some q =>
          have hlk : (Instr.lookup 68 (.map (some L.gm)) (.int .u64 (x : Int)) true).run Try.prog wr.drew = .ok (.tuple #[.slice q.1 q.2.2.length q.2.1, .bool true]) wr.drew := hld
          have HPOS : Hid (0 < n) := HLr.out.map.pos (x := x) (show x < 2 ^ 64 by omega) (by show ((E x).map sl).isSome = true; rw [← HO.out]; rfl)
          clear hld
          go_upto_region 7 with fail
          go_region
          have HQ : Hid (PartO O1 wr.drew q) := (HLr.out.eparts x q HO.out.symm).fr (Fr.refl NoBlk _).drew (fun _ _ h => h)
          have HT3 : Hid ((wr.drew.alloc (.cells #[.slice q.1 q.2.2.length q.2.1] 30)).ownsRow w3.heap.size 30 1 (.slice A ps.length c) ps.length (ps.map sl)) := own_fr HT.out (((Fr.refl NoBlk _).drew).alloc _) (fun _ _ h => h)
          have HF3 : Hid (Fr NoBlk wr (wr.drew.alloc (.cells #[.slice q.1 q.2.2.length q.2.1] 30))) := ((Fr.refl NoBlk _).drew).alloc _
          have HR3 : Hid (Rd (wr.drew.alloc (.cells #[.slice q.1 q.2.2.length q.2.1] 30)) (some ⟨wr.heap.size, 0, none⟩) [.slice q.1 q.2.2.length q.2.1]) := Rd.of_cells (Bk.new wr.drew _ _)
          have HBB := Lib.hid HB1.out
          clear hlk c0 c1 c2 c3 c4 c5
          go_wp2_with (at_builtin; refine wpList_appO rfl _ _ 38 rfl w3.heap.size 30 i0 _ 1 24 Try.underlying38 hi hz0 hz1 hz2 rfl (by decide) (.slice A ps.length c) ps.length (ps.map sl) rfl HT3.out ⟨wr.heap.size, 0, none⟩ 1 1 [.slice q.1 q.2.2.length q.2.1] rfl rfl HR3.out ?q1 ?q2 ?q3 (Nat.le_trans HFr.out.size HF3.out.size) ?_)
          case q1 => intro y hy; rw [List.mem_singleton.1 hy]; rfl
          case q2 => have := HBB.out; have := HLEN.out; unfold maxLen; omega
          case q3 => have := HBB.out; have := HLEN.out; omega
          intro v4 w4 ho4 hg4 _
          obtain ⟨A4, c4', rfl, _, _⟩ := own_form ho4
          have hgf : Fr (fun j => (Value.slice A ps.length c).ownBlock = some j) wr w4 := (HF3.out.mono fun _ _ h => h.elim).trans ((Fr.ofGrown hg4).mono fun _ _ e => e.symm)
          have hgn : ∀ j, O1 j → ¬ (Value.slice A ps.length c).ownBlock = some j := fun j hj e => by have := HO1.out.2 j hj; have := (own_blk HT.out e).1; omega
          have HL4 := Lib.hid (HLr.out.fr hgf hgn)
          have HF4 : Hid (Fr (St O1 w3) w3 w4) := HFr.out.step hgf fun j hj e => by have := (own_blk HT.out e).1; omega
          have HP4 : Hid (∀ p ∈ ps ++ [q], PartO O1 w4 p) := fun p hp => by
            rcases List.mem_append.1 hp with hp | hp
            · exact (HPS.out p hp).fr hgf hgn
            · rw [List.mem_singleton.1 hp]
              exact (HLr.out.eparts x q HO.out.symm).fr hgf hgn
          have HT4 : Hid (w4.ownsRow w3.heap.size 30 1 (.slice A4 (ps.length + 1) c4') (ps.length + 1) (ps.map sl ++ [sl q])) := ho4
          obtain ⟨c0, c1, c2, c3, c4, c5⟩ := HL4.out.cells
          dsimp only at c0 c1 c2 c3 c4 c5
          rw [← HX.out] at c4
          obtain ⟨w5, hd5, hk5, hf5⟩ := (HL4.out.nofr (Fr.refl _ _).drew).map.del u64KeyT Try.underlying68 (x := x) (show x < 2 ^ 64 by omega) 0
          have hdl : (Builtin.delete_ #[68, 22] 0 #[.map (some L.gm), .int .u64 (x : Int)]).run Try.prog w4.drew = .ok (.tuple #[]) w5 := hd5
          have h5 := (HL4.out.nofr (Fr.refl _ _).drew).remap (n' := n - 1) (early' := fun y => if y = x then none else E y) hf5 (by
            have e1 : (fun y => (if y = x then none else E y : Option Prt).map sl) = updG (fun y => (E y).map sl) x none := by funext y; unfold updG; split <;> rfl
            dsimp only at hk5
            have hE : (Option.map sl (E x)).isSome = true := by rw [← HO.out]; rfl
            rw [if_pos hE] at hk5
            show Kg _ _ _ _ _ _ _ (fun y => (if y = x then none else E y : Option Prt).map sl)
            rw [e1]
            exact hk5) (fun y p hp => by
            split at hp
            · cases hp
            · exact .inl ⟨y, hp⟩)
          have hx1 : x + 1 < 2 ^ 64 := by omega
          have h6 := h5.1.put (L' := { L with expects := x + 1, n := n - 1, early := fun y => if y = x then none else E y }) 4 (.int .u64 ((x + 1 : Nat) : Int)) (by unfold lka; simp only [List.setIfInBounds_toArray, List.set_cons_zero, List.set_cons_succ]) rfl ⟨HLr.out.nums.1, HLr.out.nums.2.1, HLr.out.nums.2.2.1, hx1⟩
          have d4 : w5.cell? ⟨g, 4, none⟩ = some (.int .u64 (x : Int)) := by have := h5.1.bk.cell 4; unfold lka at this; dsimp only at this; rw [← HX.out] at this; exact this
          have f4 := h5.1.bk.free 4
          have e4 : IntKind.u64.wrap ((x : Int) + 1) = (((x + 1 : Nat)) : Int) := by
            simp only [IntKind.wrap, IntKind.bits, IntKind.signed]
            simp
            omega
          have e4' : ((x : Int) + 1) % 18446744073709551616 = ((x + 1 : Nat) : Int) := by omega
          obtain ⟨x1, hx1e⟩ : ∃ x1, x1 = x + 1 := ⟨_, rfl⟩
          rw [← hx1e] at e4 e4' h6
          obtain ⟨w6, hw6⟩ : ∃ w6, w6 = w5.setCell ⟨g, 4, none⟩ (.int .u64 (x1 : Int)) := ⟨_, rfl⟩
          rw [← hw6] at h6
          have hf46 : Fr (St O1 w4) w4 w6 := (((Fr.refl (St O1 w4) w4).drew).stT h5.2).stT h6.2
          have HF6 : Hid (Fr (St O1 w3) w3 w6) := HF4.out.stT hf46
          have HT6 : Hid (w6.ownsRow w3.heap.size 30 1 (.slice A4 (ps.length + 1) c4') (ps.length + 1) (ps.map sl ++ [sl q])) := own_fr HT4.out hf46 fun j hj e => by have := HO1.out.2 j e.1; have := (own_blk HT4.out hj).1; omega
          have HP6 : Hid (∀ p ∈ ps ++ [q], PartO O1 w6 p) := fun p hp => by
            have hp4 := HP4.out p hp
            have h1 := h5.2
            refine ⟨?_, hp4.2⟩
            have h2 : w5.ownsRow 0 5 1 (sl p) p.2.2.length (cb p.2.2) := (HL4.out.nofr (Fr.refl _ _).drew).ty hf5 (own_fr hp4.1 (Fr.refl NoBlk _).drew (fun _ _ h => h))
            rw [hw6]
            exact own_set h2 h5.1.bk (by decide)
          have HL6 : Hid (LkIn O1 w6 g { L with expects := x1, n := n - 1, early := fun y => if y = x then none else E y }) := h6.1
          have HDN : Hid (Drained (waits L seq (A2, cc2, d)) L.expects (k + 1) (ps ++ [q]) (fun y => if y = x then none else E y)) := HDR.out.snoc HX.out HO.out.symm
          have HXX : Hid (x1 = L.expects + (k + 1)) := by show _ = _; have := HX.out; omega
          have HW6 := Lib.hid hw6
          have hl4 : ps.length + 1 = (ps ++ [q]).length := by simp
          have hl5 : ps.map sl ++ [sl q] = (ps ++ [q]).map sl := by simp
          rw [hl4, hl5] at HT6
          rw [hl4]
          clear ho4 hg4 hgf hgn hd5 hk5 hf5 h5 h6 hf46 hw6 HT HT3 HF3 HR3 HT4 HP4 HQ HL4 HF4 hx1 hx1e hxk
          go_upto_region 11 with fail
          go_region
          go_wp2_with fail
          rw [← HW6.out]
          clear HW6
          go_roundw
          case rel => exact ⟨k + 1, n - 1, c4', A4, ps ++ [q], _, rfl, by rw [← hl4, HLEN.out.1], by have := HPOS.out; have := HLEN.out; omega, HDN, HT6, HP6, by rw [← HXX.out]; exact HL6, HF6⟩
          case measure => have := HLEN.out; have := HPOS.out; simp; omega
end Go.Proofs.Ytchlafhmoncldaa
