/- A link's Send. Conditions: the link lies in blocks of its own. -/
import Derived.Test.YtchlafhmoncldaaLk
namespace Go.Proofs.Ytchlafhmoncldaa
open Go.RowKit Go.Maps Go.ChangeMaps Go.MapKept Go.WideShapes

/-- its blocks, and those made between two worlds. -/
def Plus (O : Nat → Prop) (W W' : World) : Nat → Prop := fun k => O k ∨ (W.heap.size ≤ k ∧ k < W'.heap.size)
theorem LkIn.pushed {O : Nat → Prop} {W w3 w4 : World} {g : Nat} {L : Lk} (h : LkIn O W g L) (hf : Fr NoBlk W w3) {A2 A4 : Option Addr} {c2 c4 : Nat} {d : List UInt8} (hd : w3.ownsRow W.heap.size 5 1 (.slice A2 d.length c2) d.length (cb d))
    (ho : w4.ownsRow 0 30 1 (.slice A4 (L.sent.length + 1) c4) (L.sent.length + 1) (L.sent.map sl ++ [.slice A2 d.length c2])) (hg : w3.grownBy w4 (Value.slice L.sa L.sent.length L.sc).ownBlock)
    (hb : (Value.slice A4 (L.sent.length + 1) c4).ownBlock = (Value.slice L.sa L.sent.length L.sc).ownBlock ∨ ∃ k, (Value.slice A4 (L.sent.length + 1) c4).ownBlock = some k ∧ W.heap.size ≤ k) (hfew : L.sent.length < 16) :
    Bk w4 g 70 (lka L) ∧ LkIn (Plus O W (w4.setCell ⟨g, 3, none⟩ (.slice A4 (L.sent.length + 1) c4))) (w4.setCell ⟨g, 3, none⟩ (.slice A4 (L.sent.length + 1) c4)) g { L with sa := A4, sc := c4, sent := L.sent ++ [(A2, c2, d)] } ∧ Fr (St O W) W (w4.setCell ⟨g, 3, none⟩ (.slice A4 (L.sent.length + 1) c4)) := by
  have h3 := h.nofr hf
  have hfg := Fr.ofGrown hg
  have hb4 : Bk w4 g 70 (lka L) := h3.bk.fr hfg (fun e => own_apart h3.own h3.bk (by decide) e.symm)
  have hf5 : Fr (fun k => k = g) w4 (w4.setCell ⟨g, 3, none⟩ (.slice A4 (L.sent.length + 1) c4)) := (Fr.refl (fun k => k = g) w4).setCell (p := ⟨g, 3, none⟩) (fun _ => rfl) _
  have hfo : Fr (St O W) W (w4.setCell ⟨g, 3, none⟩ (.slice A4 (L.sent.length + 1) c4)) := ((hf.mono fun _ _ h => h.elim).grown hg (fun k hk _ => h.sts hk)).step hf5 (fun k hk e => by rw [e]; exact h.stg)
  have hsz : W.heap.size ≤ w3.heap.size := hf.size
  have hpart : ∀ p, PartO O w3 p → PartO (Plus O W (w4.setCell ⟨g, 3, none⟩ (.slice A4 (L.sent.length + 1) c4))) (w4.setCell ⟨g, 3, none⟩ (.slice A4 (L.sent.length + 1) c4)) p := fun p hp =>
    ⟨own_set (own_fr hp.1 hfg fun _ hk e => own_ne h3.own hp.1 (by decide) hk e.symm) hb4 (by decide), fun k hk => .inl (hp.2 k hk)⟩
  have hmap : Kg Try.prog 22 u64l u64ok w4 L.gm L.n (fun k => (L.early k).map sl) := h3.map.fr hfg (fun e => by
    obtain ⟨es, cl, hh⟩ := h3.map.blk
    rcases h3.own.2 with ⟨e1, _⟩ | ⟨q, cap, cur, e1, _, h4, _⟩
    · rw [e1] at e; cases e
    · rw [e1] at e
      have e2 : L.gm = q := by simpa [Value.ownBlock] using e
      rw [e2, h4] at hh
      cases hh)
  have hlen : (L.sent ++ [(A2, c2, d)]).length = L.sent.length + 1 := by simp
  refine ⟨hb4, ⟨?_, ?_, hmap.fr hf5 (fun e => h.map.ne h.bk e.symm), fun p hp => ?_, fun k p hp => hpart p (h3.eparts k p hp), .inl h.og, .inl h.om, ?_, ?_, h.nums, by show (L.sent ++ _).length ≤ _; rw [hlen]; omega⟩, hfo⟩
  · refine Bk.cast (hb4.put 3 (.slice A4 (L.sent.length + 1) c4)) ?_
    unfold lka
    simp only [List.setIfInBounds_toArray, List.set_cons_zero, List.set_cons_succ, hlen]
  · show World.ownsRow _ _ _ _ (.slice A4 (L.sent ++ [(A2, c2, d)]).length c4) (L.sent ++ [(A2, c2, d)]).length ((L.sent ++ [(A2, c2, d)]).map sl)
    rw [hlen, List.map_append]
    exact own_set ho hb4 (by decide)
  · rcases List.mem_append.1 hp with hp | hp
    · exact hpart p (h3.parts p hp)
    · rw [List.mem_singleton.1 hp]
      have ho3 := own_base hd (Nat.zero_le _)
      refine ⟨own_set (own_fr ho3 hfg fun _ hk e => own_ne h3.own ho3 (by decide) hk e.symm) hb4 (by decide), fun k hk => .inr ⟨(own_blk hd hk).1, ?_⟩⟩
      have := (own_blk hd hk).2
      have := hfg.size
      have := hf5.size
      omega
  · intro b hbk
    have hbk' : (Value.slice A4 (L.sent.length + 1) c4).ownBlock = some b := by
      have e : (Value.slice A4 (L.sent ++ [(A2, c2, d)]).length c4).ownBlock = some b := hbk
      rwa [hlen] at e
    rcases hb with e | ⟨k, e, hk⟩
    · exact .inl (h.os b (e ▸ hbk'))
    · rw [e] at hbk'
      injection hbk' with hbk'
      subst hbk'
      have h1 := (own_blk ho e).2
      have := hf5.size
      exact .inr ⟨hk, by omega⟩
  · rintro k (hk | hk)
    · have := h.ol k hk
      have := hfo.size
      omega
    · exact hk.2

def SendPost (O : Nat → Prop) (W : World) (g : Nat) (L : Lk) (d : List UInt8) (e : Ending) (W' : World) : Prop :=
  if 16 ≤ L.sent.length then e = .returned (.int .i64 2) ∧ W = W' else e = .returned (.int .i64 0) ∧ Fr (St O W) W W' ∧ ∃ A c A2 c2, LkIn (Plus O W W') W' g { L with sa := A, sc := c, sent := L.sent ++ [(A2, c2, d)] }

set_option maxRecDepth 100000 in
set_option maxHeartbeats 4000000 in
theorem send_any (W : World) (O : Nat → Prop) (g : Nat) (L : Lk) (h : LkIn O W g L) (A : Option Addr) (c : Nat) (d : List UInt8) (hr : Rd W A (cb d)) (hA : A = none → c = 0) (hd : d.length ≤ 1000000) :
    Calls Try.prog 12 #[.pointer (some ⟨g, 0, none⟩), .slice A d.length c] W (SendPost O W g L d) := by
  obtain ⟨i0, hi, hz0, hz1, hz2⟩ := info_parts sliceInfo
  obtain ⟨c0, c1, c2', c3, c4, c5⟩ := h.cells
  have hfew := h.few
  have HL := Lib.hid h
  have HCL := Lib.hid fun w (hf : Fr NoBlk W w) => clone_any w A d.length c d rfl (hr.nofr hf) hA (by omega)
  have HP : Hid (∀ e W', SendPost O W g L d e W' = if 16 ≤ L.sent.length then e = .returned (.int .i64 2) ∧ W = W' else e = .returned (.int .i64 0) ∧ Fr (St O W) W W' ∧ ∃ A c A2 c2, LkIn (Plus O W W') W' g { L with sa := A, sc := c, sent := L.sent ++ [(A2, c2, d)] }) := fun _ _ => rfl
  clear h hr hA
  by_cases h16 : 16 ≤ L.sent.length
  · have h16' : (16 : Int) ≤ (L.sent.length : Int) := by omega
    have HH := Lib.hid h16
    clear h16
    go_enter Try.func12, Try.ntmps12
    go_wp2_with fail
    go_ret
    rw [HP.out, if_pos HH.out]
    exact ⟨rfl, rfl⟩
  have h16' : ¬ (16 : Int) ≤ (L.sent.length : Int) := by omega
  have HFEW : Hid (L.sent.length < 16) := by show _ < _; omega
  have HPOST : Hid (∀ (W' : World) (A4 : Option Addr) (c4 : Nat) (p : Option Addr × Nat), LkIn (Plus O W W') W' g { L with sa := A4, sc := c4, sent := L.sent ++ [(p.1, p.2, d)] } → Fr (St O W) W W' → SendPost O W g L d (.returned (.int .i64 0)) W') := fun W' A4 c4 p h1 h2 => by
    rw [HP.out, if_neg (by have := HFEW.out; omega)]
    exact ⟨rfl, h2, A4, c4, p.1, p.2, h1⟩
  clear h16 c0 c1 c2' c4 c5
  go_enter Try.func12, Try.ntmps12
  go_upto_region 3 with fail
  clear c3 h16'
  refine wp_region_held_drew (S := fun _ => True) (by kernel_rfl) trivial (fun hHeld => ?_)
  refine wpAnyH_take (i := 0) (oi := ⟨some 11, _, _, _, _, _⟩) (v := ?_) rfl (by kernel_rfl) (by kernel_rfl) (by kernel_rfl) (fun _ _ _ h => h) (Or.inl ⟨by rfl, ?_⟩) (by assumption) ?_
  rotate_left 1
  · (intro w hSw; (try dsimp only at hSw); go_simp) <;> (with_reducible rfl)
  try simp only [Act.put, List.setIfInBounds_toArray, List.set_cons_zero, List.set_cons_succ]
  refine wpAnyH_take (i := 1) (oi := ⟨some 12, _, _, _, _, _⟩) (v := ?_) rfl (by kernel_rfl) (by kernel_rfl) (by kernel_rfl) (fun _ _ _ h => h) (Or.inl ⟨by rfl, ?_⟩) (by assumption) ?_
  rotate_left 1
  · (intro w hSw; (try dsimp only at hSw); go_simp) <;> (with_reducible rfl)
  try simp only [Act.put, List.setIfInBounds_toArray, List.set_cons_zero, List.set_cons_succ]
  refine wpAnyH_take (i := 2) (oi := ⟨some 13, _, _, _, _, _⟩) (v := ?_) rfl (by kernel_rfl) (by kernel_rfl) (by kernel_rfl) (fun _ _ _ h => h) (Or.inl ⟨by rfl, ?_⟩) (by assumption) ?_
  rotate_left 1
  · (intro w hSw; (try dsimp only at hSw); go_simp) <;> (with_reducible rfl)
  try simp only [Act.put, List.setIfInBounds_toArray, List.set_cons_zero, List.set_cons_succ]
  refine wpAnyH_take (i := 3) (oi := ⟨some 14, _, _, _, _, _⟩) (v := ?_) rfl (by kernel_rfl) (by kernel_rfl) (by kernel_rfl) (fun _ _ _ h => h) (Or.inl ⟨by rfl, ?_⟩) (by assumption) ?_
  rotate_left 1
  · (intro w hSw; (try dsimp only at hSw); go_simp) <;> (with_reducible rfl)
  try simp only [Act.put, List.setIfInBounds_toArray, List.set_cons_zero, List.set_cons_succ]
  refine wpAnyH_take (i := 5) (oi := ⟨some 16, _, _, _, _, _⟩) (v := ?_) rfl (by kernel_rfl) (by kernel_rfl) (by kernel_rfl) (fun _ _ _ h => h) (Or.inl ⟨by rfl, ?_⟩) (by assumption) ?_
  rotate_left 1
  · (intro w hSw; (try dsimp only at hSw); go_simp) <;> (with_reducible rfl)
  try simp only [Act.put, List.setIfInBounds_toArray, List.set_cons_zero, List.set_cons_succ]
  refine wpAnyH_ready (rs := [4, 6]) (by kernel_rfl) (by simp) ?_
  refine AllReadyH.cons (o := ⟨some 15, _, _, _, _, _⟩) rfl (fun K hK => ?_) (AllReadyH.cons (o := ⟨some 17, _, _, _, _, _⟩) rfl (fun K hK => ?_) AllReadyH.nil)
  · have o3 : (W.drew).cell? ⟨g, 3, none⟩ = some (.slice L.sa L.sent.length L.sc) := (HL.out.nofr ((Fr.refl NoBlk W).drew)).cells.2.2.2.1
    go_simp
    clear hHeld
    refine hK.out _ _ ?_ (fun hHeld => ?_)
    · trivial
    clear hK K
    try simp only [Act.put, List.setIfInBounds_toArray, List.set_cons_zero, List.set_cons_succ]
    clear o3
    refine wpAnyH_ready (rs := [6]) (by kernel_rfl) (by simp) ?_
    refine AllReadyH.cons (o := ⟨some 17, _, _, _, _, _⟩) rfl (fun K hK => ?_) AllReadyH.nil
    go_simp
    go_at_call 25
    refine (HCL.out _ ((Fr.refl NoBlk W).drew)).mono ?_
    rintro e w2 ⟨v2, rfl, hn2⟩
    obtain ⟨A2, c2, rfl, _, _⟩ := own_form hn2.own
    have HN2 := Lib.hid hn2
    have HF2 : Hid (Fr NoBlk W w2) := ((Fr.refl NoBlk W).drew).trans hn2.fr
    clear hn2
    clear hHeld
    refine hK.out _ _ ?_ (fun hHeld => ?_)
    · trivial
    clear hK K
    try simp only [Act.put, List.setIfInBounds_toArray, List.set_cons_zero, List.set_cons_succ]
    refine wpAnyH_ready (rs := [7]) (by kernel_rfl) (by simp) ?_
    refine AllReadyH.cons (o := ⟨some 18, _, _, _, _, _⟩) rfl (fun K hK => ?_) AllReadyH.nil
    go_simp
    clear hHeld
    refine hK.out _ _ ?_ (fun hHeld => ?_)
    · trivial
    clear hK K
    try simp only [Act.put, List.setIfInBounds_toArray, List.set_cons_zero, List.set_cons_succ]
    refine wpAnyH_ready (rs := [8]) (by kernel_rfl) (by simp) ?_
    refine AllReadyH.cons (o := ⟨some 19, _, _, _, _, _⟩) rfl (fun K hK => ?_) AllReadyH.nil
    have HR8 : Hid (Rd (w2.alloc (.cells #[.slice A2 d.length c2] 30)) (some ⟨w2.heap.size, 0, none⟩) [.slice A2 d.length c2]) := Rd.of_cells (Bk.new w2 _ _)
    have HF3 : Hid (Fr NoBlk W (w2.alloc (.cells #[.slice A2 d.length c2] 30))) := HF2.out.alloc _
    refine step_appO rfl _ _ 38 rfl 0 30 i0 _ 1 24 Try.underlying38 hi hz0 hz1 hz2 rfl (by decide) (.slice L.sa L.sent.length L.sc) L.sent.length (L.sent.map sl) rfl (own_fr HL.out.own HF3.out (fun _ _ h => h)) ⟨w2.heap.size, 0, none⟩ 1 1 [.slice A2 d.length c2] rfl rfl HR8.out ?q1 ?q2 ?q3 (Nat.zero_le _) ?_
    case q1 => intro y hy; rw [List.mem_singleton.1 hy]; rfl
    case q2 => have := HL.out.few; unfold maxLen; omega
    case q3 => have := HL.out.few; omega
    intro v4 w4 ho4 hg4 hb4
    obtain ⟨A4, c4, rfl, _, _⟩ := own_form ho4
    have HS := Lib.hid (HL.out.pushed HF3.out (own_fr HN2.out.own ((Fr.refl NoBlk w2).alloc _) (fun _ _ h => h)) ho4 hg4 (by rcases hb4 with e | e; exact .inl e; exact .inr ⟨_, e, HF3.out.size⟩) HFEW.out)
    have o3 : w4.cell? ⟨g, 3, none⟩ = some (.slice L.sa L.sent.length L.sc) := HS.out.1.cell 3
    have f3 := HS.out.1.free 3
    clear ho4 hg4 hb4
    clear hHeld
    refine hK.out _ _ ?_ (fun hHeld => ?_)
    · trivial
    clear hK K
    try simp only [Act.put, List.setIfInBounds_toArray, List.set_cons_zero, List.set_cons_succ]
    refine wpAnyH_take (i := 9) (oi := ⟨some 20, _, _, _, _, _⟩) (v := ?_) rfl (by kernel_rfl) (by kernel_rfl) (by kernel_rfl) (fun _ _ _ h => h) (Or.inl ⟨by rfl, ?_⟩) (by assumption) ?_
    rotate_left 1
    · (intro w hSw; (try dsimp only at hSw); go_simp) <;> (with_reducible rfl)
    try simp only [Act.put, List.setIfInBounds_toArray, List.set_cons_zero, List.set_cons_succ]
    refine wpAnyH_take (i := 10) (oi := ⟨some 21, _, _, _, _, _⟩) (v := ?_) rfl (by kernel_rfl) (by kernel_rfl) (by kernel_rfl) (fun _ _ _ h => h) (Or.inl ⟨by rfl, ?_⟩) (by assumption) ?_
    rotate_left 1
    · (intro w hSw; (try dsimp only at hSw); go_simp) <;> (with_reducible rfl)
    try simp only [Act.put, List.setIfInBounds_toArray, List.set_cons_zero, List.set_cons_succ]
    refine wpAnyH_ready (rs := [11]) (by kernel_rfl) (by simp) ?_
    refine AllReadyH.cons (o := ⟨none, _, _, _, _, _⟩) rfl (fun K hK => ?_) AllReadyH.nil
    go_simp
    clear hHeld
    refine hK.out _ _ ?_ (fun hHeld => ?_)
    · trivial
    clear hK K
    try simp only [Act.put, List.setIfInBounds_toArray, List.set_cons_zero, List.set_cons_succ]
    refine wpAnyH_done (by kernel_rfl) ?_ _
    have HZ := Lib.hid HS.out.2
    clear HS hHeld HN2 HF2 HF3 HR8
    go_wp2_with fail
    go_ret
    exact HPOST.out _ _ _ (A2, c2) HZ.out.1 HZ.out.2
  · go_simp
    go_at_call 25
    refine (HCL.out _ ((Fr.refl NoBlk W).drew)).mono ?_
    rintro e w2 ⟨v2, rfl, hn2⟩
    obtain ⟨A2, c2, rfl, _, _⟩ := own_form hn2.own
    have HN2 := Lib.hid hn2
    have HF2 : Hid (Fr NoBlk W w2) := ((Fr.refl NoBlk W).drew).trans hn2.fr
    clear hn2
    clear hHeld
    refine hK.out _ _ ?_ (fun hHeld => ?_)
    · trivial
    clear hK K
    try simp only [Act.put, List.setIfInBounds_toArray, List.set_cons_zero, List.set_cons_succ]
    refine wpAnyH_ready (rs := [4, 7]) (by kernel_rfl) (by simp) ?_
    refine AllReadyH.cons (o := ⟨some 15, _, _, _, _, _⟩) rfl (fun K hK => ?_) (AllReadyH.cons (o := ⟨some 18, _, _, _, _, _⟩) rfl (fun K hK => ?_) AllReadyH.nil)
    · have o3 : (w2).cell? ⟨g, 3, none⟩ = some (.slice L.sa L.sent.length L.sc) := (HL.out.nofr HF2.out).cells.2.2.2.1
      go_simp
      clear hHeld
      refine hK.out _ _ ?_ (fun hHeld => ?_)
      · trivial
      clear hK K
      try simp only [Act.put, List.setIfInBounds_toArray, List.set_cons_zero, List.set_cons_succ]
      clear o3
      refine wpAnyH_ready (rs := [7]) (by kernel_rfl) (by simp) ?_
      refine AllReadyH.cons (o := ⟨some 18, _, _, _, _, _⟩) rfl (fun K hK => ?_) AllReadyH.nil
      go_simp
      clear hHeld
      refine hK.out _ _ ?_ (fun hHeld => ?_)
      · trivial
      clear hK K
      try simp only [Act.put, List.setIfInBounds_toArray, List.set_cons_zero, List.set_cons_succ]
      refine wpAnyH_ready (rs := [8]) (by kernel_rfl) (by simp) ?_
      refine AllReadyH.cons (o := ⟨some 19, _, _, _, _, _⟩) rfl (fun K hK => ?_) AllReadyH.nil
      have HR8 : Hid (Rd (w2.alloc (.cells #[.slice A2 d.length c2] 30)) (some ⟨w2.heap.size, 0, none⟩) [.slice A2 d.length c2]) := Rd.of_cells (Bk.new w2 _ _)
      have HF3 : Hid (Fr NoBlk W (w2.alloc (.cells #[.slice A2 d.length c2] 30))) := HF2.out.alloc _
      refine step_appO rfl _ _ 38 rfl 0 30 i0 _ 1 24 Try.underlying38 hi hz0 hz1 hz2 rfl (by decide) (.slice L.sa L.sent.length L.sc) L.sent.length (L.sent.map sl) rfl (own_fr HL.out.own HF3.out (fun _ _ h => h)) ⟨w2.heap.size, 0, none⟩ 1 1 [.slice A2 d.length c2] rfl rfl HR8.out ?q1 ?q2 ?q3 (Nat.zero_le _) ?_
      case q1 => intro y hy; rw [List.mem_singleton.1 hy]; rfl
      case q2 => have := HL.out.few; unfold maxLen; omega
      case q3 => have := HL.out.few; omega
      intro v4 w4 ho4 hg4 hb4
      obtain ⟨A4, c4, rfl, _, _⟩ := own_form ho4
      have HS := Lib.hid (HL.out.pushed HF3.out (own_fr HN2.out.own ((Fr.refl NoBlk w2).alloc _) (fun _ _ h => h)) ho4 hg4 (by rcases hb4 with e | e; exact .inl e; exact .inr ⟨_, e, HF3.out.size⟩) HFEW.out)
      have o3 : w4.cell? ⟨g, 3, none⟩ = some (.slice L.sa L.sent.length L.sc) := HS.out.1.cell 3
      have f3 := HS.out.1.free 3
      clear ho4 hg4 hb4
      clear hHeld
      refine hK.out _ _ ?_ (fun hHeld => ?_)
      · trivial
      clear hK K
      try simp only [Act.put, List.setIfInBounds_toArray, List.set_cons_zero, List.set_cons_succ]
      refine wpAnyH_take (i := 9) (oi := ⟨some 20, _, _, _, _, _⟩) (v := ?_) rfl (by kernel_rfl) (by kernel_rfl) (by kernel_rfl) (fun _ _ _ h => h) (Or.inl ⟨by rfl, ?_⟩) (by assumption) ?_
      rotate_left 1
      · (intro w hSw; (try dsimp only at hSw); go_simp) <;> (with_reducible rfl)
      try simp only [Act.put, List.setIfInBounds_toArray, List.set_cons_zero, List.set_cons_succ]
      refine wpAnyH_take (i := 10) (oi := ⟨some 21, _, _, _, _, _⟩) (v := ?_) rfl (by kernel_rfl) (by kernel_rfl) (by kernel_rfl) (fun _ _ _ h => h) (Or.inl ⟨by rfl, ?_⟩) (by assumption) ?_
      rotate_left 1
      · (intro w hSw; (try dsimp only at hSw); go_simp) <;> (with_reducible rfl)
      try simp only [Act.put, List.setIfInBounds_toArray, List.set_cons_zero, List.set_cons_succ]
      refine wpAnyH_ready (rs := [11]) (by kernel_rfl) (by simp) ?_
      refine AllReadyH.cons (o := ⟨none, _, _, _, _, _⟩) rfl (fun K hK => ?_) AllReadyH.nil
      go_simp
      clear hHeld
      refine hK.out _ _ ?_ (fun hHeld => ?_)
      · trivial
      clear hK K
      try simp only [Act.put, List.setIfInBounds_toArray, List.set_cons_zero, List.set_cons_succ]
      refine wpAnyH_done (by kernel_rfl) ?_ _
      have HZ := Lib.hid HS.out.2
      clear HS hHeld HN2 HF2 HF3 HR8
      go_wp2_with fail
      go_ret
      exact HPOST.out _ _ _ (A2, c2) HZ.out.1 HZ.out.2
    · go_simp
      clear hHeld
      refine hK.out _ _ ?_ (fun hHeld => ?_)
      · trivial
      clear hK K
      try simp only [Act.put, List.setIfInBounds_toArray, List.set_cons_zero, List.set_cons_succ]
      refine wpAnyH_ready (rs := [4]) (by kernel_rfl) (by simp) ?_
      refine AllReadyH.cons (o := ⟨some 15, _, _, _, _, _⟩) rfl (fun K hK => ?_) AllReadyH.nil
      have o3 : ((w2.alloc (.cells #[.slice A2 d.length c2] 30))).cell? ⟨g, 3, none⟩ = some (.slice L.sa L.sent.length L.sc) := (HL.out.nofr (HF2.out.alloc _)).cells.2.2.2.1
      go_simp
      clear hHeld
      refine hK.out _ _ ?_ (fun hHeld => ?_)
      · trivial
      clear hK K
      try simp only [Act.put, List.setIfInBounds_toArray, List.set_cons_zero, List.set_cons_succ]
      clear o3
      refine wpAnyH_ready (rs := [8]) (by kernel_rfl) (by simp) ?_
      refine AllReadyH.cons (o := ⟨some 19, _, _, _, _, _⟩) rfl (fun K hK => ?_) AllReadyH.nil
      have HR8 : Hid (Rd (w2.alloc (.cells #[.slice A2 d.length c2] 30)) (some ⟨w2.heap.size, 0, none⟩) [.slice A2 d.length c2]) := Rd.of_cells (Bk.new w2 _ _)
      have HF3 : Hid (Fr NoBlk W (w2.alloc (.cells #[.slice A2 d.length c2] 30))) := HF2.out.alloc _
      refine step_appO rfl _ _ 38 rfl 0 30 i0 _ 1 24 Try.underlying38 hi hz0 hz1 hz2 rfl (by decide) (.slice L.sa L.sent.length L.sc) L.sent.length (L.sent.map sl) rfl (own_fr HL.out.own HF3.out (fun _ _ h => h)) ⟨w2.heap.size, 0, none⟩ 1 1 [.slice A2 d.length c2] rfl rfl HR8.out ?q1 ?q2 ?q3 (Nat.zero_le _) ?_
      case q1 => intro y hy; rw [List.mem_singleton.1 hy]; rfl
      case q2 => have := HL.out.few; unfold maxLen; omega
      case q3 => have := HL.out.few; omega
      intro v4 w4 ho4 hg4 hb4
      obtain ⟨A4, c4, rfl, _, _⟩ := own_form ho4
      have HS := Lib.hid (HL.out.pushed HF3.out (own_fr HN2.out.own ((Fr.refl NoBlk w2).alloc _) (fun _ _ h => h)) ho4 hg4 (by rcases hb4 with e | e; exact .inl e; exact .inr ⟨_, e, HF3.out.size⟩) HFEW.out)
      have o3 : w4.cell? ⟨g, 3, none⟩ = some (.slice L.sa L.sent.length L.sc) := HS.out.1.cell 3
      have f3 := HS.out.1.free 3
      clear ho4 hg4 hb4
      clear hHeld
      refine hK.out _ _ ?_ (fun hHeld => ?_)
      · trivial
      clear hK K
      try simp only [Act.put, List.setIfInBounds_toArray, List.set_cons_zero, List.set_cons_succ]
      refine wpAnyH_take (i := 9) (oi := ⟨some 20, _, _, _, _, _⟩) (v := ?_) rfl (by kernel_rfl) (by kernel_rfl) (by kernel_rfl) (fun _ _ _ h => h) (Or.inl ⟨by rfl, ?_⟩) (by assumption) ?_
      rotate_left 1
      · (intro w hSw; (try dsimp only at hSw); go_simp) <;> (with_reducible rfl)
      try simp only [Act.put, List.setIfInBounds_toArray, List.set_cons_zero, List.set_cons_succ]
      refine wpAnyH_take (i := 10) (oi := ⟨some 21, _, _, _, _, _⟩) (v := ?_) rfl (by kernel_rfl) (by kernel_rfl) (by kernel_rfl) (fun _ _ _ h => h) (Or.inl ⟨by rfl, ?_⟩) (by assumption) ?_
      rotate_left 1
      · (intro w hSw; (try dsimp only at hSw); go_simp) <;> (with_reducible rfl)
      try simp only [Act.put, List.setIfInBounds_toArray, List.set_cons_zero, List.set_cons_succ]
      refine wpAnyH_ready (rs := [11]) (by kernel_rfl) (by simp) ?_
      refine AllReadyH.cons (o := ⟨none, _, _, _, _, _⟩) rfl (fun K hK => ?_) AllReadyH.nil
      go_simp
      clear hHeld
      refine hK.out _ _ ?_ (fun hHeld => ?_)
      · trivial
      clear hK K
      try simp only [Act.put, List.setIfInBounds_toArray, List.set_cons_zero, List.set_cons_succ]
      refine wpAnyH_done (by kernel_rfl) ?_ _
      have HZ := Lib.hid HS.out.2
      clear HS hHeld HN2 HF2 HF3 HR8
      go_wp2_with fail
      go_ret
      exact HPOST.out _ _ _ (A2, c2) HZ.out.1 HZ.out.2
end Go.Proofs.Ytchlafhmoncldaa
