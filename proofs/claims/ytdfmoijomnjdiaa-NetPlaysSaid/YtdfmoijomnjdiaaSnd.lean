/- A net's Send. Conditions: the net lies in blocks of its own; at most 1000000 bytes of data. -/
import Derived.Test.YtdfmoijomnjdiaaNt
import Derived.Deep.RegionHeld3
namespace Go.Proofs.Ytdfmoijomnjdiaa
open Go.RowKit

theorem NtIn.pushed {O : Nat → Prop} {W w7 w4 : World} {g : Nat} {a : Option Addr} {c : Nat} {ps : List Pc} (h : NtIn O W g a c ps) (hf : Fr NoBlk W w7) {q : Pc} (hd : w7.ownsRow W.heap.size 5 1 (sl q.d) q.d.2.2.length (cb q.d.2.2)) (hq : q.d.2.2.length ≤ 1000000)
    {A4 : Option Addr} {c4 : Nat} (ho : w4.ownsRow 0 35 7 (.slice A4 (ps.length + 1) c4) (ps.length + 1) (pcsc ps ++ pcc q)) (hg : w7.grownBy w4 (Value.slice a ps.length c).ownBlock)
    (hb : (Value.slice A4 (ps.length + 1) c4).ownBlock = (Value.slice a ps.length c).ownBlock ∨ ∃ k, (Value.slice A4 (ps.length + 1) c4).ownBlock = some k ∧ W.heap.size ≤ k) (hfew : ps.length < 4000) :
    Bk w4 g 51 #[.slice a ps.length c] ∧ NtIn (Plus O W (w4.setCell ⟨g, 0, none⟩ (.slice A4 (ps.length + 1) c4))) (w4.setCell ⟨g, 0, none⟩ (.slice A4 (ps.length + 1) c4)) g A4 c4 (ps ++ [q]) ∧ Fr O W (w4.setCell ⟨g, 0, none⟩ (.slice A4 (ps.length + 1) c4)) := by
  have h3 := h.nofr hf
  have hfg := Fr.ofGrown hg
  have hb4 : Bk w4 g 51 #[.slice a ps.length c] := h3.bk.fr hfg (fun e => own_apart h3.own h3.bk (by decide) e.symm)
  have hf5 : Fr (fun k => k = g) w4 (w4.setCell ⟨g, 0, none⟩ (.slice A4 (ps.length + 1) c4)) := (Fr.refl (fun k => k = g) w4).setCell (p := ⟨g, 0, none⟩) (fun _ => rfl) _
  have hfo : Fr O W (w4.setCell ⟨g, 0, none⟩ (.slice A4 (ps.length + 1) c4)) := ((hf.mono fun _ _ h => h.elim).grown hg (fun k hk _ => h.os k hk)).step hf5 (fun k hk e => by rw [e]; exact h.og)
  have hlen : (ps ++ [q]).length = ps.length + 1 := by simp
  refine ⟨hb4, ⟨?_, ?_, fun p hp => ?_, .inl h.og, ?_, ?_, by rw [hlen]; omega⟩, hfo⟩
  · refine Bk.cast (hb4.put 0 (.slice A4 (ps.length + 1) c4)) ?_
    simp only [List.setIfInBounds_toArray, List.set_cons_zero, hlen]
  · rw [hlen, pcsc_append, show pcsc [q] = pcc q by simp [pcsc]]
    exact own_set ho hb4 (by decide)
  · rcases List.mem_append.1 hp with hp | hp
    · exact ⟨⟨own_set (own_fr (h3.parts p hp).1.1 hfg fun _ hk e => own_ne h3.own (h3.parts p hp).1.1 (by decide) hk e.symm) hb4 (by decide), fun k hk => .inl ((h3.parts p hp).1.2 k hk)⟩, (h3.parts p hp).2⟩
    · rw [List.mem_singleton.1 hp]
      have ho3 := own_base hd (Nat.zero_le _)
      refine ⟨⟨own_set (own_fr ho3 hfg fun _ hk e => own_ne h3.own ho3 (by decide) hk e.symm) hb4 (by decide), fun k hk => .inr ⟨(own_blk hd hk).1, ?_⟩⟩, hq⟩
      have := (own_blk hd hk).2
      have := hfg.size
      have := hf5.size
      omega
  · intro b hbk
    rw [hlen] at hbk
    rcases hb with e | ⟨k, e, hk⟩
    · exact .inl (h.os b (e ▸ hbk))
    · rw [e] at hbk
      injection hbk with hbk
      subst hbk
      have h1 := (own_blk ho e).2
      have := hf5.size
      exact .inr ⟨hk, by omega⟩
  · rintro k (hk | hk)
    · have := h.ol k hk
      have := hfo.size
      omega
    · exact hk.2

def SendPost (O : Nat → Prop) (W : World) (g : Nat) (ps : List Pc) (p : Pc) (e : Ending) (W' : World) : Prop :=
  if 4000 ≤ ps.length then e = .returned (.int .i64 2) ∧ Fr NoBlk W W' else e = .returned (.int .i64 0) ∧ Fr O W W' ∧ ∃ A c d, d.2.2 = p.d.2.2 ∧ NtIn (Plus O W W') W' g A c (ps ++ [⟨p.src, p.dst, p.ep, p.pe, p.sq, p.ak, d⟩])

set_option maxRecDepth 100000 in
set_option maxHeartbeats 4000000 in
theorem send_any (W : World) (O : Nat → Prop) (g : Nat) (a : Option Addr) (c : Nat) (ps : List Pc) (h : NtIn O W g a c ps) (p : Pc) (hr : Rd W p.d.1 (cb p.d.2.2)) (hA : p.d.1 = none → p.d.2.1 = 0) (hd : p.d.2.2.length ≤ 1000000) :
    Calls Try.prog 15 #[.pointer (some ⟨g, 0, none⟩), .agg #[.int .i64 p.src, .int .i64 p.dst, .int .u64 p.ep, .int .u64 p.pe, .int .u64 p.sq, .int .u64 p.ak, .slice p.d.1 p.d.2.2.length p.d.2.1]] W (SendPost O W g ps p) := by
  obtain ⟨i0, hi, hz0, hz1, hz2⟩ := info_parts pcInfo
  have HL := Lib.hid h
  have HCL := Lib.hid fun w (hf : Fr NoBlk W w) => clone_any w p.d.1 p.d.2.2.length p.d.2.1 p.d.2.2 rfl (hr.nofr hf) hA (by omega)
  have HDL := Lib.hid hd
  have HP : Hid (∀ e W', SendPost O W g ps p e W' = if 4000 ≤ ps.length then e = .returned (.int .i64 2) ∧ Fr NoBlk W W' else e = .returned (.int .i64 0) ∧ Fr O W W' ∧ ∃ A c d, d.2.2 = p.d.2.2 ∧ NtIn (Plus O W W') W' g A c (ps ++ [⟨p.src, p.dst, p.ep, p.pe, p.sq, p.ak, d⟩])) := fun _ _ => rfl
  have hcN : (W.alloc (.cells (pca p) 35)).cell? ⟨g, 0, none⟩ = some (.slice a ps.length c) := (h.nofr ((Fr.refl _ _).alloc _)).bk.cell 0
  have HFB : Hid (Fr NoBlk W (W.alloc (.cells (pca p) 35))) := (Fr.refl _ _).alloc _
  have HBB : Hid (Bk (W.alloc (.cells (pca p) 35)) W.heap.size 35 (pca p)) := Bk.new _ _ _
  unfold pca at hcN HFB HBB
  clear h hr hA hd
  by_cases h16 : 4000 ≤ ps.length
  · have h16' : (4000 : Int) ≤ (ps.length : Int) := by omega
    have HH := Lib.hid h16
    clear h16
    go_enter Try.func15, Try.ntmps15
    go_wp2_with fail
    go_ret
    rw [HP.out, if_pos HH.out]
    exact ⟨rfl, HFB.out⟩
  have h16' : ¬ (4000 : Int) ≤ (ps.length : Int) := by omega
  have HFEW : Hid (ps.length < 4000) := by show _ < _; omega
  have HPOST : Hid (∀ (W' : World) (A4 : Option Addr) (c4 : Nat) (d : Prt), d.2.2 = p.d.2.2 → NtIn (Plus O W W') W' g A4 c4 (ps ++ [⟨p.src, p.dst, p.ep, p.pe, p.sq, p.ak, d⟩]) → Fr O W W' → SendPost O W g ps p (.returned (.int .i64 0)) W') := fun W' A4 c4 d e h1 h2 => by
    rw [HP.out, if_neg (by have := HFEW.out; omega)]
    exact ⟨rfl, h2, A4, c4, d, e, h1⟩
  clear h16
  go_enter Try.func15, Try.ntmps15
  have o6 := HBB.out.cell 6
  simp only [List.getElem?_toArray, List.getElem?_cons_zero, List.getElem?_cons_succ] at o6
  go_wp2_with fail
  refine (HCL.out _ HFB.out).mono ?_
  rintro e w2 ⟨v2, rfl, hn2⟩
  obtain ⟨A2, c2, rfl, _, _⟩ := own_form hn2.own
  have hb2 := HBB.out.fr hn2.fr (fun h => h)
  have HB5 : Hid (Bk (w2.setCell ⟨W.heap.size, 6, none⟩ (.slice A2 p.d.2.2.length c2)) W.heap.size 35 #[.int .i64 p.src, .int .i64 p.dst, .int .u64 p.ep, .int .u64 p.pe, .int .u64 p.sq, .int .u64 p.ak, .slice A2 p.d.2.2.length c2]) := hb2.put 6 _
  have HF5 : Hid (Fr NoBlk W (w2.setCell ⟨W.heap.size, 6, none⟩ (.slice A2 p.d.2.2.length c2))) := (HFB.out.trans hn2.fr).setCell (fun h => absurd h (Nat.lt_irrefl _)) _
  have HD5 : Hid ((w2.setCell ⟨W.heap.size, 6, none⟩ (.slice A2 p.d.2.2.length c2)).ownsRow W.heap.size 5 1 (.slice A2 p.d.2.2.length c2) p.d.2.2.length (cb p.d.2.2)) := own_set (own_base hn2.own (by simp)) hb2 (by decide)
  have e6 := hb2.cell 6
  have f6 := hb2.free 6
  simp only [List.getElem?_toArray, List.getElem?_cons_zero, List.getElem?_cons_succ] at e6
  clear hn2 o6 hcN h16' hb2
  go_upto_region 4 with fail
  obtain ⟨w5, hw5⟩ : ∃ w5, w5 = w2.setCell ⟨W.heap.size, 6, none⟩ (.slice A2 p.d.2.2.length c2) := ⟨_, rfl⟩
  rw [← hw5] at HB5 HF5 HD5 ⊢
  clear hw5 e6 f6
  have HB6 : Hid (Bk w5.drew W.heap.size 35 #[.int .i64 p.src, .int .i64 p.dst, .int .u64 p.ep, .int .u64 p.pe, .int .u64 p.sq, .int .u64 p.ak, .slice A2 p.d.2.2.length c2]) := HB5.out.fr ((Fr.refl NoBlk _).drew) (fun h => h)
  have HF6 : Hid (Fr NoBlk W w5.drew) := HF5.out.drew
  have HD6 : Hid (w5.drew.ownsRow W.heap.size 5 1 (.slice A2 p.d.2.2.length c2) p.d.2.2.length (cb p.d.2.2)) := own_fr HD5.out ((Fr.refl NoBlk _).drew) (fun _ _ h => h)
  have HN6 : Hid (NtIn O w5.drew g a c ps) := HL.out.nofr HF6.out
  clear HB5 HF5 HD5
  refine wp_region_held_drew (S := fun _ => True) (by kernel_rfl) trivial (fun hHeld => ?_)
  generalize w5.drew = w6 at *
  refine wpAnyH_take (i := 0) (oi := ⟨some 17, _, _, _, _, _⟩) (v := ?_) rfl (by kernel_rfl) (by kernel_rfl) (by kernel_rfl) (fun _ _ _ h => h) (Or.inl ⟨by rfl, ?_⟩) (by assumption) ?_
  rotate_left 1
  · (intro w hSw; (try dsimp only at hSw); go_simp) <;> (with_reducible rfl)
  try simp only [Act.put, List.setIfInBounds_toArray, List.set_cons_zero, List.set_cons_succ]
  refine wpAnyH_take (i := 1) (oi := ⟨some 18, _, _, _, _, _⟩) (v := ?_) rfl (by kernel_rfl) (by kernel_rfl) (by kernel_rfl) (fun _ _ _ h => h) (Or.inl ⟨by rfl, ?_⟩) (by assumption) ?_
  rotate_left 1
  · (intro w hSw; (try dsimp only at hSw); go_simp) <;> (with_reducible rfl)
  try simp only [Act.put, List.setIfInBounds_toArray, List.set_cons_zero, List.set_cons_succ]
  refine wpAnyH_take (i := 2) (oi := ⟨some 19, _, _, _, _, _⟩) (v := ?_) rfl (by kernel_rfl) (by kernel_rfl) (by kernel_rfl) (fun _ _ _ h => h) (Or.inl ⟨by rfl, ?_⟩) (by assumption) ?_
  rotate_left 1
  · (intro w hSw; (try dsimp only at hSw); go_simp) <;> (with_reducible rfl)
  try simp only [Act.put, List.setIfInBounds_toArray, List.set_cons_zero, List.set_cons_succ]
  refine wpAnyH_take (i := 3) (oi := ⟨some 20, _, _, _, _, _⟩) (v := ?_) rfl (by kernel_rfl) (by kernel_rfl) (by kernel_rfl) (fun _ _ _ h => h) (Or.inl ⟨by rfl, ?_⟩) (by assumption) ?_
  rotate_left 1
  · (intro w hSw; (try dsimp only at hSw); go_simp) <;> (with_reducible rfl)
  try simp only [Act.put, List.setIfInBounds_toArray, List.set_cons_zero, List.set_cons_succ]
  refine wpAnyH_ready (rs := [4, 5]) (by kernel_rfl) (by simp) ?_
  refine AllReadyH.cons (o := ⟨some 21, _, _, _, _, _⟩) rfl (fun K hK => ?_) (AllReadyH.cons (o := ⟨some 22, _, _, _, _, _⟩) rfl (fun K hK => ?_) AllReadyH.nil)
  · have oN : (w6).cell? ⟨g, 0, none⟩ = some (.slice a ps.length c) := (HN6.out.nofr (Fr.refl NoBlk w6)).bk.cell 0
    go_simp
    clear oN
    clear hHeld
    refine hK.out _ _ ?_ (fun hHeld => ?_)
    · trivial
    clear hK K
    try simp only [Act.put, List.setIfInBounds_toArray, List.set_cons_zero, List.set_cons_succ]
    refine wpAnyH_ready (rs := [5]) (by kernel_rfl) (by simp) ?_
    refine AllReadyH.cons (o := ⟨some 22, _, _, _, _, _⟩) rfl (fun K hK => ?_) AllReadyH.nil
    have o0 := HB6.out.cell 0
    have o1 := HB6.out.cell 1
    have o2 := HB6.out.cell 2
    have o3 := HB6.out.cell 3
    have o4 := HB6.out.cell 4
    have o5 := HB6.out.cell 5
    have o6 := HB6.out.cell 6
    unfold pca at o0 o1 o2 o3 o4 o5 o6
    simp only [List.getElem?_toArray, List.getElem?_cons_zero, List.getElem?_cons_succ] at o0 o1 o2 o3 o4 o5 o6
    go_simp
    clear o0 o1 o2 o3 o4 o5 o6
    clear hHeld
    refine hK.out _ _ ?_ (fun hHeld => ?_)
    · trivial
    clear hK K
    try simp only [Act.put, List.setIfInBounds_toArray, List.set_cons_zero, List.set_cons_succ]
    refine wpAnyH_ready (rs := [6]) (by kernel_rfl) (by simp) ?_
    refine AllReadyH.cons (o := ⟨some 23, _, _, _, _, _⟩) rfl (fun K hK => ?_) AllReadyH.nil
    go_simp
    clear hHeld
    refine hK.out _ _ ?_ (fun hHeld => ?_)
    · trivial
    clear hK K
    try simp only [Act.put, List.setIfInBounds_toArray, List.set_cons_zero, List.set_cons_succ]
    refine wpAnyH_ready (rs := [7]) (by kernel_rfl) (by simp) ?_
    refine AllReadyH.cons (o := ⟨some 24, _, _, _, _, _⟩) rfl (fun K hK => ?_) AllReadyH.nil
    have HR8 : Hid (Rd (w6.alloc (.cells #[.int .i64 p.src, .int .i64 p.dst, .int .u64 p.ep, .int .u64 p.pe, .int .u64 p.sq, .int .u64 p.ak, .slice A2 p.d.2.2.length c2] 35)) (some ⟨w6.heap.size, 0, none⟩) (pcc ⟨p.src, p.dst, p.ep, p.pe, p.sq, p.ak, A2, c2, p.d.2.2⟩)) := Rd.of_cells (Bk.new w6 _ _)
    have HF7 : Hid (Fr NoBlk W (w6.alloc (.cells #[.int .i64 p.src, .int .i64 p.dst, .int .u64 p.ep, .int .u64 p.pe, .int .u64 p.sq, .int .u64 p.ak, .slice A2 p.d.2.2.length c2] 35))) := HF6.out.alloc _
    refine step_appO rfl _ _ 27 rfl 0 35 i0 _ 7 72 Try.underlying27 hi hz0 hz1 hz2 rfl (by decide) (.slice a ps.length c) ps.length (pcsc ps) rfl (HN6.out.nofr ((Fr.refl NoBlk w6).alloc _)).own ⟨w6.heap.size, 0, none⟩ 1 1 (pcc ⟨p.src, p.dst, p.ep, p.pe, p.sq, p.ak, A2, c2, p.d.2.2⟩) rfl rfl HR8.out ?q1 ?q2 ?q3 (Nat.zero_le _) ?_
    case q1 => intro y hy; exact pcsc_one [⟨p.src, p.dst, p.ep, p.pe, p.sq, p.ak, A2, c2, p.d.2.2⟩] y (by simpa [pcsc] using hy)
    case q2 => have := HL.out.few; unfold maxLen; omega
    case q3 => have := HL.out.few; omega
    intro v4 w4 ho4 hg4 hb4
    obtain ⟨A4, c4, rfl, _, _⟩ := own_form ho4
    have HS := Lib.hid (HL.out.pushed HF7.out (q := ⟨p.src, p.dst, p.ep, p.pe, p.sq, p.ak, A2, c2, p.d.2.2⟩) (own_fr HD6.out ((Fr.refl NoBlk w6).alloc _) (fun _ _ h => h)) HDL.out ho4 hg4 (by rcases hb4 with e | e; exact .inl e; exact .inr ⟨_, e, HF7.out.size⟩) HFEW.out)
    have oN : w4.cell? ⟨g, 0, none⟩ = some (.slice a ps.length c) := HS.out.1.cell 0
    have fN := HS.out.1.free 0
    clear ho4 hg4 hb4
    clear hHeld
    refine hK.out _ _ ?_ (fun hHeld => ?_)
    · trivial
    clear hK K
    try simp only [Act.put, List.setIfInBounds_toArray, List.set_cons_zero, List.set_cons_succ]
    refine wpAnyH_take (i := 8) (oi := ⟨some 25, _, _, _, _, _⟩) (v := ?_) rfl (by kernel_rfl) (by kernel_rfl) (by kernel_rfl) (fun _ _ _ h => h) (Or.inl ⟨by rfl, ?_⟩) (by assumption) ?_
    rotate_left 1
    · (intro w hSw; (try dsimp only at hSw); go_simp) <;> (with_reducible rfl)
    try simp only [Act.put, List.setIfInBounds_toArray, List.set_cons_zero, List.set_cons_succ]
    refine wpAnyH_take (i := 9) (oi := ⟨some 26, _, _, _, _, _⟩) (v := ?_) rfl (by kernel_rfl) (by kernel_rfl) (by kernel_rfl) (fun _ _ _ h => h) (Or.inl ⟨by rfl, ?_⟩) (by assumption) ?_
    rotate_left 1
    · (intro w hSw; (try dsimp only at hSw); go_simp) <;> (with_reducible rfl)
    try simp only [Act.put, List.setIfInBounds_toArray, List.set_cons_zero, List.set_cons_succ]
    refine wpAnyH_ready (rs := [10]) (by kernel_rfl) (by simp) ?_
    refine AllReadyH.cons (o := ⟨none, _, _, _, _, _⟩) rfl (fun K hK => ?_) AllReadyH.nil
    go_simp
    clear hHeld
    refine hK.out _ _ ?_ (fun hHeld => ?_)
    · trivial
    clear hK K
    try simp only [Act.put, List.setIfInBounds_toArray, List.set_cons_zero, List.set_cons_succ]
    refine wpAnyH_done (by kernel_rfl) ?_ _
    have HZ := Lib.hid HS.out.2
    clear HS hHeld HF7 HR8
    go_wp2_with fail
    go_ret
    exact HPOST.out _ _ _ (A2, c2, p.d.2.2) rfl HZ.out.1 HZ.out.2
  · have o0 := HB6.out.cell 0
    have o1 := HB6.out.cell 1
    have o2 := HB6.out.cell 2
    have o3 := HB6.out.cell 3
    have o4 := HB6.out.cell 4
    have o5 := HB6.out.cell 5
    have o6 := HB6.out.cell 6
    unfold pca at o0 o1 o2 o3 o4 o5 o6
    simp only [List.getElem?_toArray, List.getElem?_cons_zero, List.getElem?_cons_succ] at o0 o1 o2 o3 o4 o5 o6
    go_simp
    clear o0 o1 o2 o3 o4 o5 o6
    clear hHeld
    refine hK.out _ _ ?_ (fun hHeld => ?_)
    · trivial
    clear hK K
    try simp only [Act.put, List.setIfInBounds_toArray, List.set_cons_zero, List.set_cons_succ]
    refine wpAnyH_ready (rs := [4, 6]) (by kernel_rfl) (by simp) ?_
    refine AllReadyH.cons (o := ⟨some 21, _, _, _, _, _⟩) rfl (fun K hK => ?_) (AllReadyH.cons (o := ⟨some 23, _, _, _, _, _⟩) rfl (fun K hK => ?_) AllReadyH.nil)
    · have oN : (w6).cell? ⟨g, 0, none⟩ = some (.slice a ps.length c) := (HN6.out.nofr (Fr.refl NoBlk w6)).bk.cell 0
      go_simp
      clear oN
      clear hHeld
      refine hK.out _ _ ?_ (fun hHeld => ?_)
      · trivial
      clear hK K
      try simp only [Act.put, List.setIfInBounds_toArray, List.set_cons_zero, List.set_cons_succ]
      refine wpAnyH_ready (rs := [6]) (by kernel_rfl) (by simp) ?_
      refine AllReadyH.cons (o := ⟨some 23, _, _, _, _, _⟩) rfl (fun K hK => ?_) AllReadyH.nil
      go_simp
      clear hHeld
      refine hK.out _ _ ?_ (fun hHeld => ?_)
      · trivial
      clear hK K
      try simp only [Act.put, List.setIfInBounds_toArray, List.set_cons_zero, List.set_cons_succ]
      refine wpAnyH_ready (rs := [7]) (by kernel_rfl) (by simp) ?_
      refine AllReadyH.cons (o := ⟨some 24, _, _, _, _, _⟩) rfl (fun K hK => ?_) AllReadyH.nil
      have HR8 : Hid (Rd (w6.alloc (.cells #[.int .i64 p.src, .int .i64 p.dst, .int .u64 p.ep, .int .u64 p.pe, .int .u64 p.sq, .int .u64 p.ak, .slice A2 p.d.2.2.length c2] 35)) (some ⟨w6.heap.size, 0, none⟩) (pcc ⟨p.src, p.dst, p.ep, p.pe, p.sq, p.ak, A2, c2, p.d.2.2⟩)) := Rd.of_cells (Bk.new w6 _ _)
      have HF7 : Hid (Fr NoBlk W (w6.alloc (.cells #[.int .i64 p.src, .int .i64 p.dst, .int .u64 p.ep, .int .u64 p.pe, .int .u64 p.sq, .int .u64 p.ak, .slice A2 p.d.2.2.length c2] 35))) := HF6.out.alloc _
      refine step_appO rfl _ _ 27 rfl 0 35 i0 _ 7 72 Try.underlying27 hi hz0 hz1 hz2 rfl (by decide) (.slice a ps.length c) ps.length (pcsc ps) rfl (HN6.out.nofr ((Fr.refl NoBlk w6).alloc _)).own ⟨w6.heap.size, 0, none⟩ 1 1 (pcc ⟨p.src, p.dst, p.ep, p.pe, p.sq, p.ak, A2, c2, p.d.2.2⟩) rfl rfl HR8.out ?q1 ?q2 ?q3 (Nat.zero_le _) ?_
      case q1 => intro y hy; exact pcsc_one [⟨p.src, p.dst, p.ep, p.pe, p.sq, p.ak, A2, c2, p.d.2.2⟩] y (by simpa [pcsc] using hy)
      case q2 => have := HL.out.few; unfold maxLen; omega
      case q3 => have := HL.out.few; omega
      intro v4 w4 ho4 hg4 hb4
      obtain ⟨A4, c4, rfl, _, _⟩ := own_form ho4
      have HS := Lib.hid (HL.out.pushed HF7.out (q := ⟨p.src, p.dst, p.ep, p.pe, p.sq, p.ak, A2, c2, p.d.2.2⟩) (own_fr HD6.out ((Fr.refl NoBlk w6).alloc _) (fun _ _ h => h)) HDL.out ho4 hg4 (by rcases hb4 with e | e; exact .inl e; exact .inr ⟨_, e, HF7.out.size⟩) HFEW.out)
      have oN : w4.cell? ⟨g, 0, none⟩ = some (.slice a ps.length c) := HS.out.1.cell 0
      have fN := HS.out.1.free 0
      clear ho4 hg4 hb4
      clear hHeld
      refine hK.out _ _ ?_ (fun hHeld => ?_)
      · trivial
      clear hK K
      try simp only [Act.put, List.setIfInBounds_toArray, List.set_cons_zero, List.set_cons_succ]
      refine wpAnyH_take (i := 8) (oi := ⟨some 25, _, _, _, _, _⟩) (v := ?_) rfl (by kernel_rfl) (by kernel_rfl) (by kernel_rfl) (fun _ _ _ h => h) (Or.inl ⟨by rfl, ?_⟩) (by assumption) ?_
      rotate_left 1
      · (intro w hSw; (try dsimp only at hSw); go_simp) <;> (with_reducible rfl)
      try simp only [Act.put, List.setIfInBounds_toArray, List.set_cons_zero, List.set_cons_succ]
      refine wpAnyH_take (i := 9) (oi := ⟨some 26, _, _, _, _, _⟩) (v := ?_) rfl (by kernel_rfl) (by kernel_rfl) (by kernel_rfl) (fun _ _ _ h => h) (Or.inl ⟨by rfl, ?_⟩) (by assumption) ?_
      rotate_left 1
      · (intro w hSw; (try dsimp only at hSw); go_simp) <;> (with_reducible rfl)
      try simp only [Act.put, List.setIfInBounds_toArray, List.set_cons_zero, List.set_cons_succ]
      refine wpAnyH_ready (rs := [10]) (by kernel_rfl) (by simp) ?_
      refine AllReadyH.cons (o := ⟨none, _, _, _, _, _⟩) rfl (fun K hK => ?_) AllReadyH.nil
      go_simp
      clear hHeld
      refine hK.out _ _ ?_ (fun hHeld => ?_)
      · trivial
      clear hK K
      try simp only [Act.put, List.setIfInBounds_toArray, List.set_cons_zero, List.set_cons_succ]
      refine wpAnyH_done (by kernel_rfl) ?_ _
      have HZ := Lib.hid HS.out.2
      clear HS hHeld HF7 HR8
      go_wp2_with fail
      go_ret
      exact HPOST.out _ _ _ (A2, c2, p.d.2.2) rfl HZ.out.1 HZ.out.2
    · go_simp
      clear hHeld
      refine hK.out _ _ ?_ (fun hHeld => ?_)
      · trivial
      clear hK K
      try simp only [Act.put, List.setIfInBounds_toArray, List.set_cons_zero, List.set_cons_succ]
      refine wpAnyH_ready (rs := [4]) (by kernel_rfl) (by simp) ?_
      refine AllReadyH.cons (o := ⟨some 21, _, _, _, _, _⟩) rfl (fun K hK => ?_) AllReadyH.nil
      have oN : ((w6.alloc (.cells #[.int .i64 p.src, .int .i64 p.dst, .int .u64 p.ep, .int .u64 p.pe, .int .u64 p.sq, .int .u64 p.ak, .slice A2 p.d.2.2.length c2] 35))).cell? ⟨g, 0, none⟩ = some (.slice a ps.length c) := (HN6.out.nofr ((Fr.refl NoBlk w6).alloc _)).bk.cell 0
      go_simp
      clear oN
      clear hHeld
      refine hK.out _ _ ?_ (fun hHeld => ?_)
      · trivial
      clear hK K
      try simp only [Act.put, List.setIfInBounds_toArray, List.set_cons_zero, List.set_cons_succ]
      refine wpAnyH_ready (rs := [7]) (by kernel_rfl) (by simp) ?_
      refine AllReadyH.cons (o := ⟨some 24, _, _, _, _, _⟩) rfl (fun K hK => ?_) AllReadyH.nil
      have HR8 : Hid (Rd (w6.alloc (.cells #[.int .i64 p.src, .int .i64 p.dst, .int .u64 p.ep, .int .u64 p.pe, .int .u64 p.sq, .int .u64 p.ak, .slice A2 p.d.2.2.length c2] 35)) (some ⟨w6.heap.size, 0, none⟩) (pcc ⟨p.src, p.dst, p.ep, p.pe, p.sq, p.ak, A2, c2, p.d.2.2⟩)) := Rd.of_cells (Bk.new w6 _ _)
      have HF7 : Hid (Fr NoBlk W (w6.alloc (.cells #[.int .i64 p.src, .int .i64 p.dst, .int .u64 p.ep, .int .u64 p.pe, .int .u64 p.sq, .int .u64 p.ak, .slice A2 p.d.2.2.length c2] 35))) := HF6.out.alloc _
      refine step_appO rfl _ _ 27 rfl 0 35 i0 _ 7 72 Try.underlying27 hi hz0 hz1 hz2 rfl (by decide) (.slice a ps.length c) ps.length (pcsc ps) rfl (HN6.out.nofr ((Fr.refl NoBlk w6).alloc _)).own ⟨w6.heap.size, 0, none⟩ 1 1 (pcc ⟨p.src, p.dst, p.ep, p.pe, p.sq, p.ak, A2, c2, p.d.2.2⟩) rfl rfl HR8.out ?q1 ?q2 ?q3 (Nat.zero_le _) ?_
      case q1 => intro y hy; exact pcsc_one [⟨p.src, p.dst, p.ep, p.pe, p.sq, p.ak, A2, c2, p.d.2.2⟩] y (by simpa [pcsc] using hy)
      case q2 => have := HL.out.few; unfold maxLen; omega
      case q3 => have := HL.out.few; omega
      intro v4 w4 ho4 hg4 hb4
      obtain ⟨A4, c4, rfl, _, _⟩ := own_form ho4
      have HS := Lib.hid (HL.out.pushed HF7.out (q := ⟨p.src, p.dst, p.ep, p.pe, p.sq, p.ak, A2, c2, p.d.2.2⟩) (own_fr HD6.out ((Fr.refl NoBlk w6).alloc _) (fun _ _ h => h)) HDL.out ho4 hg4 (by rcases hb4 with e | e; exact .inl e; exact .inr ⟨_, e, HF7.out.size⟩) HFEW.out)
      have oN : w4.cell? ⟨g, 0, none⟩ = some (.slice a ps.length c) := HS.out.1.cell 0
      have fN := HS.out.1.free 0
      clear ho4 hg4 hb4
      clear hHeld
      refine hK.out _ _ ?_ (fun hHeld => ?_)
      · trivial
      clear hK K
      try simp only [Act.put, List.setIfInBounds_toArray, List.set_cons_zero, List.set_cons_succ]
      refine wpAnyH_take (i := 8) (oi := ⟨some 25, _, _, _, _, _⟩) (v := ?_) rfl (by kernel_rfl) (by kernel_rfl) (by kernel_rfl) (fun _ _ _ h => h) (Or.inl ⟨by rfl, ?_⟩) (by assumption) ?_
      rotate_left 1
      · (intro w hSw; (try dsimp only at hSw); go_simp) <;> (with_reducible rfl)
      try simp only [Act.put, List.setIfInBounds_toArray, List.set_cons_zero, List.set_cons_succ]
      refine wpAnyH_take (i := 9) (oi := ⟨some 26, _, _, _, _, _⟩) (v := ?_) rfl (by kernel_rfl) (by kernel_rfl) (by kernel_rfl) (fun _ _ _ h => h) (Or.inl ⟨by rfl, ?_⟩) (by assumption) ?_
      rotate_left 1
      · (intro w hSw; (try dsimp only at hSw); go_simp) <;> (with_reducible rfl)
      try simp only [Act.put, List.setIfInBounds_toArray, List.set_cons_zero, List.set_cons_succ]
      refine wpAnyH_ready (rs := [10]) (by kernel_rfl) (by simp) ?_
      refine AllReadyH.cons (o := ⟨none, _, _, _, _, _⟩) rfl (fun K hK => ?_) AllReadyH.nil
      go_simp
      clear hHeld
      refine hK.out _ _ ?_ (fun hHeld => ?_)
      · trivial
      clear hK K
      try simp only [Act.put, List.setIfInBounds_toArray, List.set_cons_zero, List.set_cons_succ]
      refine wpAnyH_done (by kernel_rfl) ?_ _
      have HZ := Lib.hid HS.out.2
      clear HS hHeld HF7 HR8
      go_wp2_with fail
      go_ret
      exact HPOST.out _ _ _ (A2, c2, p.d.2.2) rfl HZ.out.1 HZ.out.2
end Go.Proofs.Ytdfmoijomnjdiaa
