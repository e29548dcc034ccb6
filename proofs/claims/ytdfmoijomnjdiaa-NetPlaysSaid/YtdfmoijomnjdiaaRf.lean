/- The document's net: Has, Send, Take. Conditions: it lies in blocks made since a first world. -/
import Derived.Test.YtdfmoijomnjdiaaOpenN
namespace Go.Proofs.Ytdfmoijomnjdiaa
open Go.RowKit

theorem step_appN {P : Program} {w : World} {ops : Array Oper} {o : Oper} {a : Act} {K : Act → World → Prop} {Q : Exit → Act → World → Prop} {E : Prop} (hgd : o.guard = none) (s x : Operand) (t : TypeId)
    (ho : o.op = .call { callee := .builtin .append, args := #[s, x], argTypes := #[t, t] })
    (base : Nat) (e : TypeId) (i : TypeInfo) (z : Value) (size bytes : Nat) (ht : P.underlying t = some (.slice e)) (hi : P.info? e = some i) (hz : i.zero = some z)
    (hsize : i.size = size) (hby : i.bytes = bytes) (hzs : z.cells.size = size) (hpos : 0 < size)
    (v : Value) (n : Nat) (xs : List Value) (hs : a.eval s = v) (hown : w.ownsRow base e size v n xs)
    (A : Option Addr) (c m : Nat) (news : List Value) (hx : a.eval x = .slice A m c) (hm : news.length = m * size) (hr : Rd w A news) (h1 : ∀ u ∈ news, u.oneCell' = true)
    (hA : A = none → c = 0)
    (h63 : n + m ≤ maxLen) (hbytes : (n + m) * bytes ≤ 140737488355328) (hbase : base ≤ w.heap.size)
    (h : ∀ v' w', w'.ownsRow base e size v' (n + m) (xs ++ news) → w.grownBy w' v.ownBlock → (v'.ownBlock = v.ownBlock ∨ v'.ownBlock = some w.heap.size) → K (a.put o.dst v') w') :
    if Region.wanted o (yielded ops a.tmps) = true then Oper.wp P o a w K Q else E := by
  rcases A with _ | ad
  · have hn : news = [] := by
      rcases Nat.eq_zero_or_pos news.length with h0 | h0
      · exact List.eq_nil_of_length_eq_zero h0
      · obtain ⟨_, _, h, _⟩ := hr h0
        cases h
    subst hn
    obtain rfl : m = 0 := by
      rcases Nat.eq_zero_or_pos m with h0 | h0
      · exact h0
      · have := Nat.mul_pos h0 hpos
        simp only [List.length_nil] at hm
        omega
    obtain rfl := hA rfl
    have hw : Region.wanted o (yielded ops a.tmps) = true := by simp [Region.wanted, hgd]
    rw [if_pos hw]
    have hrun := run_append_owned_none (P := P) w base t o.type e i size ht hi v n xs hown
    unfold Oper.wp execOp
    simp only [ho, resolve, invoke, builtin, Sem.run_bind, Sem.run_pure, Result.andThen_ok, List.map_toArray, List.map_cons, List.map_nil, hs, hx, hrun]
    exact h v w (by simpa using hown) (World.grownBy.refl w _) (.inl rfl)
  · exact step_appO hgd s x t ho base e i z size bytes ht hi hz hsize hby hzs hpos v n xs hs hown ad c m news hx hm hr h1 h63 hbytes hbase h

theorem rd_grown {W W' : World} {e1 b8 n c : Nat} {xs : List Value} (h : Rd W (some ⟨b8, 0, none⟩) xs) (hg : W.grownBy W' (Value.slice (some ⟨e1, 0, none⟩) n c).ownBlock) (hne : e1 ≠ b8) : Rd W' (some ⟨b8, 0, none⟩) xs := h.fr (Fr.ofGrown hg) fun k hk e => by
  obtain ⟨a, ha, rfl⟩ := hk
  injection ha with ha
  subst ha
  injection e with e
  exact hne e.symm
/-- the document's net behind m, in blocks of R made since w; its parcels' data lie in w. -/
structure RtIn (R : Nat → Prop) (w W : World) (m : Nat) (a : Option Addr) (c : Nat) (qs : List Pc) : Prop where
  bk : Bk W m 29 #[.slice a qs.length c]
  own : W.ownsRow w.heap.size 35 7 (.slice a qs.length c) qs.length (pcsc qs)
  data : ∀ q ∈ qs, PcIn w q
  om : R m
  os : ∀ b, (Value.slice a qs.length c).ownBlock = some b → R b
  ol : ∀ k, R k → k < W.heap.size
  few : qs.length ≤ 4000
  fr : Fr NoBlk w W
theorem RtIn.fr' {R C : Nat → Prop} {w W W' : World} {m : Nat} {a : Option Addr} {c : Nat} {qs : List Pc} (h : RtIn R w W m a c qs) (hf : Fr C W W') (hn : ∀ k, R k → ¬ C k) (hw : Fr NoBlk w W') : RtIn R w W' m a c qs :=
  ⟨h.bk.fr hf (hn _ h.om), own_fr h.own hf (fun k hk => hn k (h.os k hk)), h.data, h.om, h.os, fun k hk => Nat.lt_of_lt_of_le (h.ol k hk) hf.size, h.few, hw⟩
theorem RtIn.nofr {R : Nat → Prop} {w W W' : World} {m : Nat} {a : Option Addr} {c : Nat} {qs : List Pc} (h : RtIn R w W m a c qs) (hf : Fr NoBlk W W') : RtIn R w W' m a c qs := h.fr' hf (fun _ _ h => h) (h.fr.trans hf)
/-- behind the store of a new row. -/
theorem RtIn.put {R : Nat → Prop} {w W w9 : World} {m : Nat} {a : Option Addr} {c : Nat} {qs : List Pc} (h : RtIn R w W m a c qs) (hf : Fr NoBlk W w9) {q : Pc} {A9 : Option Addr} {c9 n' : Nat} {ps : List Pc} (hn : n' = ps.length)
    (ho : w9.ownsRow W.heap.size 35 7 (.slice A9 n' c9) n' (pcsc ps)) (hps : ∀ x ∈ ps, x ∈ qs ∨ x = q) (hq : PcIn w q) (hfew : n' ≤ 4000) (hmw : w.heap.size ≤ m := by first | assumption | exact Hid.out (by assumption)) :
    Bk w9 m 29 #[.slice a qs.length c] ∧ RtIn (Plus R W (w9.setCell ⟨m, 0, none⟩ (.slice A9 n' c9))) w (w9.setCell ⟨m, 0, none⟩ (.slice A9 n' c9)) m A9 c9 ps ∧ Fr (fun k => k = m) W (w9.setCell ⟨m, 0, none⟩ (.slice A9 n' c9)) := by
  subst hn
  have h9 := h.nofr hf
  have hf5 : Fr (fun k => k = m) w9 (w9.setCell ⟨m, 0, none⟩ (.slice A9 ps.length c9)) := (Fr.refl (fun k => k = m) w9).setCell (p := ⟨m, 0, none⟩) (fun _ => rfl) _
  have hfo : Fr (fun k => k = m) W (w9.setCell ⟨m, 0, none⟩ (.slice A9 ps.length c9)) := (hf.mono fun _ _ h => h.elim).trans hf5
  refine ⟨h9.bk, ⟨?_, own_set (own_base ho h.fr.size) h9.bk (by decide), fun x hx => ?_, .inl h.om, fun b hb => .inr ⟨(own_blk ho hb).1, ?_⟩, ?_, hfew, h.fr.step hfo fun k hk e => by omega⟩, hfo⟩
  · refine Bk.cast (h9.bk.put 0 (.slice A9 ps.length c9)) ?_
    simp only [List.setIfInBounds_toArray, List.set_cons_zero]
  · rcases hps x hx with hx | rfl
    · exact h.data x hx
    · exact hq
  · have := (own_blk ho hb).2
    have := hf5.size
    omega
  · rintro k (hk | hk)
    · have := h.ol k hk
      have := hfo.size
      omega
    · exact hk.2

set_option maxRecDepth 100000 in
theorem rhas_any (W w : World) (R : Nat → Prop) (m : Nat) (a : Option Addr) (c : Nat) (qs : List Pc) (h : RtIn R w W m a c qs) (k : Int) : Calls Try.prog 12 #[.pointer (some ⟨m, 0, none⟩), .int .i64 k] W fun e W' => e = .returned (.bool (hasB qs.length k)) ∧ W = W' := by
  have c0 := h.bk.cell 0
  simp only [List.getElem?_toArray, List.getElem?_cons_zero] at c0
  clear h
  by_cases h0 : 0 ≤ k
  · have e : hasB qs.length k = decide (k < (qs.length : Int)) := by simp [hasB, h0]
    rw [e]
    go_enter Try.func12, Try.ntmps12
    go_wp2_with fail
    go_ret
    exact ⟨rfl, rfl⟩
  · have e : hasB qs.length k = false := by simp [hasB, h0]
    rw [e]
    go_enter Try.func12, Try.ntmps12
    go_wp2_with fail
    go_ret
    exact ⟨rfl, rfl⟩

def RSendPost (R : Nat → Prop) (w W : World) (m : Nat) (qs : List Pc) (p : Pc) (e : Ending) (W' : World) : Prop :=
  if 4000 ≤ qs.length then e = .returned (.bool false) ∧ Fr NoBlk W W' else e = .returned (.bool true) ∧ Fr (fun k => k = m) W W' ∧ ∃ A c, RtIn (Plus R W W') w W' m A c (qs ++ [p])

set_option maxRecDepth 100000 in
set_option maxHeartbeats 8000000 in
theorem rsend_any (w W : World) (R : Nat → Prop) (m : Nat) (a : Option Addr) (c : Nat) (qs : List Pc) (h : RtIn R w W m a c qs) (hm : w.heap.size ≤ m) (p : Pc) (hp : PcIn w p) :
    Calls Try.prog 13 #[.pointer (some ⟨m, 0, none⟩), .agg #[.int .i64 p.src, .int .i64 p.dst, .int .u64 p.ep, .int .u64 p.pe, .int .u64 p.sq, .int .u64 p.ak, .slice p.d.1 p.d.2.2.length p.d.2.1]] W (RSendPost R w W m qs p) := by
  obtain ⟨i0, hi, hz0, hz1, hz2⟩ := info_parts pcInfo
  have HP : Hid (∀ e W', RSendPost R w W m qs p e W' = if 4000 ≤ qs.length then e = .returned (.bool false) ∧ Fr NoBlk W W' else e = .returned (.bool true) ∧ Fr (fun k => k = m) W W' ∧ ∃ A c, RtIn (Plus R W W') w W' m A c (qs ++ [p])) := fun _ _ => rfl
  have HMW := Lib.hid hm
  have HPI := Lib.hid hp
  obtain ⟨w5, hw5⟩ : ∃ w5, w5 = W.alloc (.cells (pca p) 35) := ⟨_, rfl⟩
  have HF5 : Hid (Fr NoBlk W w5) := by show Fr _ _ _; rw [hw5]; exact (Fr.refl _ _).alloc _
  have HB5 : Hid (Bk w5 W.heap.size 35 (pca p)) := by show Bk _ _ _ _; rw [hw5]; exact Bk.new _ _ _
  have HSP : Hid (∀ w', Fr NoBlk w5 w' → w'.cell? ⟨W.heap.size, 0, none⟩ = some (.int .i64 p.src) ∧ w'.cell? ⟨W.heap.size, 1, none⟩ = some (.int .i64 p.dst) ∧ w'.cell? ⟨W.heap.size, 2, none⟩ = some (.int .u64 p.ep) ∧ w'.cell? ⟨W.heap.size, 3, none⟩ = some (.int .u64 p.pe) ∧ w'.cell? ⟨W.heap.size, 4, none⟩ = some (.int .u64 p.sq) ∧ w'.cell? ⟨W.heap.size, 5, none⟩ = some (.int .u64 p.ak) ∧ w'.cell? ⟨W.heap.size, 6, none⟩ = some (.slice p.d.1 p.d.2.2.length p.d.2.1)) := fun w' hf => by
    have hb := HB5.out.fr hf (fun h => h)
    exact ⟨hb.cell 0, hb.cell 1, hb.cell 2, hb.cell 3, hb.cell 4, hb.cell 5, hb.cell 6⟩
  have HL5 := Lib.hid (h.nofr HF5.out)
  have HOL : Hid (∀ k, R k → k < W.heap.size) := h.ol
  have oW : w5.cell? ⟨m, 0, none⟩ = some (.slice a qs.length c) := HL5.out.bk.cell 0
  unfold pca at hw5
  clear h hm hp
  by_cases h16 : 4000 ≤ qs.length
  · have h16' : (4000 : Int) ≤ (qs.length : Int) := by omega
    have HH := Lib.hid h16
    clear h16
    go_enter Try.func13, Try.ntmps13
    go_upto_region 1 with fail
    rw [← hw5]
    clear hw5
    go_wp2_with fail
    go_ret
    rw [HP.out, if_pos HH.out]
    exact ⟨rfl, HF5.out⟩
  have h16' : ¬ (4000 : Int) ≤ (qs.length : Int) := by omega
  have HFEW : Hid (qs.length + 1 ≤ 4000) := by show _ ≤ _; omega
  have HPOST : Hid (∀ (W' : World) (A4 : Option Addr) (c4 : Nat), RtIn (Plus R w5 W') w W' m A4 c4 (qs ++ [p]) → Fr (fun k => k = m) w5 W' → RSendPost R w W m qs p (.returned (.bool true)) W') := fun W' A4 c4 h1 h2 => by
    rw [HP.out, if_neg (by have := HFEW.out; omega)]
    have hs := HF5.out.size
    refine ⟨rfl, (HF5.out.mono fun _ _ h => h.elim).trans h2, A4, c4, ⟨h1.bk, h1.own, h1.data, ?_, fun b hb => ?_, fun k hk => ?_, h1.few, h1.fr⟩⟩
    · rcases h1.om with e | e
      · exact .inl e
      · exact .inr ⟨by omega, e.2⟩
    · rcases h1.os b hb with e | e
      · exact .inl e
      · exact .inr ⟨by omega, e.2⟩
    · rcases hk with hk | hk
      · have := HOL.out k hk
        have := h2.size
        omega
      · exact hk.2
  clear h16
  go_enter Try.func13, Try.ntmps13
  go_upto_region 1 with fail
  rw [← hw5]
  clear hw5
  go_upto_region 3 with fail
  clear oW h16'
  refine wp_region_held_drew (S := fun _ => True) (by kernel_rfl) trivial (fun hHeld => ?_)
  obtain ⟨w6, hw6⟩ : ∃ w6, w6 = w5.drew := ⟨_, rfl⟩
  have HFw6 : Hid (Fr NoBlk w5 w6) := by show Fr _ _ _; rw [hw6]; exact (Fr.refl NoBlk w5).drew
  rw [← hw6]
  clear hw6
  refine wpAnyH_take (i := 0) (oi := ⟨some 11, _, _, _, _, _⟩) (v := ?_) rfl (by kernel_rfl) (by kernel_rfl) (by kernel_rfl) (fun _ _ _ h => h) (Or.inl ⟨by rfl, ?_⟩) (by assumption) ?_
  rotate_left 1
  · (intro w hSw; (try dsimp only at hSw); go_simp) <;> (with_reducible rfl)
  try simp only [Act.put, List.setIfInBounds_toArray, List.set_cons_zero, List.set_cons_succ]
  refine wpAnyH_take (i := 2) (oi := ⟨some 13, _, _, _, _, _⟩) (v := ?_) rfl (by kernel_rfl) (by kernel_rfl) (by kernel_rfl) (fun _ _ _ h => h) (Or.inl ⟨by rfl, ?_⟩) (by assumption) ?_
  rotate_left 1
  · (intro w hSw; (try dsimp only at hSw); go_simp) <;> (with_reducible rfl)
  try simp only [Act.put, List.setIfInBounds_toArray, List.set_cons_zero, List.set_cons_succ]
  refine wpAnyH_take (i := 3) (oi := ⟨some 14, _, _, _, _, _⟩) (v := ?_) rfl (by kernel_rfl) (by kernel_rfl) (by kernel_rfl) (fun _ _ _ h => h) (Or.inl ⟨by rfl, ?_⟩) (by assumption) ?_
  rotate_left 1
  · (intro w hSw; (try dsimp only at hSw); go_simp) <;> (with_reducible rfl)
  try simp only [Act.put, List.setIfInBounds_toArray, List.set_cons_zero, List.set_cons_succ]
  refine wpAnyH_take (i := 4) (oi := ⟨some 15, _, _, _, _, _⟩) (v := ?_) rfl (by kernel_rfl) (by kernel_rfl) (by kernel_rfl) (fun _ _ _ h => h) (Or.inl ⟨by rfl, ?_⟩) (by assumption) ?_
  rotate_left 1
  · (intro w hSw; (try dsimp only at hSw); go_simp) <;> (with_reducible rfl)
  try simp only [Act.put, List.setIfInBounds_toArray, List.set_cons_zero, List.set_cons_succ]
  refine wpAnyH_ready (rs := [1, 5, 7]) (by kernel_rfl) (by simp) ?_
  refine AllReadyH.cons (o := ⟨some 12, _, _, _, _, _⟩) rfl (fun K hK => ?_) (AllReadyH.cons (o := ⟨some 16, _, _, _, _, _⟩) rfl (fun K hK => ?_) (AllReadyH.cons (o := ⟨some 18, _, _, _, _, _⟩) rfl (fun K hK => ?_) AllReadyH.nil))
  · go_simp
    obtain ⟨w21, hw21⟩ : ∃ w21, w21 = w6.alloc (.cells #[] 35) := ⟨_, rfl⟩
    obtain ⟨e1, he1⟩ : ∃ e1, e1 = w6.heap.size := ⟨_, rfl⟩
    have hfr : Fr NoBlk w6 w21 := by rw [hw21]; exact (Fr.refl _ _).alloc _
    have HFw21 : Hid (Fr NoBlk w5 w21) := HFw6.out.trans hfr
    have HEw21 : Hid (w21.ownsRow w5.heap.size 35 7 (.slice (some ⟨e1, 0, none⟩) 0 0) 0 []) := by show World.ownsRow _ _ _ _ _ _ _; rw [hw21, he1]; exact own_base (World.ownsRow_made w6 #[] 0 (Nat.le_refl _) (by decide) rfl) HFw6.out.size
    have HLw21 : Hid (e1 < w21.heap.size) := by show _ < _; rw [hw21, he1]; simp
    rw [← hw21, ← he1]
    clear hw21 hfr he1
    clear hHeld
    refine hK.out _ _ ?_ (fun hHeld => ?_)
    · trivial
    clear hK K
    try simp only [Act.put, List.setIfInBounds_toArray, List.set_cons_zero, List.set_cons_succ]
    refine wpAnyH_ready (rs := [5, 7]) (by kernel_rfl) (by simp) ?_
    refine AllReadyH.cons (o := ⟨some 16, _, _, _, _, _⟩) rfl (fun K hK => ?_) (AllReadyH.cons (o := ⟨some 18, _, _, _, _, _⟩) rfl (fun K hK => ?_) AllReadyH.nil)
    · have oN : w21.cell? ⟨m, 0, none⟩ = some (.slice a qs.length c) := (HL5.out.nofr HFw21.out).bk.cell 0
      go_simp
      clear oN
      clear hHeld
      refine hK.out _ _ ?_ (fun hHeld => ?_)
      · trivial
      clear hK K
      try simp only [Act.put, List.setIfInBounds_toArray, List.set_cons_zero, List.set_cons_succ]
      refine wpAnyH_ready (rs := [6, 7]) (by kernel_rfl) (by simp) ?_
      refine AllReadyH.cons (o := ⟨some 17, _, _, _, _, _⟩) rfl (fun K hK => ?_) (AllReadyH.cons (o := ⟨some 18, _, _, _, _, _⟩) rfl (fun K hK => ?_) AllReadyH.nil)
      · refine step_appN rfl _ _ 27 rfl w5.heap.size 35 i0 _ 7 72 Try.underlying27 hi hz0 hz1 hz2 rfl (by decide) (.slice (some ⟨e1, 0, none⟩) 0 0) 0 [] rfl HEw21.out a c qs.length (pcsc qs) rfl (pcsc_len qs) (Rd.of_ownN (HL5.out.nofr HFw21.out).own) (pcsc_one qs) (own_lens HL5.out.own).2.2 ?q1 ?q2 HFw21.out.size ?_
        case q1 => have := HL5.out.few; unfold maxLen; omega
        case q2 => have := HL5.out.few; omega
        intro v6 w22 ho6 hg6 hb6
        simp only [Nat.zero_add, List.nil_append] at ho6
        obtain ⟨A6, c6, rfl, _, _⟩ := own_form ho6
        have HOw22 : Hid (w22.ownsRow w5.heap.size 35 7 (.slice A6 qs.length c6) qs.length (pcsc qs)) := ho6
        have HFw22 : Hid (Fr NoBlk w5 w22) := HFw21.out.grown hg6 (fun k hk hlt => by have := (own_blk HEw21.out hk).1; omega)
        try dsimp only
        clear ho6 hg6 hb6
        clear hHeld
        refine hK.out _ _ ?_ (fun hHeld => ?_)
        · trivial
        clear hK K
        try simp only [Act.put, List.setIfInBounds_toArray, List.set_cons_zero, List.set_cons_succ]
        refine wpAnyH_ready (rs := [7]) (by kernel_rfl) (by simp) ?_
        refine AllReadyH.cons (o := ⟨some 18, _, _, _, _, _⟩) rfl (fun K hK => ?_) AllReadyH.nil
        obtain ⟨s0, s1, s2, s3, s4, s5, s6⟩ := HSP.out _ HFw22.out
        go_simp
        clear s0 s1 s2 s3 s4 s5 s6
        clear hHeld
        refine hK.out _ _ ?_ (fun hHeld => ?_)
        · trivial
        clear hK K
        try simp only [Act.put, List.setIfInBounds_toArray, List.set_cons_zero, List.set_cons_succ]
        refine wpAnyH_ready (rs := [8]) (by kernel_rfl) (by simp) ?_
        refine AllReadyH.cons (o := ⟨some 19, _, _, _, _, _⟩) rfl (fun K hK => ?_) AllReadyH.nil
        go_simp
        obtain ⟨w23, hw23⟩ : ∃ w23, w23 = w22.alloc (.cells #[.int .i64 p.src, .int .i64 p.dst, .int .u64 p.ep, .int .u64 p.pe, .int .u64 p.sq, .int .u64 p.ak, .slice p.d.1 p.d.2.2.length p.d.2.1] 35) := ⟨_, rfl⟩
        obtain ⟨b8, hb8⟩ : ∃ b8, b8 = w22.heap.size := ⟨_, rfl⟩
        have hfr : Fr NoBlk w22 w23 := by rw [hw23]; exact (Fr.refl _ _).alloc _
        have HFw23 : Hid (Fr NoBlk w5 w23) := HFw22.out.trans hfr
        have HPw23 : Hid (Rd w23 (some ⟨b8, 0, none⟩) (pcc p)) := by show Rd _ _ _; rw [hw23, hb8]; exact Rd.of_cells (Bk.new w22 _ (pca p))
        have HBw23 : Hid (b8 < w23.heap.size) := by show _ < _; rw [hw23, hb8]; simp
        have HOw23 : Hid (w23.ownsRow w5.heap.size 35 7 (.slice A6 qs.length c6) qs.length (pcsc qs)) := own_fr HOw22.out hfr (fun _ _ h => h)
        rw [← hw23, ← hb8]
        clear hw23 hfr hb8
        clear hHeld
        refine hK.out _ _ ?_ (fun hHeld => ?_)
        · trivial
        clear hK K
        try simp only [Act.put, List.setIfInBounds_toArray, List.set_cons_zero, List.set_cons_succ]
        refine wpAnyH_ready (rs := [9]) (by kernel_rfl) (by simp) ?_
        refine AllReadyH.cons (o := ⟨some 20, _, _, _, _, _⟩) rfl (fun K hK => ?_) AllReadyH.nil
        refine step_appN rfl _ _ 27 rfl w5.heap.size 35 i0 _ 7 72 Try.underlying27 hi hz0 hz1 hz2 rfl (by decide) (.slice A6 qs.length c6) qs.length (pcsc qs) rfl HOw23.out (some ⟨b8, 0, none⟩) 1 1 (pcc p) rfl rfl HPw23.out (fun y hy => pcsc_one [p] y (by simpa [pcsc] using hy)) (fun h => by cases h) ?q1 ?q2 HFw23.out.size ?_
        case q1 => have := HL5.out.few; unfold maxLen; omega
        case q2 => have := HL5.out.few; omega
        intro v9 w9 ho9 hg9 hb9
        obtain ⟨A9, c9, rfl, _, _⟩ := own_form ho9
        have HF9 : Hid (Fr NoBlk w5 w9) := HFw23.out.grown hg9 (fun k hk hlt => by have := (own_blk HOw23.out hk).1; omega)
        have HS := Lib.hid (HL5.out.put HF9.out (q := p) (n' := qs.length + 1) (ps := qs ++ [p]) (by simp) (by rw [pcsc_append, show pcsc [p] = pcc p by simp [pcsc]]; exact ho9) (fun x hx => by rcases List.mem_append.1 hx with hx | hx; exact .inl hx; exact .inr (List.mem_singleton.1 hx)) HPI.out HFEW.out)
        have oN : w9.cell? ⟨m, 0, none⟩ = some (.slice a qs.length c) := HS.out.1.cell 0
        have fN := HS.out.1.free 0
        clear ho9 hg9 hb9
        clear hHeld
        refine hK.out _ _ ?_ (fun hHeld => ?_)
        · trivial
        clear hK K
        try simp only [Act.put, List.setIfInBounds_toArray, List.set_cons_zero, List.set_cons_succ]
        refine wpAnyH_take (i := 10) (oi := ⟨some 21, _, _, _, _, _⟩) (v := ?_) rfl (by kernel_rfl) (by kernel_rfl) (by kernel_rfl) (fun _ _ _ h => h) (Or.inl ⟨by rfl, ?_⟩) (by assumption) ?_
        rotate_left 1
        · (intro w hSw; (try dsimp only at hSw); go_simp) <;> (with_reducible rfl)
        try simp only [Act.put, List.setIfInBounds_toArray, List.set_cons_zero, List.set_cons_succ]
        refine wpAnyH_take (i := 11) (oi := ⟨some 22, _, _, _, _, _⟩) (v := ?_) rfl (by kernel_rfl) (by kernel_rfl) (by kernel_rfl) (fun _ _ _ h => h) (Or.inl ⟨by rfl, ?_⟩) (by assumption) ?_
        rotate_left 1
        · (intro w hSw; (try dsimp only at hSw); go_simp) <;> (with_reducible rfl)
        try simp only [Act.put, List.setIfInBounds_toArray, List.set_cons_zero, List.set_cons_succ]
        refine wpAnyH_ready (rs := [12]) (by kernel_rfl) (by simp) ?_
        refine AllReadyH.cons (o := ⟨none, _, _, _, _, _⟩) rfl (fun K hK => ?_) AllReadyH.nil
        go_simp
        clear hHeld
        refine hK.out _ _ ?_ (fun hHeld => ?_)
        · trivial
        clear hK K
        try simp only [Act.put, List.setIfInBounds_toArray, List.set_cons_zero, List.set_cons_succ]
        refine wpAnyH_done (by kernel_rfl) ?_ _
        have HZ := Lib.hid HS.out.2
        clear HS hHeld HF9
        go_wp2_with fail
        go_ret
        exact HPOST.out _ _ _ HZ.out.1 HZ.out.2
      · obtain ⟨s0, s1, s2, s3, s4, s5, s6⟩ := HSP.out _ HFw21.out
        go_simp
        clear s0 s1 s2 s3 s4 s5 s6
        clear hHeld
        refine hK.out _ _ ?_ (fun hHeld => ?_)
        · trivial
        clear hK K
        try simp only [Act.put, List.setIfInBounds_toArray, List.set_cons_zero, List.set_cons_succ]
        refine wpAnyH_ready (rs := [6, 8]) (by kernel_rfl) (by simp) ?_
        refine AllReadyH.cons (o := ⟨some 17, _, _, _, _, _⟩) rfl (fun K hK => ?_) (AllReadyH.cons (o := ⟨some 19, _, _, _, _, _⟩) rfl (fun K hK => ?_) AllReadyH.nil)
        · refine step_appN rfl _ _ 27 rfl w5.heap.size 35 i0 _ 7 72 Try.underlying27 hi hz0 hz1 hz2 rfl (by decide) (.slice (some ⟨e1, 0, none⟩) 0 0) 0 [] rfl HEw21.out a c qs.length (pcsc qs) rfl (pcsc_len qs) (Rd.of_ownN (HL5.out.nofr HFw21.out).own) (pcsc_one qs) (own_lens HL5.out.own).2.2 ?q1 ?q2 HFw21.out.size ?_
          case q1 => have := HL5.out.few; unfold maxLen; omega
          case q2 => have := HL5.out.few; omega
          intro v6 w24 ho6 hg6 hb6
          simp only [Nat.zero_add, List.nil_append] at ho6
          obtain ⟨A6, c6, rfl, _, _⟩ := own_form ho6
          have HOw24 : Hid (w24.ownsRow w5.heap.size 35 7 (.slice A6 qs.length c6) qs.length (pcsc qs)) := ho6
          have HFw24 : Hid (Fr NoBlk w5 w24) := HFw21.out.grown hg6 (fun k hk hlt => by have := (own_blk HEw21.out hk).1; omega)
          try dsimp only
          clear ho6 hg6 hb6
          clear hHeld
          refine hK.out _ _ ?_ (fun hHeld => ?_)
          · trivial
          clear hK K
          try simp only [Act.put, List.setIfInBounds_toArray, List.set_cons_zero, List.set_cons_succ]
          refine wpAnyH_ready (rs := [8]) (by kernel_rfl) (by simp) ?_
          refine AllReadyH.cons (o := ⟨some 19, _, _, _, _, _⟩) rfl (fun K hK => ?_) AllReadyH.nil
          go_simp
          obtain ⟨w25, hw25⟩ : ∃ w25, w25 = w24.alloc (.cells #[.int .i64 p.src, .int .i64 p.dst, .int .u64 p.ep, .int .u64 p.pe, .int .u64 p.sq, .int .u64 p.ak, .slice p.d.1 p.d.2.2.length p.d.2.1] 35) := ⟨_, rfl⟩
          obtain ⟨b8, hb8⟩ : ∃ b8, b8 = w24.heap.size := ⟨_, rfl⟩
          have hfr : Fr NoBlk w24 w25 := by rw [hw25]; exact (Fr.refl _ _).alloc _
          have HFw25 : Hid (Fr NoBlk w5 w25) := HFw24.out.trans hfr
          have HPw25 : Hid (Rd w25 (some ⟨b8, 0, none⟩) (pcc p)) := by show Rd _ _ _; rw [hw25, hb8]; exact Rd.of_cells (Bk.new w24 _ (pca p))
          have HBw25 : Hid (b8 < w25.heap.size) := by show _ < _; rw [hw25, hb8]; simp
          have HOw25 : Hid (w25.ownsRow w5.heap.size 35 7 (.slice A6 qs.length c6) qs.length (pcsc qs)) := own_fr HOw24.out hfr (fun _ _ h => h)
          rw [← hw25, ← hb8]
          clear hw25 hfr hb8
          clear hHeld
          refine hK.out _ _ ?_ (fun hHeld => ?_)
          · trivial
          clear hK K
          try simp only [Act.put, List.setIfInBounds_toArray, List.set_cons_zero, List.set_cons_succ]
          refine wpAnyH_ready (rs := [9]) (by kernel_rfl) (by simp) ?_
          refine AllReadyH.cons (o := ⟨some 20, _, _, _, _, _⟩) rfl (fun K hK => ?_) AllReadyH.nil
          refine step_appN rfl _ _ 27 rfl w5.heap.size 35 i0 _ 7 72 Try.underlying27 hi hz0 hz1 hz2 rfl (by decide) (.slice A6 qs.length c6) qs.length (pcsc qs) rfl HOw25.out (some ⟨b8, 0, none⟩) 1 1 (pcc p) rfl rfl HPw25.out (fun y hy => pcsc_one [p] y (by simpa [pcsc] using hy)) (fun h => by cases h) ?q1 ?q2 HFw25.out.size ?_
          case q1 => have := HL5.out.few; unfold maxLen; omega
          case q2 => have := HL5.out.few; omega
          intro v9 w9 ho9 hg9 hb9
          obtain ⟨A9, c9, rfl, _, _⟩ := own_form ho9
          have HF9 : Hid (Fr NoBlk w5 w9) := HFw25.out.grown hg9 (fun k hk hlt => by have := (own_blk HOw25.out hk).1; omega)
          have HS := Lib.hid (HL5.out.put HF9.out (q := p) (n' := qs.length + 1) (ps := qs ++ [p]) (by simp) (by rw [pcsc_append, show pcsc [p] = pcc p by simp [pcsc]]; exact ho9) (fun x hx => by rcases List.mem_append.1 hx with hx | hx; exact .inl hx; exact .inr (List.mem_singleton.1 hx)) HPI.out HFEW.out)
          have oN : w9.cell? ⟨m, 0, none⟩ = some (.slice a qs.length c) := HS.out.1.cell 0
          have fN := HS.out.1.free 0
          clear ho9 hg9 hb9
          clear hHeld
          refine hK.out _ _ ?_ (fun hHeld => ?_)
          · trivial
          clear hK K
          try simp only [Act.put, List.setIfInBounds_toArray, List.set_cons_zero, List.set_cons_succ]
          refine wpAnyH_take (i := 10) (oi := ⟨some 21, _, _, _, _, _⟩) (v := ?_) rfl (by kernel_rfl) (by kernel_rfl) (by kernel_rfl) (fun _ _ _ h => h) (Or.inl ⟨by rfl, ?_⟩) (by assumption) ?_
          rotate_left 1
          · (intro w hSw; (try dsimp only at hSw); go_simp) <;> (with_reducible rfl)
          try simp only [Act.put, List.setIfInBounds_toArray, List.set_cons_zero, List.set_cons_succ]
          refine wpAnyH_take (i := 11) (oi := ⟨some 22, _, _, _, _, _⟩) (v := ?_) rfl (by kernel_rfl) (by kernel_rfl) (by kernel_rfl) (fun _ _ _ h => h) (Or.inl ⟨by rfl, ?_⟩) (by assumption) ?_
          rotate_left 1
          · (intro w hSw; (try dsimp only at hSw); go_simp) <;> (with_reducible rfl)
          try simp only [Act.put, List.setIfInBounds_toArray, List.set_cons_zero, List.set_cons_succ]
          refine wpAnyH_ready (rs := [12]) (by kernel_rfl) (by simp) ?_
          refine AllReadyH.cons (o := ⟨none, _, _, _, _, _⟩) rfl (fun K hK => ?_) AllReadyH.nil
          go_simp
          clear hHeld
          refine hK.out _ _ ?_ (fun hHeld => ?_)
          · trivial
          clear hK K
          try simp only [Act.put, List.setIfInBounds_toArray, List.set_cons_zero, List.set_cons_succ]
          refine wpAnyH_done (by kernel_rfl) ?_ _
          have HZ := Lib.hid HS.out.2
          clear HS hHeld HF9
          go_wp2_with fail
          go_ret
          exact HPOST.out _ _ _ HZ.out.1 HZ.out.2
        · go_simp
          obtain ⟨w26, hw26⟩ : ∃ w26, w26 = w21.alloc (.cells #[.int .i64 p.src, .int .i64 p.dst, .int .u64 p.ep, .int .u64 p.pe, .int .u64 p.sq, .int .u64 p.ak, .slice p.d.1 p.d.2.2.length p.d.2.1] 35) := ⟨_, rfl⟩
          obtain ⟨b8, hb8⟩ : ∃ b8, b8 = w21.heap.size := ⟨_, rfl⟩
          have hfr : Fr NoBlk w21 w26 := by rw [hw26]; exact (Fr.refl _ _).alloc _
          have HFw26 : Hid (Fr NoBlk w5 w26) := HFw21.out.trans hfr
          have HPw26 : Hid (Rd w26 (some ⟨b8, 0, none⟩) (pcc p)) := by show Rd _ _ _; rw [hw26, hb8]; exact Rd.of_cells (Bk.new w21 _ (pca p))
          have HBw26 : Hid (b8 < w26.heap.size) := by show _ < _; rw [hw26, hb8]; simp
          have HEw26 : Hid (w26.ownsRow w5.heap.size 35 7 (.slice (some ⟨e1, 0, none⟩) 0 0) 0 []) := own_fr HEw21.out hfr (fun _ _ h => h)
          have HLw26 : Hid (e1 < w26.heap.size) := Nat.lt_of_lt_of_le HLw21.out hfr.size
          have HNE : Hid (e1 ≠ b8) := by have := HLw21.out; show _ ≠ _; omega
          rw [← hw26, ← hb8]
          clear hw26 hfr hb8
          clear hHeld
          refine hK.out _ _ ?_ (fun hHeld => ?_)
          · trivial
          clear hK K
          try simp only [Act.put, List.setIfInBounds_toArray, List.set_cons_zero, List.set_cons_succ]
          refine wpAnyH_ready (rs := [6]) (by kernel_rfl) (by simp) ?_
          refine AllReadyH.cons (o := ⟨some 17, _, _, _, _, _⟩) rfl (fun K hK => ?_) AllReadyH.nil
          refine step_appN rfl _ _ 27 rfl w5.heap.size 35 i0 _ 7 72 Try.underlying27 hi hz0 hz1 hz2 rfl (by decide) (.slice (some ⟨e1, 0, none⟩) 0 0) 0 [] rfl HEw26.out a c qs.length (pcsc qs) rfl (pcsc_len qs) (Rd.of_ownN (HL5.out.nofr HFw26.out).own) (pcsc_one qs) (own_lens HL5.out.own).2.2 ?q1 ?q2 HFw26.out.size ?_
          case q1 => have := HL5.out.few; unfold maxLen; omega
          case q2 => have := HL5.out.few; omega
          intro v6 w27 ho6 hg6 hb6
          simp only [Nat.zero_add, List.nil_append] at ho6
          obtain ⟨A6, c6, rfl, _, _⟩ := own_form ho6
          have HOw27 : Hid (w27.ownsRow w5.heap.size 35 7 (.slice A6 qs.length c6) qs.length (pcsc qs)) := ho6
          have HFw27 : Hid (Fr NoBlk w5 w27) := HFw26.out.grown hg6 (fun k hk hlt => by have := (own_blk HEw26.out hk).1; omega)
          have HPw27 : Hid (Rd w27 (some ⟨b8, 0, none⟩) (pcc p)) := rd_grown HPw26.out hg6 HNE.out
          have HBw27 : Hid (b8 < w27.heap.size) := Nat.lt_of_lt_of_le HBw26.out hg6.size
          try dsimp only
          clear ho6 hg6 hb6
          clear hHeld
          refine hK.out _ _ ?_ (fun hHeld => ?_)
          · trivial
          clear hK K
          try simp only [Act.put, List.setIfInBounds_toArray, List.set_cons_zero, List.set_cons_succ]
          refine wpAnyH_ready (rs := [9]) (by kernel_rfl) (by simp) ?_
          refine AllReadyH.cons (o := ⟨some 20, _, _, _, _, _⟩) rfl (fun K hK => ?_) AllReadyH.nil
          refine step_appN rfl _ _ 27 rfl w5.heap.size 35 i0 _ 7 72 Try.underlying27 hi hz0 hz1 hz2 rfl (by decide) (.slice A6 qs.length c6) qs.length (pcsc qs) rfl HOw27.out (some ⟨b8, 0, none⟩) 1 1 (pcc p) rfl rfl HPw27.out (fun y hy => pcsc_one [p] y (by simpa [pcsc] using hy)) (fun h => by cases h) ?q1 ?q2 HFw27.out.size ?_
          case q1 => have := HL5.out.few; unfold maxLen; omega
          case q2 => have := HL5.out.few; omega
          intro v9 w9 ho9 hg9 hb9
          obtain ⟨A9, c9, rfl, _, _⟩ := own_form ho9
          have HF9 : Hid (Fr NoBlk w5 w9) := HFw27.out.grown hg9 (fun k hk hlt => by have := (own_blk HOw27.out hk).1; omega)
          have HS := Lib.hid (HL5.out.put HF9.out (q := p) (n' := qs.length + 1) (ps := qs ++ [p]) (by simp) (by rw [pcsc_append, show pcsc [p] = pcc p by simp [pcsc]]; exact ho9) (fun x hx => by rcases List.mem_append.1 hx with hx | hx; exact .inl hx; exact .inr (List.mem_singleton.1 hx)) HPI.out HFEW.out)
          have oN : w9.cell? ⟨m, 0, none⟩ = some (.slice a qs.length c) := HS.out.1.cell 0
          have fN := HS.out.1.free 0
          clear ho9 hg9 hb9
          clear hHeld
          refine hK.out _ _ ?_ (fun hHeld => ?_)
          · trivial
          clear hK K
          try simp only [Act.put, List.setIfInBounds_toArray, List.set_cons_zero, List.set_cons_succ]
          refine wpAnyH_take (i := 10) (oi := ⟨some 21, _, _, _, _, _⟩) (v := ?_) rfl (by kernel_rfl) (by kernel_rfl) (by kernel_rfl) (fun _ _ _ h => h) (Or.inl ⟨by rfl, ?_⟩) (by assumption) ?_
          rotate_left 1
          · (intro w hSw; (try dsimp only at hSw); go_simp) <;> (with_reducible rfl)
          try simp only [Act.put, List.setIfInBounds_toArray, List.set_cons_zero, List.set_cons_succ]
          refine wpAnyH_take (i := 11) (oi := ⟨some 22, _, _, _, _, _⟩) (v := ?_) rfl (by kernel_rfl) (by kernel_rfl) (by kernel_rfl) (fun _ _ _ h => h) (Or.inl ⟨by rfl, ?_⟩) (by assumption) ?_
          rotate_left 1
          · (intro w hSw; (try dsimp only at hSw); go_simp) <;> (with_reducible rfl)
          try simp only [Act.put, List.setIfInBounds_toArray, List.set_cons_zero, List.set_cons_succ]
          refine wpAnyH_ready (rs := [12]) (by kernel_rfl) (by simp) ?_
          refine AllReadyH.cons (o := ⟨none, _, _, _, _, _⟩) rfl (fun K hK => ?_) AllReadyH.nil
          go_simp
          clear hHeld
          refine hK.out _ _ ?_ (fun hHeld => ?_)
          · trivial
          clear hK K
          try simp only [Act.put, List.setIfInBounds_toArray, List.set_cons_zero, List.set_cons_succ]
          refine wpAnyH_done (by kernel_rfl) ?_ _
          have HZ := Lib.hid HS.out.2
          clear HS hHeld HF9
          go_wp2_with fail
          go_ret
          exact HPOST.out _ _ _ HZ.out.1 HZ.out.2
    · obtain ⟨s0, s1, s2, s3, s4, s5, s6⟩ := HSP.out _ HFw21.out
      go_simp
      clear s0 s1 s2 s3 s4 s5 s6
      clear hHeld
      refine hK.out _ _ ?_ (fun hHeld => ?_)
      · trivial
      clear hK K
      try simp only [Act.put, List.setIfInBounds_toArray, List.set_cons_zero, List.set_cons_succ]
      refine wpAnyH_ready (rs := [5, 8]) (by kernel_rfl) (by simp) ?_
      refine AllReadyH.cons (o := ⟨some 16, _, _, _, _, _⟩) rfl (fun K hK => ?_) (AllReadyH.cons (o := ⟨some 19, _, _, _, _, _⟩) rfl (fun K hK => ?_) AllReadyH.nil)
      · have oN : w21.cell? ⟨m, 0, none⟩ = some (.slice a qs.length c) := (HL5.out.nofr HFw21.out).bk.cell 0
        go_simp
        clear oN
        clear hHeld
        refine hK.out _ _ ?_ (fun hHeld => ?_)
        · trivial
        clear hK K
        try simp only [Act.put, List.setIfInBounds_toArray, List.set_cons_zero, List.set_cons_succ]
        refine wpAnyH_ready (rs := [6, 8]) (by kernel_rfl) (by simp) ?_
        refine AllReadyH.cons (o := ⟨some 17, _, _, _, _, _⟩) rfl (fun K hK => ?_) (AllReadyH.cons (o := ⟨some 19, _, _, _, _, _⟩) rfl (fun K hK => ?_) AllReadyH.nil)
        · refine step_appN rfl _ _ 27 rfl w5.heap.size 35 i0 _ 7 72 Try.underlying27 hi hz0 hz1 hz2 rfl (by decide) (.slice (some ⟨e1, 0, none⟩) 0 0) 0 [] rfl HEw21.out a c qs.length (pcsc qs) rfl (pcsc_len qs) (Rd.of_ownN (HL5.out.nofr HFw21.out).own) (pcsc_one qs) (own_lens HL5.out.own).2.2 ?q1 ?q2 HFw21.out.size ?_
          case q1 => have := HL5.out.few; unfold maxLen; omega
          case q2 => have := HL5.out.few; omega
          intro v6 w28 ho6 hg6 hb6
          simp only [Nat.zero_add, List.nil_append] at ho6
          obtain ⟨A6, c6, rfl, _, _⟩ := own_form ho6
          have HOw28 : Hid (w28.ownsRow w5.heap.size 35 7 (.slice A6 qs.length c6) qs.length (pcsc qs)) := ho6
          have HFw28 : Hid (Fr NoBlk w5 w28) := HFw21.out.grown hg6 (fun k hk hlt => by have := (own_blk HEw21.out hk).1; omega)
          try dsimp only
          clear ho6 hg6 hb6
          clear hHeld
          refine hK.out _ _ ?_ (fun hHeld => ?_)
          · trivial
          clear hK K
          try simp only [Act.put, List.setIfInBounds_toArray, List.set_cons_zero, List.set_cons_succ]
          refine wpAnyH_ready (rs := [8]) (by kernel_rfl) (by simp) ?_
          refine AllReadyH.cons (o := ⟨some 19, _, _, _, _, _⟩) rfl (fun K hK => ?_) AllReadyH.nil
          go_simp
          obtain ⟨w29, hw29⟩ : ∃ w29, w29 = w28.alloc (.cells #[.int .i64 p.src, .int .i64 p.dst, .int .u64 p.ep, .int .u64 p.pe, .int .u64 p.sq, .int .u64 p.ak, .slice p.d.1 p.d.2.2.length p.d.2.1] 35) := ⟨_, rfl⟩
          obtain ⟨b8, hb8⟩ : ∃ b8, b8 = w28.heap.size := ⟨_, rfl⟩
          have hfr : Fr NoBlk w28 w29 := by rw [hw29]; exact (Fr.refl _ _).alloc _
          have HFw29 : Hid (Fr NoBlk w5 w29) := HFw28.out.trans hfr
          have HPw29 : Hid (Rd w29 (some ⟨b8, 0, none⟩) (pcc p)) := by show Rd _ _ _; rw [hw29, hb8]; exact Rd.of_cells (Bk.new w28 _ (pca p))
          have HBw29 : Hid (b8 < w29.heap.size) := by show _ < _; rw [hw29, hb8]; simp
          have HOw29 : Hid (w29.ownsRow w5.heap.size 35 7 (.slice A6 qs.length c6) qs.length (pcsc qs)) := own_fr HOw28.out hfr (fun _ _ h => h)
          rw [← hw29, ← hb8]
          clear hw29 hfr hb8
          clear hHeld
          refine hK.out _ _ ?_ (fun hHeld => ?_)
          · trivial
          clear hK K
          try simp only [Act.put, List.setIfInBounds_toArray, List.set_cons_zero, List.set_cons_succ]
          refine wpAnyH_ready (rs := [9]) (by kernel_rfl) (by simp) ?_
          refine AllReadyH.cons (o := ⟨some 20, _, _, _, _, _⟩) rfl (fun K hK => ?_) AllReadyH.nil
          refine step_appN rfl _ _ 27 rfl w5.heap.size 35 i0 _ 7 72 Try.underlying27 hi hz0 hz1 hz2 rfl (by decide) (.slice A6 qs.length c6) qs.length (pcsc qs) rfl HOw29.out (some ⟨b8, 0, none⟩) 1 1 (pcc p) rfl rfl HPw29.out (fun y hy => pcsc_one [p] y (by simpa [pcsc] using hy)) (fun h => by cases h) ?q1 ?q2 HFw29.out.size ?_
          case q1 => have := HL5.out.few; unfold maxLen; omega
          case q2 => have := HL5.out.few; omega
          intro v9 w9 ho9 hg9 hb9
          obtain ⟨A9, c9, rfl, _, _⟩ := own_form ho9
          have HF9 : Hid (Fr NoBlk w5 w9) := HFw29.out.grown hg9 (fun k hk hlt => by have := (own_blk HOw29.out hk).1; omega)
          have HS := Lib.hid (HL5.out.put HF9.out (q := p) (n' := qs.length + 1) (ps := qs ++ [p]) (by simp) (by rw [pcsc_append, show pcsc [p] = pcc p by simp [pcsc]]; exact ho9) (fun x hx => by rcases List.mem_append.1 hx with hx | hx; exact .inl hx; exact .inr (List.mem_singleton.1 hx)) HPI.out HFEW.out)
          have oN : w9.cell? ⟨m, 0, none⟩ = some (.slice a qs.length c) := HS.out.1.cell 0
          have fN := HS.out.1.free 0
          clear ho9 hg9 hb9
          clear hHeld
          refine hK.out _ _ ?_ (fun hHeld => ?_)
          · trivial
          clear hK K
          try simp only [Act.put, List.setIfInBounds_toArray, List.set_cons_zero, List.set_cons_succ]
          refine wpAnyH_take (i := 10) (oi := ⟨some 21, _, _, _, _, _⟩) (v := ?_) rfl (by kernel_rfl) (by kernel_rfl) (by kernel_rfl) (fun _ _ _ h => h) (Or.inl ⟨by rfl, ?_⟩) (by assumption) ?_
          rotate_left 1
          · (intro w hSw; (try dsimp only at hSw); go_simp) <;> (with_reducible rfl)
          try simp only [Act.put, List.setIfInBounds_toArray, List.set_cons_zero, List.set_cons_succ]
          refine wpAnyH_take (i := 11) (oi := ⟨some 22, _, _, _, _, _⟩) (v := ?_) rfl (by kernel_rfl) (by kernel_rfl) (by kernel_rfl) (fun _ _ _ h => h) (Or.inl ⟨by rfl, ?_⟩) (by assumption) ?_
          rotate_left 1
          · (intro w hSw; (try dsimp only at hSw); go_simp) <;> (with_reducible rfl)
          try simp only [Act.put, List.setIfInBounds_toArray, List.set_cons_zero, List.set_cons_succ]
          refine wpAnyH_ready (rs := [12]) (by kernel_rfl) (by simp) ?_
          refine AllReadyH.cons (o := ⟨none, _, _, _, _, _⟩) rfl (fun K hK => ?_) AllReadyH.nil
          go_simp
          clear hHeld
          refine hK.out _ _ ?_ (fun hHeld => ?_)
          · trivial
          clear hK K
          try simp only [Act.put, List.setIfInBounds_toArray, List.set_cons_zero, List.set_cons_succ]
          refine wpAnyH_done (by kernel_rfl) ?_ _
          have HZ := Lib.hid HS.out.2
          clear HS hHeld HF9
          go_wp2_with fail
          go_ret
          exact HPOST.out _ _ _ HZ.out.1 HZ.out.2
        · go_simp
          obtain ⟨w30, hw30⟩ : ∃ w30, w30 = w21.alloc (.cells #[.int .i64 p.src, .int .i64 p.dst, .int .u64 p.ep, .int .u64 p.pe, .int .u64 p.sq, .int .u64 p.ak, .slice p.d.1 p.d.2.2.length p.d.2.1] 35) := ⟨_, rfl⟩
          obtain ⟨b8, hb8⟩ : ∃ b8, b8 = w21.heap.size := ⟨_, rfl⟩
          have hfr : Fr NoBlk w21 w30 := by rw [hw30]; exact (Fr.refl _ _).alloc _
          have HFw30 : Hid (Fr NoBlk w5 w30) := HFw21.out.trans hfr
          have HPw30 : Hid (Rd w30 (some ⟨b8, 0, none⟩) (pcc p)) := by show Rd _ _ _; rw [hw30, hb8]; exact Rd.of_cells (Bk.new w21 _ (pca p))
          have HBw30 : Hid (b8 < w30.heap.size) := by show _ < _; rw [hw30, hb8]; simp
          have HEw30 : Hid (w30.ownsRow w5.heap.size 35 7 (.slice (some ⟨e1, 0, none⟩) 0 0) 0 []) := own_fr HEw21.out hfr (fun _ _ h => h)
          have HLw30 : Hid (e1 < w30.heap.size) := Nat.lt_of_lt_of_le HLw21.out hfr.size
          have HNE : Hid (e1 ≠ b8) := by have := HLw21.out; show _ ≠ _; omega
          rw [← hw30, ← hb8]
          clear hw30 hfr hb8
          clear hHeld
          refine hK.out _ _ ?_ (fun hHeld => ?_)
          · trivial
          clear hK K
          try simp only [Act.put, List.setIfInBounds_toArray, List.set_cons_zero, List.set_cons_succ]
          refine wpAnyH_ready (rs := [6]) (by kernel_rfl) (by simp) ?_
          refine AllReadyH.cons (o := ⟨some 17, _, _, _, _, _⟩) rfl (fun K hK => ?_) AllReadyH.nil
          refine step_appN rfl _ _ 27 rfl w5.heap.size 35 i0 _ 7 72 Try.underlying27 hi hz0 hz1 hz2 rfl (by decide) (.slice (some ⟨e1, 0, none⟩) 0 0) 0 [] rfl HEw30.out a c qs.length (pcsc qs) rfl (pcsc_len qs) (Rd.of_ownN (HL5.out.nofr HFw30.out).own) (pcsc_one qs) (own_lens HL5.out.own).2.2 ?q1 ?q2 HFw30.out.size ?_
          case q1 => have := HL5.out.few; unfold maxLen; omega
          case q2 => have := HL5.out.few; omega
          intro v6 w31 ho6 hg6 hb6
          simp only [Nat.zero_add, List.nil_append] at ho6
          obtain ⟨A6, c6, rfl, _, _⟩ := own_form ho6
          have HOw31 : Hid (w31.ownsRow w5.heap.size 35 7 (.slice A6 qs.length c6) qs.length (pcsc qs)) := ho6
          have HFw31 : Hid (Fr NoBlk w5 w31) := HFw30.out.grown hg6 (fun k hk hlt => by have := (own_blk HEw30.out hk).1; omega)
          have HPw31 : Hid (Rd w31 (some ⟨b8, 0, none⟩) (pcc p)) := rd_grown HPw30.out hg6 HNE.out
          have HBw31 : Hid (b8 < w31.heap.size) := Nat.lt_of_lt_of_le HBw30.out hg6.size
          try dsimp only
          clear ho6 hg6 hb6
          clear hHeld
          refine hK.out _ _ ?_ (fun hHeld => ?_)
          · trivial
          clear hK K
          try simp only [Act.put, List.setIfInBounds_toArray, List.set_cons_zero, List.set_cons_succ]
          refine wpAnyH_ready (rs := [9]) (by kernel_rfl) (by simp) ?_
          refine AllReadyH.cons (o := ⟨some 20, _, _, _, _, _⟩) rfl (fun K hK => ?_) AllReadyH.nil
          refine step_appN rfl _ _ 27 rfl w5.heap.size 35 i0 _ 7 72 Try.underlying27 hi hz0 hz1 hz2 rfl (by decide) (.slice A6 qs.length c6) qs.length (pcsc qs) rfl HOw31.out (some ⟨b8, 0, none⟩) 1 1 (pcc p) rfl rfl HPw31.out (fun y hy => pcsc_one [p] y (by simpa [pcsc] using hy)) (fun h => by cases h) ?q1 ?q2 HFw31.out.size ?_
          case q1 => have := HL5.out.few; unfold maxLen; omega
          case q2 => have := HL5.out.few; omega
          intro v9 w9 ho9 hg9 hb9
          obtain ⟨A9, c9, rfl, _, _⟩ := own_form ho9
          have HF9 : Hid (Fr NoBlk w5 w9) := HFw31.out.grown hg9 (fun k hk hlt => by have := (own_blk HOw31.out hk).1; omega)
          have HS := Lib.hid (HL5.out.put HF9.out (q := p) (n' := qs.length + 1) (ps := qs ++ [p]) (by simp) (by rw [pcsc_append, show pcsc [p] = pcc p by simp [pcsc]]; exact ho9) (fun x hx => by rcases List.mem_append.1 hx with hx | hx; exact .inl hx; exact .inr (List.mem_singleton.1 hx)) HPI.out HFEW.out)
          have oN : w9.cell? ⟨m, 0, none⟩ = some (.slice a qs.length c) := HS.out.1.cell 0
          have fN := HS.out.1.free 0
          clear ho9 hg9 hb9
          clear hHeld
          refine hK.out _ _ ?_ (fun hHeld => ?_)
          · trivial
          clear hK K
          try simp only [Act.put, List.setIfInBounds_toArray, List.set_cons_zero, List.set_cons_succ]
          refine wpAnyH_take (i := 10) (oi := ⟨some 21, _, _, _, _, _⟩) (v := ?_) rfl (by kernel_rfl) (by kernel_rfl) (by kernel_rfl) (fun _ _ _ h => h) (Or.inl ⟨by rfl, ?_⟩) (by assumption) ?_
          rotate_left 1
          · (intro w hSw; (try dsimp only at hSw); go_simp) <;> (with_reducible rfl)
          try simp only [Act.put, List.setIfInBounds_toArray, List.set_cons_zero, List.set_cons_succ]
          refine wpAnyH_take (i := 11) (oi := ⟨some 22, _, _, _, _, _⟩) (v := ?_) rfl (by kernel_rfl) (by kernel_rfl) (by kernel_rfl) (fun _ _ _ h => h) (Or.inl ⟨by rfl, ?_⟩) (by assumption) ?_
          rotate_left 1
          · (intro w hSw; (try dsimp only at hSw); go_simp) <;> (with_reducible rfl)
          try simp only [Act.put, List.setIfInBounds_toArray, List.set_cons_zero, List.set_cons_succ]
          refine wpAnyH_ready (rs := [12]) (by kernel_rfl) (by simp) ?_
          refine AllReadyH.cons (o := ⟨none, _, _, _, _, _⟩) rfl (fun K hK => ?_) AllReadyH.nil
          go_simp
          clear hHeld
          refine hK.out _ _ ?_ (fun hHeld => ?_)
          · trivial
          clear hK K
          try simp only [Act.put, List.setIfInBounds_toArray, List.set_cons_zero, List.set_cons_succ]
          refine wpAnyH_done (by kernel_rfl) ?_ _
          have HZ := Lib.hid HS.out.2
          clear HS hHeld HF9
          go_wp2_with fail
          go_ret
          exact HPOST.out _ _ _ HZ.out.1 HZ.out.2
      · go_simp
        obtain ⟨w32, hw32⟩ : ∃ w32, w32 = w21.alloc (.cells #[.int .i64 p.src, .int .i64 p.dst, .int .u64 p.ep, .int .u64 p.pe, .int .u64 p.sq, .int .u64 p.ak, .slice p.d.1 p.d.2.2.length p.d.2.1] 35) := ⟨_, rfl⟩
        obtain ⟨b8, hb8⟩ : ∃ b8, b8 = w21.heap.size := ⟨_, rfl⟩
        have hfr : Fr NoBlk w21 w32 := by rw [hw32]; exact (Fr.refl _ _).alloc _
        have HFw32 : Hid (Fr NoBlk w5 w32) := HFw21.out.trans hfr
        have HPw32 : Hid (Rd w32 (some ⟨b8, 0, none⟩) (pcc p)) := by show Rd _ _ _; rw [hw32, hb8]; exact Rd.of_cells (Bk.new w21 _ (pca p))
        have HBw32 : Hid (b8 < w32.heap.size) := by show _ < _; rw [hw32, hb8]; simp
        have HEw32 : Hid (w32.ownsRow w5.heap.size 35 7 (.slice (some ⟨e1, 0, none⟩) 0 0) 0 []) := own_fr HEw21.out hfr (fun _ _ h => h)
        have HLw32 : Hid (e1 < w32.heap.size) := Nat.lt_of_lt_of_le HLw21.out hfr.size
        have HNE : Hid (e1 ≠ b8) := by have := HLw21.out; show _ ≠ _; omega
        rw [← hw32, ← hb8]
        clear hw32 hfr hb8
        clear hHeld
        refine hK.out _ _ ?_ (fun hHeld => ?_)
        · trivial
        clear hK K
        try simp only [Act.put, List.setIfInBounds_toArray, List.set_cons_zero, List.set_cons_succ]
        refine wpAnyH_ready (rs := [5]) (by kernel_rfl) (by simp) ?_
        refine AllReadyH.cons (o := ⟨some 16, _, _, _, _, _⟩) rfl (fun K hK => ?_) AllReadyH.nil
        have oN : w32.cell? ⟨m, 0, none⟩ = some (.slice a qs.length c) := (HL5.out.nofr HFw32.out).bk.cell 0
        go_simp
        clear oN
        clear hHeld
        refine hK.out _ _ ?_ (fun hHeld => ?_)
        · trivial
        clear hK K
        try simp only [Act.put, List.setIfInBounds_toArray, List.set_cons_zero, List.set_cons_succ]
        refine wpAnyH_ready (rs := [6]) (by kernel_rfl) (by simp) ?_
        refine AllReadyH.cons (o := ⟨some 17, _, _, _, _, _⟩) rfl (fun K hK => ?_) AllReadyH.nil
        refine step_appN rfl _ _ 27 rfl w5.heap.size 35 i0 _ 7 72 Try.underlying27 hi hz0 hz1 hz2 rfl (by decide) (.slice (some ⟨e1, 0, none⟩) 0 0) 0 [] rfl HEw32.out a c qs.length (pcsc qs) rfl (pcsc_len qs) (Rd.of_ownN (HL5.out.nofr HFw32.out).own) (pcsc_one qs) (own_lens HL5.out.own).2.2 ?q1 ?q2 HFw32.out.size ?_
        case q1 => have := HL5.out.few; unfold maxLen; omega
        case q2 => have := HL5.out.few; omega
        intro v6 w33 ho6 hg6 hb6
        simp only [Nat.zero_add, List.nil_append] at ho6
        obtain ⟨A6, c6, rfl, _, _⟩ := own_form ho6
        have HOw33 : Hid (w33.ownsRow w5.heap.size 35 7 (.slice A6 qs.length c6) qs.length (pcsc qs)) := ho6
        have HFw33 : Hid (Fr NoBlk w5 w33) := HFw32.out.grown hg6 (fun k hk hlt => by have := (own_blk HEw32.out hk).1; omega)
        have HPw33 : Hid (Rd w33 (some ⟨b8, 0, none⟩) (pcc p)) := rd_grown HPw32.out hg6 HNE.out
        have HBw33 : Hid (b8 < w33.heap.size) := Nat.lt_of_lt_of_le HBw32.out hg6.size
        try dsimp only
        clear ho6 hg6 hb6
        clear hHeld
        refine hK.out _ _ ?_ (fun hHeld => ?_)
        · trivial
        clear hK K
        try simp only [Act.put, List.setIfInBounds_toArray, List.set_cons_zero, List.set_cons_succ]
        refine wpAnyH_ready (rs := [9]) (by kernel_rfl) (by simp) ?_
        refine AllReadyH.cons (o := ⟨some 20, _, _, _, _, _⟩) rfl (fun K hK => ?_) AllReadyH.nil
        refine step_appN rfl _ _ 27 rfl w5.heap.size 35 i0 _ 7 72 Try.underlying27 hi hz0 hz1 hz2 rfl (by decide) (.slice A6 qs.length c6) qs.length (pcsc qs) rfl HOw33.out (some ⟨b8, 0, none⟩) 1 1 (pcc p) rfl rfl HPw33.out (fun y hy => pcsc_one [p] y (by simpa [pcsc] using hy)) (fun h => by cases h) ?q1 ?q2 HFw33.out.size ?_
        case q1 => have := HL5.out.few; unfold maxLen; omega
        case q2 => have := HL5.out.few; omega
        intro v9 w9 ho9 hg9 hb9
        obtain ⟨A9, c9, rfl, _, _⟩ := own_form ho9
        have HF9 : Hid (Fr NoBlk w5 w9) := HFw33.out.grown hg9 (fun k hk hlt => by have := (own_blk HOw33.out hk).1; omega)
        have HS := Lib.hid (HL5.out.put HF9.out (q := p) (n' := qs.length + 1) (ps := qs ++ [p]) (by simp) (by rw [pcsc_append, show pcsc [p] = pcc p by simp [pcsc]]; exact ho9) (fun x hx => by rcases List.mem_append.1 hx with hx | hx; exact .inl hx; exact .inr (List.mem_singleton.1 hx)) HPI.out HFEW.out)
        have oN : w9.cell? ⟨m, 0, none⟩ = some (.slice a qs.length c) := HS.out.1.cell 0
        have fN := HS.out.1.free 0
        clear ho9 hg9 hb9
        clear hHeld
        refine hK.out _ _ ?_ (fun hHeld => ?_)
        · trivial
        clear hK K
        try simp only [Act.put, List.setIfInBounds_toArray, List.set_cons_zero, List.set_cons_succ]
        refine wpAnyH_take (i := 10) (oi := ⟨some 21, _, _, _, _, _⟩) (v := ?_) rfl (by kernel_rfl) (by kernel_rfl) (by kernel_rfl) (fun _ _ _ h => h) (Or.inl ⟨by rfl, ?_⟩) (by assumption) ?_
        rotate_left 1
        · (intro w hSw; (try dsimp only at hSw); go_simp) <;> (with_reducible rfl)
        try simp only [Act.put, List.setIfInBounds_toArray, List.set_cons_zero, List.set_cons_succ]
        refine wpAnyH_take (i := 11) (oi := ⟨some 22, _, _, _, _, _⟩) (v := ?_) rfl (by kernel_rfl) (by kernel_rfl) (by kernel_rfl) (fun _ _ _ h => h) (Or.inl ⟨by rfl, ?_⟩) (by assumption) ?_
        rotate_left 1
        · (intro w hSw; (try dsimp only at hSw); go_simp) <;> (with_reducible rfl)
        try simp only [Act.put, List.setIfInBounds_toArray, List.set_cons_zero, List.set_cons_succ]
        refine wpAnyH_ready (rs := [12]) (by kernel_rfl) (by simp) ?_
        refine AllReadyH.cons (o := ⟨none, _, _, _, _, _⟩) rfl (fun K hK => ?_) AllReadyH.nil
        go_simp
        clear hHeld
        refine hK.out _ _ ?_ (fun hHeld => ?_)
        · trivial
        clear hK K
        try simp only [Act.put, List.setIfInBounds_toArray, List.set_cons_zero, List.set_cons_succ]
        refine wpAnyH_done (by kernel_rfl) ?_ _
        have HZ := Lib.hid HS.out.2
        clear HS hHeld HF9
        go_wp2_with fail
        go_ret
        exact HPOST.out _ _ _ HZ.out.1 HZ.out.2
  · have oN : w6.cell? ⟨m, 0, none⟩ = some (.slice a qs.length c) := (HL5.out.nofr HFw6.out).bk.cell 0
    go_simp
    clear oN
    clear hHeld
    refine hK.out _ _ ?_ (fun hHeld => ?_)
    · trivial
    clear hK K
    try simp only [Act.put, List.setIfInBounds_toArray, List.set_cons_zero, List.set_cons_succ]
    refine wpAnyH_ready (rs := [1, 7]) (by kernel_rfl) (by simp) ?_
    refine AllReadyH.cons (o := ⟨some 12, _, _, _, _, _⟩) rfl (fun K hK => ?_) (AllReadyH.cons (o := ⟨some 18, _, _, _, _, _⟩) rfl (fun K hK => ?_) AllReadyH.nil)
    · go_simp
      obtain ⟨w34, hw34⟩ : ∃ w34, w34 = w6.alloc (.cells #[] 35) := ⟨_, rfl⟩
      obtain ⟨e1, he1⟩ : ∃ e1, e1 = w6.heap.size := ⟨_, rfl⟩
      have hfr : Fr NoBlk w6 w34 := by rw [hw34]; exact (Fr.refl _ _).alloc _
      have HFw34 : Hid (Fr NoBlk w5 w34) := HFw6.out.trans hfr
      have HEw34 : Hid (w34.ownsRow w5.heap.size 35 7 (.slice (some ⟨e1, 0, none⟩) 0 0) 0 []) := by show World.ownsRow _ _ _ _ _ _ _; rw [hw34, he1]; exact own_base (World.ownsRow_made w6 #[] 0 (Nat.le_refl _) (by decide) rfl) HFw6.out.size
      have HLw34 : Hid (e1 < w34.heap.size) := by show _ < _; rw [hw34, he1]; simp
      rw [← hw34, ← he1]
      clear hw34 hfr he1
      clear hHeld
      refine hK.out _ _ ?_ (fun hHeld => ?_)
      · trivial
      clear hK K
      try simp only [Act.put, List.setIfInBounds_toArray, List.set_cons_zero, List.set_cons_succ]
      refine wpAnyH_ready (rs := [6, 7]) (by kernel_rfl) (by simp) ?_
      refine AllReadyH.cons (o := ⟨some 17, _, _, _, _, _⟩) rfl (fun K hK => ?_) (AllReadyH.cons (o := ⟨some 18, _, _, _, _, _⟩) rfl (fun K hK => ?_) AllReadyH.nil)
      · refine step_appN rfl _ _ 27 rfl w5.heap.size 35 i0 _ 7 72 Try.underlying27 hi hz0 hz1 hz2 rfl (by decide) (.slice (some ⟨e1, 0, none⟩) 0 0) 0 [] rfl HEw34.out a c qs.length (pcsc qs) rfl (pcsc_len qs) (Rd.of_ownN (HL5.out.nofr HFw34.out).own) (pcsc_one qs) (own_lens HL5.out.own).2.2 ?q1 ?q2 HFw34.out.size ?_
        case q1 => have := HL5.out.few; unfold maxLen; omega
        case q2 => have := HL5.out.few; omega
        intro v6 w35 ho6 hg6 hb6
        simp only [Nat.zero_add, List.nil_append] at ho6
        obtain ⟨A6, c6, rfl, _, _⟩ := own_form ho6
        have HOw35 : Hid (w35.ownsRow w5.heap.size 35 7 (.slice A6 qs.length c6) qs.length (pcsc qs)) := ho6
        have HFw35 : Hid (Fr NoBlk w5 w35) := HFw34.out.grown hg6 (fun k hk hlt => by have := (own_blk HEw34.out hk).1; omega)
        try dsimp only
        clear ho6 hg6 hb6
        clear hHeld
        refine hK.out _ _ ?_ (fun hHeld => ?_)
        · trivial
        clear hK K
        try simp only [Act.put, List.setIfInBounds_toArray, List.set_cons_zero, List.set_cons_succ]
        refine wpAnyH_ready (rs := [7]) (by kernel_rfl) (by simp) ?_
        refine AllReadyH.cons (o := ⟨some 18, _, _, _, _, _⟩) rfl (fun K hK => ?_) AllReadyH.nil
        obtain ⟨s0, s1, s2, s3, s4, s5, s6⟩ := HSP.out _ HFw35.out
        go_simp
        clear s0 s1 s2 s3 s4 s5 s6
        clear hHeld
        refine hK.out _ _ ?_ (fun hHeld => ?_)
        · trivial
        clear hK K
        try simp only [Act.put, List.setIfInBounds_toArray, List.set_cons_zero, List.set_cons_succ]
        refine wpAnyH_ready (rs := [8]) (by kernel_rfl) (by simp) ?_
        refine AllReadyH.cons (o := ⟨some 19, _, _, _, _, _⟩) rfl (fun K hK => ?_) AllReadyH.nil
        go_simp
        obtain ⟨w36, hw36⟩ : ∃ w36, w36 = w35.alloc (.cells #[.int .i64 p.src, .int .i64 p.dst, .int .u64 p.ep, .int .u64 p.pe, .int .u64 p.sq, .int .u64 p.ak, .slice p.d.1 p.d.2.2.length p.d.2.1] 35) := ⟨_, rfl⟩
        obtain ⟨b8, hb8⟩ : ∃ b8, b8 = w35.heap.size := ⟨_, rfl⟩
        have hfr : Fr NoBlk w35 w36 := by rw [hw36]; exact (Fr.refl _ _).alloc _
        have HFw36 : Hid (Fr NoBlk w5 w36) := HFw35.out.trans hfr
        have HPw36 : Hid (Rd w36 (some ⟨b8, 0, none⟩) (pcc p)) := by show Rd _ _ _; rw [hw36, hb8]; exact Rd.of_cells (Bk.new w35 _ (pca p))
        have HBw36 : Hid (b8 < w36.heap.size) := by show _ < _; rw [hw36, hb8]; simp
        have HOw36 : Hid (w36.ownsRow w5.heap.size 35 7 (.slice A6 qs.length c6) qs.length (pcsc qs)) := own_fr HOw35.out hfr (fun _ _ h => h)
        rw [← hw36, ← hb8]
        clear hw36 hfr hb8
        clear hHeld
        refine hK.out _ _ ?_ (fun hHeld => ?_)
        · trivial
        clear hK K
        try simp only [Act.put, List.setIfInBounds_toArray, List.set_cons_zero, List.set_cons_succ]
        refine wpAnyH_ready (rs := [9]) (by kernel_rfl) (by simp) ?_
        refine AllReadyH.cons (o := ⟨some 20, _, _, _, _, _⟩) rfl (fun K hK => ?_) AllReadyH.nil
        refine step_appN rfl _ _ 27 rfl w5.heap.size 35 i0 _ 7 72 Try.underlying27 hi hz0 hz1 hz2 rfl (by decide) (.slice A6 qs.length c6) qs.length (pcsc qs) rfl HOw36.out (some ⟨b8, 0, none⟩) 1 1 (pcc p) rfl rfl HPw36.out (fun y hy => pcsc_one [p] y (by simpa [pcsc] using hy)) (fun h => by cases h) ?q1 ?q2 HFw36.out.size ?_
        case q1 => have := HL5.out.few; unfold maxLen; omega
        case q2 => have := HL5.out.few; omega
        intro v9 w9 ho9 hg9 hb9
        obtain ⟨A9, c9, rfl, _, _⟩ := own_form ho9
        have HF9 : Hid (Fr NoBlk w5 w9) := HFw36.out.grown hg9 (fun k hk hlt => by have := (own_blk HOw36.out hk).1; omega)
        have HS := Lib.hid (HL5.out.put HF9.out (q := p) (n' := qs.length + 1) (ps := qs ++ [p]) (by simp) (by rw [pcsc_append, show pcsc [p] = pcc p by simp [pcsc]]; exact ho9) (fun x hx => by rcases List.mem_append.1 hx with hx | hx; exact .inl hx; exact .inr (List.mem_singleton.1 hx)) HPI.out HFEW.out)
        have oN : w9.cell? ⟨m, 0, none⟩ = some (.slice a qs.length c) := HS.out.1.cell 0
        have fN := HS.out.1.free 0
        clear ho9 hg9 hb9
        clear hHeld
        refine hK.out _ _ ?_ (fun hHeld => ?_)
        · trivial
        clear hK K
        try simp only [Act.put, List.setIfInBounds_toArray, List.set_cons_zero, List.set_cons_succ]
        refine wpAnyH_take (i := 10) (oi := ⟨some 21, _, _, _, _, _⟩) (v := ?_) rfl (by kernel_rfl) (by kernel_rfl) (by kernel_rfl) (fun _ _ _ h => h) (Or.inl ⟨by rfl, ?_⟩) (by assumption) ?_
        rotate_left 1
        · (intro w hSw; (try dsimp only at hSw); go_simp) <;> (with_reducible rfl)
        try simp only [Act.put, List.setIfInBounds_toArray, List.set_cons_zero, List.set_cons_succ]
        refine wpAnyH_take (i := 11) (oi := ⟨some 22, _, _, _, _, _⟩) (v := ?_) rfl (by kernel_rfl) (by kernel_rfl) (by kernel_rfl) (fun _ _ _ h => h) (Or.inl ⟨by rfl, ?_⟩) (by assumption) ?_
        rotate_left 1
        · (intro w hSw; (try dsimp only at hSw); go_simp) <;> (with_reducible rfl)
        try simp only [Act.put, List.setIfInBounds_toArray, List.set_cons_zero, List.set_cons_succ]
        refine wpAnyH_ready (rs := [12]) (by kernel_rfl) (by simp) ?_
        refine AllReadyH.cons (o := ⟨none, _, _, _, _, _⟩) rfl (fun K hK => ?_) AllReadyH.nil
        go_simp
        clear hHeld
        refine hK.out _ _ ?_ (fun hHeld => ?_)
        · trivial
        clear hK K
        try simp only [Act.put, List.setIfInBounds_toArray, List.set_cons_zero, List.set_cons_succ]
        refine wpAnyH_done (by kernel_rfl) ?_ _
        have HZ := Lib.hid HS.out.2
        clear HS hHeld HF9
        go_wp2_with fail
        go_ret
        exact HPOST.out _ _ _ HZ.out.1 HZ.out.2
      · obtain ⟨s0, s1, s2, s3, s4, s5, s6⟩ := HSP.out _ HFw34.out
        go_simp
        clear s0 s1 s2 s3 s4 s5 s6
        clear hHeld
        refine hK.out _ _ ?_ (fun hHeld => ?_)
        · trivial
        clear hK K
        try simp only [Act.put, List.setIfInBounds_toArray, List.set_cons_zero, List.set_cons_succ]
        refine wpAnyH_ready (rs := [6, 8]) (by kernel_rfl) (by simp) ?_
        refine AllReadyH.cons (o := ⟨some 17, _, _, _, _, _⟩) rfl (fun K hK => ?_) (AllReadyH.cons (o := ⟨some 19, _, _, _, _, _⟩) rfl (fun K hK => ?_) AllReadyH.nil)
        · refine step_appN rfl _ _ 27 rfl w5.heap.size 35 i0 _ 7 72 Try.underlying27 hi hz0 hz1 hz2 rfl (by decide) (.slice (some ⟨e1, 0, none⟩) 0 0) 0 [] rfl HEw34.out a c qs.length (pcsc qs) rfl (pcsc_len qs) (Rd.of_ownN (HL5.out.nofr HFw34.out).own) (pcsc_one qs) (own_lens HL5.out.own).2.2 ?q1 ?q2 HFw34.out.size ?_
          case q1 => have := HL5.out.few; unfold maxLen; omega
          case q2 => have := HL5.out.few; omega
          intro v6 w37 ho6 hg6 hb6
          simp only [Nat.zero_add, List.nil_append] at ho6
          obtain ⟨A6, c6, rfl, _, _⟩ := own_form ho6
          have HOw37 : Hid (w37.ownsRow w5.heap.size 35 7 (.slice A6 qs.length c6) qs.length (pcsc qs)) := ho6
          have HFw37 : Hid (Fr NoBlk w5 w37) := HFw34.out.grown hg6 (fun k hk hlt => by have := (own_blk HEw34.out hk).1; omega)
          try dsimp only
          clear ho6 hg6 hb6
          clear hHeld
          refine hK.out _ _ ?_ (fun hHeld => ?_)
          · trivial
          clear hK K
          try simp only [Act.put, List.setIfInBounds_toArray, List.set_cons_zero, List.set_cons_succ]
          refine wpAnyH_ready (rs := [8]) (by kernel_rfl) (by simp) ?_
          refine AllReadyH.cons (o := ⟨some 19, _, _, _, _, _⟩) rfl (fun K hK => ?_) AllReadyH.nil
          go_simp
          obtain ⟨w38, hw38⟩ : ∃ w38, w38 = w37.alloc (.cells #[.int .i64 p.src, .int .i64 p.dst, .int .u64 p.ep, .int .u64 p.pe, .int .u64 p.sq, .int .u64 p.ak, .slice p.d.1 p.d.2.2.length p.d.2.1] 35) := ⟨_, rfl⟩
          obtain ⟨b8, hb8⟩ : ∃ b8, b8 = w37.heap.size := ⟨_, rfl⟩
          have hfr : Fr NoBlk w37 w38 := by rw [hw38]; exact (Fr.refl _ _).alloc _
          have HFw38 : Hid (Fr NoBlk w5 w38) := HFw37.out.trans hfr
          have HPw38 : Hid (Rd w38 (some ⟨b8, 0, none⟩) (pcc p)) := by show Rd _ _ _; rw [hw38, hb8]; exact Rd.of_cells (Bk.new w37 _ (pca p))
          have HBw38 : Hid (b8 < w38.heap.size) := by show _ < _; rw [hw38, hb8]; simp
          have HOw38 : Hid (w38.ownsRow w5.heap.size 35 7 (.slice A6 qs.length c6) qs.length (pcsc qs)) := own_fr HOw37.out hfr (fun _ _ h => h)
          rw [← hw38, ← hb8]
          clear hw38 hfr hb8
          clear hHeld
          refine hK.out _ _ ?_ (fun hHeld => ?_)
          · trivial
          clear hK K
          try simp only [Act.put, List.setIfInBounds_toArray, List.set_cons_zero, List.set_cons_succ]
          refine wpAnyH_ready (rs := [9]) (by kernel_rfl) (by simp) ?_
          refine AllReadyH.cons (o := ⟨some 20, _, _, _, _, _⟩) rfl (fun K hK => ?_) AllReadyH.nil
          refine step_appN rfl _ _ 27 rfl w5.heap.size 35 i0 _ 7 72 Try.underlying27 hi hz0 hz1 hz2 rfl (by decide) (.slice A6 qs.length c6) qs.length (pcsc qs) rfl HOw38.out (some ⟨b8, 0, none⟩) 1 1 (pcc p) rfl rfl HPw38.out (fun y hy => pcsc_one [p] y (by simpa [pcsc] using hy)) (fun h => by cases h) ?q1 ?q2 HFw38.out.size ?_
          case q1 => have := HL5.out.few; unfold maxLen; omega
          case q2 => have := HL5.out.few; omega
          intro v9 w9 ho9 hg9 hb9
          obtain ⟨A9, c9, rfl, _, _⟩ := own_form ho9
          have HF9 : Hid (Fr NoBlk w5 w9) := HFw38.out.grown hg9 (fun k hk hlt => by have := (own_blk HOw38.out hk).1; omega)
          have HS := Lib.hid (HL5.out.put HF9.out (q := p) (n' := qs.length + 1) (ps := qs ++ [p]) (by simp) (by rw [pcsc_append, show pcsc [p] = pcc p by simp [pcsc]]; exact ho9) (fun x hx => by rcases List.mem_append.1 hx with hx | hx; exact .inl hx; exact .inr (List.mem_singleton.1 hx)) HPI.out HFEW.out)
          have oN : w9.cell? ⟨m, 0, none⟩ = some (.slice a qs.length c) := HS.out.1.cell 0
          have fN := HS.out.1.free 0
          clear ho9 hg9 hb9
          clear hHeld
          refine hK.out _ _ ?_ (fun hHeld => ?_)
          · trivial
          clear hK K
          try simp only [Act.put, List.setIfInBounds_toArray, List.set_cons_zero, List.set_cons_succ]
          refine wpAnyH_take (i := 10) (oi := ⟨some 21, _, _, _, _, _⟩) (v := ?_) rfl (by kernel_rfl) (by kernel_rfl) (by kernel_rfl) (fun _ _ _ h => h) (Or.inl ⟨by rfl, ?_⟩) (by assumption) ?_
          rotate_left 1
          · (intro w hSw; (try dsimp only at hSw); go_simp) <;> (with_reducible rfl)
          try simp only [Act.put, List.setIfInBounds_toArray, List.set_cons_zero, List.set_cons_succ]
          refine wpAnyH_take (i := 11) (oi := ⟨some 22, _, _, _, _, _⟩) (v := ?_) rfl (by kernel_rfl) (by kernel_rfl) (by kernel_rfl) (fun _ _ _ h => h) (Or.inl ⟨by rfl, ?_⟩) (by assumption) ?_
          rotate_left 1
          · (intro w hSw; (try dsimp only at hSw); go_simp) <;> (with_reducible rfl)
          try simp only [Act.put, List.setIfInBounds_toArray, List.set_cons_zero, List.set_cons_succ]
          refine wpAnyH_ready (rs := [12]) (by kernel_rfl) (by simp) ?_
          refine AllReadyH.cons (o := ⟨none, _, _, _, _, _⟩) rfl (fun K hK => ?_) AllReadyH.nil
          go_simp
          clear hHeld
          refine hK.out _ _ ?_ (fun hHeld => ?_)
          · trivial
          clear hK K
          try simp only [Act.put, List.setIfInBounds_toArray, List.set_cons_zero, List.set_cons_succ]
          refine wpAnyH_done (by kernel_rfl) ?_ _
          have HZ := Lib.hid HS.out.2
          clear HS hHeld HF9
          go_wp2_with fail
          go_ret
          exact HPOST.out _ _ _ HZ.out.1 HZ.out.2
        · go_simp
          obtain ⟨w39, hw39⟩ : ∃ w39, w39 = w34.alloc (.cells #[.int .i64 p.src, .int .i64 p.dst, .int .u64 p.ep, .int .u64 p.pe, .int .u64 p.sq, .int .u64 p.ak, .slice p.d.1 p.d.2.2.length p.d.2.1] 35) := ⟨_, rfl⟩
          obtain ⟨b8, hb8⟩ : ∃ b8, b8 = w34.heap.size := ⟨_, rfl⟩
          have hfr : Fr NoBlk w34 w39 := by rw [hw39]; exact (Fr.refl _ _).alloc _
          have HFw39 : Hid (Fr NoBlk w5 w39) := HFw34.out.trans hfr
          have HPw39 : Hid (Rd w39 (some ⟨b8, 0, none⟩) (pcc p)) := by show Rd _ _ _; rw [hw39, hb8]; exact Rd.of_cells (Bk.new w34 _ (pca p))
          have HBw39 : Hid (b8 < w39.heap.size) := by show _ < _; rw [hw39, hb8]; simp
          have HEw39 : Hid (w39.ownsRow w5.heap.size 35 7 (.slice (some ⟨e1, 0, none⟩) 0 0) 0 []) := own_fr HEw34.out hfr (fun _ _ h => h)
          have HLw39 : Hid (e1 < w39.heap.size) := Nat.lt_of_lt_of_le HLw34.out hfr.size
          have HNE : Hid (e1 ≠ b8) := by have := HLw34.out; show _ ≠ _; omega
          rw [← hw39, ← hb8]
          clear hw39 hfr hb8
          clear hHeld
          refine hK.out _ _ ?_ (fun hHeld => ?_)
          · trivial
          clear hK K
          try simp only [Act.put, List.setIfInBounds_toArray, List.set_cons_zero, List.set_cons_succ]
          refine wpAnyH_ready (rs := [6]) (by kernel_rfl) (by simp) ?_
          refine AllReadyH.cons (o := ⟨some 17, _, _, _, _, _⟩) rfl (fun K hK => ?_) AllReadyH.nil
          refine step_appN rfl _ _ 27 rfl w5.heap.size 35 i0 _ 7 72 Try.underlying27 hi hz0 hz1 hz2 rfl (by decide) (.slice (some ⟨e1, 0, none⟩) 0 0) 0 [] rfl HEw39.out a c qs.length (pcsc qs) rfl (pcsc_len qs) (Rd.of_ownN (HL5.out.nofr HFw39.out).own) (pcsc_one qs) (own_lens HL5.out.own).2.2 ?q1 ?q2 HFw39.out.size ?_
          case q1 => have := HL5.out.few; unfold maxLen; omega
          case q2 => have := HL5.out.few; omega
          intro v6 w40 ho6 hg6 hb6
          simp only [Nat.zero_add, List.nil_append] at ho6
          obtain ⟨A6, c6, rfl, _, _⟩ := own_form ho6
          have HOw40 : Hid (w40.ownsRow w5.heap.size 35 7 (.slice A6 qs.length c6) qs.length (pcsc qs)) := ho6
          have HFw40 : Hid (Fr NoBlk w5 w40) := HFw39.out.grown hg6 (fun k hk hlt => by have := (own_blk HEw39.out hk).1; omega)
          have HPw40 : Hid (Rd w40 (some ⟨b8, 0, none⟩) (pcc p)) := rd_grown HPw39.out hg6 HNE.out
          have HBw40 : Hid (b8 < w40.heap.size) := Nat.lt_of_lt_of_le HBw39.out hg6.size
          try dsimp only
          clear ho6 hg6 hb6
          clear hHeld
          refine hK.out _ _ ?_ (fun hHeld => ?_)
          · trivial
          clear hK K
          try simp only [Act.put, List.setIfInBounds_toArray, List.set_cons_zero, List.set_cons_succ]
          refine wpAnyH_ready (rs := [9]) (by kernel_rfl) (by simp) ?_
          refine AllReadyH.cons (o := ⟨some 20, _, _, _, _, _⟩) rfl (fun K hK => ?_) AllReadyH.nil
          refine step_appN rfl _ _ 27 rfl w5.heap.size 35 i0 _ 7 72 Try.underlying27 hi hz0 hz1 hz2 rfl (by decide) (.slice A6 qs.length c6) qs.length (pcsc qs) rfl HOw40.out (some ⟨b8, 0, none⟩) 1 1 (pcc p) rfl rfl HPw40.out (fun y hy => pcsc_one [p] y (by simpa [pcsc] using hy)) (fun h => by cases h) ?q1 ?q2 HFw40.out.size ?_
          case q1 => have := HL5.out.few; unfold maxLen; omega
          case q2 => have := HL5.out.few; omega
          intro v9 w9 ho9 hg9 hb9
          obtain ⟨A9, c9, rfl, _, _⟩ := own_form ho9
          have HF9 : Hid (Fr NoBlk w5 w9) := HFw40.out.grown hg9 (fun k hk hlt => by have := (own_blk HOw40.out hk).1; omega)
          have HS := Lib.hid (HL5.out.put HF9.out (q := p) (n' := qs.length + 1) (ps := qs ++ [p]) (by simp) (by rw [pcsc_append, show pcsc [p] = pcc p by simp [pcsc]]; exact ho9) (fun x hx => by rcases List.mem_append.1 hx with hx | hx; exact .inl hx; exact .inr (List.mem_singleton.1 hx)) HPI.out HFEW.out)
          have oN : w9.cell? ⟨m, 0, none⟩ = some (.slice a qs.length c) := HS.out.1.cell 0
          have fN := HS.out.1.free 0
          clear ho9 hg9 hb9
          clear hHeld
          refine hK.out _ _ ?_ (fun hHeld => ?_)
          · trivial
          clear hK K
          try simp only [Act.put, List.setIfInBounds_toArray, List.set_cons_zero, List.set_cons_succ]
          refine wpAnyH_take (i := 10) (oi := ⟨some 21, _, _, _, _, _⟩) (v := ?_) rfl (by kernel_rfl) (by kernel_rfl) (by kernel_rfl) (fun _ _ _ h => h) (Or.inl ⟨by rfl, ?_⟩) (by assumption) ?_
          rotate_left 1
          · (intro w hSw; (try dsimp only at hSw); go_simp) <;> (with_reducible rfl)
          try simp only [Act.put, List.setIfInBounds_toArray, List.set_cons_zero, List.set_cons_succ]
          refine wpAnyH_take (i := 11) (oi := ⟨some 22, _, _, _, _, _⟩) (v := ?_) rfl (by kernel_rfl) (by kernel_rfl) (by kernel_rfl) (fun _ _ _ h => h) (Or.inl ⟨by rfl, ?_⟩) (by assumption) ?_
          rotate_left 1
          · (intro w hSw; (try dsimp only at hSw); go_simp) <;> (with_reducible rfl)
          try simp only [Act.put, List.setIfInBounds_toArray, List.set_cons_zero, List.set_cons_succ]
          refine wpAnyH_ready (rs := [12]) (by kernel_rfl) (by simp) ?_
          refine AllReadyH.cons (o := ⟨none, _, _, _, _, _⟩) rfl (fun K hK => ?_) AllReadyH.nil
          go_simp
          clear hHeld
          refine hK.out _ _ ?_ (fun hHeld => ?_)
          · trivial
          clear hK K
          try simp only [Act.put, List.setIfInBounds_toArray, List.set_cons_zero, List.set_cons_succ]
          refine wpAnyH_done (by kernel_rfl) ?_ _
          have HZ := Lib.hid HS.out.2
          clear HS hHeld HF9
          go_wp2_with fail
          go_ret
          exact HPOST.out _ _ _ HZ.out.1 HZ.out.2
    · obtain ⟨s0, s1, s2, s3, s4, s5, s6⟩ := HSP.out _ HFw6.out
      go_simp
      clear s0 s1 s2 s3 s4 s5 s6
      clear hHeld
      refine hK.out _ _ ?_ (fun hHeld => ?_)
      · trivial
      clear hK K
      try simp only [Act.put, List.setIfInBounds_toArray, List.set_cons_zero, List.set_cons_succ]
      refine wpAnyH_ready (rs := [1, 8]) (by kernel_rfl) (by simp) ?_
      refine AllReadyH.cons (o := ⟨some 12, _, _, _, _, _⟩) rfl (fun K hK => ?_) (AllReadyH.cons (o := ⟨some 19, _, _, _, _, _⟩) rfl (fun K hK => ?_) AllReadyH.nil)
      · go_simp
        obtain ⟨w41, hw41⟩ : ∃ w41, w41 = w6.alloc (.cells #[] 35) := ⟨_, rfl⟩
        obtain ⟨e1, he1⟩ : ∃ e1, e1 = w6.heap.size := ⟨_, rfl⟩
        have hfr : Fr NoBlk w6 w41 := by rw [hw41]; exact (Fr.refl _ _).alloc _
        have HFw41 : Hid (Fr NoBlk w5 w41) := HFw6.out.trans hfr
        have HEw41 : Hid (w41.ownsRow w5.heap.size 35 7 (.slice (some ⟨e1, 0, none⟩) 0 0) 0 []) := by show World.ownsRow _ _ _ _ _ _ _; rw [hw41, he1]; exact own_base (World.ownsRow_made w6 #[] 0 (Nat.le_refl _) (by decide) rfl) HFw6.out.size
        have HLw41 : Hid (e1 < w41.heap.size) := by show _ < _; rw [hw41, he1]; simp
        rw [← hw41, ← he1]
        clear hw41 hfr he1
        clear hHeld
        refine hK.out _ _ ?_ (fun hHeld => ?_)
        · trivial
        clear hK K
        try simp only [Act.put, List.setIfInBounds_toArray, List.set_cons_zero, List.set_cons_succ]
        refine wpAnyH_ready (rs := [6, 8]) (by kernel_rfl) (by simp) ?_
        refine AllReadyH.cons (o := ⟨some 17, _, _, _, _, _⟩) rfl (fun K hK => ?_) (AllReadyH.cons (o := ⟨some 19, _, _, _, _, _⟩) rfl (fun K hK => ?_) AllReadyH.nil)
        · refine step_appN rfl _ _ 27 rfl w5.heap.size 35 i0 _ 7 72 Try.underlying27 hi hz0 hz1 hz2 rfl (by decide) (.slice (some ⟨e1, 0, none⟩) 0 0) 0 [] rfl HEw41.out a c qs.length (pcsc qs) rfl (pcsc_len qs) (Rd.of_ownN (HL5.out.nofr HFw41.out).own) (pcsc_one qs) (own_lens HL5.out.own).2.2 ?q1 ?q2 HFw41.out.size ?_
          case q1 => have := HL5.out.few; unfold maxLen; omega
          case q2 => have := HL5.out.few; omega
          intro v6 w42 ho6 hg6 hb6
          simp only [Nat.zero_add, List.nil_append] at ho6
          obtain ⟨A6, c6, rfl, _, _⟩ := own_form ho6
          have HOw42 : Hid (w42.ownsRow w5.heap.size 35 7 (.slice A6 qs.length c6) qs.length (pcsc qs)) := ho6
          have HFw42 : Hid (Fr NoBlk w5 w42) := HFw41.out.grown hg6 (fun k hk hlt => by have := (own_blk HEw41.out hk).1; omega)
          try dsimp only
          clear ho6 hg6 hb6
          clear hHeld
          refine hK.out _ _ ?_ (fun hHeld => ?_)
          · trivial
          clear hK K
          try simp only [Act.put, List.setIfInBounds_toArray, List.set_cons_zero, List.set_cons_succ]
          refine wpAnyH_ready (rs := [8]) (by kernel_rfl) (by simp) ?_
          refine AllReadyH.cons (o := ⟨some 19, _, _, _, _, _⟩) rfl (fun K hK => ?_) AllReadyH.nil
          go_simp
          obtain ⟨w43, hw43⟩ : ∃ w43, w43 = w42.alloc (.cells #[.int .i64 p.src, .int .i64 p.dst, .int .u64 p.ep, .int .u64 p.pe, .int .u64 p.sq, .int .u64 p.ak, .slice p.d.1 p.d.2.2.length p.d.2.1] 35) := ⟨_, rfl⟩
          obtain ⟨b8, hb8⟩ : ∃ b8, b8 = w42.heap.size := ⟨_, rfl⟩
          have hfr : Fr NoBlk w42 w43 := by rw [hw43]; exact (Fr.refl _ _).alloc _
          have HFw43 : Hid (Fr NoBlk w5 w43) := HFw42.out.trans hfr
          have HPw43 : Hid (Rd w43 (some ⟨b8, 0, none⟩) (pcc p)) := by show Rd _ _ _; rw [hw43, hb8]; exact Rd.of_cells (Bk.new w42 _ (pca p))
          have HBw43 : Hid (b8 < w43.heap.size) := by show _ < _; rw [hw43, hb8]; simp
          have HOw43 : Hid (w43.ownsRow w5.heap.size 35 7 (.slice A6 qs.length c6) qs.length (pcsc qs)) := own_fr HOw42.out hfr (fun _ _ h => h)
          rw [← hw43, ← hb8]
          clear hw43 hfr hb8
          clear hHeld
          refine hK.out _ _ ?_ (fun hHeld => ?_)
          · trivial
          clear hK K
          try simp only [Act.put, List.setIfInBounds_toArray, List.set_cons_zero, List.set_cons_succ]
          refine wpAnyH_ready (rs := [9]) (by kernel_rfl) (by simp) ?_
          refine AllReadyH.cons (o := ⟨some 20, _, _, _, _, _⟩) rfl (fun K hK => ?_) AllReadyH.nil
          refine step_appN rfl _ _ 27 rfl w5.heap.size 35 i0 _ 7 72 Try.underlying27 hi hz0 hz1 hz2 rfl (by decide) (.slice A6 qs.length c6) qs.length (pcsc qs) rfl HOw43.out (some ⟨b8, 0, none⟩) 1 1 (pcc p) rfl rfl HPw43.out (fun y hy => pcsc_one [p] y (by simpa [pcsc] using hy)) (fun h => by cases h) ?q1 ?q2 HFw43.out.size ?_
          case q1 => have := HL5.out.few; unfold maxLen; omega
          case q2 => have := HL5.out.few; omega
          intro v9 w9 ho9 hg9 hb9
          obtain ⟨A9, c9, rfl, _, _⟩ := own_form ho9
          have HF9 : Hid (Fr NoBlk w5 w9) := HFw43.out.grown hg9 (fun k hk hlt => by have := (own_blk HOw43.out hk).1; omega)
          have HS := Lib.hid (HL5.out.put HF9.out (q := p) (n' := qs.length + 1) (ps := qs ++ [p]) (by simp) (by rw [pcsc_append, show pcsc [p] = pcc p by simp [pcsc]]; exact ho9) (fun x hx => by rcases List.mem_append.1 hx with hx | hx; exact .inl hx; exact .inr (List.mem_singleton.1 hx)) HPI.out HFEW.out)
          have oN : w9.cell? ⟨m, 0, none⟩ = some (.slice a qs.length c) := HS.out.1.cell 0
          have fN := HS.out.1.free 0
          clear ho9 hg9 hb9
          clear hHeld
          refine hK.out _ _ ?_ (fun hHeld => ?_)
          · trivial
          clear hK K
          try simp only [Act.put, List.setIfInBounds_toArray, List.set_cons_zero, List.set_cons_succ]
          refine wpAnyH_take (i := 10) (oi := ⟨some 21, _, _, _, _, _⟩) (v := ?_) rfl (by kernel_rfl) (by kernel_rfl) (by kernel_rfl) (fun _ _ _ h => h) (Or.inl ⟨by rfl, ?_⟩) (by assumption) ?_
          rotate_left 1
          · (intro w hSw; (try dsimp only at hSw); go_simp) <;> (with_reducible rfl)
          try simp only [Act.put, List.setIfInBounds_toArray, List.set_cons_zero, List.set_cons_succ]
          refine wpAnyH_take (i := 11) (oi := ⟨some 22, _, _, _, _, _⟩) (v := ?_) rfl (by kernel_rfl) (by kernel_rfl) (by kernel_rfl) (fun _ _ _ h => h) (Or.inl ⟨by rfl, ?_⟩) (by assumption) ?_
          rotate_left 1
          · (intro w hSw; (try dsimp only at hSw); go_simp) <;> (with_reducible rfl)
          try simp only [Act.put, List.setIfInBounds_toArray, List.set_cons_zero, List.set_cons_succ]
          refine wpAnyH_ready (rs := [12]) (by kernel_rfl) (by simp) ?_
          refine AllReadyH.cons (o := ⟨none, _, _, _, _, _⟩) rfl (fun K hK => ?_) AllReadyH.nil
          go_simp
          clear hHeld
          refine hK.out _ _ ?_ (fun hHeld => ?_)
          · trivial
          clear hK K
          try simp only [Act.put, List.setIfInBounds_toArray, List.set_cons_zero, List.set_cons_succ]
          refine wpAnyH_done (by kernel_rfl) ?_ _
          have HZ := Lib.hid HS.out.2
          clear HS hHeld HF9
          go_wp2_with fail
          go_ret
          exact HPOST.out _ _ _ HZ.out.1 HZ.out.2
        · go_simp
          obtain ⟨w44, hw44⟩ : ∃ w44, w44 = w41.alloc (.cells #[.int .i64 p.src, .int .i64 p.dst, .int .u64 p.ep, .int .u64 p.pe, .int .u64 p.sq, .int .u64 p.ak, .slice p.d.1 p.d.2.2.length p.d.2.1] 35) := ⟨_, rfl⟩
          obtain ⟨b8, hb8⟩ : ∃ b8, b8 = w41.heap.size := ⟨_, rfl⟩
          have hfr : Fr NoBlk w41 w44 := by rw [hw44]; exact (Fr.refl _ _).alloc _
          have HFw44 : Hid (Fr NoBlk w5 w44) := HFw41.out.trans hfr
          have HPw44 : Hid (Rd w44 (some ⟨b8, 0, none⟩) (pcc p)) := by show Rd _ _ _; rw [hw44, hb8]; exact Rd.of_cells (Bk.new w41 _ (pca p))
          have HBw44 : Hid (b8 < w44.heap.size) := by show _ < _; rw [hw44, hb8]; simp
          have HEw44 : Hid (w44.ownsRow w5.heap.size 35 7 (.slice (some ⟨e1, 0, none⟩) 0 0) 0 []) := own_fr HEw41.out hfr (fun _ _ h => h)
          have HLw44 : Hid (e1 < w44.heap.size) := Nat.lt_of_lt_of_le HLw41.out hfr.size
          have HNE : Hid (e1 ≠ b8) := by have := HLw41.out; show _ ≠ _; omega
          rw [← hw44, ← hb8]
          clear hw44 hfr hb8
          clear hHeld
          refine hK.out _ _ ?_ (fun hHeld => ?_)
          · trivial
          clear hK K
          try simp only [Act.put, List.setIfInBounds_toArray, List.set_cons_zero, List.set_cons_succ]
          refine wpAnyH_ready (rs := [6]) (by kernel_rfl) (by simp) ?_
          refine AllReadyH.cons (o := ⟨some 17, _, _, _, _, _⟩) rfl (fun K hK => ?_) AllReadyH.nil
          refine step_appN rfl _ _ 27 rfl w5.heap.size 35 i0 _ 7 72 Try.underlying27 hi hz0 hz1 hz2 rfl (by decide) (.slice (some ⟨e1, 0, none⟩) 0 0) 0 [] rfl HEw44.out a c qs.length (pcsc qs) rfl (pcsc_len qs) (Rd.of_ownN (HL5.out.nofr HFw44.out).own) (pcsc_one qs) (own_lens HL5.out.own).2.2 ?q1 ?q2 HFw44.out.size ?_
          case q1 => have := HL5.out.few; unfold maxLen; omega
          case q2 => have := HL5.out.few; omega
          intro v6 w45 ho6 hg6 hb6
          simp only [Nat.zero_add, List.nil_append] at ho6
          obtain ⟨A6, c6, rfl, _, _⟩ := own_form ho6
          have HOw45 : Hid (w45.ownsRow w5.heap.size 35 7 (.slice A6 qs.length c6) qs.length (pcsc qs)) := ho6
          have HFw45 : Hid (Fr NoBlk w5 w45) := HFw44.out.grown hg6 (fun k hk hlt => by have := (own_blk HEw44.out hk).1; omega)
          have HPw45 : Hid (Rd w45 (some ⟨b8, 0, none⟩) (pcc p)) := rd_grown HPw44.out hg6 HNE.out
          have HBw45 : Hid (b8 < w45.heap.size) := Nat.lt_of_lt_of_le HBw44.out hg6.size
          try dsimp only
          clear ho6 hg6 hb6
          clear hHeld
          refine hK.out _ _ ?_ (fun hHeld => ?_)
          · trivial
          clear hK K
          try simp only [Act.put, List.setIfInBounds_toArray, List.set_cons_zero, List.set_cons_succ]
          refine wpAnyH_ready (rs := [9]) (by kernel_rfl) (by simp) ?_
          refine AllReadyH.cons (o := ⟨some 20, _, _, _, _, _⟩) rfl (fun K hK => ?_) AllReadyH.nil
          refine step_appN rfl _ _ 27 rfl w5.heap.size 35 i0 _ 7 72 Try.underlying27 hi hz0 hz1 hz2 rfl (by decide) (.slice A6 qs.length c6) qs.length (pcsc qs) rfl HOw45.out (some ⟨b8, 0, none⟩) 1 1 (pcc p) rfl rfl HPw45.out (fun y hy => pcsc_one [p] y (by simpa [pcsc] using hy)) (fun h => by cases h) ?q1 ?q2 HFw45.out.size ?_
          case q1 => have := HL5.out.few; unfold maxLen; omega
          case q2 => have := HL5.out.few; omega
          intro v9 w9 ho9 hg9 hb9
          obtain ⟨A9, c9, rfl, _, _⟩ := own_form ho9
          have HF9 : Hid (Fr NoBlk w5 w9) := HFw45.out.grown hg9 (fun k hk hlt => by have := (own_blk HOw45.out hk).1; omega)
          have HS := Lib.hid (HL5.out.put HF9.out (q := p) (n' := qs.length + 1) (ps := qs ++ [p]) (by simp) (by rw [pcsc_append, show pcsc [p] = pcc p by simp [pcsc]]; exact ho9) (fun x hx => by rcases List.mem_append.1 hx with hx | hx; exact .inl hx; exact .inr (List.mem_singleton.1 hx)) HPI.out HFEW.out)
          have oN : w9.cell? ⟨m, 0, none⟩ = some (.slice a qs.length c) := HS.out.1.cell 0
          have fN := HS.out.1.free 0
          clear ho9 hg9 hb9
          clear hHeld
          refine hK.out _ _ ?_ (fun hHeld => ?_)
          · trivial
          clear hK K
          try simp only [Act.put, List.setIfInBounds_toArray, List.set_cons_zero, List.set_cons_succ]
          refine wpAnyH_take (i := 10) (oi := ⟨some 21, _, _, _, _, _⟩) (v := ?_) rfl (by kernel_rfl) (by kernel_rfl) (by kernel_rfl) (fun _ _ _ h => h) (Or.inl ⟨by rfl, ?_⟩) (by assumption) ?_
          rotate_left 1
          · (intro w hSw; (try dsimp only at hSw); go_simp) <;> (with_reducible rfl)
          try simp only [Act.put, List.setIfInBounds_toArray, List.set_cons_zero, List.set_cons_succ]
          refine wpAnyH_take (i := 11) (oi := ⟨some 22, _, _, _, _, _⟩) (v := ?_) rfl (by kernel_rfl) (by kernel_rfl) (by kernel_rfl) (fun _ _ _ h => h) (Or.inl ⟨by rfl, ?_⟩) (by assumption) ?_
          rotate_left 1
          · (intro w hSw; (try dsimp only at hSw); go_simp) <;> (with_reducible rfl)
          try simp only [Act.put, List.setIfInBounds_toArray, List.set_cons_zero, List.set_cons_succ]
          refine wpAnyH_ready (rs := [12]) (by kernel_rfl) (by simp) ?_
          refine AllReadyH.cons (o := ⟨none, _, _, _, _, _⟩) rfl (fun K hK => ?_) AllReadyH.nil
          go_simp
          clear hHeld
          refine hK.out _ _ ?_ (fun hHeld => ?_)
          · trivial
          clear hK K
          try simp only [Act.put, List.setIfInBounds_toArray, List.set_cons_zero, List.set_cons_succ]
          refine wpAnyH_done (by kernel_rfl) ?_ _
          have HZ := Lib.hid HS.out.2
          clear HS hHeld HF9
          go_wp2_with fail
          go_ret
          exact HPOST.out _ _ _ HZ.out.1 HZ.out.2
      · go_simp
        obtain ⟨w46, hw46⟩ : ∃ w46, w46 = w6.alloc (.cells #[.int .i64 p.src, .int .i64 p.dst, .int .u64 p.ep, .int .u64 p.pe, .int .u64 p.sq, .int .u64 p.ak, .slice p.d.1 p.d.2.2.length p.d.2.1] 35) := ⟨_, rfl⟩
        obtain ⟨b8, hb8⟩ : ∃ b8, b8 = w6.heap.size := ⟨_, rfl⟩
        have hfr : Fr NoBlk w6 w46 := by rw [hw46]; exact (Fr.refl _ _).alloc _
        have HFw46 : Hid (Fr NoBlk w5 w46) := HFw6.out.trans hfr
        have HPw46 : Hid (Rd w46 (some ⟨b8, 0, none⟩) (pcc p)) := by show Rd _ _ _; rw [hw46, hb8]; exact Rd.of_cells (Bk.new w6 _ (pca p))
        have HBw46 : Hid (b8 < w46.heap.size) := by show _ < _; rw [hw46, hb8]; simp
        rw [← hw46, ← hb8]
        clear hw46 hfr hb8
        clear hHeld
        refine hK.out _ _ ?_ (fun hHeld => ?_)
        · trivial
        clear hK K
        try simp only [Act.put, List.setIfInBounds_toArray, List.set_cons_zero, List.set_cons_succ]
        refine wpAnyH_ready (rs := [1]) (by kernel_rfl) (by simp) ?_
        refine AllReadyH.cons (o := ⟨some 12, _, _, _, _, _⟩) rfl (fun K hK => ?_) AllReadyH.nil
        go_simp
        obtain ⟨w47, hw47⟩ : ∃ w47, w47 = w46.alloc (.cells #[] 35) := ⟨_, rfl⟩
        obtain ⟨e1, he1⟩ : ∃ e1, e1 = w46.heap.size := ⟨_, rfl⟩
        have hfr : Fr NoBlk w46 w47 := by rw [hw47]; exact (Fr.refl _ _).alloc _
        have HFw47 : Hid (Fr NoBlk w5 w47) := HFw46.out.trans hfr
        have HEw47 : Hid (w47.ownsRow w5.heap.size 35 7 (.slice (some ⟨e1, 0, none⟩) 0 0) 0 []) := by show World.ownsRow _ _ _ _ _ _ _; rw [hw47, he1]; exact own_base (World.ownsRow_made w46 #[] 0 (Nat.le_refl _) (by decide) rfl) HFw46.out.size
        have HLw47 : Hid (e1 < w47.heap.size) := by show _ < _; rw [hw47, he1]; simp
        have HPw47 : Hid (Rd w47 (some ⟨b8, 0, none⟩) (pcc p)) := HPw46.out.nofr hfr
        have HBw47 : Hid (b8 < w47.heap.size) := Nat.lt_of_lt_of_le HBw46.out hfr.size
        have HNE : Hid (e1 ≠ b8) := by have := HBw46.out; show _ ≠ _; omega
        rw [← hw47, ← he1]
        clear hw47 hfr he1
        clear hHeld
        refine hK.out _ _ ?_ (fun hHeld => ?_)
        · trivial
        clear hK K
        try simp only [Act.put, List.setIfInBounds_toArray, List.set_cons_zero, List.set_cons_succ]
        refine wpAnyH_ready (rs := [6]) (by kernel_rfl) (by simp) ?_
        refine AllReadyH.cons (o := ⟨some 17, _, _, _, _, _⟩) rfl (fun K hK => ?_) AllReadyH.nil
        refine step_appN rfl _ _ 27 rfl w5.heap.size 35 i0 _ 7 72 Try.underlying27 hi hz0 hz1 hz2 rfl (by decide) (.slice (some ⟨e1, 0, none⟩) 0 0) 0 [] rfl HEw47.out a c qs.length (pcsc qs) rfl (pcsc_len qs) (Rd.of_ownN (HL5.out.nofr HFw47.out).own) (pcsc_one qs) (own_lens HL5.out.own).2.2 ?q1 ?q2 HFw47.out.size ?_
        case q1 => have := HL5.out.few; unfold maxLen; omega
        case q2 => have := HL5.out.few; omega
        intro v6 w48 ho6 hg6 hb6
        simp only [Nat.zero_add, List.nil_append] at ho6
        obtain ⟨A6, c6, rfl, _, _⟩ := own_form ho6
        have HOw48 : Hid (w48.ownsRow w5.heap.size 35 7 (.slice A6 qs.length c6) qs.length (pcsc qs)) := ho6
        have HFw48 : Hid (Fr NoBlk w5 w48) := HFw47.out.grown hg6 (fun k hk hlt => by have := (own_blk HEw47.out hk).1; omega)
        have HPw48 : Hid (Rd w48 (some ⟨b8, 0, none⟩) (pcc p)) := rd_grown HPw47.out hg6 HNE.out
        have HBw48 : Hid (b8 < w48.heap.size) := Nat.lt_of_lt_of_le HBw47.out hg6.size
        try dsimp only
        clear ho6 hg6 hb6
        clear hHeld
        refine hK.out _ _ ?_ (fun hHeld => ?_)
        · trivial
        clear hK K
        try simp only [Act.put, List.setIfInBounds_toArray, List.set_cons_zero, List.set_cons_succ]
        refine wpAnyH_ready (rs := [9]) (by kernel_rfl) (by simp) ?_
        refine AllReadyH.cons (o := ⟨some 20, _, _, _, _, _⟩) rfl (fun K hK => ?_) AllReadyH.nil
        refine step_appN rfl _ _ 27 rfl w5.heap.size 35 i0 _ 7 72 Try.underlying27 hi hz0 hz1 hz2 rfl (by decide) (.slice A6 qs.length c6) qs.length (pcsc qs) rfl HOw48.out (some ⟨b8, 0, none⟩) 1 1 (pcc p) rfl rfl HPw48.out (fun y hy => pcsc_one [p] y (by simpa [pcsc] using hy)) (fun h => by cases h) ?q1 ?q2 HFw48.out.size ?_
        case q1 => have := HL5.out.few; unfold maxLen; omega
        case q2 => have := HL5.out.few; omega
        intro v9 w9 ho9 hg9 hb9
        obtain ⟨A9, c9, rfl, _, _⟩ := own_form ho9
        have HF9 : Hid (Fr NoBlk w5 w9) := HFw48.out.grown hg9 (fun k hk hlt => by have := (own_blk HOw48.out hk).1; omega)
        have HS := Lib.hid (HL5.out.put HF9.out (q := p) (n' := qs.length + 1) (ps := qs ++ [p]) (by simp) (by rw [pcsc_append, show pcsc [p] = pcc p by simp [pcsc]]; exact ho9) (fun x hx => by rcases List.mem_append.1 hx with hx | hx; exact .inl hx; exact .inr (List.mem_singleton.1 hx)) HPI.out HFEW.out)
        have oN : w9.cell? ⟨m, 0, none⟩ = some (.slice a qs.length c) := HS.out.1.cell 0
        have fN := HS.out.1.free 0
        clear ho9 hg9 hb9
        clear hHeld
        refine hK.out _ _ ?_ (fun hHeld => ?_)
        · trivial
        clear hK K
        try simp only [Act.put, List.setIfInBounds_toArray, List.set_cons_zero, List.set_cons_succ]
        refine wpAnyH_take (i := 10) (oi := ⟨some 21, _, _, _, _, _⟩) (v := ?_) rfl (by kernel_rfl) (by kernel_rfl) (by kernel_rfl) (fun _ _ _ h => h) (Or.inl ⟨by rfl, ?_⟩) (by assumption) ?_
        rotate_left 1
        · (intro w hSw; (try dsimp only at hSw); go_simp) <;> (with_reducible rfl)
        try simp only [Act.put, List.setIfInBounds_toArray, List.set_cons_zero, List.set_cons_succ]
        refine wpAnyH_take (i := 11) (oi := ⟨some 22, _, _, _, _, _⟩) (v := ?_) rfl (by kernel_rfl) (by kernel_rfl) (by kernel_rfl) (fun _ _ _ h => h) (Or.inl ⟨by rfl, ?_⟩) (by assumption) ?_
        rotate_left 1
        · (intro w hSw; (try dsimp only at hSw); go_simp) <;> (with_reducible rfl)
        try simp only [Act.put, List.setIfInBounds_toArray, List.set_cons_zero, List.set_cons_succ]
        refine wpAnyH_ready (rs := [12]) (by kernel_rfl) (by simp) ?_
        refine AllReadyH.cons (o := ⟨none, _, _, _, _, _⟩) rfl (fun K hK => ?_) AllReadyH.nil
        go_simp
        clear hHeld
        refine hK.out _ _ ?_ (fun hHeld => ?_)
        · trivial
        clear hK K
        try simp only [Act.put, List.setIfInBounds_toArray, List.set_cons_zero, List.set_cons_succ]
        refine wpAnyH_done (by kernel_rfl) ?_ _
        have HZ := Lib.hid HS.out.2
        clear HS hHeld HF9
        go_wp2_with fail
        go_ret
        exact HPOST.out _ _ _ HZ.out.1 HZ.out.2
  · obtain ⟨s0, s1, s2, s3, s4, s5, s6⟩ := HSP.out _ HFw6.out
    go_simp
    clear s0 s1 s2 s3 s4 s5 s6
    clear hHeld
    refine hK.out _ _ ?_ (fun hHeld => ?_)
    · trivial
    clear hK K
    try simp only [Act.put, List.setIfInBounds_toArray, List.set_cons_zero, List.set_cons_succ]
    refine wpAnyH_ready (rs := [1, 5, 8]) (by kernel_rfl) (by simp) ?_
    refine AllReadyH.cons (o := ⟨some 12, _, _, _, _, _⟩) rfl (fun K hK => ?_) (AllReadyH.cons (o := ⟨some 16, _, _, _, _, _⟩) rfl (fun K hK => ?_) (AllReadyH.cons (o := ⟨some 19, _, _, _, _, _⟩) rfl (fun K hK => ?_) AllReadyH.nil))
    · go_simp
      obtain ⟨w49, hw49⟩ : ∃ w49, w49 = w6.alloc (.cells #[] 35) := ⟨_, rfl⟩
      obtain ⟨e1, he1⟩ : ∃ e1, e1 = w6.heap.size := ⟨_, rfl⟩
      have hfr : Fr NoBlk w6 w49 := by rw [hw49]; exact (Fr.refl _ _).alloc _
      have HFw49 : Hid (Fr NoBlk w5 w49) := HFw6.out.trans hfr
      have HEw49 : Hid (w49.ownsRow w5.heap.size 35 7 (.slice (some ⟨e1, 0, none⟩) 0 0) 0 []) := by show World.ownsRow _ _ _ _ _ _ _; rw [hw49, he1]; exact own_base (World.ownsRow_made w6 #[] 0 (Nat.le_refl _) (by decide) rfl) HFw6.out.size
      have HLw49 : Hid (e1 < w49.heap.size) := by show _ < _; rw [hw49, he1]; simp
      rw [← hw49, ← he1]
      clear hw49 hfr he1
      clear hHeld
      refine hK.out _ _ ?_ (fun hHeld => ?_)
      · trivial
      clear hK K
      try simp only [Act.put, List.setIfInBounds_toArray, List.set_cons_zero, List.set_cons_succ]
      refine wpAnyH_ready (rs := [5, 8]) (by kernel_rfl) (by simp) ?_
      refine AllReadyH.cons (o := ⟨some 16, _, _, _, _, _⟩) rfl (fun K hK => ?_) (AllReadyH.cons (o := ⟨some 19, _, _, _, _, _⟩) rfl (fun K hK => ?_) AllReadyH.nil)
      · have oN : w49.cell? ⟨m, 0, none⟩ = some (.slice a qs.length c) := (HL5.out.nofr HFw49.out).bk.cell 0
        go_simp
        clear oN
        clear hHeld
        refine hK.out _ _ ?_ (fun hHeld => ?_)
        · trivial
        clear hK K
        try simp only [Act.put, List.setIfInBounds_toArray, List.set_cons_zero, List.set_cons_succ]
        refine wpAnyH_ready (rs := [6, 8]) (by kernel_rfl) (by simp) ?_
        refine AllReadyH.cons (o := ⟨some 17, _, _, _, _, _⟩) rfl (fun K hK => ?_) (AllReadyH.cons (o := ⟨some 19, _, _, _, _, _⟩) rfl (fun K hK => ?_) AllReadyH.nil)
        · refine step_appN rfl _ _ 27 rfl w5.heap.size 35 i0 _ 7 72 Try.underlying27 hi hz0 hz1 hz2 rfl (by decide) (.slice (some ⟨e1, 0, none⟩) 0 0) 0 [] rfl HEw49.out a c qs.length (pcsc qs) rfl (pcsc_len qs) (Rd.of_ownN (HL5.out.nofr HFw49.out).own) (pcsc_one qs) (own_lens HL5.out.own).2.2 ?q1 ?q2 HFw49.out.size ?_
          case q1 => have := HL5.out.few; unfold maxLen; omega
          case q2 => have := HL5.out.few; omega
          intro v6 w50 ho6 hg6 hb6
          simp only [Nat.zero_add, List.nil_append] at ho6
          obtain ⟨A6, c6, rfl, _, _⟩ := own_form ho6
          have HOw50 : Hid (w50.ownsRow w5.heap.size 35 7 (.slice A6 qs.length c6) qs.length (pcsc qs)) := ho6
          have HFw50 : Hid (Fr NoBlk w5 w50) := HFw49.out.grown hg6 (fun k hk hlt => by have := (own_blk HEw49.out hk).1; omega)
          try dsimp only
          clear ho6 hg6 hb6
          clear hHeld
          refine hK.out _ _ ?_ (fun hHeld => ?_)
          · trivial
          clear hK K
          try simp only [Act.put, List.setIfInBounds_toArray, List.set_cons_zero, List.set_cons_succ]
          refine wpAnyH_ready (rs := [8]) (by kernel_rfl) (by simp) ?_
          refine AllReadyH.cons (o := ⟨some 19, _, _, _, _, _⟩) rfl (fun K hK => ?_) AllReadyH.nil
          go_simp
          obtain ⟨w51, hw51⟩ : ∃ w51, w51 = w50.alloc (.cells #[.int .i64 p.src, .int .i64 p.dst, .int .u64 p.ep, .int .u64 p.pe, .int .u64 p.sq, .int .u64 p.ak, .slice p.d.1 p.d.2.2.length p.d.2.1] 35) := ⟨_, rfl⟩
          obtain ⟨b8, hb8⟩ : ∃ b8, b8 = w50.heap.size := ⟨_, rfl⟩
          have hfr : Fr NoBlk w50 w51 := by rw [hw51]; exact (Fr.refl _ _).alloc _
          have HFw51 : Hid (Fr NoBlk w5 w51) := HFw50.out.trans hfr
          have HPw51 : Hid (Rd w51 (some ⟨b8, 0, none⟩) (pcc p)) := by show Rd _ _ _; rw [hw51, hb8]; exact Rd.of_cells (Bk.new w50 _ (pca p))
          have HBw51 : Hid (b8 < w51.heap.size) := by show _ < _; rw [hw51, hb8]; simp
          have HOw51 : Hid (w51.ownsRow w5.heap.size 35 7 (.slice A6 qs.length c6) qs.length (pcsc qs)) := own_fr HOw50.out hfr (fun _ _ h => h)
          rw [← hw51, ← hb8]
          clear hw51 hfr hb8
          clear hHeld
          refine hK.out _ _ ?_ (fun hHeld => ?_)
          · trivial
          clear hK K
          try simp only [Act.put, List.setIfInBounds_toArray, List.set_cons_zero, List.set_cons_succ]
          refine wpAnyH_ready (rs := [9]) (by kernel_rfl) (by simp) ?_
          refine AllReadyH.cons (o := ⟨some 20, _, _, _, _, _⟩) rfl (fun K hK => ?_) AllReadyH.nil
          refine step_appN rfl _ _ 27 rfl w5.heap.size 35 i0 _ 7 72 Try.underlying27 hi hz0 hz1 hz2 rfl (by decide) (.slice A6 qs.length c6) qs.length (pcsc qs) rfl HOw51.out (some ⟨b8, 0, none⟩) 1 1 (pcc p) rfl rfl HPw51.out (fun y hy => pcsc_one [p] y (by simpa [pcsc] using hy)) (fun h => by cases h) ?q1 ?q2 HFw51.out.size ?_
          case q1 => have := HL5.out.few; unfold maxLen; omega
          case q2 => have := HL5.out.few; omega
          intro v9 w9 ho9 hg9 hb9
          obtain ⟨A9, c9, rfl, _, _⟩ := own_form ho9
          have HF9 : Hid (Fr NoBlk w5 w9) := HFw51.out.grown hg9 (fun k hk hlt => by have := (own_blk HOw51.out hk).1; omega)
          have HS := Lib.hid (HL5.out.put HF9.out (q := p) (n' := qs.length + 1) (ps := qs ++ [p]) (by simp) (by rw [pcsc_append, show pcsc [p] = pcc p by simp [pcsc]]; exact ho9) (fun x hx => by rcases List.mem_append.1 hx with hx | hx; exact .inl hx; exact .inr (List.mem_singleton.1 hx)) HPI.out HFEW.out)
          have oN : w9.cell? ⟨m, 0, none⟩ = some (.slice a qs.length c) := HS.out.1.cell 0
          have fN := HS.out.1.free 0
          clear ho9 hg9 hb9
          clear hHeld
          refine hK.out _ _ ?_ (fun hHeld => ?_)
          · trivial
          clear hK K
          try simp only [Act.put, List.setIfInBounds_toArray, List.set_cons_zero, List.set_cons_succ]
          refine wpAnyH_take (i := 10) (oi := ⟨some 21, _, _, _, _, _⟩) (v := ?_) rfl (by kernel_rfl) (by kernel_rfl) (by kernel_rfl) (fun _ _ _ h => h) (Or.inl ⟨by rfl, ?_⟩) (by assumption) ?_
          rotate_left 1
          · (intro w hSw; (try dsimp only at hSw); go_simp) <;> (with_reducible rfl)
          try simp only [Act.put, List.setIfInBounds_toArray, List.set_cons_zero, List.set_cons_succ]
          refine wpAnyH_take (i := 11) (oi := ⟨some 22, _, _, _, _, _⟩) (v := ?_) rfl (by kernel_rfl) (by kernel_rfl) (by kernel_rfl) (fun _ _ _ h => h) (Or.inl ⟨by rfl, ?_⟩) (by assumption) ?_
          rotate_left 1
          · (intro w hSw; (try dsimp only at hSw); go_simp) <;> (with_reducible rfl)
          try simp only [Act.put, List.setIfInBounds_toArray, List.set_cons_zero, List.set_cons_succ]
          refine wpAnyH_ready (rs := [12]) (by kernel_rfl) (by simp) ?_
          refine AllReadyH.cons (o := ⟨none, _, _, _, _, _⟩) rfl (fun K hK => ?_) AllReadyH.nil
          go_simp
          clear hHeld
          refine hK.out _ _ ?_ (fun hHeld => ?_)
          · trivial
          clear hK K
          try simp only [Act.put, List.setIfInBounds_toArray, List.set_cons_zero, List.set_cons_succ]
          refine wpAnyH_done (by kernel_rfl) ?_ _
          have HZ := Lib.hid HS.out.2
          clear HS hHeld HF9
          go_wp2_with fail
          go_ret
          exact HPOST.out _ _ _ HZ.out.1 HZ.out.2
        · go_simp
          obtain ⟨w52, hw52⟩ : ∃ w52, w52 = w49.alloc (.cells #[.int .i64 p.src, .int .i64 p.dst, .int .u64 p.ep, .int .u64 p.pe, .int .u64 p.sq, .int .u64 p.ak, .slice p.d.1 p.d.2.2.length p.d.2.1] 35) := ⟨_, rfl⟩
          obtain ⟨b8, hb8⟩ : ∃ b8, b8 = w49.heap.size := ⟨_, rfl⟩
          have hfr : Fr NoBlk w49 w52 := by rw [hw52]; exact (Fr.refl _ _).alloc _
          have HFw52 : Hid (Fr NoBlk w5 w52) := HFw49.out.trans hfr
          have HPw52 : Hid (Rd w52 (some ⟨b8, 0, none⟩) (pcc p)) := by show Rd _ _ _; rw [hw52, hb8]; exact Rd.of_cells (Bk.new w49 _ (pca p))
          have HBw52 : Hid (b8 < w52.heap.size) := by show _ < _; rw [hw52, hb8]; simp
          have HEw52 : Hid (w52.ownsRow w5.heap.size 35 7 (.slice (some ⟨e1, 0, none⟩) 0 0) 0 []) := own_fr HEw49.out hfr (fun _ _ h => h)
          have HLw52 : Hid (e1 < w52.heap.size) := Nat.lt_of_lt_of_le HLw49.out hfr.size
          have HNE : Hid (e1 ≠ b8) := by have := HLw49.out; show _ ≠ _; omega
          rw [← hw52, ← hb8]
          clear hw52 hfr hb8
          clear hHeld
          refine hK.out _ _ ?_ (fun hHeld => ?_)
          · trivial
          clear hK K
          try simp only [Act.put, List.setIfInBounds_toArray, List.set_cons_zero, List.set_cons_succ]
          refine wpAnyH_ready (rs := [6]) (by kernel_rfl) (by simp) ?_
          refine AllReadyH.cons (o := ⟨some 17, _, _, _, _, _⟩) rfl (fun K hK => ?_) AllReadyH.nil
          refine step_appN rfl _ _ 27 rfl w5.heap.size 35 i0 _ 7 72 Try.underlying27 hi hz0 hz1 hz2 rfl (by decide) (.slice (some ⟨e1, 0, none⟩) 0 0) 0 [] rfl HEw52.out a c qs.length (pcsc qs) rfl (pcsc_len qs) (Rd.of_ownN (HL5.out.nofr HFw52.out).own) (pcsc_one qs) (own_lens HL5.out.own).2.2 ?q1 ?q2 HFw52.out.size ?_
          case q1 => have := HL5.out.few; unfold maxLen; omega
          case q2 => have := HL5.out.few; omega
          intro v6 w53 ho6 hg6 hb6
          simp only [Nat.zero_add, List.nil_append] at ho6
          obtain ⟨A6, c6, rfl, _, _⟩ := own_form ho6
          have HOw53 : Hid (w53.ownsRow w5.heap.size 35 7 (.slice A6 qs.length c6) qs.length (pcsc qs)) := ho6
          have HFw53 : Hid (Fr NoBlk w5 w53) := HFw52.out.grown hg6 (fun k hk hlt => by have := (own_blk HEw52.out hk).1; omega)
          have HPw53 : Hid (Rd w53 (some ⟨b8, 0, none⟩) (pcc p)) := rd_grown HPw52.out hg6 HNE.out
          have HBw53 : Hid (b8 < w53.heap.size) := Nat.lt_of_lt_of_le HBw52.out hg6.size
          try dsimp only
          clear ho6 hg6 hb6
          clear hHeld
          refine hK.out _ _ ?_ (fun hHeld => ?_)
          · trivial
          clear hK K
          try simp only [Act.put, List.setIfInBounds_toArray, List.set_cons_zero, List.set_cons_succ]
          refine wpAnyH_ready (rs := [9]) (by kernel_rfl) (by simp) ?_
          refine AllReadyH.cons (o := ⟨some 20, _, _, _, _, _⟩) rfl (fun K hK => ?_) AllReadyH.nil
          refine step_appN rfl _ _ 27 rfl w5.heap.size 35 i0 _ 7 72 Try.underlying27 hi hz0 hz1 hz2 rfl (by decide) (.slice A6 qs.length c6) qs.length (pcsc qs) rfl HOw53.out (some ⟨b8, 0, none⟩) 1 1 (pcc p) rfl rfl HPw53.out (fun y hy => pcsc_one [p] y (by simpa [pcsc] using hy)) (fun h => by cases h) ?q1 ?q2 HFw53.out.size ?_
          case q1 => have := HL5.out.few; unfold maxLen; omega
          case q2 => have := HL5.out.few; omega
          intro v9 w9 ho9 hg9 hb9
          obtain ⟨A9, c9, rfl, _, _⟩ := own_form ho9
          have HF9 : Hid (Fr NoBlk w5 w9) := HFw53.out.grown hg9 (fun k hk hlt => by have := (own_blk HOw53.out hk).1; omega)
          have HS := Lib.hid (HL5.out.put HF9.out (q := p) (n' := qs.length + 1) (ps := qs ++ [p]) (by simp) (by rw [pcsc_append, show pcsc [p] = pcc p by simp [pcsc]]; exact ho9) (fun x hx => by rcases List.mem_append.1 hx with hx | hx; exact .inl hx; exact .inr (List.mem_singleton.1 hx)) HPI.out HFEW.out)
          have oN : w9.cell? ⟨m, 0, none⟩ = some (.slice a qs.length c) := HS.out.1.cell 0
          have fN := HS.out.1.free 0
          clear ho9 hg9 hb9
          clear hHeld
          refine hK.out _ _ ?_ (fun hHeld => ?_)
          · trivial
          clear hK K
          try simp only [Act.put, List.setIfInBounds_toArray, List.set_cons_zero, List.set_cons_succ]
          refine wpAnyH_take (i := 10) (oi := ⟨some 21, _, _, _, _, _⟩) (v := ?_) rfl (by kernel_rfl) (by kernel_rfl) (by kernel_rfl) (fun _ _ _ h => h) (Or.inl ⟨by rfl, ?_⟩) (by assumption) ?_
          rotate_left 1
          · (intro w hSw; (try dsimp only at hSw); go_simp) <;> (with_reducible rfl)
          try simp only [Act.put, List.setIfInBounds_toArray, List.set_cons_zero, List.set_cons_succ]
          refine wpAnyH_take (i := 11) (oi := ⟨some 22, _, _, _, _, _⟩) (v := ?_) rfl (by kernel_rfl) (by kernel_rfl) (by kernel_rfl) (fun _ _ _ h => h) (Or.inl ⟨by rfl, ?_⟩) (by assumption) ?_
          rotate_left 1
          · (intro w hSw; (try dsimp only at hSw); go_simp) <;> (with_reducible rfl)
          try simp only [Act.put, List.setIfInBounds_toArray, List.set_cons_zero, List.set_cons_succ]
          refine wpAnyH_ready (rs := [12]) (by kernel_rfl) (by simp) ?_
          refine AllReadyH.cons (o := ⟨none, _, _, _, _, _⟩) rfl (fun K hK => ?_) AllReadyH.nil
          go_simp
          clear hHeld
          refine hK.out _ _ ?_ (fun hHeld => ?_)
          · trivial
          clear hK K
          try simp only [Act.put, List.setIfInBounds_toArray, List.set_cons_zero, List.set_cons_succ]
          refine wpAnyH_done (by kernel_rfl) ?_ _
          have HZ := Lib.hid HS.out.2
          clear HS hHeld HF9
          go_wp2_with fail
          go_ret
          exact HPOST.out _ _ _ HZ.out.1 HZ.out.2
      · go_simp
        obtain ⟨w54, hw54⟩ : ∃ w54, w54 = w49.alloc (.cells #[.int .i64 p.src, .int .i64 p.dst, .int .u64 p.ep, .int .u64 p.pe, .int .u64 p.sq, .int .u64 p.ak, .slice p.d.1 p.d.2.2.length p.d.2.1] 35) := ⟨_, rfl⟩
        obtain ⟨b8, hb8⟩ : ∃ b8, b8 = w49.heap.size := ⟨_, rfl⟩
        have hfr : Fr NoBlk w49 w54 := by rw [hw54]; exact (Fr.refl _ _).alloc _
        have HFw54 : Hid (Fr NoBlk w5 w54) := HFw49.out.trans hfr
        have HPw54 : Hid (Rd w54 (some ⟨b8, 0, none⟩) (pcc p)) := by show Rd _ _ _; rw [hw54, hb8]; exact Rd.of_cells (Bk.new w49 _ (pca p))
        have HBw54 : Hid (b8 < w54.heap.size) := by show _ < _; rw [hw54, hb8]; simp
        have HEw54 : Hid (w54.ownsRow w5.heap.size 35 7 (.slice (some ⟨e1, 0, none⟩) 0 0) 0 []) := own_fr HEw49.out hfr (fun _ _ h => h)
        have HLw54 : Hid (e1 < w54.heap.size) := Nat.lt_of_lt_of_le HLw49.out hfr.size
        have HNE : Hid (e1 ≠ b8) := by have := HLw49.out; show _ ≠ _; omega
        rw [← hw54, ← hb8]
        clear hw54 hfr hb8
        clear hHeld
        refine hK.out _ _ ?_ (fun hHeld => ?_)
        · trivial
        clear hK K
        try simp only [Act.put, List.setIfInBounds_toArray, List.set_cons_zero, List.set_cons_succ]
        refine wpAnyH_ready (rs := [5]) (by kernel_rfl) (by simp) ?_
        refine AllReadyH.cons (o := ⟨some 16, _, _, _, _, _⟩) rfl (fun K hK => ?_) AllReadyH.nil
        have oN : w54.cell? ⟨m, 0, none⟩ = some (.slice a qs.length c) := (HL5.out.nofr HFw54.out).bk.cell 0
        go_simp
        clear oN
        clear hHeld
        refine hK.out _ _ ?_ (fun hHeld => ?_)
        · trivial
        clear hK K
        try simp only [Act.put, List.setIfInBounds_toArray, List.set_cons_zero, List.set_cons_succ]
        refine wpAnyH_ready (rs := [6]) (by kernel_rfl) (by simp) ?_
        refine AllReadyH.cons (o := ⟨some 17, _, _, _, _, _⟩) rfl (fun K hK => ?_) AllReadyH.nil
        refine step_appN rfl _ _ 27 rfl w5.heap.size 35 i0 _ 7 72 Try.underlying27 hi hz0 hz1 hz2 rfl (by decide) (.slice (some ⟨e1, 0, none⟩) 0 0) 0 [] rfl HEw54.out a c qs.length (pcsc qs) rfl (pcsc_len qs) (Rd.of_ownN (HL5.out.nofr HFw54.out).own) (pcsc_one qs) (own_lens HL5.out.own).2.2 ?q1 ?q2 HFw54.out.size ?_
        case q1 => have := HL5.out.few; unfold maxLen; omega
        case q2 => have := HL5.out.few; omega
        intro v6 w55 ho6 hg6 hb6
        simp only [Nat.zero_add, List.nil_append] at ho6
        obtain ⟨A6, c6, rfl, _, _⟩ := own_form ho6
        have HOw55 : Hid (w55.ownsRow w5.heap.size 35 7 (.slice A6 qs.length c6) qs.length (pcsc qs)) := ho6
        have HFw55 : Hid (Fr NoBlk w5 w55) := HFw54.out.grown hg6 (fun k hk hlt => by have := (own_blk HEw54.out hk).1; omega)
        have HPw55 : Hid (Rd w55 (some ⟨b8, 0, none⟩) (pcc p)) := rd_grown HPw54.out hg6 HNE.out
        have HBw55 : Hid (b8 < w55.heap.size) := Nat.lt_of_lt_of_le HBw54.out hg6.size
        try dsimp only
        clear ho6 hg6 hb6
        clear hHeld
        refine hK.out _ _ ?_ (fun hHeld => ?_)
        · trivial
        clear hK K
        try simp only [Act.put, List.setIfInBounds_toArray, List.set_cons_zero, List.set_cons_succ]
        refine wpAnyH_ready (rs := [9]) (by kernel_rfl) (by simp) ?_
        refine AllReadyH.cons (o := ⟨some 20, _, _, _, _, _⟩) rfl (fun K hK => ?_) AllReadyH.nil
        refine step_appN rfl _ _ 27 rfl w5.heap.size 35 i0 _ 7 72 Try.underlying27 hi hz0 hz1 hz2 rfl (by decide) (.slice A6 qs.length c6) qs.length (pcsc qs) rfl HOw55.out (some ⟨b8, 0, none⟩) 1 1 (pcc p) rfl rfl HPw55.out (fun y hy => pcsc_one [p] y (by simpa [pcsc] using hy)) (fun h => by cases h) ?q1 ?q2 HFw55.out.size ?_
        case q1 => have := HL5.out.few; unfold maxLen; omega
        case q2 => have := HL5.out.few; omega
        intro v9 w9 ho9 hg9 hb9
        obtain ⟨A9, c9, rfl, _, _⟩ := own_form ho9
        have HF9 : Hid (Fr NoBlk w5 w9) := HFw55.out.grown hg9 (fun k hk hlt => by have := (own_blk HOw55.out hk).1; omega)
        have HS := Lib.hid (HL5.out.put HF9.out (q := p) (n' := qs.length + 1) (ps := qs ++ [p]) (by simp) (by rw [pcsc_append, show pcsc [p] = pcc p by simp [pcsc]]; exact ho9) (fun x hx => by rcases List.mem_append.1 hx with hx | hx; exact .inl hx; exact .inr (List.mem_singleton.1 hx)) HPI.out HFEW.out)
        have oN : w9.cell? ⟨m, 0, none⟩ = some (.slice a qs.length c) := HS.out.1.cell 0
        have fN := HS.out.1.free 0
        clear ho9 hg9 hb9
        clear hHeld
        refine hK.out _ _ ?_ (fun hHeld => ?_)
        · trivial
        clear hK K
        try simp only [Act.put, List.setIfInBounds_toArray, List.set_cons_zero, List.set_cons_succ]
        refine wpAnyH_take (i := 10) (oi := ⟨some 21, _, _, _, _, _⟩) (v := ?_) rfl (by kernel_rfl) (by kernel_rfl) (by kernel_rfl) (fun _ _ _ h => h) (Or.inl ⟨by rfl, ?_⟩) (by assumption) ?_
        rotate_left 1
        · (intro w hSw; (try dsimp only at hSw); go_simp) <;> (with_reducible rfl)
        try simp only [Act.put, List.setIfInBounds_toArray, List.set_cons_zero, List.set_cons_succ]
        refine wpAnyH_take (i := 11) (oi := ⟨some 22, _, _, _, _, _⟩) (v := ?_) rfl (by kernel_rfl) (by kernel_rfl) (by kernel_rfl) (fun _ _ _ h => h) (Or.inl ⟨by rfl, ?_⟩) (by assumption) ?_
        rotate_left 1
        · (intro w hSw; (try dsimp only at hSw); go_simp) <;> (with_reducible rfl)
        try simp only [Act.put, List.setIfInBounds_toArray, List.set_cons_zero, List.set_cons_succ]
        refine wpAnyH_ready (rs := [12]) (by kernel_rfl) (by simp) ?_
        refine AllReadyH.cons (o := ⟨none, _, _, _, _, _⟩) rfl (fun K hK => ?_) AllReadyH.nil
        go_simp
        clear hHeld
        refine hK.out _ _ ?_ (fun hHeld => ?_)
        · trivial
        clear hK K
        try simp only [Act.put, List.setIfInBounds_toArray, List.set_cons_zero, List.set_cons_succ]
        refine wpAnyH_done (by kernel_rfl) ?_ _
        have HZ := Lib.hid HS.out.2
        clear HS hHeld HF9
        go_wp2_with fail
        go_ret
        exact HPOST.out _ _ _ HZ.out.1 HZ.out.2
    · have oN : w6.cell? ⟨m, 0, none⟩ = some (.slice a qs.length c) := (HL5.out.nofr HFw6.out).bk.cell 0
      go_simp
      clear oN
      clear hHeld
      refine hK.out _ _ ?_ (fun hHeld => ?_)
      · trivial
      clear hK K
      try simp only [Act.put, List.setIfInBounds_toArray, List.set_cons_zero, List.set_cons_succ]
      refine wpAnyH_ready (rs := [1, 8]) (by kernel_rfl) (by simp) ?_
      refine AllReadyH.cons (o := ⟨some 12, _, _, _, _, _⟩) rfl (fun K hK => ?_) (AllReadyH.cons (o := ⟨some 19, _, _, _, _, _⟩) rfl (fun K hK => ?_) AllReadyH.nil)
      · go_simp
        obtain ⟨w56, hw56⟩ : ∃ w56, w56 = w6.alloc (.cells #[] 35) := ⟨_, rfl⟩
        obtain ⟨e1, he1⟩ : ∃ e1, e1 = w6.heap.size := ⟨_, rfl⟩
        have hfr : Fr NoBlk w6 w56 := by rw [hw56]; exact (Fr.refl _ _).alloc _
        have HFw56 : Hid (Fr NoBlk w5 w56) := HFw6.out.trans hfr
        have HEw56 : Hid (w56.ownsRow w5.heap.size 35 7 (.slice (some ⟨e1, 0, none⟩) 0 0) 0 []) := by show World.ownsRow _ _ _ _ _ _ _; rw [hw56, he1]; exact own_base (World.ownsRow_made w6 #[] 0 (Nat.le_refl _) (by decide) rfl) HFw6.out.size
        have HLw56 : Hid (e1 < w56.heap.size) := by show _ < _; rw [hw56, he1]; simp
        rw [← hw56, ← he1]
        clear hw56 hfr he1
        clear hHeld
        refine hK.out _ _ ?_ (fun hHeld => ?_)
        · trivial
        clear hK K
        try simp only [Act.put, List.setIfInBounds_toArray, List.set_cons_zero, List.set_cons_succ]
        refine wpAnyH_ready (rs := [6, 8]) (by kernel_rfl) (by simp) ?_
        refine AllReadyH.cons (o := ⟨some 17, _, _, _, _, _⟩) rfl (fun K hK => ?_) (AllReadyH.cons (o := ⟨some 19, _, _, _, _, _⟩) rfl (fun K hK => ?_) AllReadyH.nil)
        · refine step_appN rfl _ _ 27 rfl w5.heap.size 35 i0 _ 7 72 Try.underlying27 hi hz0 hz1 hz2 rfl (by decide) (.slice (some ⟨e1, 0, none⟩) 0 0) 0 [] rfl HEw56.out a c qs.length (pcsc qs) rfl (pcsc_len qs) (Rd.of_ownN (HL5.out.nofr HFw56.out).own) (pcsc_one qs) (own_lens HL5.out.own).2.2 ?q1 ?q2 HFw56.out.size ?_
          case q1 => have := HL5.out.few; unfold maxLen; omega
          case q2 => have := HL5.out.few; omega
          intro v6 w57 ho6 hg6 hb6
          simp only [Nat.zero_add, List.nil_append] at ho6
          obtain ⟨A6, c6, rfl, _, _⟩ := own_form ho6
          have HOw57 : Hid (w57.ownsRow w5.heap.size 35 7 (.slice A6 qs.length c6) qs.length (pcsc qs)) := ho6
          have HFw57 : Hid (Fr NoBlk w5 w57) := HFw56.out.grown hg6 (fun k hk hlt => by have := (own_blk HEw56.out hk).1; omega)
          try dsimp only
          clear ho6 hg6 hb6
          clear hHeld
          refine hK.out _ _ ?_ (fun hHeld => ?_)
          · trivial
          clear hK K
          try simp only [Act.put, List.setIfInBounds_toArray, List.set_cons_zero, List.set_cons_succ]
          refine wpAnyH_ready (rs := [8]) (by kernel_rfl) (by simp) ?_
          refine AllReadyH.cons (o := ⟨some 19, _, _, _, _, _⟩) rfl (fun K hK => ?_) AllReadyH.nil
          go_simp
          obtain ⟨w58, hw58⟩ : ∃ w58, w58 = w57.alloc (.cells #[.int .i64 p.src, .int .i64 p.dst, .int .u64 p.ep, .int .u64 p.pe, .int .u64 p.sq, .int .u64 p.ak, .slice p.d.1 p.d.2.2.length p.d.2.1] 35) := ⟨_, rfl⟩
          obtain ⟨b8, hb8⟩ : ∃ b8, b8 = w57.heap.size := ⟨_, rfl⟩
          have hfr : Fr NoBlk w57 w58 := by rw [hw58]; exact (Fr.refl _ _).alloc _
          have HFw58 : Hid (Fr NoBlk w5 w58) := HFw57.out.trans hfr
          have HPw58 : Hid (Rd w58 (some ⟨b8, 0, none⟩) (pcc p)) := by show Rd _ _ _; rw [hw58, hb8]; exact Rd.of_cells (Bk.new w57 _ (pca p))
          have HBw58 : Hid (b8 < w58.heap.size) := by show _ < _; rw [hw58, hb8]; simp
          have HOw58 : Hid (w58.ownsRow w5.heap.size 35 7 (.slice A6 qs.length c6) qs.length (pcsc qs)) := own_fr HOw57.out hfr (fun _ _ h => h)
          rw [← hw58, ← hb8]
          clear hw58 hfr hb8
          clear hHeld
          refine hK.out _ _ ?_ (fun hHeld => ?_)
          · trivial
          clear hK K
          try simp only [Act.put, List.setIfInBounds_toArray, List.set_cons_zero, List.set_cons_succ]
          refine wpAnyH_ready (rs := [9]) (by kernel_rfl) (by simp) ?_
          refine AllReadyH.cons (o := ⟨some 20, _, _, _, _, _⟩) rfl (fun K hK => ?_) AllReadyH.nil
          refine step_appN rfl _ _ 27 rfl w5.heap.size 35 i0 _ 7 72 Try.underlying27 hi hz0 hz1 hz2 rfl (by decide) (.slice A6 qs.length c6) qs.length (pcsc qs) rfl HOw58.out (some ⟨b8, 0, none⟩) 1 1 (pcc p) rfl rfl HPw58.out (fun y hy => pcsc_one [p] y (by simpa [pcsc] using hy)) (fun h => by cases h) ?q1 ?q2 HFw58.out.size ?_
          case q1 => have := HL5.out.few; unfold maxLen; omega
          case q2 => have := HL5.out.few; omega
          intro v9 w9 ho9 hg9 hb9
          obtain ⟨A9, c9, rfl, _, _⟩ := own_form ho9
          have HF9 : Hid (Fr NoBlk w5 w9) := HFw58.out.grown hg9 (fun k hk hlt => by have := (own_blk HOw58.out hk).1; omega)
          have HS := Lib.hid (HL5.out.put HF9.out (q := p) (n' := qs.length + 1) (ps := qs ++ [p]) (by simp) (by rw [pcsc_append, show pcsc [p] = pcc p by simp [pcsc]]; exact ho9) (fun x hx => by rcases List.mem_append.1 hx with hx | hx; exact .inl hx; exact .inr (List.mem_singleton.1 hx)) HPI.out HFEW.out)
          have oN : w9.cell? ⟨m, 0, none⟩ = some (.slice a qs.length c) := HS.out.1.cell 0
          have fN := HS.out.1.free 0
          clear ho9 hg9 hb9
          clear hHeld
          refine hK.out _ _ ?_ (fun hHeld => ?_)
          · trivial
          clear hK K
          try simp only [Act.put, List.setIfInBounds_toArray, List.set_cons_zero, List.set_cons_succ]
          refine wpAnyH_take (i := 10) (oi := ⟨some 21, _, _, _, _, _⟩) (v := ?_) rfl (by kernel_rfl) (by kernel_rfl) (by kernel_rfl) (fun _ _ _ h => h) (Or.inl ⟨by rfl, ?_⟩) (by assumption) ?_
          rotate_left 1
          · (intro w hSw; (try dsimp only at hSw); go_simp) <;> (with_reducible rfl)
          try simp only [Act.put, List.setIfInBounds_toArray, List.set_cons_zero, List.set_cons_succ]
          refine wpAnyH_take (i := 11) (oi := ⟨some 22, _, _, _, _, _⟩) (v := ?_) rfl (by kernel_rfl) (by kernel_rfl) (by kernel_rfl) (fun _ _ _ h => h) (Or.inl ⟨by rfl, ?_⟩) (by assumption) ?_
          rotate_left 1
          · (intro w hSw; (try dsimp only at hSw); go_simp) <;> (with_reducible rfl)
          try simp only [Act.put, List.setIfInBounds_toArray, List.set_cons_zero, List.set_cons_succ]
          refine wpAnyH_ready (rs := [12]) (by kernel_rfl) (by simp) ?_
          refine AllReadyH.cons (o := ⟨none, _, _, _, _, _⟩) rfl (fun K hK => ?_) AllReadyH.nil
          go_simp
          clear hHeld
          refine hK.out _ _ ?_ (fun hHeld => ?_)
          · trivial
          clear hK K
          try simp only [Act.put, List.setIfInBounds_toArray, List.set_cons_zero, List.set_cons_succ]
          refine wpAnyH_done (by kernel_rfl) ?_ _
          have HZ := Lib.hid HS.out.2
          clear HS hHeld HF9
          go_wp2_with fail
          go_ret
          exact HPOST.out _ _ _ HZ.out.1 HZ.out.2
        · go_simp
          obtain ⟨w59, hw59⟩ : ∃ w59, w59 = w56.alloc (.cells #[.int .i64 p.src, .int .i64 p.dst, .int .u64 p.ep, .int .u64 p.pe, .int .u64 p.sq, .int .u64 p.ak, .slice p.d.1 p.d.2.2.length p.d.2.1] 35) := ⟨_, rfl⟩
          obtain ⟨b8, hb8⟩ : ∃ b8, b8 = w56.heap.size := ⟨_, rfl⟩
          have hfr : Fr NoBlk w56 w59 := by rw [hw59]; exact (Fr.refl _ _).alloc _
          have HFw59 : Hid (Fr NoBlk w5 w59) := HFw56.out.trans hfr
          have HPw59 : Hid (Rd w59 (some ⟨b8, 0, none⟩) (pcc p)) := by show Rd _ _ _; rw [hw59, hb8]; exact Rd.of_cells (Bk.new w56 _ (pca p))
          have HBw59 : Hid (b8 < w59.heap.size) := by show _ < _; rw [hw59, hb8]; simp
          have HEw59 : Hid (w59.ownsRow w5.heap.size 35 7 (.slice (some ⟨e1, 0, none⟩) 0 0) 0 []) := own_fr HEw56.out hfr (fun _ _ h => h)
          have HLw59 : Hid (e1 < w59.heap.size) := Nat.lt_of_lt_of_le HLw56.out hfr.size
          have HNE : Hid (e1 ≠ b8) := by have := HLw56.out; show _ ≠ _; omega
          rw [← hw59, ← hb8]
          clear hw59 hfr hb8
          clear hHeld
          refine hK.out _ _ ?_ (fun hHeld => ?_)
          · trivial
          clear hK K
          try simp only [Act.put, List.setIfInBounds_toArray, List.set_cons_zero, List.set_cons_succ]
          refine wpAnyH_ready (rs := [6]) (by kernel_rfl) (by simp) ?_
          refine AllReadyH.cons (o := ⟨some 17, _, _, _, _, _⟩) rfl (fun K hK => ?_) AllReadyH.nil
          refine step_appN rfl _ _ 27 rfl w5.heap.size 35 i0 _ 7 72 Try.underlying27 hi hz0 hz1 hz2 rfl (by decide) (.slice (some ⟨e1, 0, none⟩) 0 0) 0 [] rfl HEw59.out a c qs.length (pcsc qs) rfl (pcsc_len qs) (Rd.of_ownN (HL5.out.nofr HFw59.out).own) (pcsc_one qs) (own_lens HL5.out.own).2.2 ?q1 ?q2 HFw59.out.size ?_
          case q1 => have := HL5.out.few; unfold maxLen; omega
          case q2 => have := HL5.out.few; omega
          intro v6 w60 ho6 hg6 hb6
          simp only [Nat.zero_add, List.nil_append] at ho6
          obtain ⟨A6, c6, rfl, _, _⟩ := own_form ho6
          have HOw60 : Hid (w60.ownsRow w5.heap.size 35 7 (.slice A6 qs.length c6) qs.length (pcsc qs)) := ho6
          have HFw60 : Hid (Fr NoBlk w5 w60) := HFw59.out.grown hg6 (fun k hk hlt => by have := (own_blk HEw59.out hk).1; omega)
          have HPw60 : Hid (Rd w60 (some ⟨b8, 0, none⟩) (pcc p)) := rd_grown HPw59.out hg6 HNE.out
          have HBw60 : Hid (b8 < w60.heap.size) := Nat.lt_of_lt_of_le HBw59.out hg6.size
          try dsimp only
          clear ho6 hg6 hb6
          clear hHeld
          refine hK.out _ _ ?_ (fun hHeld => ?_)
          · trivial
          clear hK K
          try simp only [Act.put, List.setIfInBounds_toArray, List.set_cons_zero, List.set_cons_succ]
          refine wpAnyH_ready (rs := [9]) (by kernel_rfl) (by simp) ?_
          refine AllReadyH.cons (o := ⟨some 20, _, _, _, _, _⟩) rfl (fun K hK => ?_) AllReadyH.nil
          refine step_appN rfl _ _ 27 rfl w5.heap.size 35 i0 _ 7 72 Try.underlying27 hi hz0 hz1 hz2 rfl (by decide) (.slice A6 qs.length c6) qs.length (pcsc qs) rfl HOw60.out (some ⟨b8, 0, none⟩) 1 1 (pcc p) rfl rfl HPw60.out (fun y hy => pcsc_one [p] y (by simpa [pcsc] using hy)) (fun h => by cases h) ?q1 ?q2 HFw60.out.size ?_
          case q1 => have := HL5.out.few; unfold maxLen; omega
          case q2 => have := HL5.out.few; omega
          intro v9 w9 ho9 hg9 hb9
          obtain ⟨A9, c9, rfl, _, _⟩ := own_form ho9
          have HF9 : Hid (Fr NoBlk w5 w9) := HFw60.out.grown hg9 (fun k hk hlt => by have := (own_blk HOw60.out hk).1; omega)
          have HS := Lib.hid (HL5.out.put HF9.out (q := p) (n' := qs.length + 1) (ps := qs ++ [p]) (by simp) (by rw [pcsc_append, show pcsc [p] = pcc p by simp [pcsc]]; exact ho9) (fun x hx => by rcases List.mem_append.1 hx with hx | hx; exact .inl hx; exact .inr (List.mem_singleton.1 hx)) HPI.out HFEW.out)
          have oN : w9.cell? ⟨m, 0, none⟩ = some (.slice a qs.length c) := HS.out.1.cell 0
          have fN := HS.out.1.free 0
          clear ho9 hg9 hb9
          clear hHeld
          refine hK.out _ _ ?_ (fun hHeld => ?_)
          · trivial
          clear hK K
          try simp only [Act.put, List.setIfInBounds_toArray, List.set_cons_zero, List.set_cons_succ]
          refine wpAnyH_take (i := 10) (oi := ⟨some 21, _, _, _, _, _⟩) (v := ?_) rfl (by kernel_rfl) (by kernel_rfl) (by kernel_rfl) (fun _ _ _ h => h) (Or.inl ⟨by rfl, ?_⟩) (by assumption) ?_
          rotate_left 1
          · (intro w hSw; (try dsimp only at hSw); go_simp) <;> (with_reducible rfl)
          try simp only [Act.put, List.setIfInBounds_toArray, List.set_cons_zero, List.set_cons_succ]
          refine wpAnyH_take (i := 11) (oi := ⟨some 22, _, _, _, _, _⟩) (v := ?_) rfl (by kernel_rfl) (by kernel_rfl) (by kernel_rfl) (fun _ _ _ h => h) (Or.inl ⟨by rfl, ?_⟩) (by assumption) ?_
          rotate_left 1
          · (intro w hSw; (try dsimp only at hSw); go_simp) <;> (with_reducible rfl)
          try simp only [Act.put, List.setIfInBounds_toArray, List.set_cons_zero, List.set_cons_succ]
          refine wpAnyH_ready (rs := [12]) (by kernel_rfl) (by simp) ?_
          refine AllReadyH.cons (o := ⟨none, _, _, _, _, _⟩) rfl (fun K hK => ?_) AllReadyH.nil
          go_simp
          clear hHeld
          refine hK.out _ _ ?_ (fun hHeld => ?_)
          · trivial
          clear hK K
          try simp only [Act.put, List.setIfInBounds_toArray, List.set_cons_zero, List.set_cons_succ]
          refine wpAnyH_done (by kernel_rfl) ?_ _
          have HZ := Lib.hid HS.out.2
          clear HS hHeld HF9
          go_wp2_with fail
          go_ret
          exact HPOST.out _ _ _ HZ.out.1 HZ.out.2
      · go_simp
        obtain ⟨w61, hw61⟩ : ∃ w61, w61 = w6.alloc (.cells #[.int .i64 p.src, .int .i64 p.dst, .int .u64 p.ep, .int .u64 p.pe, .int .u64 p.sq, .int .u64 p.ak, .slice p.d.1 p.d.2.2.length p.d.2.1] 35) := ⟨_, rfl⟩
        obtain ⟨b8, hb8⟩ : ∃ b8, b8 = w6.heap.size := ⟨_, rfl⟩
        have hfr : Fr NoBlk w6 w61 := by rw [hw61]; exact (Fr.refl _ _).alloc _
        have HFw61 : Hid (Fr NoBlk w5 w61) := HFw6.out.trans hfr
        have HPw61 : Hid (Rd w61 (some ⟨b8, 0, none⟩) (pcc p)) := by show Rd _ _ _; rw [hw61, hb8]; exact Rd.of_cells (Bk.new w6 _ (pca p))
        have HBw61 : Hid (b8 < w61.heap.size) := by show _ < _; rw [hw61, hb8]; simp
        rw [← hw61, ← hb8]
        clear hw61 hfr hb8
        clear hHeld
        refine hK.out _ _ ?_ (fun hHeld => ?_)
        · trivial
        clear hK K
        try simp only [Act.put, List.setIfInBounds_toArray, List.set_cons_zero, List.set_cons_succ]
        refine wpAnyH_ready (rs := [1]) (by kernel_rfl) (by simp) ?_
        refine AllReadyH.cons (o := ⟨some 12, _, _, _, _, _⟩) rfl (fun K hK => ?_) AllReadyH.nil
        go_simp
        obtain ⟨w62, hw62⟩ : ∃ w62, w62 = w61.alloc (.cells #[] 35) := ⟨_, rfl⟩
        obtain ⟨e1, he1⟩ : ∃ e1, e1 = w61.heap.size := ⟨_, rfl⟩
        have hfr : Fr NoBlk w61 w62 := by rw [hw62]; exact (Fr.refl _ _).alloc _
        have HFw62 : Hid (Fr NoBlk w5 w62) := HFw61.out.trans hfr
        have HEw62 : Hid (w62.ownsRow w5.heap.size 35 7 (.slice (some ⟨e1, 0, none⟩) 0 0) 0 []) := by show World.ownsRow _ _ _ _ _ _ _; rw [hw62, he1]; exact own_base (World.ownsRow_made w61 #[] 0 (Nat.le_refl _) (by decide) rfl) HFw61.out.size
        have HLw62 : Hid (e1 < w62.heap.size) := by show _ < _; rw [hw62, he1]; simp
        have HPw62 : Hid (Rd w62 (some ⟨b8, 0, none⟩) (pcc p)) := HPw61.out.nofr hfr
        have HBw62 : Hid (b8 < w62.heap.size) := Nat.lt_of_lt_of_le HBw61.out hfr.size
        have HNE : Hid (e1 ≠ b8) := by have := HBw61.out; show _ ≠ _; omega
        rw [← hw62, ← he1]
        clear hw62 hfr he1
        clear hHeld
        refine hK.out _ _ ?_ (fun hHeld => ?_)
        · trivial
        clear hK K
        try simp only [Act.put, List.setIfInBounds_toArray, List.set_cons_zero, List.set_cons_succ]
        refine wpAnyH_ready (rs := [6]) (by kernel_rfl) (by simp) ?_
        refine AllReadyH.cons (o := ⟨some 17, _, _, _, _, _⟩) rfl (fun K hK => ?_) AllReadyH.nil
        refine step_appN rfl _ _ 27 rfl w5.heap.size 35 i0 _ 7 72 Try.underlying27 hi hz0 hz1 hz2 rfl (by decide) (.slice (some ⟨e1, 0, none⟩) 0 0) 0 [] rfl HEw62.out a c qs.length (pcsc qs) rfl (pcsc_len qs) (Rd.of_ownN (HL5.out.nofr HFw62.out).own) (pcsc_one qs) (own_lens HL5.out.own).2.2 ?q1 ?q2 HFw62.out.size ?_
        case q1 => have := HL5.out.few; unfold maxLen; omega
        case q2 => have := HL5.out.few; omega
        intro v6 w63 ho6 hg6 hb6
        simp only [Nat.zero_add, List.nil_append] at ho6
        obtain ⟨A6, c6, rfl, _, _⟩ := own_form ho6
        have HOw63 : Hid (w63.ownsRow w5.heap.size 35 7 (.slice A6 qs.length c6) qs.length (pcsc qs)) := ho6
        have HFw63 : Hid (Fr NoBlk w5 w63) := HFw62.out.grown hg6 (fun k hk hlt => by have := (own_blk HEw62.out hk).1; omega)
        have HPw63 : Hid (Rd w63 (some ⟨b8, 0, none⟩) (pcc p)) := rd_grown HPw62.out hg6 HNE.out
        have HBw63 : Hid (b8 < w63.heap.size) := Nat.lt_of_lt_of_le HBw62.out hg6.size
        try dsimp only
        clear ho6 hg6 hb6
        clear hHeld
        refine hK.out _ _ ?_ (fun hHeld => ?_)
        · trivial
        clear hK K
        try simp only [Act.put, List.setIfInBounds_toArray, List.set_cons_zero, List.set_cons_succ]
        refine wpAnyH_ready (rs := [9]) (by kernel_rfl) (by simp) ?_
        refine AllReadyH.cons (o := ⟨some 20, _, _, _, _, _⟩) rfl (fun K hK => ?_) AllReadyH.nil
        refine step_appN rfl _ _ 27 rfl w5.heap.size 35 i0 _ 7 72 Try.underlying27 hi hz0 hz1 hz2 rfl (by decide) (.slice A6 qs.length c6) qs.length (pcsc qs) rfl HOw63.out (some ⟨b8, 0, none⟩) 1 1 (pcc p) rfl rfl HPw63.out (fun y hy => pcsc_one [p] y (by simpa [pcsc] using hy)) (fun h => by cases h) ?q1 ?q2 HFw63.out.size ?_
        case q1 => have := HL5.out.few; unfold maxLen; omega
        case q2 => have := HL5.out.few; omega
        intro v9 w9 ho9 hg9 hb9
        obtain ⟨A9, c9, rfl, _, _⟩ := own_form ho9
        have HF9 : Hid (Fr NoBlk w5 w9) := HFw63.out.grown hg9 (fun k hk hlt => by have := (own_blk HOw63.out hk).1; omega)
        have HS := Lib.hid (HL5.out.put HF9.out (q := p) (n' := qs.length + 1) (ps := qs ++ [p]) (by simp) (by rw [pcsc_append, show pcsc [p] = pcc p by simp [pcsc]]; exact ho9) (fun x hx => by rcases List.mem_append.1 hx with hx | hx; exact .inl hx; exact .inr (List.mem_singleton.1 hx)) HPI.out HFEW.out)
        have oN : w9.cell? ⟨m, 0, none⟩ = some (.slice a qs.length c) := HS.out.1.cell 0
        have fN := HS.out.1.free 0
        clear ho9 hg9 hb9
        clear hHeld
        refine hK.out _ _ ?_ (fun hHeld => ?_)
        · trivial
        clear hK K
        try simp only [Act.put, List.setIfInBounds_toArray, List.set_cons_zero, List.set_cons_succ]
        refine wpAnyH_take (i := 10) (oi := ⟨some 21, _, _, _, _, _⟩) (v := ?_) rfl (by kernel_rfl) (by kernel_rfl) (by kernel_rfl) (fun _ _ _ h => h) (Or.inl ⟨by rfl, ?_⟩) (by assumption) ?_
        rotate_left 1
        · (intro w hSw; (try dsimp only at hSw); go_simp) <;> (with_reducible rfl)
        try simp only [Act.put, List.setIfInBounds_toArray, List.set_cons_zero, List.set_cons_succ]
        refine wpAnyH_take (i := 11) (oi := ⟨some 22, _, _, _, _, _⟩) (v := ?_) rfl (by kernel_rfl) (by kernel_rfl) (by kernel_rfl) (fun _ _ _ h => h) (Or.inl ⟨by rfl, ?_⟩) (by assumption) ?_
        rotate_left 1
        · (intro w hSw; (try dsimp only at hSw); go_simp) <;> (with_reducible rfl)
        try simp only [Act.put, List.setIfInBounds_toArray, List.set_cons_zero, List.set_cons_succ]
        refine wpAnyH_ready (rs := [12]) (by kernel_rfl) (by simp) ?_
        refine AllReadyH.cons (o := ⟨none, _, _, _, _, _⟩) rfl (fun K hK => ?_) AllReadyH.nil
        go_simp
        clear hHeld
        refine hK.out _ _ ?_ (fun hHeld => ?_)
        · trivial
        clear hK K
        try simp only [Act.put, List.setIfInBounds_toArray, List.set_cons_zero, List.set_cons_succ]
        refine wpAnyH_done (by kernel_rfl) ?_ _
        have HZ := Lib.hid HS.out.2
        clear HS hHeld HF9
        go_wp2_with fail
        go_ret
        exact HPOST.out _ _ _ HZ.out.1 HZ.out.2
    · go_simp
      obtain ⟨w64, hw64⟩ : ∃ w64, w64 = w6.alloc (.cells #[.int .i64 p.src, .int .i64 p.dst, .int .u64 p.ep, .int .u64 p.pe, .int .u64 p.sq, .int .u64 p.ak, .slice p.d.1 p.d.2.2.length p.d.2.1] 35) := ⟨_, rfl⟩
      obtain ⟨b8, hb8⟩ : ∃ b8, b8 = w6.heap.size := ⟨_, rfl⟩
      have hfr : Fr NoBlk w6 w64 := by rw [hw64]; exact (Fr.refl _ _).alloc _
      have HFw64 : Hid (Fr NoBlk w5 w64) := HFw6.out.trans hfr
      have HPw64 : Hid (Rd w64 (some ⟨b8, 0, none⟩) (pcc p)) := by show Rd _ _ _; rw [hw64, hb8]; exact Rd.of_cells (Bk.new w6 _ (pca p))
      have HBw64 : Hid (b8 < w64.heap.size) := by show _ < _; rw [hw64, hb8]; simp
      rw [← hw64, ← hb8]
      clear hw64 hfr hb8
      clear hHeld
      refine hK.out _ _ ?_ (fun hHeld => ?_)
      · trivial
      clear hK K
      try simp only [Act.put, List.setIfInBounds_toArray, List.set_cons_zero, List.set_cons_succ]
      refine wpAnyH_ready (rs := [1, 5]) (by kernel_rfl) (by simp) ?_
      refine AllReadyH.cons (o := ⟨some 12, _, _, _, _, _⟩) rfl (fun K hK => ?_) (AllReadyH.cons (o := ⟨some 16, _, _, _, _, _⟩) rfl (fun K hK => ?_) AllReadyH.nil)
      · go_simp
        obtain ⟨w65, hw65⟩ : ∃ w65, w65 = w64.alloc (.cells #[] 35) := ⟨_, rfl⟩
        obtain ⟨e1, he1⟩ : ∃ e1, e1 = w64.heap.size := ⟨_, rfl⟩
        have hfr : Fr NoBlk w64 w65 := by rw [hw65]; exact (Fr.refl _ _).alloc _
        have HFw65 : Hid (Fr NoBlk w5 w65) := HFw64.out.trans hfr
        have HEw65 : Hid (w65.ownsRow w5.heap.size 35 7 (.slice (some ⟨e1, 0, none⟩) 0 0) 0 []) := by show World.ownsRow _ _ _ _ _ _ _; rw [hw65, he1]; exact own_base (World.ownsRow_made w64 #[] 0 (Nat.le_refl _) (by decide) rfl) HFw64.out.size
        have HLw65 : Hid (e1 < w65.heap.size) := by show _ < _; rw [hw65, he1]; simp
        have HPw65 : Hid (Rd w65 (some ⟨b8, 0, none⟩) (pcc p)) := HPw64.out.nofr hfr
        have HBw65 : Hid (b8 < w65.heap.size) := Nat.lt_of_lt_of_le HBw64.out hfr.size
        have HNE : Hid (e1 ≠ b8) := by have := HBw64.out; show _ ≠ _; omega
        rw [← hw65, ← he1]
        clear hw65 hfr he1
        clear hHeld
        refine hK.out _ _ ?_ (fun hHeld => ?_)
        · trivial
        clear hK K
        try simp only [Act.put, List.setIfInBounds_toArray, List.set_cons_zero, List.set_cons_succ]
        refine wpAnyH_ready (rs := [5]) (by kernel_rfl) (by simp) ?_
        refine AllReadyH.cons (o := ⟨some 16, _, _, _, _, _⟩) rfl (fun K hK => ?_) AllReadyH.nil
        have oN : w65.cell? ⟨m, 0, none⟩ = some (.slice a qs.length c) := (HL5.out.nofr HFw65.out).bk.cell 0
        go_simp
        clear oN
        clear hHeld
        refine hK.out _ _ ?_ (fun hHeld => ?_)
        · trivial
        clear hK K
        try simp only [Act.put, List.setIfInBounds_toArray, List.set_cons_zero, List.set_cons_succ]
        refine wpAnyH_ready (rs := [6]) (by kernel_rfl) (by simp) ?_
        refine AllReadyH.cons (o := ⟨some 17, _, _, _, _, _⟩) rfl (fun K hK => ?_) AllReadyH.nil
        refine step_appN rfl _ _ 27 rfl w5.heap.size 35 i0 _ 7 72 Try.underlying27 hi hz0 hz1 hz2 rfl (by decide) (.slice (some ⟨e1, 0, none⟩) 0 0) 0 [] rfl HEw65.out a c qs.length (pcsc qs) rfl (pcsc_len qs) (Rd.of_ownN (HL5.out.nofr HFw65.out).own) (pcsc_one qs) (own_lens HL5.out.own).2.2 ?q1 ?q2 HFw65.out.size ?_
        case q1 => have := HL5.out.few; unfold maxLen; omega
        case q2 => have := HL5.out.few; omega
        intro v6 w66 ho6 hg6 hb6
        simp only [Nat.zero_add, List.nil_append] at ho6
        obtain ⟨A6, c6, rfl, _, _⟩ := own_form ho6
        have HOw66 : Hid (w66.ownsRow w5.heap.size 35 7 (.slice A6 qs.length c6) qs.length (pcsc qs)) := ho6
        have HFw66 : Hid (Fr NoBlk w5 w66) := HFw65.out.grown hg6 (fun k hk hlt => by have := (own_blk HEw65.out hk).1; omega)
        have HPw66 : Hid (Rd w66 (some ⟨b8, 0, none⟩) (pcc p)) := rd_grown HPw65.out hg6 HNE.out
        have HBw66 : Hid (b8 < w66.heap.size) := Nat.lt_of_lt_of_le HBw65.out hg6.size
        try dsimp only
        clear ho6 hg6 hb6
        clear hHeld
        refine hK.out _ _ ?_ (fun hHeld => ?_)
        · trivial
        clear hK K
        try simp only [Act.put, List.setIfInBounds_toArray, List.set_cons_zero, List.set_cons_succ]
        refine wpAnyH_ready (rs := [9]) (by kernel_rfl) (by simp) ?_
        refine AllReadyH.cons (o := ⟨some 20, _, _, _, _, _⟩) rfl (fun K hK => ?_) AllReadyH.nil
        refine step_appN rfl _ _ 27 rfl w5.heap.size 35 i0 _ 7 72 Try.underlying27 hi hz0 hz1 hz2 rfl (by decide) (.slice A6 qs.length c6) qs.length (pcsc qs) rfl HOw66.out (some ⟨b8, 0, none⟩) 1 1 (pcc p) rfl rfl HPw66.out (fun y hy => pcsc_one [p] y (by simpa [pcsc] using hy)) (fun h => by cases h) ?q1 ?q2 HFw66.out.size ?_
        case q1 => have := HL5.out.few; unfold maxLen; omega
        case q2 => have := HL5.out.few; omega
        intro v9 w9 ho9 hg9 hb9
        obtain ⟨A9, c9, rfl, _, _⟩ := own_form ho9
        have HF9 : Hid (Fr NoBlk w5 w9) := HFw66.out.grown hg9 (fun k hk hlt => by have := (own_blk HOw66.out hk).1; omega)
        have HS := Lib.hid (HL5.out.put HF9.out (q := p) (n' := qs.length + 1) (ps := qs ++ [p]) (by simp) (by rw [pcsc_append, show pcsc [p] = pcc p by simp [pcsc]]; exact ho9) (fun x hx => by rcases List.mem_append.1 hx with hx | hx; exact .inl hx; exact .inr (List.mem_singleton.1 hx)) HPI.out HFEW.out)
        have oN : w9.cell? ⟨m, 0, none⟩ = some (.slice a qs.length c) := HS.out.1.cell 0
        have fN := HS.out.1.free 0
        clear ho9 hg9 hb9
        clear hHeld
        refine hK.out _ _ ?_ (fun hHeld => ?_)
        · trivial
        clear hK K
        try simp only [Act.put, List.setIfInBounds_toArray, List.set_cons_zero, List.set_cons_succ]
        refine wpAnyH_take (i := 10) (oi := ⟨some 21, _, _, _, _, _⟩) (v := ?_) rfl (by kernel_rfl) (by kernel_rfl) (by kernel_rfl) (fun _ _ _ h => h) (Or.inl ⟨by rfl, ?_⟩) (by assumption) ?_
        rotate_left 1
        · (intro w hSw; (try dsimp only at hSw); go_simp) <;> (with_reducible rfl)
        try simp only [Act.put, List.setIfInBounds_toArray, List.set_cons_zero, List.set_cons_succ]
        refine wpAnyH_take (i := 11) (oi := ⟨some 22, _, _, _, _, _⟩) (v := ?_) rfl (by kernel_rfl) (by kernel_rfl) (by kernel_rfl) (fun _ _ _ h => h) (Or.inl ⟨by rfl, ?_⟩) (by assumption) ?_
        rotate_left 1
        · (intro w hSw; (try dsimp only at hSw); go_simp) <;> (with_reducible rfl)
        try simp only [Act.put, List.setIfInBounds_toArray, List.set_cons_zero, List.set_cons_succ]
        refine wpAnyH_ready (rs := [12]) (by kernel_rfl) (by simp) ?_
        refine AllReadyH.cons (o := ⟨none, _, _, _, _, _⟩) rfl (fun K hK => ?_) AllReadyH.nil
        go_simp
        clear hHeld
        refine hK.out _ _ ?_ (fun hHeld => ?_)
        · trivial
        clear hK K
        try simp only [Act.put, List.setIfInBounds_toArray, List.set_cons_zero, List.set_cons_succ]
        refine wpAnyH_done (by kernel_rfl) ?_ _
        have HZ := Lib.hid HS.out.2
        clear HS hHeld HF9
        go_wp2_with fail
        go_ret
        exact HPOST.out _ _ _ HZ.out.1 HZ.out.2
      · have oN : w64.cell? ⟨m, 0, none⟩ = some (.slice a qs.length c) := (HL5.out.nofr HFw64.out).bk.cell 0
        go_simp
        clear oN
        clear hHeld
        refine hK.out _ _ ?_ (fun hHeld => ?_)
        · trivial
        clear hK K
        try simp only [Act.put, List.setIfInBounds_toArray, List.set_cons_zero, List.set_cons_succ]
        refine wpAnyH_ready (rs := [1]) (by kernel_rfl) (by simp) ?_
        refine AllReadyH.cons (o := ⟨some 12, _, _, _, _, _⟩) rfl (fun K hK => ?_) AllReadyH.nil
        go_simp
        obtain ⟨w67, hw67⟩ : ∃ w67, w67 = w64.alloc (.cells #[] 35) := ⟨_, rfl⟩
        obtain ⟨e1, he1⟩ : ∃ e1, e1 = w64.heap.size := ⟨_, rfl⟩
        have hfr : Fr NoBlk w64 w67 := by rw [hw67]; exact (Fr.refl _ _).alloc _
        have HFw67 : Hid (Fr NoBlk w5 w67) := HFw64.out.trans hfr
        have HEw67 : Hid (w67.ownsRow w5.heap.size 35 7 (.slice (some ⟨e1, 0, none⟩) 0 0) 0 []) := by show World.ownsRow _ _ _ _ _ _ _; rw [hw67, he1]; exact own_base (World.ownsRow_made w64 #[] 0 (Nat.le_refl _) (by decide) rfl) HFw64.out.size
        have HLw67 : Hid (e1 < w67.heap.size) := by show _ < _; rw [hw67, he1]; simp
        have HPw67 : Hid (Rd w67 (some ⟨b8, 0, none⟩) (pcc p)) := HPw64.out.nofr hfr
        have HBw67 : Hid (b8 < w67.heap.size) := Nat.lt_of_lt_of_le HBw64.out hfr.size
        have HNE : Hid (e1 ≠ b8) := by have := HBw64.out; show _ ≠ _; omega
        rw [← hw67, ← he1]
        clear hw67 hfr he1
        clear hHeld
        refine hK.out _ _ ?_ (fun hHeld => ?_)
        · trivial
        clear hK K
        try simp only [Act.put, List.setIfInBounds_toArray, List.set_cons_zero, List.set_cons_succ]
        refine wpAnyH_ready (rs := [6]) (by kernel_rfl) (by simp) ?_
        refine AllReadyH.cons (o := ⟨some 17, _, _, _, _, _⟩) rfl (fun K hK => ?_) AllReadyH.nil
        refine step_appN rfl _ _ 27 rfl w5.heap.size 35 i0 _ 7 72 Try.underlying27 hi hz0 hz1 hz2 rfl (by decide) (.slice (some ⟨e1, 0, none⟩) 0 0) 0 [] rfl HEw67.out a c qs.length (pcsc qs) rfl (pcsc_len qs) (Rd.of_ownN (HL5.out.nofr HFw67.out).own) (pcsc_one qs) (own_lens HL5.out.own).2.2 ?q1 ?q2 HFw67.out.size ?_
        case q1 => have := HL5.out.few; unfold maxLen; omega
        case q2 => have := HL5.out.few; omega
        intro v6 w68 ho6 hg6 hb6
        simp only [Nat.zero_add, List.nil_append] at ho6
        obtain ⟨A6, c6, rfl, _, _⟩ := own_form ho6
        have HOw68 : Hid (w68.ownsRow w5.heap.size 35 7 (.slice A6 qs.length c6) qs.length (pcsc qs)) := ho6
        have HFw68 : Hid (Fr NoBlk w5 w68) := HFw67.out.grown hg6 (fun k hk hlt => by have := (own_blk HEw67.out hk).1; omega)
        have HPw68 : Hid (Rd w68 (some ⟨b8, 0, none⟩) (pcc p)) := rd_grown HPw67.out hg6 HNE.out
        have HBw68 : Hid (b8 < w68.heap.size) := Nat.lt_of_lt_of_le HBw67.out hg6.size
        try dsimp only
        clear ho6 hg6 hb6
        clear hHeld
        refine hK.out _ _ ?_ (fun hHeld => ?_)
        · trivial
        clear hK K
        try simp only [Act.put, List.setIfInBounds_toArray, List.set_cons_zero, List.set_cons_succ]
        refine wpAnyH_ready (rs := [9]) (by kernel_rfl) (by simp) ?_
        refine AllReadyH.cons (o := ⟨some 20, _, _, _, _, _⟩) rfl (fun K hK => ?_) AllReadyH.nil
        refine step_appN rfl _ _ 27 rfl w5.heap.size 35 i0 _ 7 72 Try.underlying27 hi hz0 hz1 hz2 rfl (by decide) (.slice A6 qs.length c6) qs.length (pcsc qs) rfl HOw68.out (some ⟨b8, 0, none⟩) 1 1 (pcc p) rfl rfl HPw68.out (fun y hy => pcsc_one [p] y (by simpa [pcsc] using hy)) (fun h => by cases h) ?q1 ?q2 HFw68.out.size ?_
        case q1 => have := HL5.out.few; unfold maxLen; omega
        case q2 => have := HL5.out.few; omega
        intro v9 w9 ho9 hg9 hb9
        obtain ⟨A9, c9, rfl, _, _⟩ := own_form ho9
        have HF9 : Hid (Fr NoBlk w5 w9) := HFw68.out.grown hg9 (fun k hk hlt => by have := (own_blk HOw68.out hk).1; omega)
        have HS := Lib.hid (HL5.out.put HF9.out (q := p) (n' := qs.length + 1) (ps := qs ++ [p]) (by simp) (by rw [pcsc_append, show pcsc [p] = pcc p by simp [pcsc]]; exact ho9) (fun x hx => by rcases List.mem_append.1 hx with hx | hx; exact .inl hx; exact .inr (List.mem_singleton.1 hx)) HPI.out HFEW.out)
        have oN : w9.cell? ⟨m, 0, none⟩ = some (.slice a qs.length c) := HS.out.1.cell 0
        have fN := HS.out.1.free 0
        clear ho9 hg9 hb9
        clear hHeld
        refine hK.out _ _ ?_ (fun hHeld => ?_)
        · trivial
        clear hK K
        try simp only [Act.put, List.setIfInBounds_toArray, List.set_cons_zero, List.set_cons_succ]
        refine wpAnyH_take (i := 10) (oi := ⟨some 21, _, _, _, _, _⟩) (v := ?_) rfl (by kernel_rfl) (by kernel_rfl) (by kernel_rfl) (fun _ _ _ h => h) (Or.inl ⟨by rfl, ?_⟩) (by assumption) ?_
        rotate_left 1
        · (intro w hSw; (try dsimp only at hSw); go_simp) <;> (with_reducible rfl)
        try simp only [Act.put, List.setIfInBounds_toArray, List.set_cons_zero, List.set_cons_succ]
        refine wpAnyH_take (i := 11) (oi := ⟨some 22, _, _, _, _, _⟩) (v := ?_) rfl (by kernel_rfl) (by kernel_rfl) (by kernel_rfl) (fun _ _ _ h => h) (Or.inl ⟨by rfl, ?_⟩) (by assumption) ?_
        rotate_left 1
        · (intro w hSw; (try dsimp only at hSw); go_simp) <;> (with_reducible rfl)
        try simp only [Act.put, List.setIfInBounds_toArray, List.set_cons_zero, List.set_cons_succ]
        refine wpAnyH_ready (rs := [12]) (by kernel_rfl) (by simp) ?_
        refine AllReadyH.cons (o := ⟨none, _, _, _, _, _⟩) rfl (fun K hK => ?_) AllReadyH.nil
        go_simp
        clear hHeld
        refine hK.out _ _ ?_ (fun hHeld => ?_)
        · trivial
        clear hK K
        try simp only [Act.put, List.setIfInBounds_toArray, List.set_cons_zero, List.set_cons_succ]
        refine wpAnyH_done (by kernel_rfl) ?_ _
        have HZ := Lib.hid HS.out.2
        clear HS hHeld HF9
        go_wp2_with fail
        go_ret
        exact HPOST.out _ _ _ HZ.out.1 HZ.out.2
end Go.Proofs.Ytdfmoijomnjdiaa
