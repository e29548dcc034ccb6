/- Pack: a body's frames, in new memory. Conditions: lengths; the table holds its numbers. -/
import Derived.Test.YtafiokabnlmgpaaGreatDoorChunk
import Derived.Test.YtafiokabnlmgpaaGreatDoorFrame3
namespace Go.Proofs.YtafiokabnlmgpaaGreatDoor
open Go.RowKit Go.Shelf
attribute [local go_sem] Oper.semAt_some

theorem chunk_stops (n b1 b2 : Nat) (hn : 1 ≤ n) (K : Nat → Prop) (w : World) (A : Option Addr) (c : Nat) (d : Bs) (h1 : K b1) (h2 : K b2) (hp : Part w (A, c, d)) (hdc : d.length ≤ c) (hd : d.length ≤ 1000000000)
    (W0 : World) (hb1 : b1 < W0.heap.size) (hb2 : b2 < W0.heap.size) (hB1 : W0.cell? ⟨b1, 0, none⟩ = some (.slice A d.length c)) (hB2 : W0.cell? ⟨b2, 0, none⟩ = some (.int .i64 1024)) :
    SeqStopsK Fence.wide n Tryz.prog 156 #[.pointer (some ⟨b1, 0, none⟩), .pointer (some ⟨b2, 0, none⟩)] (fun x : PartOf w => #[sl x.1]) (Keep K) (fun ys => ys.map (·.1.2.2) = chunks d) (fun _ => True) d.length W0 := fun l J Jx W hW hJ _ hY h0 =>
  chunk1_in n l b1 b2 hn K w A c d h1 h2 hp hdc hd _ J Jx hY hJ W ((hW.cell (p := ⟨b1, 0, none⟩) hb1).trans hB1) ((hW.cell (p := ⟨b2, 0, none⟩) hb2).trans hB2) h0

theorem sframed_any (w : World) (ht : Tab w) (A : Option Addr) (n c : Nat) (l : List UInt8) (hn : n = l.length) (hr : Rd w A (cb l)) (hA : A = none → c = 0) (hl : l.length ≤ 4096) :
    Calls Tryz.prog 132 #[.slice A n c] w fun e w' => ∃ v', e = .returned v' ∧ New w w' v' (frameOf l) := by
  have HK := Lib.hid (frame_any w ht A n c l hn hr hA hl)
  clear ht hr hA hn
  go_enter Tryz.func132, Tryz.ntmps132
  go_wp2_with fail
  refine HK.out.mono ?_
  rintro e w1 ⟨v1, rfl, hn1⟩
  have HN := Lib.hid hn1
  clear hn1 HK
  go_wp2_with fail
  go_ret
  exact ⟨_, rfl, HN.out⟩

/-- between two rounds: the data so far lie in the box gd; the closure's boxes b1, b2 are others. -/
structure PkAt (w : World) (gd b1 b2 : Nat) (A : Option Addr) (n c : Nat) (h : Bs) (W : World) : Prop where
  box : ∃ v, Bk W gd 55 #[v] ∧ W.ownsRow w.heap.size 5 1 v h.length (cb h)
  fr : Fr NoBlk w W
  k1 : Bk W b1 55 #[.slice A n c]
  k2 : Bk W b2 3 #[.int .i64 1024]
  ge : w.heap.size ≤ gd
  ne : gd ≠ b1
theorem Bk.others {w w' : World} {g : Nat} {t : TypeId} {cs : Array Value} {row : Option Nat} (h : Bk w g t cs) (hg : w.grownBy w' row) (hr : ∀ r, row = some r → ∃ o : Obj, w.heap[r]? = some o ∧ o.isCells = false) : Bk w' g t cs :=
  h.fr (Fr.ofGrown hg) fun e => by
    obtain ⟨o, ho, hc⟩ := hr g e.symm
    unfold Bk at h
    rw [h] at ho
    injection ho with ho
    rw [← ho] at hc
    cases hc
theorem own_others {w w' : World} {base : Nat} {e : TypeId} {size n : Nat} {v : Value} {xs : List Value} {row : Option Nat} (h : w.ownsRow base e size v n xs) (hg : w.grownBy w' row) (hr : ∀ r, row = some r → ∃ o : Obj, w.heap[r]? = some o ∧ o.isCells = false) : w'.ownsRow base e size v n xs :=
  own_fr h (Fr.ofGrown hg) fun k hk e => by
    obtain ⟨o, ho, hc⟩ := hr k e.symm
    rcases h.2 with ⟨rfl, _⟩ | ⟨g, cap, cur, rfl, _, hh, _⟩
    · cases hk
    · have e1 : g = k := by simpa [Value.ownBlock] using hk
      subst e1
      rw [hh] at ho
      injection ho with ho
      rw [← ho] at hc
      cases hc
theorem PkAt.others {w W W' : World} {gd b1 b2 : Nat} {A : Option Addr} {n c : Nat} {h : Bs} {row : Option Nat} (k : PkAt w gd b1 b2 A n c h W) (hg : W.grownBy W' row) (hr : ∀ r, row = some r → w.heap.size ≤ r ∧ ∃ o : Obj, W.heap[r]? = some o ∧ o.isCells = false) : PkAt w gd b1 b2 A n c h W' := by
  obtain ⟨v, hb, ho⟩ := k.box
  exact ⟨⟨v, hb.others hg fun r e => (hr r e).2, own_others ho hg fun r e => (hr r e).2⟩, k.fr.grown hg (fun r e hl => by have := (hr r e).1; omega), k.k1.others hg fun r e => (hr r e).2, k.k2.others hg fun r e => (hr r e).2, k.ge, k.ne⟩
/-- a part more: W: the round's start; W1: behind the frame; W2: behind the append; W3: behind the store. -/
theorem PkAt.next {w W W1 W2 : World} {gd b1 b2 : Nat} {A : Option Addr} {n c : Nat} {h f : Bs} (k : PkAt w gd b1 b2 A n c h W) {v v2 : Value} (hb : Bk W gd 55 #[v]) (hf1 : Fr NoBlk W W1) {nn : Nat} (hnn : nn = h.length) (ho : W1.ownsRow w.heap.size 5 1 v nn (cb h))
    (ho2 : W2.ownsRow w.heap.size 5 1 v2 (nn + f.length) (cb h ++ cb f)) (hg : W1.grownBy W2 v.ownBlock) :
    PkAt w gd b1 b2 A n c (h ++ f) (W2.setCell ⟨gd, 0, none⟩ v2) ∧ KeepsOthers W (W2.setCell ⟨gd, 0, none⟩ v2) ∧ Keep (fun i => i < w.heap.size ∨ i = b1 ∨ i = b2) W (W2.setCell ⟨gd, 0, none⟩ v2) := by
  subst hnn
  have hb1 := hb.fr hf1 fun h => h
  have n1 := own_apart ho hb1 (by decide)
  have hb2 := hb1.fr (Fr.ofGrown hg) fun e => n1 e.symm
  have hk11 := k.k1.fr hf1 fun h => h
  have hk21 := k.k2.fr hf1 fun h => h
  have hk12 := hk11.fr (Fr.ofGrown hg) fun e => own_apart ho hk11 (by decide) e.symm
  have hk22 := hk21.fr (Fr.ofGrown hg) fun e => own_apart ho hk21 (by decide) e.symm
  have n2 := own_apart ho2 hb2 (by decide)
  have hne2 : b2 ≠ gd := Bk.apart hk22 hb2 (by decide)
  have hfs : Fr (fun i => i = gd) W2 (W2.setCell ⟨gd, 0, none⟩ v2) := (Fr.refl (fun i => i = gd) W2).setCell (p := ⟨gd, 0, none⟩) (fun _ => rfl) _
  have hall : Fr (fun i => i = gd ∨ some i = v.ownBlock) W (W2.setCell ⟨gd, 0, none⟩ v2) :=
    ((hf1.mono (D := fun i => i = gd ∨ some i = v.ownBlock) fun _ _ h => h.elim).step (Fr.ofGrown hg) fun _ _ e => .inr e).step hfs fun _ _ e => .inl e
  have hvge : ∀ i, some i = v.ownBlock → w.heap.size ≤ i := fun i e => (ho.lt i e.symm).1
  refine ⟨⟨⟨v2, hb2.put 0 v2, ?_⟩, k.fr.step hall fun i hi e => ?_, hk12.far (by exact fun e => k.ne e.symm) _, hk22.far hne2 _, k.ge, k.ne⟩, ?_, ?_⟩
  · rw [List.length_append, cb_append]
    exact own_fr ho2 hfs fun i hi e => n2 (e ▸ hi)
  · rcases e with e | e
    · have := k.ge; omega
    · have := hvge i e; omega
  · refine ⟨hall.size, fun i o hi hc => ?_⟩
    refine (hall.block i (Array.getElem?_eq_some_iff.1 hi).1 fun e => ?_).trans hi
    rcases e with e | e
    · subst e
      unfold Bk at hb
      rw [hb] at hi
      injection hi with hi
      rw [← hi] at hc
      cases hc
    · rcases ho.2 with ⟨rfl, _⟩ | ⟨g, cap, cur, rfl, _, hh, _⟩
      · cases e
      · have e1 : i = g := by simpa [Value.ownBlock] using e
        subst e1
        have hlt := (Array.getElem?_eq_some_iff.1 hi).1
        rw [hf1.block i hlt fun h => h, hi] at hh
        injection hh with hh
        rw [hh] at hc
        cases hc
  · intro i hi
    have hlt : i < W.heap.size := by
      rcases hi with h | h | h
      · have := k.fr.size; omega
      · exact h ▸ k.k1.lt
      · exact h ▸ k.k2.lt
    refine hall.block i hlt fun e => ?_
    rcases e with e | e
    · rcases hi with h | h | h
      · have := k.ge; omega
      · exact k.ne (e.symm.trans h)
      · exact hne2 (h.symm.trans e)
    · rcases hi with h | h | h
      · have := hvge i e; omega
      · subst h; exact own_apart ho hk11 (by decide) e.symm
      · subst h; exact own_apart ho hk21 (by decide) e.symm
theorem frames_le (rs : List Bs) (h : ∀ r ∈ rs, r.length ≤ 1024) : (frames rs).length ≤ 1030 * rs.length := by
  induction rs with
  | nil => exact Nat.zero_le _
  | cons r t ih =>
    have h1 := h r (List.mem_cons_self ..)
    have h2 := ih fun x hx => h x (List.mem_cons_of_mem _ hx)
    rw [frames_cons, List.length_append, frameOf_len, List.length_cons]; omega
theorem parts_le {w : World} (pre : List (PartOf w)) : (frames (pre.map (·.1.2.2))).length ≤ 1030 * pre.length := by
  have h := frames_le (pre.map (·.1.2.2)) fun r hr => by
    obtain ⟨x, _, rfl⟩ := List.mem_map.1 hr
    exact x.2.2
  rw [List.length_map] at h
  exact h
theorem step_appIn {F : Fence} {nF : Nat} {P : Program} {w : World} {ops : Array Oper} {o : Oper} {a : Act} {K : Act → World → Prop} {Q : Exit → Act → World → Prop} {E : Prop} (hgd : o.guard = none) (s x : Operand) (t : TypeId)
    (ho : o.op = .call { callee := .builtin .append, args := #[s, x], argTypes := #[t, t] })
    (base : Nat) (e : TypeId) (i : TypeInfo) (z : Value) (bytes : Nat) (ht : P.underlying t = some (.slice e)) (hi : P.info? e = some i) (hz : i.zero = some z)
    (hsize : i.size = 1) (hby : i.bytes = bytes) (hzs : z.cells.size = 1)
    (v : Value) (n : Nat) (xs : List Value) (hs : a.eval s = v) (hown : w.ownsRow base e 1 v n xs)
    (A : Option Addr) (c m : Nat) (news : List Value) (hx : a.eval x = .slice A m c) (hm : news.length = m) (hr : Rd w A news) (h1 : ∀ u ∈ news, u.oneCell' = true)
    (hA : A = none → c = 0)
    (h63 : n + m ≤ maxLen) (hbytes : (n + m) * bytes ≤ 140737488355328) (hbase : base ≤ w.heap.size)
    (h : ∀ v' w', w'.ownsRow base e 1 v' (n + m) (xs ++ news) → w.grownBy w' v.ownBlock → (v' = .slice none 0 0 ↔ v = .slice none 0 0 ∧ m = 0) → (v'.ownBlock = v.ownBlock ∨ v'.ownBlock = some w.heap.size) →
      K (a.put o.dst v') w') :
    if Region.wanted o (yielded ops a.tmps) = true then Oper.wpIn F nF P o a w K Q else E := by
  have hw : Region.wanted o (yielded ops a.tmps) = true := by simp [Region.wanted, hgd]
  rw [if_pos hw]
  obtain ⟨v', w', hrun, h2, h3, h4, h5⟩ := run_app (P := P) w base t o.type e i z bytes ht hi hz hsize hby hzs v n xs hown A c m news hm hr h1 hA h63 hbytes hbase
  unfold Oper.wpIn
  refine ⟨by simp [Oper.about, ho, resolve, Target.leads, Sem.run_pure], ?_⟩
  rw [Oper.semAt_plain F _ _ (by rw [ho]; intro c hc'; cases hc')]
  simp [execOp, ho, resolve, invoke, builtin, hs, hx, hrun, Result.andThen]
  exact h v' w' h2 h3 h4 h5
end Go.Proofs.YtafiokabnlmgpaaGreatDoor
