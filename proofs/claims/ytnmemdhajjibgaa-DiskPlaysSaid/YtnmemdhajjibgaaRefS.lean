/- The document's Sync, Read, Remove, Rename. No condition but lengths. -/
import Derived.Test.YtnmemdhajjibgaaRefN
namespace Go.Proofs.Ytnmemdhajjibgaa
open Go.RowKit

/-- one file of the row has turned. -/
theorem RIn.turn {w : World} {base : Nat} {m : RM} (h : RIn w base m) {j : Nat} {f : RF} (hx : m.fs[j]? = some f) {b : Nat} (hA : m.FA = some ⟨b, 0, none⟩) (y : RF) (i : Nat) (hi : i < 3) (u : Value) (hu : (rfc f).set i u = rfc y)
    (hy : DOk w base y.A y.c y.pf.data) : RIn (w.setCell ⟨b, j * 3 + i, none⟩ u) base { m with fs := m.fs.set j y } ∧ Fr m.own w (w.setCell ⟨b, j * 3 + i, none⟩ u) := by
  have ho : m.own b := .inr ⟨_, hA, rfl⟩
  have hf : Fr m.own w (w.setCell ⟨b, j * 3 + i, none⟩ u) := (Fr.refl m.own w).setCell (p := ⟨b, j * 3 + i, none⟩) (fun _ => ho) u
  have hrow := h.row
  rw [hA] at hrow
  have hne : b ≠ m.g := fun e => own_apart hrow h.bk (by decide) (by rw [← e]; rfl)
  refine ⟨⟨?_, h.gb, ?_, fun g hg => ?_⟩, hf⟩
  · show Bk _ m.g _ #[.int .i64 m.room, .slice m.FA (m.fs.set j y).length m.FC, .int .i64 m.left, .bool m.down]
    rw [List.length_set]
    exact h.bk.far (p := ⟨b, j * 3 + i, none⟩) (fun e => hne e.symm) u
  · show World.ownsRow _ _ _ _ (.slice m.FA (m.fs.set j y).length m.FC) (m.fs.set j y).length (rfcs (m.fs.set j y))
    rw [List.length_set, hA, ← rfcs_set m.fs j f y hx i hi u hu]
    exact (hrow.stored (j * 3 + i) u).1
  · have hd : DOk w base g.A g.c g.pf.data := by
      rcases List.mem_or_eq_of_mem_set hg with hg | rfl
      · exact h.dat g hg
      · exact hy
    exact hd.fr hf (h.apart hd)
theorem RIn.turnP {w : World} {base : Nat} {m : RM} (h : RIn w base m) {j : Nat} {f : RF} (hx : m.fs[j]? = some f) {b : Nat} (hA : m.FA = some ⟨b, 0, none⟩) (y : RF) (i : Nat) (hi : i < 3) (u : Value) (hu : (rfc f).set i u = rfc y)
    (hy : DOk w base y.A y.c y.pf.data) (hb : 0 < y.pf.data.length → ∀ k, ablk y.A k → m.blk k) : RPost w (w.setCell ⟨b, j * 3 + i, none⟩ u) base m { m with fs := m.fs.set j y } := by
  obtain ⟨h1, h2⟩ := h.turn hx hA y i hi u hu hy
  refine ⟨h1, rfl, h2, fun k hk => .inl hk, fun k hk => .inl ?_⟩
  rcases hk with hk | ⟨g, hg, hp, hk⟩
  · exact .inl hk
  · rcases List.mem_or_eq_of_mem_set hg with hg | rfl
    · exact .inr ⟨g, hg, hp, hk⟩
    · exact hb hp k hk
/-- to turn the one file of a name is to set its place. -/
theorem pset_at (L : List PF) (hn : (L.map (·.name)).Nodup) (j : Nat) (f : PF) (h : L[j]? = some f) (a : PF → PF) : pset L f.name a = L.set j (a f) := by
  induction L generalizing j with
  | nil => cases h
  | cons g t ih =>
    rw [List.map_cons, List.nodup_cons] at hn
    cases j with
    | zero =>
      injection h with h
      subst h
      show (if g.name = g.name then a g else g) :: pset t g.name a = a g :: t
      rw [if_pos rfl]
      congr 1
      unfold pset
      conv => rhs; rw [← List.map_id t]
      apply List.map_congr_left
      intro x hx
      rw [if_neg (fun e => hn.1 (List.mem_map.2 ⟨x, hx, e⟩))]
      rfl
    | succ j =>
      have h' : t[j]? = some f := h
      have hne : ¬ g.name = f.name := fun e => hn.1 (List.mem_map.2 ⟨f, List.mem_of_getElem? h', e.symm⟩)
      show (if g.name = f.name then a g else g) :: pset t f.name a = g :: t.set j (a f)
      rw [if_neg hne, ih hn.2 j h']

theorem pChange_down {p : PD} (k : Bs) (rt : PF → Bool) (act : PF → List PF → List PF) (h : p.down = true) : pChange p k rt act = (p, 3) := by
  unfold pChange
  rw [if_pos h]
theorem pChange_none {p : PD} {k : Bs} (rt : PF → Bool) (act : PF → List PF → List PF) (h : p.down = false) (hn : pfind p.files k = none) : pChange p k rt act = (p, 60) := by
  unfold pChange
  rw [h, hn]; rfl
theorem pChange_some {p : PD} {k : Bs} {f : PF} (rt : PF → Bool) (act : PF → List PF → List PF) (h : p.down = false) (hf : pfind p.files k = some f) :
    pChange p k rt act = if rt f = false then (p, 1) else if p.left = 0 then (pspend p, 3) else ({ pspend p with files := act f p.files }, 0) := by
  unfold pChange
  rw [h, hf]; rfl
/-- what a call of the document's that tells an error's number leaves. -/
def REnd (w : World) (base : Nat) (m : RM) (r : PD × Int) (e : Ending) (w' : World) : Prop := e = .returned (.int .i64 r.2) ∧ ∃ m', m'.pd = r.1 ∧ RPost w w' base m m'
theorem REnd.same {w : World} {base : Nat} {m : RM} (h : RIn w base m) {r : PD × Int} {z : Int} (hr : r = (m.pd, z)) : REnd w base m r (.returned (.int .i64 z)) w := by
  subst hr
  exact ⟨rfl, m, rfl, RPost.refl h⟩
theorem REnd.drew {w : World} {base : Nat} {m : RM} {r : PD × Int} {e : Ending} {w' : World} (h : REnd w base m r e w') : REnd w base m r e w'.drew := by
  obtain ⟨h1, m', h2, h3⟩ := h
  exact ⟨h1, m', h2, h3.more (Fr.refl _ _).drew⟩
theorem RPost.row {w w4 w5 : World} {base : Nat} {m m3 : RM} {os : List RF} (H : RPost w w4 base m m3) (hr : RowPost w4 w5 base m3 os) (hb : ∀ f ∈ os, 0 < f.pf.data.length → ∀ k, ablk f.A k → m.blk k ∨ w.heap.size ≤ k) :
    ∃ m', RPost w w5 base m m' ∧ m'.fs = os ∧ m'.room = m3.room ∧ m'.left = m3.left ∧ m'.down = m3.down := by
  obtain ⟨A, c, h1, h2, h3⟩ := hr
  have hs := H.fr.size
  refine ⟨_, ⟨h1, H.g, H.fr.step h2 fun k hk hc => (H.own k hc).elim id fun h => by omega, fun k hk => ?_, fun k hk => ?_⟩, rfl, rfl, rfl, rfl⟩
  · rcases hk with hk | hk
    · exact H.own k (.inl hk)
    · exact .inr (Nat.le_trans hs (h3 k hk))
  · rcases hk with (hk | hk) | ⟨f, hf, hp, hk⟩
    · exact H.blk k (.inl (.inl hk))
    · exact .inr (Nat.le_trans hs (h3 k hk))
    · exact hb f hf hp k hk
/-- as much as a call asks. -/
structure RFit (m : RM) : Prop where
  len : m.fs.length ≤ 32
  tot : ptotal m.pfs ≤ m.room
  room : m.room ≤ 1048576
  nodup : (m.pfs.map (·.name)).Nodup
  left : -9223372036854775808 ≤ m.left ∧ m.left ≤ 9223372036854775807
  last : ∀ f ∈ m.pfs, f.last ≤ f.data.length

set_option maxRecDepth 100000 in
theorem rsync_any (w : World) (base : Nat) (m : RM) (h : RIn w base m) (ht : RFit m) (key : Bs) :
    Calls Try.prog 32 #[.pointer (some ⟨m.g, 0, none⟩), .string (bstr key)] w (REnd w base m (pSync m.pd key)) := by
  have hl := ht.len
  have HFI := Lib.hid (rfind_any w base m h key (by omega))
  have HUS := Lib.hid (ruse_any w base m h ht.left)
  have HR := Lib.hid h
  have HT := Lib.hid ht
  have hgl := h.bk.lt
  obtain ⟨r, hr⟩ : ∃ r, r = pSync m.pd key := ⟨_, rfl⟩
  have HQ := Lib.hid hr
  rw [← hr]
  clear h ht hr
  unfold pSync at HQ
  go_enter Try.func32, Try.ntmps32
  go_wp2_with fail
  refine HFI.out.mono ?_
  clear HFI
  rintro e w1 ⟨hq, rfl⟩
  cases hd : m.down
  · rw [hd] at hq
    rcases hq with ⟨hn, rfl⟩ | ⟨j, f, hj, hk, hf, rfl⟩
    · have HZ : Hid (REnd w base m r (.returned (.int .i64 60)) w) := REnd.same HR.out (by
        rw [HQ.out]
        exact pChange_none _ _ hd hn)
      go_wp2_with fail
      go_ret
      exact HZ.out
    · have HJ := Lib.hid hj
      have HK := Lib.hid hk
      have hjl := (List.getElem?_eq_some_iff.1 hj).1
      have HQ1 : Hid (r = if m.left = 0 then (pspend m.pd, 3) else ({ pspend m.pd with files := pset m.pfs key fun g => { g with last := g.data.length } }, 0)) := by
        show _ = _
        rw [HQ.out]
        exact pChange_some _ _ hd hf
      clear hj hk hf HQ
      go_wp2_with fail
      refine HUS.out.mono ?_
      clear HUS
      rintro e w2 ⟨rfl, hp2⟩
      have HP2 := Lib.hid hp2
      clear hp2
      by_cases h0 : m.left = 0
      · have e0 : decide (m.left = 0) = true := decide_eq_true h0
        have HZ : Hid (REnd w base m r (.returned (.int .i64 3)) w2) := by
          refine ⟨?_, _, ?_, HP2.out⟩
          · rw [HQ1.out, if_pos h0]
          · rw [HQ1.out, if_pos h0, rspend_pd]
        rw [e0]
        clear e0 h0
        go_wp2_with fail
        go_ret
        exact HZ.out
      · have e0 : decide (m.left = 0) = false := decide_eq_false h0
        obtain ⟨s1, s2, s3, s4, s5⟩ := rspend_fs m
        have hj' : (rspend m).fs[j]? = some f := by rw [s1]; exact HJ.out
        obtain ⟨b, hA, hne, q0, q1, q2, hfz⟩ := HP2.out.rin.file hj'
        obtain ⟨_, c1, _, _⟩ := HP2.out.rin.cell
        have hg2 := HP2.out.rin.bk.lt
        rw [s2] at hg2 c1
        rw [hA, s1] at c1
        have hfz2 := hfz (j * 3 + 2)
        have HZ : Hid (REnd w base m r (.returned (.int .i64 0)) (w2.setCell ⟨b, j * 3 + 2, none⟩ (.int .i64 f.pf.data.length))) := by
          refine ⟨?_, _, ?_, HP2.out.trans (HP2.out.rin.turnP hj' hA { f with pf := { f.pf with last := f.pf.data.length } } 2 (by omega) (.int .i64 f.pf.data.length) rfl (HP2.out.rin.dat f (List.mem_of_getElem? hj')) fun hp k hk => .inr ⟨f, List.mem_of_getElem? hj', hp, hk⟩)⟩
          · rw [HQ1.out, if_neg h0]
          · rw [HQ1.out, if_neg h0]
            show (⟨(rspend m).room, (rspend m).left, (rspend m).down, ((rspend m).fs.set j _).map RF.pf⟩ : PD) = _
            have e1 : ((rspend m).fs.set j { f with pf := { f.pf with last := f.pf.data.length } }).map RF.pf = pset m.pfs key fun g => { g with last := g.data.length } := by
              rw [s1, List.map_set, ← HK.out]
              exact (pset_at m.pfs HT.out.nodup j f.pf (by show (m.fs.map RF.pf)[j]? = _; rw [List.getElem?_map, HJ.out]; rfl) (fun g => { g with last := g.data.length })).symm
            rw [e1, ← rspend_pd]
            rfl
        have i0' : (0 : Int) ≤ (j : Int) := by omega
        have i1' : (j : Int) < (m.fs.length : Int) := by omega
        rw [e0]
        clear e0 h0 hj' hA hne hfz q0 HP2 HQ1 s1 s2 s3 s4 s5
        generalize f.pf.data.length = dn at *
        go_wp2_with fail
        go_region
        all_goals
          go_wp2_with fail
          go_ret
          first | exact HZ.out | exact HZ.out.drew
  · rw [hd] at hq
    subst hq
    have HZ : Hid (REnd w base m r (.returned (.int .i64 3)) w) := REnd.same HR.out (by
      rw [HQ.out]
      exact pChange_down _ _ _ hd)
    go_wp2_with fail
    go_ret
    exact HZ.out
end Go.Proofs.Ytnmemdhajjibgaa
