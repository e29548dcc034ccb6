/- The law's rows and map beside voters and leaders; the whole between two steps. No condition. -/
import Derived.Test.YtlajhnplkfiiiaaLgU
namespace Go.Proofs.Ytlajhnplkfiiiaa
open Go.RowKit Go.Maps Go.Shelf

def vptr (v : ViU) : Value := .pointer (some ⟨v.g, 0, none⟩)
def lptr (a : LqJ) : Value := .pointer (some ⟨a.g, 0, none⟩)
def Sj (A : Option Addr) (n c : Nat) (B : Option Addr) (m d cm : Nat) : Nat → Prop := fun k => (Value.slice A n c).ownBlock = some k ∨ (Value.slice B m d).ownBlock = some k ∨ k = cm
structure JA (W w : World) (n m : Nat) (vs : List ViU) (ls : List LqJ) (LI : Nat → LdrI) (A : Option Addr) (c : Nat) (B : Option Addr) (d cm nch : Nat) (ch : Int → Option Int) : Prop where
  ag : AG W w (Sj A n c B m d cm) vs ls LI
  rv : w.ownsRow W.heap.size 27 1 (.slice A n c) n (vs.map vptr)
  rl : w.ownsRow W.heap.size 29 1 (.slice B m d) m (ls.map lptr)
  km : Km Try.prog 3 w cm nch (fun s => (ch s).map evI)
  n1 : ∀ k, (Value.slice A n c).ownBlock = some k → (Value.slice B m d).ownBlock ≠ some k
  n2 : ∀ k, (Value.slice A n c).ownBlock = some k → k ≠ cm
  n3 : ∀ k, (Value.slice B m d).ownBlock = some k → k ≠ cm
  b0 : W.heap.size ≤ cm
  lv : vs.length = n
  ll : ls.length = m
section
variable {W w w' : World} {n m : Nat} {vs : List ViU} {ls : List LqJ} {LI : Nat → LdrI} {A : Option Addr} {c : Nat} {B : Option Addr} {d cm nch : Nat} {ch : Int → Option Int} (h : JA W w n m vs ls LI A c B d cm nch ch)
include h
theorem JA.nofr (hf : Fr NoBlk w w') : JA W w' n m vs ls LI A c B d cm nch ch := ⟨h.ag.nofr hf, own_fr h.rv hf (fun _ _ e => e), own_fr h.rl hf (fun _ _ e => e), h.km.fr hf (fun e => e), h.n1, h.n2, h.n3, h.b0, h.lv, h.ll⟩
theorem JA.apart {C : Nat → Prop} (hC : ∀ k, C k → ¬ Sj A n c B m d cm k) (hf : Fr C w w') : w'.ownsRow W.heap.size 27 1 (.slice A n c) n (vs.map vptr) ∧ w'.ownsRow W.heap.size 29 1 (.slice B m d) m (ls.map lptr) ∧ Km Try.prog 3 w' cm nch (fun s => (ch s).map evI) :=
  ⟨own_fr h.rv hf (fun k hk e => hC k e (.inl hk)), own_fr h.rl hf (fun k hk e => hC k e (.inr (.inl hk))), h.km.fr hf (fun e => hC _ e (.inr (.inr rfl)))⟩
theorem JA.vturn {i : Nat} {v u : ViU} (hv : vs[i]? = some v) (hg : u.g = v.g) (hu : VoU w' W.heap.size u.g u.gt u.O u.p u.xs) (hf : Fr v.bl w w') (hb : ∀ k, u.bl k → v.bl k ∨ w.heap.size ≤ k) : JA W w' n m (vs.set i u) ls LI A c B d cm nch ch := by
  have hi := (List.getElem?_eq_some_iff.1 hv).1
  have hm := List.mem_of_getElem? hv
  obtain ⟨r1, r2, r3⟩ := h.apart (fun k hk e => h.ag.grp.row v hm k hk (.inl e)) hf
  have hmap : (vs.set i u).map vptr = vs.map vptr := by
    rw [List.map_set]
    refine List.ext_getElem? fun j => ?_
    by_cases e : j = i
    · subst e
      rw [List.getElem?_set_self (by rw [List.length_map]; exact hi), List.getElem?_map, hv]
      show some (vptr u) = some (vptr v)
      unfold vptr
      rw [hg]
    · rw [List.getElem?_set_ne (fun x => e x.symm)]
  exact ⟨h.ag.vturn hv hu hf hb, by rw [hmap]; exact r1, r2, r3, h.n1, h.n2, h.n3, h.b0, List.length_set.trans h.lv, h.ll⟩
theorem JA.lturn {j : Nat} {a : LqJ} {L' : LdrI} (ha : ls[j]? = some a) (hl : LdJ w' W.heap.size a L') (hf : Fr a.bl w w') : JA W w' n m vs ls (setN LI j L') A c B d cm nch ch := by
  obtain ⟨r1, r2, r3⟩ := h.apart (fun k hk e => (h.ag.sl k e).2 ⟨j, a, ha, hk⟩) hf
  exact ⟨h.ag.lturn ha hl hf, r1, r2, r3, h.n1, h.n2, h.n3, h.b0, h.lv, h.ll⟩
theorem JA.sub_lt {k : Nat} (hk : Sj A n c B m d cm k) : k < w.heap.size := (h.ag.sl k hk).1
theorem JA.pushV {u : ViU} {w1 w2 w3 : World} {A4 : Option Addr} {c4 : Nat} (hu : VoU w1 w.heap.size u.g u.gt u.O u.p u.xs) (hf : Fr NoBlk w w1) (hfa : Fr NoBlk w1 w2)
    (ho : w3.ownsRow W.heap.size 27 1 (.slice A4 (n + 1) c4) (n + 1) (vs.map vptr ++ [vptr u])) (hg : w2.grownBy w3 (Value.slice A n c).ownBlock)
    (hb : (Value.slice A4 (n + 1) c4).ownBlock = (Value.slice A n c).ownBlock ∨ (Value.slice A4 (n + 1) c4).ownBlock = some w2.heap.size) : JA W w3 (n + 1) m (vs ++ [u]) ls LI A4 c4 B d cm nch ch := by
  have hff := hf.trans hfa
  have hm := h.ag.vmore hu hf |>.nofr hfa
  have hfg : Fr (fun k => (Value.slice A n c).ownBlock = some k) w2 w3 := (Fr.ofGrown hg).mono fun _ _ e => e.symm
  have hcase : ∀ k, (Value.slice A4 (n + 1) c4).ownBlock = some k → (Value.slice A n c).ownBlock = some k ∨ k = w2.heap.size := fun k hk => by
    rcases hb with e | e
    · rw [e] at hk; exact .inl hk
    · rw [e] at hk; injection hk with hk; exact .inr hk.symm
  have hlB : ∀ k, (Value.slice B m d).ownBlock = some k → k < w2.heap.size := fun k hk => Nat.lt_of_lt_of_le (own_blk h.rl hk).2 hff.size
  have hlc : cm < w2.heap.size := Nat.lt_of_lt_of_le h.km.lt hff.size
  refine ⟨hm.far (hfg.mono fun _ _ e => .inl e) (hm.fr.step hfg fun k hk e => by have := (own_blk h.rv e).1; omega) (fun k hk => ?_) (fun k hk => ?_), by rw [List.map_append]; exact ho, own_fr (own_fr h.rl hff (fun _ _ e => e)) hfg (fun k hk e => h.n1 k e hk), (h.km.fr hff (fun e => e)).fr hfg (fun e => h.n2 _ e rfl), fun k hk e => ?_, fun k hk => ?_, h.n3, h.b0, by rw [List.length_append, h.lv]; rfl, h.ll⟩
  · rcases hk with hk | hk | hk
    · rcases hcase k hk with hk | hk
      · exact .inl (.inl hk)
      · exact .inr (by omega)
    · exact .inl (.inr (.inl hk))
    · exact .inl (.inr (.inr hk))
  · rcases hk with hk | hk | hk
    · exact (own_blk ho hk).2
    · exact Nat.lt_of_lt_of_le (hlB k hk) hg.size
    · rw [hk]; exact Nat.lt_of_lt_of_le hlc hg.size
  · rcases hcase k hk with hk | hk
    · exact h.n1 k hk e
    · have := hlB k e; omega
  · rcases hcase k hk with hk | hk
    · exact h.n2 k hk
    · omega
theorem JA.pushL {a : LqJ} {L' : LdrI} {w1 w2 w3 : World} {B4 : Option Addr} {d4 : Nat} (hl : LdJ w1 w.heap.size a L') (hf : Fr NoBlk w w1) (hfa : Fr NoBlk w1 w2)
    (ho : w3.ownsRow W.heap.size 29 1 (.slice B4 (m + 1) d4) (m + 1) (ls.map lptr ++ [lptr a])) (hg : w2.grownBy w3 (Value.slice B m d).ownBlock)
    (hb : (Value.slice B4 (m + 1) d4).ownBlock = (Value.slice B m d).ownBlock ∨ (Value.slice B4 (m + 1) d4).ownBlock = some w2.heap.size) : JA W w3 n (m + 1) vs (ls ++ [a]) (setN LI m L') A c B4 d4 cm nch ch := by
  have hff := hf.trans hfa
  have hm := h.ag.lmore hl hf |>.nofr hfa
  rw [h.ll] at hm
  have hfg : Fr (fun k => (Value.slice B m d).ownBlock = some k) w2 w3 := (Fr.ofGrown hg).mono fun _ _ e => e.symm
  have hcase : ∀ k, (Value.slice B4 (m + 1) d4).ownBlock = some k → (Value.slice B m d).ownBlock = some k ∨ k = w2.heap.size := fun k hk => by
    rcases hb with e | e
    · rw [e] at hk; exact .inl hk
    · rw [e] at hk; injection hk with hk; exact .inr hk.symm
  have hlA : ∀ k, (Value.slice A n c).ownBlock = some k → k < w2.heap.size := fun k hk => Nat.lt_of_lt_of_le (own_blk h.rv hk).2 hff.size
  have hlc : cm < w2.heap.size := Nat.lt_of_lt_of_le h.km.lt hff.size
  refine ⟨hm.far (hfg.mono fun _ _ e => .inr (.inl e)) (hm.fr.step hfg fun k hk e => by have := (own_blk h.rl e).1; omega) (fun k hk => ?_) (fun k hk => ?_), own_fr (own_fr h.rv hff (fun _ _ e => e)) hfg (fun k hk e => h.n1 k hk e), by rw [List.map_append]; exact ho, (h.km.fr hff (fun e => e)).fr hfg (fun e => h.n3 _ e rfl), fun k hk e => ?_, h.n2, fun k hk => ?_, h.b0, h.lv, by rw [List.length_append, h.ll]; rfl⟩
  · rcases hk with hk | hk | hk
    · exact .inl (.inl hk)
    · rcases hcase k hk with hk | hk
      · exact .inl (.inr (.inl hk))
      · exact .inr (by omega)
    · exact .inl (.inr (.inr hk))
  · rcases hk with hk | hk | hk
    · exact Nat.lt_of_lt_of_le (hlA k hk) hg.size
    · exact (own_blk ho hk).2
    · rw [hk]; exact Nat.lt_of_lt_of_le hlc hg.size
  · rcases hcase k e with e | e
    · exact h.n1 k hk e
    · have := hlA k hk; omega
  · rcases hcase k hk with hk | hk
    · exact h.n3 k hk
    · omega
theorem JA.kput {s y : Int} {k' : Nat} (hk : Km Try.prog 3 w' cm k' (updK (fun s => (ch s).map evI) s (some (evI y)))) (hf : Fr (fun j => j = cm) w w') : JA W w' n m vs ls LI A c B d cm k' (updK ch s (some y)) :=
  ⟨h.ag.far (hf.mono fun _ _ e => .inr (.inr e)) (h.ag.fr.step hf fun k hk e => by have := h.b0; omega) (fun k hk => .inl hk) (fun k hk => Nat.lt_of_lt_of_le (h.sub_lt hk) hf.size), own_fr h.rv hf (fun k hk e => h.n2 k hk e), own_fr h.rl hf (fun k hk e => h.n3 k hk e), hk.congr fun x _ => by
    show (updK ch s (some y) x).map evI = _
    unfold updK
    split <;> rfl, h.n1, h.n2, h.n3, h.b0, h.lv, h.ll⟩
theorem JA.vat {i : Nat} {v : ViU} (hv : vs[i]? = some v) : ∃ b o, A = some ⟨b, o, none⟩ ∧ w.cell? ⟨b, o + i, none⟩ = some (.pointer (some ⟨v.g, 0, none⟩)) :=
  (own_cells h.rv).1.at_ (k := i) (v := vptr v) (by rw [List.getElem?_map, hv]; rfl)
theorem JA.lat {j : Nat} {a : LqJ} (ha : ls[j]? = some a) : ∃ b o, B = some ⟨b, o, none⟩ ∧ w.cell? ⟨b, o + j, none⟩ = some (.pointer (some ⟨a.g, 0, none⟩)) :=
  (own_cells h.rl).1.at_ (k := j) (v := lptr a) (by rw [List.getElem?_map, ha]; rfl)
end
/-- the voters' data as functions. -/
def pvF (vs : List ViU) (i : Nat) : Nat := match vs[i]? with | some v => v.p | none => 0
def xvF (vs : List ViU) (i : Nat) : List ItU := match vs[i]? with | some v => v.xs | none => []
theorem pvF_at {vs : List ViU} {i : Nat} {v : ViU} (h : vs[i]? = some v) : pvF vs i = v.p := by unfold pvF; rw [h]
theorem xvF_at {vs : List ViU} {i : Nat} {v : ViU} (h : vs[i]? = some v) : xvF vs i = v.xs := by unfold xvF; rw [h]
theorem pvF_set {vs : List ViU} {i : Nat} {v u : ViU} (h : vs[i]? = some v) : pvF (vs.set i u) = setN (pvF vs) i u.p := by
  funext j
  have hi := (List.getElem?_eq_some_iff.1 h).1
  by_cases e : j = i
  · subst e
    rw [setN_same, pvF_at (List.getElem?_set_self hi)]
  · rw [setN_other _ _ e]
    unfold pvF
    rw [List.getElem?_set_ne (fun x => e x.symm)]
theorem xvF_set {vs : List ViU} {i : Nat} {v u : ViU} (h : vs[i]? = some v) : xvF (vs.set i u) = setN (xvF vs) i u.xs := by
  funext j
  have hi := (List.getElem?_eq_some_iff.1 h).1
  by_cases e : j = i
  · subst e
    rw [setN_same, xvF_at (List.getElem?_set_self hi)]
  · rw [setN_other _ _ e]
    unfold xvF
    rw [List.getElem?_set_ne (fun x => e x.symm)]
theorem setN_id {α : Type} (f : Nat → α) (i : Nat) {a : α} (h : f i = a) : setN f i a = f := by
  funext j
  by_cases e : j = i
  · subst e; rw [setN_same, h]
  · rw [setN_other _ _ e]
/-- what stands between two steps. -/
structure JX (n k : Nat) (vs : List ViU) (LI : Nat → LdrI) (ch : Int → Option Int) (nch : Nat) : Prop where
  px : ∃ Vt P, Px n (pvF vs) (xvF vs) LI Vt P ch
  nv : ∀ b, b < 4 → (LI b).nv ≤ 65 * k
  nc : nch ≤ k
theorem JX.succ {n k : Nat} {vs : List ViU} {LI : Nat → LdrI} {ch : Int → Option Int} {nch : Nat} (h : JX n k vs LI ch nch) : JX n (k + 1) vs LI ch nch := ⟨h.px, fun b hb => by have := h.nv b hb; omega, by have := h.nc; omega⟩
theorem JX.bounds {n k : Nat} {vs : List ViU} {LI : Nat → LdrI} {ch : Int → Option Int} {nch : Nat} (h : JX n k vs LI ch nch) {b : Nat} (hb : b < 4) : (LI b).np ≤ n ∧ (LI b).nt ≤ n := by
  obtain ⟨Vt, P, hx⟩ := h.px
  exact ⟨(hx.lx b hb).npb, by rw [(hx.lx b hb).ntc]; exact cnt_le _ n⟩
theorem promI_nv (L : LdrI) (x : Int) (vs : List VtI) : (promI L x vs).nv ≤ L.nv + vs.length := by
  have key : ∀ (vs : List VtI) (L : LdrI), (vs.foldl toldI L).nv ≤ L.nv + vs.length := by
    intro vs
    induction vs with
    | nil => exact fun L => Nat.le_refl _
    | cons v t ih =>
      intro L
      rw [List.foldl_cons, List.length_cons]
      have h1 := ih (toldI L v)
      have h2 : (toldI L v).nv ≤ L.nv + 1 := (toldI_same L v).2.2.2.2.2.2.2
      omega
  unfold promI
  split
  · omega
  · have h1 := key vs { L with pr := hearP L.pr L.voters x, np := L.np + 1 }
    split
    · exact h1
    · exact h1
theorem offI_nv (L : LdrI) (v : Int) : (offI L v).nv ≤ L.nv + 1 := by
  unfold offI
  split
  · exact Nat.le_refl _
  · exact Nat.le_succ _
theorem takenI_nv (L : LdrI) (x s : Int) : (takenI L x s).1.nv ≤ L.nv := by
  unfold takenI
  split
  · exact Nat.le_refl _
  · split
    · exact Nat.le_refl _
    · split
      · exact Nat.sub_le _ _
      · exact Nat.le_refl _
end Go.Proofs.Ytlajhnplkfiiiaa
