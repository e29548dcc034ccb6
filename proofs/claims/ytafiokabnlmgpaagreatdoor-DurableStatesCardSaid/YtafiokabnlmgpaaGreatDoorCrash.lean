/- The disk's Crash: a new disk, of what is kept. Condition: lengths. -/
import Derived.Test.YtafiokabnlmgpaaGreatDoorCrashed
namespace Go.Proofs.YtafiokabnlmgpaaGreatDoor
open Go.RowKit Go.Maps

theorem DkIn.add {w w' : World} {B gd : Nat} {m : Dsk} (h : DkIn w B gd m) {x : Fil} (hx : FilIn w B x) (hfar : ∀ f ∈ m.files, Far x f) (hk : look (fsOf m.files) x.name = none) (h32 : m.files.length < 32) (hfit : x.data.length + total m.files ≤ m.room)
    (hm : Mp w' m.bm (putF (fsOf m.files) x.name x.blk)) (hf : Fr (fun j => j = m.bm) w w') : DkIn w' B gd { m with files := insFil x m.files } := by
  have hp := insFil_perm x m.files
  have hfil : ∀ f, FilIn w B f → FilIn w' B f := fun f hf' => hf'.fr hf (fun e => hf'.bk.notMap h.mp e) fun j hj e => own_notMap hf'.own h.mp hj e
  refine ⟨h.bk.fr hf (fun e => h.bk.notMap h.mp e), ?_, ?_, ?_, h.bd, h.bb, ?_, h.most, ?_, h.lf⟩
  · show Mp w' m.bm (fsOf (insFil _ _))
    rw [fsOf_ins]
    unfold putF at hm
    rw [delF_none hk] at hm
    exact hm
  · intro f hf'
    rcases List.mem_cons.1 (hp.mem_iff.1 hf') with rfl | hf'
    · exact hfil _ hx
    · exact hfil f (h.fil f hf')
  · exact (hp.pairwise_iff fun {a b} hab => hab.symm).2 (List.pairwise_cons.2 ⟨hfar, h.far⟩)
  · show total (insFil _ _) ≤ m.room
    rw [total_perm hp]
    exact hfit
  · show (insFil _ _).length ≤ 32
    rw [hp.length_eq, List.length_cons]
    omega
theorem insFil_last (x : Fil) (L : List Fil) (h : ∀ f ∈ L, Op.bytesLess f.name x.name = true) : insFil x L = L ++ [x] := by
  induction L with
  | nil => rfl
  | cons y t ih =>
    simp only [insFil]
    rw [if_neg (by rw [less_asymm (h y (List.mem_cons_self ..))]; simp), ih fun f hf => h f (List.mem_cons_of_mem _ hf)]
    rfl
theorem pcrashL_get (L : List PF) (ks : List Int) (i : Nat) : (pcrashL L ks)[i]? = (L[i]?).map fun f => pcrashF f (ks.getD i 0) := by
  induction L generalizing ks i with
  | nil => simp [pcrashL]
  | cons f t ih =>
    cases i with
    | zero => cases ks <;> simp [pcrashL]
    | succ i =>
      simp only [pcrashL, List.getElem?_cons_succ]
      rw [ih]
      congr 1
      funext g
      cases ks <;> simp
theorem pcrashL_len (L : List PF) (ks : List Int) : (pcrashL L ks).length = L.length := by
  induction L generalizing ks with
  | nil => rfl
  | cons f t ih => simp [pcrashL, ih]
def ics (ks : List Int) : List Value := ks.map fun z => .int .i64 z
theorem total_append (L M : List Fil) : total (L ++ M) = total L + total M := by
  induction L with
  | nil => simp [total]
  | cons f t ih => simp only [List.cons_append, total, ih]; omega
theorem total_take (L : List Fil) (i : Nat) : total (L.take i) ≤ total L := by
  conv => rhs; rw [← List.take_append_drop i L]
  rw [total_append]; omega

/-- how far a crash has come. -/
structure CrLoop (w wr : World) (m : Dsk) (ks : List Int) (g2 b2 : Nat) (i : Nat) (L : List Fil) : Prop where
  dk : DkIn wr w.heap.size g2 ⟨m.room, b2, -1, false, L⟩
  pf : L.map Fil.pf = (pcrashL (m.files.map Fil.pf) ks).take i
  tot : total L ≤ total (m.files.take i)
  fr : Fr NoBlk w wr
theorem CrLoop.names {w wr : World} {m : Dsk} {ks : List Int} {g2 b2 i : Nat} {L : List Fil} (h : CrLoop w wr m ks g2 b2 i L) (hi : i ≤ m.files.length) : L.length = i ∧ ∀ (j : Nat) (f : Fil), L[j]? = some f → ∃ g, m.files[j]? = some g ∧ g.name = f.name := by
  have hl : L.length = i := by
    have := congrArg List.length h.pf
    rw [List.length_map, List.length_take, pcrashL_len, List.length_map] at this
    omega
  refine ⟨hl, fun j f hf => ?_⟩
  have hj := (List.getElem?_eq_some_iff.1 hf).1
  have h1 : (L.map Fil.pf)[j]? = some f.pf := by rw [List.getElem?_map, hf]; rfl
  rw [h.pf, List.getElem?_take, if_pos (by omega), pcrashL_get, List.getElem?_map] at h1
  cases hg : m.files[j]? with
  | none => rw [hg] at h1; cases h1
  | some g =>
    rw [hg] at h1
    injection h1 with h1
    exact ⟨g, rfl, congrArg PF.name h1⟩
theorem CrLoop.next {w wr w5 w6 : World} {B gd : Nat} {m : Dsk} {ks : List Int} {g2 b2 i : Nat} {L : List Fil} (h : CrLoop w wr m ks g2 b2 i L) (hm : DkIn w B gd m) {f : Fil} (hf : m.files[i]? = some f)
    {g : Nat} {A : Option Addr} {c : Nat} (hx : FilIn w5 wr.heap.size ⟨f.name, g, A, c, (pcrashF f.pf (ks.getD i 0)).data, (pcrashF f.pf (ks.getD i 0)).last⟩) (h5 : Fr NoBlk wr w5)
    (hmp : Mp w6 b2 (putF (fsOf L) f.name g)) (h6 : Fr (fun j => j = b2) w5 w6) : CrLoop w w6 m ks g2 b2 (i + 1) (L ++ [⟨f.name, g, A, c, (pcrashF f.pf (ks.getD i 0)).data, (pcrashF f.pf (ks.getD i 0)).last⟩]) := by
  have hi := (List.getElem?_eq_some_iff.1 hf).1
  obtain ⟨hl, hn⟩ := h.names (by omega)
  obtain ⟨x, hxe⟩ : ∃ x : Fil, x = ⟨f.name, g, A, c, (pcrashF f.pf (ks.getD i 0)).data, (pcrashF f.pf (ks.getD i 0)).last⟩ := ⟨_, rfl⟩
  have hxn : x.name = f.name := by rw [hxe]
  have hxb : x.blk = g := by rw [hxe]
  have hxp : x.pf = pcrashF f.pf (ks.getD i 0) := by rw [hxe]; rfl
  have hxd : x.data.length ≤ f.data.length := by
    rw [hxe]
    show ((f.pf.data).take _).length ≤ _
    rw [List.length_take]
    exact Nat.min_le_right _ _
  rw [← hxe] at hx ⊢
  have d5 := h.dk.nofr h5
  have hws := h.fr.size
  have hw5 := h5.size
  have hless : ∀ y ∈ L, Op.bytesLess y.name x.name = true := fun y hy => by
    obtain ⟨j, hj, rfl⟩ := List.getElem_of_mem hy
    obtain ⟨y', hy', e⟩ := hn j _ (List.getElem?_eq_getElem hj)
    have hup := hm.up
    rw [Up, List.pairwise_map] at hup
    have := List.pairwise_iff_getElem.1 hup j i (by omega) hi (by omega)
    rw [hxn, ← e]
    rw [List.getElem?_eq_getElem (by omega)] at hy' hf
    injection hy' with hy'
    injection hf with hf
    rw [← hy', ← hf]
    exact this
  have hfar : ∀ y ∈ L, Far x y := fun y hy => by
    have hyi := h.dk.fil y hy
    have hyl := hyi.bk.lt
    have hxl := hx.base
    refine ⟨by omega, fun k hk e => ?_⟩
    have h1 := (own_lt hx.own hk).1
    have h2 := (own_lt hyi.own e).2
    omega
  have hlk : look (fsOf L) x.name = none := by
    cases hq : look (fsOf L) x.name with
    | none => rfl
    | some q =>
      exfalso
      obtain ⟨y, hy, e, _⟩ := look_mem hq
      exact less_ne (hless y hy) e
  have htk : m.files.take (i + 1) = m.files.take i ++ [f] := by
    rw [List.take_succ_eq_append_getElem hi]
    rw [List.getElem?_eq_getElem hi] at hf
    injection hf with hf
    rw [hf]
  have htt : total (L ++ [x]) ≤ total (m.files.take (i + 1)) := by
    rw [htk, total_append, total_append]
    simp only [total]
    have := h.tot
    omega
  have htot : x.data.length + total L ≤ m.room := by
    have h1 := total_take m.files (i + 1)
    rw [total_append] at htt
    simp only [total] at htt
    have := hm.fits
    omega
  rw [← hxb, ← hxn] at hmp
  have hd := DkIn.add d5 (x := x) ⟨hx.bk, own_base hx.own (by omega), by have := hx.base; omega, hx.lasts, hx.nm⟩ hfar hlk (by have := hm.few; show L.length < 32; omega) htot hmp h6
  refine ⟨?_, ?_, htt, (h.fr.trans h5).step h6 fun j hj e => ?_⟩
  · have e : insFil x L = L ++ [x] := insFil_last x L hless
    dsimp only at hd
    rw [e] at hd
    exact hd
  · rw [List.map_append, h.pf, List.map_cons, List.map_nil, hxp]
    have hgl : (pcrashL (m.files.map Fil.pf) ks)[i]? = some (pcrashF f.pf (ks.getD i 0)) := by rw [pcrashL_get, List.getElem?_map, hf]; rfl
    obtain ⟨hil, hie⟩ := List.getElem?_eq_some_iff.1 hgl
    rw [List.take_succ_eq_append_getElem hil, hie]
  · have := h.dk.bb
    have : w.heap.size ≤ b2 := this
    omega
end Go.Proofs.YtafiokabnlmgpaaGreatDoor
