/- No two values are chosen at one place: each step keeps what holds. No condition. -/
import Derived.Test.YtlajhnplkfiiiaaPxP
namespace Go.Proofs.Ytlajhnplkfiiiaa
open Go.RowKit Go.Maps

theorem valO_some {L : LdrI} {x : Int} (h : valOI L = some x) : L.leads = true ∧ ∃ q β, L.vals (L.slot : Int) = some (q, β, x) := by
  unfold valOI at h
  by_cases hl : L.leads = true
  · rw [if_pos hl] at h
    cases hv : L.vals (L.slot : Int) with
    | none => rw [hv] at h; cases h
    | some u =>
      rw [hv] at h
      injection h with h
      exact ⟨hl, u.1, u.2.1, by rw [← h]⟩
  · rw [if_neg hl] at h
    cases h
theorem Vx.up {Vt : Nat → Int → Prop} {P : Nat → Int → Option Int} {p p' : Nat} {xs : List ItU} (h : Vx Vt P p xs) (hp : p ≤ p') : Vx Vt P p' xs :=
  ⟨h.v0, fun s v hv => ⟨Nat.le_trans (h.v1 s v hv).1 hp, (h.v1 s v hv).2⟩, fun c s hv => ⟨Nat.le_trans (h.v2 c s hv).1 hp, (h.v2 c s hv).2⟩⟩
theorem setN_up {pv : Nat → Nat} {i c : Nat} (h : pv i ≤ c) (j : Nat) : pv j ≤ setN pv i c j := by
  by_cases e : j = i
  · subst e; rw [setN_same]; exact h
  · rw [setN_other _ _ e]; exact Nat.le_refl _
theorem ge_mem {xs : List ItU} (h : ∀ s v, (s, v) ∈ xs → 0 ≤ s) (x : ItU) : x ∈ geL ltI 0 xs ↔ x ∈ xs := by
  unfold geL
  rw [List.mem_filter]
  refine ⟨fun e => e.1, fun e => ⟨e, ?_⟩⟩
  have := h x.1 x.2 e
  have e2 : ltI x.1 0 = false := by unfold ltI; exact decide_eq_false (by omega)
  rw [e2]
  rfl
theorem hear_pr {pr : Int → Bool} {n i : Nat} (h : hearB pr n (i : Int) = true) : pr (i : Int) = false ∧ hearP pr n (i : Int) = fun y => decide (y = (i : Int)) || pr y := by
  refine ⟨?_, by unfold hearP; rw [if_pos h]⟩
  unfold hearB at h
  cases hp : pr (i : Int) with
  | false => rfl
  | true => rw [hp] at h; simp at h
section
variable {n : Nat} {pv : Nat → Nat} {xv : Nat → List ItU} {L : Nat → LdrI} {Vt : Nat → Nat → Int → Prop} {P : Nat → Int → Option Int} {ch : Int → Option Int} (h : Px n pv xv L Vt P ch)
include h
/-- a promise, and the leader that is told of it. -/
theorem Px.prom {i b : Nat} (hi : i < n) (hb : b < 4) (hp : ¬ b + 1 < pv i) : Px n (setN pv i (b + 1)) xv (setN L b (promI (L b) (i : Int) ((geL ltI 0 (xv i)).map tri))) Vt P ch := by
  have hup : ∀ j, pv j ≤ setN pv i (b + 1) j := setN_up (by omega)
  have hms : ∀ c s x, Safe n pv Vt P c s x → Safe n (setN pv i (b + 1)) Vt P c s x := fun c s x hs => hs.mono (fun j _ => hup j) (fun _ _ e => e) (fun _ _ _ e => e) (fun _ _ _ a e => absurd a e)
  have hmx : ∀ b', b' < 4 → Lx n (setN pv i (b + 1)) Vt P (b' + 1) (L b') := fun b' hb' => (h.lx b' hb').mono (fun j _ => hup j) (fun _ _ _ e => e) (fun _ _ _ _ e => e) (fun _ _ _ _ a e => absurd a e) (h.lx b' hb').l4 (h.lx b' hb').l3b
  refine ⟨fun j hj => (h.vx j hj).up (hup j), h.v3, fun c s x hx => hms c s x (h.p1 c s x hx), fun b' hb' => ?_, h.chx⟩
  by_cases e : b' = b
  · subst e
    rw [setN_same]
    have hx := h.lx b' hb'
    have hmb := hmx b' hb'
    unfold promI
    by_cases hc : (L b').leads = true ∨ hearB (L b').pr (L b').voters (i : Int) = false
    · rw [if_pos hc]
      exact hmb
    · rw [if_neg hc]
      have hl : (L b').leads = false := by
        cases hq : (L b').leads with
        | false => rfl
        | true => exact absurd (.inl hq) hc
      have hh : hearB (L b').pr (L b').voters (i : Int) = true := by
        cases hq : hearB (L b').pr (L b').voters (i : Int) with
        | true => rfl
        | false => exact absurd (.inr hq) hc
      have hvo := hx.vo
      obtain ⟨hpr, hhp⟩ := hear_pr hh
      have hvi := h.vx i hi
      have hmem : ∀ u, u ∈ geL ltI 0 (xv i) ↔ u ∈ xv i := ge_mem fun s v hv => (hvi.v0 s v hv).2.1
      obtain ⟨f, m, he, hm, ha, hbb, hcc⟩ := told_fold ((geL ltI 0 (xv i)).map tri) { (L b') with pr := hearP (L b').pr (L b').voters (i : Int), np := (L b').np + 1 } (hx.sl0 hl) (fun v hv => by
        obtain ⟨u, hu, rfl⟩ := List.mem_map.1 hv
        have := hvi.v0 u.1 u.2 ((hmem u).1 hu)
        show 0 ≤ u.2.slot ∧ u.2.slot < 64
        omega)
      rw [he]
      have hnp := hx.npc hl
      have hcn : cnt (fun j : Nat => decide ((j : Int) = (i : Int)) || (L b').pr (j : Int)) n = (L b').np + 1 := by rw [cnt_hear hi hpr, hnp]
      have hF1 : ∀ j, j < n → (decide ((j : Int) = (i : Int)) || (L b').pr (j : Int)) = true → b' + 1 ≤ setN pv i (b' + 1) j ∧ ∀ d s, d < b' + 1 → Vt j d s → ∃ q β x, f s = some (q, β, x) ∧ d ≤ β := fun j hj hjp => by
        by_cases ej : j = i
        · subst ej
          refine ⟨by rw [setN_same]; exact Nat.le_refl _, fun d s hd hv => ?_⟩
          obtain ⟨_, v, hv2⟩ := hvi.v2 d s hv
          obtain ⟨_, _, _, hv3⟩ := hvi.v1 s v hv2
          obtain ⟨q, β, x, h1, h2⟩ := hcc (tri (s, v)) (List.mem_map.2 ⟨(s, v), (hmem _).2 hv2, rfl⟩)
          have e1 : (tri (s, v)).1 = s := (hvi.v0 s v hv2).1
          rw [e1] at h1
          have h3 : v.bal ≤ β := h2
          exact ⟨q, β, x, h1, Nat.le_trans (hv3 d hv) h3⟩
        · rw [decide_eq_false (by omega), Bool.false_or] at hjp
          obtain ⟨h1, h2⟩ := hx.l1 hl j hj hjp
          refine ⟨Nat.le_trans h1 (hup j), fun d s hd hv => ?_⟩
          obtain ⟨q, β, x, h3, h4⟩ := h2 d s hd hv
          obtain ⟨q', β', x', h5, h6⟩ := hbb s q β x h3
          exact ⟨q', β', x', h5, by omega⟩
      have hF2 : ∀ s q β x, f s = some (q, β, x) → β < b' + 1 ∧ P β s = some x := fun s q β x hv => by
        rcases ha s q β x hv with hv | ⟨v, hv, e1, e2, e3⟩
        · exact hx.l2 hl s q β x hv
        · obtain ⟨u, hu, rfl⟩ := List.mem_map.1 hv
          have hu' := (hmem u).1 hu
          obtain ⟨k1, k2, k3, k4⟩ := hvi.v1 u.1 u.2 hu'
          have e0 : u.2.slot = u.1 := (hvi.v0 u.1 u.2 hu').1
          have e1' : u.2.slot = s := e1
          have e2' : u.2.bal = β := e2
          have e3' : u.2.val = x := e3
          have e4 : u.1 = s := e0.symm.trans e1'
          rw [e4, e2', e3'] at k3
          refine ⟨?_, k3⟩
          by_cases eb : β = b' + 1
          · rw [eb, hx.l4 hl s] at k3
            cases k3
          · omega
      have htk : (L b').nt = cnt (fun j => (L b').tk (j : Int)) n := hx.ntc
      by_cases hq0 : (L b').voters < 2 * ((L b').np + 1)
      · rw [if_pos hq0]
        have hq : n < 2 * ((L b').np + 1) := by rw [← hvo]; exact hq0
        have hsafe : ∀ s, (∀ q β x, f s = some (q, β, x) → Safe n (setN pv i (b' + 1)) Vt P (b' + 1) s x) ∧ (f s = none → ∀ x, Safe n (setN pv i (b' + 1)) Vt P (b' + 1) s x) := fun s => by
          refine ⟨fun q β x hv d hd => ?_, fun hv x d hd => ?_⟩
          · obtain ⟨k1, k2⟩ := hF2 s q β x hv
            rcases Nat.lt_trichotomy d β with hlt | rfl | hgt
            · exact hms _ _ _ (h.p1 β s x k2) d hlt
            · refine ⟨_, by rw [hcn]; exact hq, fun j hj hjq => ?_⟩
              obtain ⟨h1, h2⟩ := hF1 j hj hjq
              by_cases hvt : Vt j d s
              · exact .inl ⟨hvt, k2⟩
              · exact .inr ⟨hvt, by omega⟩
            · refine ⟨_, by rw [hcn]; exact hq, fun j hj hjq => ?_⟩
              obtain ⟨h1, h2⟩ := hF1 j hj hjq
              refine .inr ⟨fun hvt => ?_, by omega⟩
              obtain ⟨q', β', x', h3, h4⟩ := h2 d s hd hvt
              rw [hv] at h3
              injection h3 with h3
              injection h3 with _ h3
              injection h3 with h3 _
              omega
          · refine ⟨_, by rw [hcn]; exact hq, fun j hj hjq => ?_⟩
            obtain ⟨h1, h2⟩ := hF1 j hj hjq
            refine .inr ⟨fun hvt => ?_, by omega⟩
            obtain ⟨q', β', x', h3, h4⟩ := h2 d s hd hvt
            rw [hv] at h3
            cases h3
        exact ⟨hvo, Nat.zero_le _, htk, (fun e => by cases e), (fun e => by cases e), (fun e => by cases e), (fun e => by cases e), fun _ s _ => hsafe s, (fun _ s x _ hP => by rw [hx.l4 hl s] at hP; cases hP), (fun e => by cases e), hx.l5⟩
      · rw [if_neg hq0]
        refine ⟨hvo, ?_, htk, fun _ => ?_, hx.sl0, fun _ j hj hjp => hF1 j hj ?_, fun _ => hF2, fun e => ?_, fun e => ?_, hx.l4, hx.l5⟩
        · show (L b').np + 1 ≤ n
          rw [← hcn]
          exact cnt_le _ n
        · show (L b').np + 1 = cnt (fun j : Nat => hearP (L b').pr (L b').voters (i : Int) (j : Int)) n
          rw [hhp]
          exact hcn.symm
        · have : hearP (L b').pr (L b').voters (i : Int) (j : Int) = true := hjp
          rw [hhp] at this
          exact this
        · rw [show (L b').leads = true from e] at hl; cases hl
        · rw [show (L b').leads = true from e] at hl; cases hl
  · rw [setN_other _ _ e]
    exact hmx b' hb'
/-- an offer. -/
theorem Px.offer {b : Nat} (hb : b < 4) (v : Int) : Px n pv xv (setN L b (offI (L b) v)) Vt P ch := by
  refine ⟨h.vx, h.v3, h.p1, fun b' hb' => ?_, h.chx⟩
  by_cases e : b' = b
  · subst e
    rw [setN_same]
    have hx := h.lx b' hb'
    unfold offI
    by_cases ho : offBI (L b') = true
    · rw [if_pos ho]
      unfold offBI at ho
      rw [Bool.and_eq_true, Bool.and_eq_true] at ho
      have hl : (L b').leads = true := ho.1.2
      have hv : (L b').vals ((L b').slot : Int) = none := by
        have h1 := ho.1.1
        unfold valOI at h1
        rw [if_pos hl] at h1
        cases hq : (L b').vals ((L b').slot : Int) with
        | none => rfl
        | some u => rw [hq] at h1; cases h1
      have hno : ∀ {q : Prop}, (L b').leads = false → q := fun e => by rw [hl] at e; cases e
      refine ⟨hx.vo, hx.npb, hx.ntc, fun e => hno e, fun e => hno e, fun e => hno e, fun e => hno e, fun _ s hs => ?_, fun _ s x hs hP => ?_, fun e => hno e, hx.l5⟩
      · show (∀ q β x, updK (L b').vals ((L b').slot : Int) (some (0, 0, v)) s = some (q, β, x) → _) ∧ (updK (L b').vals ((L b').slot : Int) (some (0, 0, v)) s = none → _)
        by_cases es : s = ((L b').slot : Int)
        · subst es
          rw [updK_same]
          exact ⟨fun q β x hq => by injection hq with hq; injection hq with _ hq; injection hq with _ hq; subst hq; exact (hx.l3 hl _ hs).2 hv _, fun hq => by cases hq⟩
        · rw [updK_other _ _ es]
          exact hx.l3 hl s hs
      · obtain ⟨e1, q, β, e2⟩ := hx.l3b hl s x hs hP
        rw [e1, hv] at e2
        cases e2
    · rw [if_neg ho]
      exact hx
  · rw [setN_other _ _ e]
    exact h.lx b' hb'
/-- a vote that is taken. -/
theorem Px.acc {i b : Nat} {x : Int} (hi : i < n) (hb : b < 4) (hv : valOI (L b) = some x) (ht : takesU (pv i) ⟨((L b).slot : Int), b + 1, x⟩ = true) :
    ∃ Vt' P', Px n (setN pv i (b + 1)) (setN xv i (putL ltI ((L b).slot : Int) ⟨((L b).slot : Int), b + 1, x⟩ (xv i))) L Vt' P' ch ∧ Vt' i (b + 1) ((L b).slot : Int) ∧ P' (b + 1) ((L b).slot : Int) = some x := by
  obtain ⟨hl, q0, β0, hvs⟩ := valO_some hv
  obtain ⟨s, hs⟩ : ∃ s : Int, s = ((L b).slot : Int) := ⟨_, rfl⟩
  rw [← hs] at hvs ht ⊢
  have hx := h.lx b hb
  unfold takesU at ht
  simp only [Bool.and_eq_true, decide_eq_true_eq, Bool.not_eq_true', decide_eq_false_iff_not] at ht
  have hpc : pv i ≤ b + 1 := by omega
  have hup : ∀ j, pv j ≤ setN pv i (b + 1) j := setN_up hpc
  have hPx : ∀ y, P (b + 1) s = some y → y = x := fun y hy => by
    obtain ⟨_, q, β, e2⟩ := hx.l3b hl s y (by rw [hs]; exact Int.le_refl _) hy
    rw [hvs] at e2
    injection e2 with e2
    injection e2 with _ e2
    injection e2 with _ e2
    exact e2.symm
  obtain ⟨Vt', hVt⟩ : ∃ Vt' : Nat → Nat → Int → Prop, Vt' = fun j d u => Vt j d u ∨ (j = i ∧ d = b + 1 ∧ u = s) := ⟨_, rfl⟩
  obtain ⟨P', hP'⟩ : ∃ P' : Nat → Int → Option Int, P' = fun d u => if d = b + 1 ∧ u = s then some x else P d u := ⟨_, rfl⟩
  have hPn : P' (b + 1) s = some x := by rw [hP']; exact if_pos ⟨rfl, rfl⟩
  have hPo : ∀ d u, ¬ (d = b + 1 ∧ u = s) → P' d u = P d u := fun d u hn => by rw [hP']; exact if_neg hn
  have hPm : ∀ d u y, P d u = some y → P' d u = some y := fun d u y hy => by
    by_cases e : d = b + 1 ∧ u = s
    · obtain ⟨rfl, rfl⟩ := e
      rw [hPn, hPx y hy]
    · rw [hPo d u e]; exact hy
  have hVn : Vt' i (b + 1) s := by rw [hVt]; exact .inr ⟨rfl, rfl, rfl⟩
  have hVm : ∀ j d u, Vt j d u → Vt' j d u := fun j d u hq => by rw [hVt]; exact .inl hq
  have hVo : ∀ j d u, Vt' j d u → Vt j d u ∨ (j = i ∧ d = b + 1 ∧ u = s) := fun j d u hq => by rw [hVt] at hq; exact hq
  clear hVt hP'
  have hN : ∀ j d u, j < n → Vt' j d u → ¬ Vt j d u → pv j ≤ d := fun j d u _ h1 h2 => by
    rcases hVo j d u h1 with h1 | ⟨rfl, rfl, _⟩
    · exact absurd h1 h2
    · exact hpc
  have hms : ∀ c u y, Safe n pv Vt P c u y → Safe n (setN pv i (b + 1)) Vt' P' c u y := fun c u y hq => hq.mono (fun j _ => hup j) (fun d y => hPm d u y) (fun j d _ => hVm j d u) (fun j d hj => hN j d u hj)
  refine ⟨Vt', P', ⟨fun j hj => ?_, fun j c u hj hq => ?_, fun c u y hq => ?_, fun b' hb' => ?_, fun u y hq => ?_⟩, hVn, hPn⟩
  · by_cases ej : j = i
    · subst ej
      rw [setN_same, setN_same]
      have hvi := h.vx j hj
      refine ⟨fun u v hm => ?_, fun u v hm => ?_, fun c u hq => ?_⟩
      · rcases mem_putL.1 hm with e | ⟨hm, _⟩
        · injection e with e1 e2
          subst e1 e2
          exact ⟨rfl, ht.2.1, ht.2.2⟩
        · exact hvi.v0 u v hm
      · rcases mem_putL.1 hm with e | ⟨hm, hne⟩
        · injection e with e1 e2
          subst e1 e2
          refine ⟨Nat.le_refl _, hVn, hPn, fun c hq => ?_⟩
          rcases hVo j c _ hq with hq | ⟨_, rfl, _⟩
          · exact Nat.le_trans (hvi.v2 c _ hq).1 hpc
          · exact Nat.le_refl _
        · obtain ⟨k1, k2, k3, k4⟩ := hvi.v1 u v hm
          refine ⟨Nat.le_trans k1 hpc, hVm _ _ _ k2, hPm _ _ _ k3, fun c hq => ?_⟩
          rcases hVo j c u hq with hq | ⟨_, _, rfl⟩
          · exact k4 c hq
          · exact absurd rfl hne
      · rcases hVo j c u hq with hq | ⟨_, rfl, rfl⟩
        · obtain ⟨k1, v, k2⟩ := hvi.v2 c u hq
          refine ⟨Nat.le_trans k1 hpc, ?_⟩
          by_cases eu : u = s
          · subst eu; exact ⟨_, mem_putL.2 (.inl rfl)⟩
          · exact ⟨v, mem_putL.2 (.inr ⟨k2, eu⟩)⟩
        · exact ⟨Nat.le_refl _, _, mem_putL.2 (.inl rfl)⟩
    · rw [setN_other _ _ ej, setN_other _ _ ej]
      have hvj := h.vx j hj
      have hsame : ∀ d u, Vt' j d u → Vt j d u := fun d u hq => by
        rcases hVo j d u hq with hq | ⟨e, _⟩
        · exact hq
        · exact absurd e ej
      exact ⟨hvj.v0, fun u v hm => ⟨(hvj.v1 u v hm).1, hVm _ _ _ (hvj.v1 u v hm).2.1, hPm _ _ _ (hvj.v1 u v hm).2.2.1, fun c hq => (hvj.v1 u v hm).2.2.2 c (hsame c u hq)⟩, fun c u hq => hvj.v2 c u (hsame c u hq)⟩
  · rcases hVo j c u hq with hq | ⟨_, rfl, rfl⟩
    · obtain ⟨y, hy⟩ := h.v3 j c u hj hq
      exact ⟨y, hPm _ _ _ hy⟩
    · exact ⟨x, hPn⟩
  · by_cases e : c = b + 1 ∧ u = s
    · obtain ⟨rfl, rfl⟩ := e
      rw [hPn] at hq
      injection hq with hq
      subst hq
      exact hms _ _ _ ((hx.l3 hl _ (by rw [hs]; exact Int.le_refl _)).1 q0 β0 _ hvs)
    · rw [hPo c u e] at hq
      exact hms _ _ _ (h.p1 c u y hq)
  · have hxb := h.lx b' hb'
    refine hxb.mono (fun j _ => hup j) hPm (fun j d u _ => hVm j d u) hN (fun e u => ?_) (fun e u y hu hq => ?_)
    · by_cases eb : b' = b
      · subst eb; rw [hl] at e; cases e
      · rw [hPo _ _ (by omega)]
        exact hxb.l4 e u
    · by_cases eb : b' + 1 = b + 1 ∧ u = s
      · obtain ⟨e1, rfl⟩ := eb
        have e2 : b' = b := by omega
        subst e2
        rw [hPn] at hq
        injection hq with hq
        subst hq
        exact ⟨hs, q0, β0, hs ▸ hvs⟩
      · rw [hPo _ _ eb] at hq
        exact hxb.l3b e u y hu hq
  · obtain ⟨c, hc⟩ := h.chx u y hq
    exact ⟨c, hc.mono hPm fun j d u _ => hVm j d u⟩
/-- a leader that is told of it. -/
theorem Px.taken {i b : Nat} {x : Int} (hi : i < n) (hb : b < 4) (hv : valOI (L b) = some x) (hvt : Vt i (b + 1) ((L b).slot : Int)) (hP : P (b + 1) ((L b).slot : Int) = some x) :
    ((takenI (L b) (i : Int) ((L b).slot : Int)).2 = none ∧ Px n pv xv (setN L b (takenI (L b) (i : Int) ((L b).slot : Int)).1) Vt P ch) ∨
    ((takenI (L b) (i : Int) ((L b).slot : Int)).2 = some x ∧ (∀ y, ch ((L b).slot : Int) = some y → y = x) ∧ Px n pv xv (setN L b (takenI (L b) (i : Int) ((L b).slot : Int)).1) Vt P (updK ch ((L b).slot : Int) (some x))) := by
  obtain ⟨hl, q0, β0, hvs⟩ := valO_some hv
  have hx := h.lx b hb
  have hno : ∀ {q : Prop}, (L b).leads = false → q := fun e => by rw [hl] at e; cases e
  unfold takenI
  rw [hv]
  dsimp only
  by_cases hc : ((L b).slot : Int) ≠ ((L b).slot : Int) ∨ hearB (L b).tk (L b).voters (i : Int) = false
  · rw [if_pos hc]
    refine .inl ⟨rfl, h.vx, h.v3, h.p1, fun b' hb' => ?_, h.chx⟩
    by_cases e : b' = b
    · subst e; rw [setN_same]; exact hx
    · rw [setN_other _ _ e]; exact h.lx b' hb'
  · rw [if_neg hc]
    have hh : hearB (L b).tk (L b).voters (i : Int) = true := by
      cases hq : hearB (L b).tk (L b).voters (i : Int) with
      | true => rfl
      | false => exact absurd (.inr hq) hc
    rw [hx.vo] at hh ⊢
    obtain ⟨htf, hhp⟩ := hear_pr hh
    have hcn : cnt (fun j : Nat => decide ((j : Int) = (i : Int)) || (L b).tk (j : Int)) n = (L b).nt + 1 := by rw [cnt_hear hi htf, ← hx.ntc]
    have hall : ∀ j, j < n → (decide ((j : Int) = (i : Int)) || (L b).tk (j : Int)) = true → Vt j (b + 1) ((L b).slot : Int) := fun j hj hjq => by
      by_cases ej : j = i
      · subst ej; exact hvt
      · rw [decide_eq_false (by omega), Bool.false_or] at hjq
        exact hx.l5 j hj hjq
    by_cases hq : n < 2 * ((L b).nt + 1)
    · rw [if_pos hq]
      have hch : Chosen n Vt P (b + 1) ((L b).slot : Int) x := ⟨hP, _, by rw [hcn]; exact hq, hall⟩
      refine .inr ⟨rfl, fun y hy => ?_, h.vx, h.v3, h.p1, fun b' hb' => ?_, fun s y hy => ?_⟩
      · obtain ⟨c, hc2⟩ := h.chx _ y hy
        exact hc2.one hch h.p1
      · by_cases e : b' = b
        · subst e
          rw [setN_same]
          have hc0 : cnt (fun _ : Nat => false) n = 0 := by
            have : ∀ m, cnt (fun _ : Nat => false) m = 0 := fun m => by
              induction m with
              | zero => rfl
              | succ m ih => rw [cnt_not rfl]; exact ih
            exact this n
          refine ⟨rfl, hx.npb, hc0.symm, fun e => hno e, fun e => hno e, fun e => hno e, fun e => hno e, fun _ s hs => ?_, fun _ s y hs hy => ?_, fun e => hno e, fun j _ e => by cases e⟩
          · have hs' : (((L b').slot + 1 : Nat) : Int) ≤ s := hs
            show (∀ q β x, updK (L b').vals ((L b').slot : Int) none s = some (q, β, x) → _) ∧ (updK (L b').vals ((L b').slot : Int) none s = none → _)
            rw [updK_other _ _ (by omega)]
            exact hx.l3 hl s (by omega)
          · have hs' : (((L b').slot + 1 : Nat) : Int) ≤ s := hs
            have := (hx.l3b hl s y (by omega) hy).1
            omega
        · rw [setN_other _ _ e]; exact h.lx b' hb'
      · by_cases es : s = ((L b).slot : Int)
        · subst es
          rw [updK_same] at hy
          injection hy with hy
          subst hy
          exact ⟨_, hch⟩
        · rw [updK_other _ _ es] at hy
          exact h.chx s y hy
    · rw [if_neg hq]
      refine .inl ⟨rfl, h.vx, h.v3, h.p1, fun b' hb' => ?_, h.chx⟩
      by_cases e : b' = b
      · subst e
        rw [setN_same]
        refine ⟨rfl, hx.npb, ?_, fun e => hno e, fun e => hno e, fun e => hno e, fun e => hno e, hx.l3, hx.l3b, fun e => hno e, fun j hj hjt => ?_⟩
        · show (L b').nt + 1 = cnt (fun j : Nat => hearP (L b').tk n (i : Int) (j : Int)) n
          rw [hhp]
          exact hcn.symm
        · have : hearP (L b').tk n (i : Int) (j : Int) = true := hjt
          rw [hhp] at this
          exact hall j hj this
      · rw [setN_other _ _ e]; exact h.lx b' hb'
end
/-- before the first step. -/
theorem Px.new (n : Nat) : Px n (fun _ => 0) (fun _ => []) (fun _ => newI (n : Int) 0) (fun _ _ _ => False) (fun _ _ => none) (fun _ => none) := by
  have hc0 : ∀ m, cnt (fun _ : Nat => false) m = 0 := fun m => by
    induction m with
    | zero => rfl
    | succ m ih => rw [cnt_not rfl]; exact ih
  exact ⟨fun _ _ => ⟨(fun _ _ e => by cases e), (fun _ _ e => by cases e), fun _ _ e => e.elim⟩, fun _ _ _ _ e => e.elim, (fun _ _ _ e => by cases e), fun _ _ => ⟨Int.toNat_natCast n, Nat.zero_le _, (hc0 n).symm, fun _ => (hc0 n).symm, fun _ => rfl, (fun _ _ _ e => by cases e), (fun _ _ _ _ _ e => by cases e), (fun e => by cases e), (fun e => by cases e), fun _ _ => rfl, fun _ _ e => by cases e⟩, fun _ _ e => by cases e⟩
end Go.Proofs.Ytlajhnplkfiiiaa
