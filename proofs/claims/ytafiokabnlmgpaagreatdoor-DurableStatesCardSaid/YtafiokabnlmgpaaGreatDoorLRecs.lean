/- The log's Records: all records, in new memory. No condition. -/
import Derived.Test.YtafiokabnlmgpaaGreatDoorLOpen
namespace Go.Proofs.YtafiokabnlmgpaaGreatDoor
open Go.RowKit Go.Maps

/-- new slices of bytes. -/
structure RowsAt (w0 w' : World) (A : Option Addr) (c : Nat) (qs : List Prt) (rs : List Bs) : Prop where
  rd : Rd w' A (qs.map sl)
  part : ∀ q ∈ qs, Part w' q ∧ q.2.2.length ≤ q.2.1 ∧ q.2.1 ≤ maxLen
  eq : qs.map (·.2.2) = rs
  nil : A = none → c = 0
  le : qs.length ≤ c
  fr : Fr NoBlk w0 w'
def RecsPost (w0 : World) (rs : List Bs) (e : Ending) (w' : World) : Prop := ∃ A c qs, e = .returned (.slice A rs.length c) ∧ RowsAt w0 w' A c qs rs
structure RecAt (w0 wr : World) (ga n k : Nat) (rs : List Bs) (cs : Array Value) (qs : List Prt) : Prop where
  bk : Bk wr ga 55 cs
  sz : cs.size = n
  len : qs.length = k
  at_ : ∀ (j : Nat) (q : Prt), qs[j]? = some q → cs[j]? = some (sl q)
  own : ∀ q ∈ qs, wr.ownsRow w0.heap.size 5 1 (sl q) q.2.2.length (cb q.2.2) ∧ q.2.1 ≤ maxLen
  eq : qs.map (·.2.2) = rs.take k
  fr : Fr NoBlk w0 wr
  ge : w0.heap.size ≤ ga
theorem own_max {w : World} {base : Nat} {e : TypeId} {size n c : Nat} {A : Option Addr} {xs : List Value} (h : w.ownsRow base e size (.slice A n c) n xs) : c ≤ maxLen := by
  rcases h.2 with ⟨hv, _⟩ | ⟨g, cap, cur, hv, _, _, _, hm, _⟩
  · injection hv with _ _ e
    rw [e]; exact Nat.zero_le _
  · injection hv with _ _ e
    rw [e]; exact hm
theorem RecAt.next {w0 wr w3 : World} {ga n k : Nat} {rs : List Bs} {cs : Array Value} {qs : List Prt} (h : RecAt w0 wr ga n k rs cs qs) {A : Option Addr} {c : Nat} {r : Bs} (hr : rs[k]? = some r) (hn : New wr w3 (.slice A r.length c) r) (hk : k < n) :
    RecAt w0 (w3.setCell ⟨ga, k, none⟩ (.slice A r.length c)) ga n (k + 1) rs (cs.setIfInBounds k (.slice A r.length c)) (qs ++ [(A, c, r)]) := by
  have hf3 : Fr (fun j => j = ga) w3 (w3.setCell ⟨ga, k, none⟩ (.slice A r.length c)) := (Fr.refl (fun j => j = ga) w3).setCell (p := ⟨ga, k, none⟩) (fun _ => rfl) _
  have hb3 := h.bk.fr hn.fr fun h => h
  have hf : Fr NoBlk w0 (w3.setCell ⟨ga, k, none⟩ (.slice A r.length c)) := (h.fr.trans hn.fr).step hf3 fun i hi e => by have := h.ge; omega
  have hkeep : ∀ q : Prt, w3.ownsRow w0.heap.size 5 1 (sl q) q.2.2.length (cb q.2.2) → (w3.setCell ⟨ga, k, none⟩ (.slice A r.length c)).ownsRow w0.heap.size 5 1 (sl q) q.2.2.length (cb q.2.2) := fun q hq => own_fr hq hf3 fun j hj e => own_apart hq hb3 (by decide) (e ▸ hj)
  refine ⟨hb3.put k _, by rw [Array.size_setIfInBounds]; exact h.sz, by rw [List.length_append, h.len]; rfl, fun j q hq => ?_, fun q hq => ?_, ?_, hf, h.ge⟩
  · by_cases hj : j < k
    · rw [List.getElem?_append_left (by rw [h.len]; exact hj)] at hq
      rw [Array.getElem?_setIfInBounds_ne (by omega)]
      exact h.at_ j q hq
    · rw [List.getElem?_append_right (by rw [h.len]; omega), h.len] at hq
      have hj0 : j - k = 0 := by
        have := (List.getElem?_eq_some_iff.1 hq).1
        simp at this
        omega
      rw [hj0] at hq
      injection hq with hq
      subst hq
      obtain rfl : j = k := by omega
      rw [Array.getElem?_setIfInBounds_self_of_lt (by rw [h.sz]; exact hk)]
      rfl
  · rcases List.mem_append.1 hq with hq | hq
    · exact ⟨hkeep q (own_fr (h.own q hq).1 hn.fr fun _ _ h => h), (h.own q hq).2⟩
    · rw [List.mem_singleton.1 hq]
      exact ⟨hkeep (A, c, r) (own_base hn.own h.fr.size), own_max hn.own⟩
  · rw [List.map_append, h.eq, List.take_add_one, hr]
    rfl
theorem RecAt.done {w0 wr : World} {ga n : Nat} {rs : List Bs} {cs : Array Value} {qs : List Prt} (h : RecAt w0 wr ga n n rs cs qs) (hn : n = rs.length) (_he : rs.length ≤ maxLen) : RecsPost w0 rs (.returned (.slice (some ⟨ga, 0, none⟩) n n)) wr := by
  have e : qs.map (·.2.2) = rs := by rw [h.eq, hn, List.take_length]
  refine ⟨some ⟨ga, 0, none⟩, n, qs, by rw [hn], ⟨fun hp => ⟨ga, 0, rfl, fun j v hv => ?_⟩, fun q hq => ?_, e, (fun h => by cases h), by rw [h.len]; exact Nat.le_refl _, h.fr⟩⟩
  · rw [Nat.zero_add, h.bk.cell j]
    rw [List.getElem?_map] at hv
    obtain ⟨q, hq, rfl⟩ := Option.map_eq_some_iff.1 hv
    exact h.at_ j q hq
  · have ho := h.own q hq
    obtain ⟨A, c, e, hc, hA⟩ := own_form ho.1
    unfold sl at e
    injection e with e1 _ e3
    rw [← e1, ← e3] at hA
    exact ⟨⟨Rd.of_own ho.1, hA⟩, by rw [e3]; exact hc, ho.2⟩
set_option maxRecDepth 100000 in
set_option maxHeartbeats 4000000 in
theorem lrecs_any (w w0 : World) (gd gl : Nat) (p : PD) (L : PL) (S : Nat → Prop) (h : WL w w0 gd p gl L S) :
    Calls Tryz.prog 67 #[.pointer (some ⟨gl, 0, none⟩)] w0 (RecsPost w0 L.recs) := by
  obtain ⟨g, hgp, hlg, hag, hsg, htg⟩ := h
  subst hgp
  obtain ⟨i0, hi, hz0, hz1, hz2⟩ := info_parts bytesInfo
  obtain ⟨Av, cv, hv, hcv, hAv⟩ := own_form hlg.own
  have c6 : w0.cell? ⟨gl, 6, none⟩ = some (.slice Av g.parts.length cv) := by rw [hlg.bk.cell 6]; show some g.rv = _; rw [hv]
  have hfew := hlg.few
  have HL := Lib.hid hlg
  have hown := hlg.own
  rw [hv] at hown
  have HRD : Hid (Rd w0 Av (g.parts.map sl)) := Rd.of_own hown
  obtain ⟨w1, hmk, ho1, hg1⟩ := run_make_full (P := Tryz.prog) w0 w0.heap.size 92 55 i0 (.slice none 0 0) 1 Tryz.underlying92 hi hz0 hz1 .i64 .i64 g.parts.length (by rw [hz2]; omega) (by unfold maxLen; omega) (Nat.le_refl _)
  have hf1 : Fr NoBlk w0 w1 := (Fr.ofGrown hg1).mono fun _ _ e => by cases e
  have hc1 : w1.cell? ⟨gl, 6, none⟩ = some (.slice Av g.parts.length cv) := (hf1.cell (p := ⟨gl, 6, none⟩) hlg.bk.lt (fun h => h)).trans c6
  have HR0 : Hid (∃ cs qs, RecAt w0 w1 w0.heap.size g.parts.length 0 g.pl.recs cs qs) := by
    rcases ho1.2 with ⟨hv1, _⟩ | ⟨g1, cap, cur, hv1, hge, hh, _, _, hcs, _⟩
    · cases hv1
    · injection hv1 with e1 _ e3
      injection e1 with e1
      injection e1 with e1
      subst e1 e3
      exact ⟨cur, [], hh, by rw [hcs, Nat.mul_one], rfl, (fun j q hq => by simp at hq), (fun q hq => by cases hq), rfl, hf1, Nat.le_refl _⟩
  have HRL : Hid (∀ (k : Nat) (q : Prt), g.parts[k]? = some q → g.pl.recs[k]? = some q.2.2) := fun k q hq => by
    show (g.parts.map (·.2.2))[k]? = _
    rw [List.getElem?_map, hq]; rfl
  have HLN : Hid (g.pl.recs.length = g.parts.length) := List.length_map _
  generalize g.pl.recs = rs at *
  obtain ⟨n, hn⟩ : ∃ n, n = g.parts.length := ⟨_, rfl⟩
  rw [← hn] at c6 hc1 hmk HR0 HLN hfew
  have HN := Lib.hid hn
  clear hag hsg htg hv hcv hAv hlg hown hg1 ho1 hf1 hn
  go_enter Tryz.func67, Tryz.ntmps67
  go_wp2_with fail
  clear hmk c6
  go_loopw [17] (fun s wr => ∃ k : Nat, k ≤ n ∧ s = .int .i64 k ∧ Hid (∃ cs qs, RecAt w0 wr w0.heap.size n k rs cs qs)) (fun s _ => n - (intOf s).toNat)
  case atStart => exact ⟨0, Nat.zero_le _, rfl, HR0⟩
  case round =>
    clear HR0
    obtain ⟨k, hk, rfl, HX⟩ := hrel
    obtain ⟨cs, qs, hR⟩ := HX.out
    by_cases hlt : k < n
    · obtain ⟨q, hq⟩ : ∃ q, g.parts[k]? = some q := ⟨_, List.getElem?_eq_getElem (by rw [← HN.out]; exact hlt)⟩
      obtain ⟨b, o, rfl, hcell⟩ := (HRD.out.nofr hR.fr).at_ (k := k) (v := sl q) (by rw [List.getElem?_map, hq]; rfl)
      have hqp := (HL.out.part q (List.mem_of_getElem? hq)).rd
      have hql := (HL.out.part q (List.mem_of_getElem? hq)).2
      have HCL := Lib.hid (clone_any wr q.1 q.2.2.length q.2.1 q.2.2 rfl (hqp.1.1.nofr hR.fr) hqp.1.2 (by omega))
      have HRK := Lib.hid (HRL.out k q hq)
      have HR := Lib.hid hR
      clear hR HX hq hqp
      obtain ⟨Aq, cq, lq⟩ := q
      unfold sl at hcell
      dsimp only at hcell HCL HRK hql
      go_wp2_with fail
      refine HCL.out.mono ?_
      clear HCL
      rintro e w3 ⟨v3, rfl, hn3⟩
      obtain ⟨A3, c3, rfl, hc3, hA3⟩ := own_form hn3.own
      have hb3 := HR.out.bk.fr hn3.fr fun h => h
      obtain ⟨u, hu⟩ : ∃ u, cs[k]? = some u := ⟨_, Array.getElem?_eq_getElem (by rw [HR.out.sz]; exact hlt)⟩
      have d3 : w3.cell? ⟨w0.heap.size, k, none⟩ = some u := by rw [hb3.cell k]; exact hu
      have z3 := hb3.free k
      have HNX : Hid (∃ cs qs, RecAt w0 (w3.setCell ⟨w0.heap.size, k, none⟩ (.slice A3 lq.length c3)) w0.heap.size n (k + 1) rs cs qs) := ⟨_, _, HR.out.next HRK.out hn3 hlt⟩
      clear hn3 hc3 hA3 hb3 hu
      go_wp2_with fail
      go_roundw
      case rel => exact ⟨k + 1, by omega, by go_num, HNX⟩
      case measure => simp [intOf]; omega
    · have HZ : Hid (RecsPost w0 rs (.returned (.slice (some ⟨w0.heap.size, 0, none⟩) n n)) wr) := by
        obtain rfl : k = n := by omega
        exact hR.done HLN.out.symm (by rw [HLN.out]; unfold maxLen; omega)
      clear hR HX
      go_wp2_with fail
      go_ret
      exact HZ.out
end Go.Proofs.YtafiokabnlmgpaaGreatDoor
