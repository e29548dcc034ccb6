/- The document's leader: what stands in memory, Promised. Conditions: fewer votes than a length can be. -/
import Derived.Test.YtimfinpifngdiaaDl
import Derived.Deep.AppendLies
import Derived.Maps.AppendAt
import Derived.Laws.OwnMore
namespace Go.Proofs.Ytimfinpifngdiaa
open Go.RowKit Go.Maps

section
/- append to a row of the call's own, elements of several cells, whatever is appended: nil, empty or not. -/
variable {P : Program}
theorem run_appW (w : World) (base : Nat) (t ty e : TypeId) (i : TypeInfo) (z : Value) (size bytes : Nat) (ht : P.underlying t = some (.slice e)) (hi : P.info? e = some i) (hz : i.zero = some z)
    (hsize : i.size = size) (hby : i.bytes = bytes) (hzs : z.cells.size = size) (hpos : 0 < size)
    (v : Value) (n : Nat) (xs : List Value) (hown : w.ownsRow base e size v n xs)
    (A : Option Addr) (c m : Nat) (news : List Value) (hm : news.length = m * size) (hr : Rd w A news) (h1 : ∀ u ∈ news, u.oneCell' = true)
    (hA : A = none → c = 0)
    (h63 : n + m ≤ maxLen) (hbytes : (n + m) * bytes ≤ 140737488355328) (hbase : base ≤ w.heap.size) :
    ∃ v' w', (Builtin.append_ #[t, t] ty #[v, .slice A m c]).run P w = .ok v' w' ∧ w'.ownsRow base e size v' (n + m) (xs ++ news) ∧ w.grownBy w' v.ownBlock ∧
      (v'.ownBlock = v.ownBlock ∨ v'.ownBlock = some w.heap.size) := by
  rcases A with _ | ad
  · have hn : news = [] := by
      rcases Nat.eq_zero_or_pos news.length with h0 | h0
      · exact List.eq_nil_of_length_eq_zero h0
      · obtain ⟨_, _, h, _⟩ := hr h0
        cases h
    subst hn
    obtain rfl := hA rfl
    obtain rfl : m = 0 := by
      rcases Nat.eq_zero_or_pos m with h0 | h0
      · exact h0
      · have := Nat.mul_pos h0 hpos
        simp only [List.length_nil] at hm
        omega
    exact ⟨v, w, run_append_owned_none w base t ty e i size ht hi v n xs hown, by simpa using hown, World.grownBy.refl w _, .inl rfl⟩
  · obtain ⟨v', w', h2, h3, h4, _, h6⟩ := run_append_own_at (P := P) w base t ty e i z size bytes ht hi hz hsize hby hzs hpos v n xs hown ad m c news hm
      (fun j u hu => by
        obtain ⟨b, o, e', hc⟩ := hr (by have := (List.getElem?_eq_some_iff.1 hu).1; omega)
        injection e' with e'
        subst e'
        have := hc j u hu
        unfold Addr.add
        split
        · subst j; simpa using this
        · exact this) h1 h63 hbytes hbase
    exact ⟨v', w', h2, h3, h4, h6⟩

theorem wpList_appW {w : World} {ops : Array Oper} {rest : List Oper} {o : Oper} {a : Act} {Q : Exit → Act → World → Prop} (hgd : o.guard = none) (s x : Operand) (t : TypeId)
    (ho : o.op = .call { callee := .builtin .append, args := #[s, x], argTypes := #[t, t] })
    (base : Nat) (e : TypeId) (i : TypeInfo) (z : Value) (size bytes : Nat) (ht : P.underlying t = some (.slice e)) (hi : P.info? e = some i) (hz : i.zero = some z)
    (hsize : i.size = size) (hby : i.bytes = bytes) (hzs : z.cells.size = size) (hpos : 0 < size)
    (v : Value) (n : Nat) (xs : List Value) (hs : a.eval s = v) (hown : w.ownsRow base e size v n xs)
    (A : Option Addr) (c m : Nat) (news : List Value) (hx : a.eval x = .slice A m c) (hm : news.length = m * size) (hr : Rd w A news) (h1 : ∀ u ∈ news, u.oneCell' = true)
    (hA : A = none → c = 0)
    (h63 : n + m ≤ maxLen) (hbytes : (n + m) * bytes ≤ 140737488355328) (hbase : base ≤ w.heap.size)
    (h : ∀ v' w', w'.ownsRow base e size v' (n + m) (xs ++ news) → w.grownBy w' v.ownBlock → (v'.ownBlock = v.ownBlock ∨ v'.ownBlock = some w.heap.size) →
      wpList P ops Q rest (a.put o.dst v') w') : wpList P ops Q (o :: rest) a w :=
  wpList_plain hgd fun K hK => by
    obtain ⟨v', w', hrun, h2, h3, h5⟩ := run_appW (P := P) w base t o.type e i z size bytes ht hi hz hsize hby hzs hpos v n xs hown A c m news hm hr h1 hA h63 hbytes hbase
    unfold Oper.wp execOp
    simp only [ho, resolve, invoke, builtin, Sem.run_bind, Sem.run_pure, Result.andThen_ok, List.map_toArray, List.map_cons, List.map_nil, hs, hx, hrun]
    exact hK _ _ (h v' w' h2 h3 h5)
end
theorem own_litW {w : World} {g base : Nat} {e : TypeId} (size : Nat) (h : Bk w g e #[]) (hb : base ≤ g) : w.ownsRow base e size (.slice (some ⟨g, 0, none⟩) 0 0) 0 [] :=
  ⟨by simp, .inr ⟨g, 0, #[], rfl, hb, h, Nat.le_refl _, Nat.zero_le _, by simp, by simp⟩⟩
theorem Rd.of_ownW {w : World} {A : Option Addr} {xs : List Value} {base : Nat} {e : TypeId} {size n c : Nat} (h : w.ownsRow base e size (.slice A n c) n xs) : Rd w A xs := by
  intro hx
  rcases h.2 with ⟨hv, rfl⟩ | ⟨g, cap, cur, hv, _, hh, hnc, _, hcs, htake⟩
  · have := h.1; rw [Nat.zero_mul] at this; omega
  · have hA : A = some ⟨g, 0, none⟩ := by injection hv
    refine ⟨g, 0, hA, fun j v hj => ?_⟩
    rw [cell_of_row w g _ cur e (0, 0) hh, ← hj, ← htake, List.getElem?_take]
    have hl := (List.getElem?_eq_some_iff.1 hj).1
    rw [if_pos (by have := h.1; omega)]
    simp
theorem grown_no {w0 w w' : World} {e : TypeId} {size n : Nat} {v : Value} {xs : List Value} (h : Fr NoBlk w0 w) (ho : w.ownsRow w0.heap.size e size v n xs) (hg : w.grownBy w' v.ownBlock) : Fr NoBlk w0 w' :=
  h.grown hg (fun k hk hl => by have := (ho.lt k hk).1; omega)
theorem vtsS_one (vs : List VtS) : ∀ u ∈ vtsS vs, u.oneCell' = true := by
  intro u hu
  simp only [vtsS, List.mem_flatMap, vtcS, evS, List.mem_cons, List.not_mem_nil, or_false] at hu
  obtain ⟨x, _, rfl | rfl | rfl⟩ := hu <;> rfl
theorem vtsS_append (xs ys : List VtS) : vtsS (xs ++ ys) = vtsS xs ++ vtsS ys := List.flatMap_append ..
theorem voteInfo : (Try.prog.info? 86).map (fun i => (i.zero, i.size, i.bytes)) = some (some (.agg #[.int .i64 0, .int .u64 0, .string ByteArray.empty]), 3, 32) := by kernel_rfl
theorem info_partsD {o : Option TypeInfo} {z : Value} {n b : Nat} (h : o.map (fun i => (i.zero, i.size, i.bytes)) = some (some z, n, b)) : ∃ i, o = some i ∧ i.zero = some z ∧ i.size = n ∧ i.bytes = b := by
  cases o with
  | none => cases h
  | some i =>
    simp only [Option.map_some, Option.some.injEq, Prod.mk.injEq] at h
    exact ⟨i, rfl, h.1, h.2.1, h.2.2⟩

/-- block g is the document's leader R; what it was told lies in a row of its own. -/
structure RdL (w : World) (B g : Nat) (A : Option Addr) (c : Nat) (R : Rdr) : Prop where
  bk : Bk w g 48 (rdc R A R.told.length c)
  own : w.ownsRow B 86 3 (.slice A R.told.length c) R.told.length (vtsS R.told)
  b0 : B ≤ g
  vo : 1 ≤ R.voters ∧ R.voters ≤ 9
  sl : R.slot ≤ 64
  ho : R.has = false → R.off = ⟨#[]⟩
theorem RdL.fr {C : Nat → Prop} {w w' : World} {B g c : Nat} {A : Option Addr} {R : Rdr} (h : RdL w B g A c R) (hf : Fr C w w') (h0 : ¬ C g) (h1 : ∀ k, ablk A k → ¬ C k) : RdL w' B g A c R :=
  ⟨h.bk.fr hf h0, own_fr h.own hf (fun k hk => h1 k (by cases A with
    | none => cases hk
    | some a => exact ⟨a, rfl, by simpa [Value.ownBlock] using hk⟩)), h.b0, h.vo, h.sl, h.ho⟩
theorem RdL.nofr {w w' : World} {B g c : Nat} {A : Option Addr} {R : Rdr} (h : RdL w B g A c R) (hf : Fr NoBlk w w') : RdL w' B g A c R := h.fr hf (fun h => h) (fun _ _ h => h)
theorem RdL.apart {w : World} {B g c : Nat} {A : Option Addr} {R : Rdr} (h : RdL w B g A c R) {k : Nat} {t : TypeId} {cs : Array Value} (hb : Bk w k t cs) (ht : 86 ≠ t) : ¬ ablk A k := by
  rintro ⟨a, rfl, rfl⟩
  exact own_apart h.own hb ht rfl
/-- another state in the same block, the row of votes as it was. -/
theorem RdL.put {w : World} {B g c : Nat} {A : Option Addr} {R : Rdr} (h : RdL w B g A c R) {R2 : Rdr} (i : Nat) (u : Value) (he : (rdc R A R.told.length c).setIfInBounds i u = rdc R2 A R.told.length c) (h1 : R2.told = R.told) (h2 : R2.voters = R.voters) (h3 : R2.slot ≤ 64) (h4 : R2.has = false → R2.off = ⟨#[]⟩) :
    RdL (w.setCell ⟨g, i, none⟩ u) B g A c R2 := by
  have hf : Fr (fun j => j = g) w (w.setCell ⟨g, i, none⟩ u) := (Fr.refl (fun j => j = g) w).setCell (p := ⟨g, i, none⟩) (fun _ => rfl) _
  refine ⟨?_, ?_, h.b0, h2 ▸ h.vo, h3, h4⟩
  · rw [h1, ← he]; exact h.bk.put i u
  · rw [h1]
    exact own_fr h.own hf (fun k hk e => own_apart h.own h.bk (by decide) (e ▸ hk))
/-- behind a voter's promise. -/
def rprom (R : Rdr) (x : Int) (vs : List VtS) : Rdr :=
  if rleads R = true ∨ hearB R.pr R.voters x = false then R else { R with pr := fun y => decide (y = x) || R.pr y, told := R.told ++ vs }
theorem rdc_pr (R : Rdr) (A : Option Addr) (n c : Nat) : ∀ k : Nat, k < 9 → (rdc R A n c).setIfInBounds (2 + k) (.bool true) = rdc { R with pr := fun y => decide (y = (k : Int)) || R.pr y } A n c
  | 0, _ => rfl | 1, _ => rfl | 2, _ => rfl | 3, _ => rfl | 4, _ => rfl | 5, _ => rfl | 6, _ => rfl | 7, _ => rfl | 8, _ => rfl
theorem rdc_tk (R : Rdr) (A : Option Addr) (n c : Nat) : ∀ k : Nat, k < 9 → (rdc R A n c).setIfInBounds (14 + k) (.bool true) = rdc { R with tk := fun y => decide (y = (k : Int)) || R.tk y } A n c
  | 0, _ => rfl | 1, _ => rfl | 2, _ => rfl | 3, _ => rfl | 4, _ => rfl | 5, _ => rfl | 6, _ => rfl | 7, _ => rfl | 8, _ => rfl
theorem rdc_getP (R : Rdr) (A : Option Addr) (n c : Nat) : ∀ k : Nat, k < 9 → (rdc R A n c)[2 + k]? = some (.bool (R.pr (k : Int)))
  | 0, _ => rfl | 1, _ => rfl | 2, _ => rfl | 3, _ => rfl | 4, _ => rfl | 5, _ => rfl | 6, _ => rfl | 7, _ => rfl | 8, _ => rfl
theorem RdL.leads {w : World} {B g c : Nat} {A : Option Addr} {R : Rdr} (h : RdL w B g A c R) :
    Calls Try.prog 22 #[.pointer (some ⟨g, 0, none⟩)] w fun e w' => e = .returned (.bool (rleads R)) ∧ Fr NoBlk w w' := rleads_any w g R A _ c h.vo.2 h.bk

set_option maxRecDepth 100000 in
set_option maxHeartbeats 1000000 in
theorem rprom_any (w : World) (B g c : Nat) (A : Option Addr) (R : Rdr) (h : RdL w B g A c R) (hB : B ≤ w.heap.size) (x : Int) (A2 : Option Addr) (c2 : Nat) (vs : List VtS) (hn : R.told.length + vs.length ≤ 100000) (hr : Rd w A2 (vtsS vs)) (hA2 : A2 = none → c2 = 0) (hg : 0 < (vtsS vs).length → ∀ k, ablk A2 k → k ≠ g) :
    Calls Try.prog 14 #[.pointer (some ⟨g, 0, none⟩), .int .i64 x, .slice A2 vs.length c2] w fun e w' => e = .returned (.tuple #[]) ∧ (∃ A' c', RdL w' B g A' c' (rprom R x vs)) ∧ Fr (fun j => j = g) w w' := by
  obtain ⟨i0, hi, hz0, hz1, hz2⟩ := info_partsD voteInfo
  have HH := Lib.hid h
  have HR := Lib.hid hr
  have HG := Lib.hid hg
  have HA2 := Lib.hid hA2
  have HN := Lib.hid hn
  have HLD := Lib.hid h.leads
  have HP0 : Hid (rleads R = true ∨ hearB R.pr R.voters x = false → rprom R x vs = R) := fun hc => if_pos hc
  have HP1 : Hid (¬ (rleads R = true ∨ hearB R.pr R.voters x = false) → rprom R x vs = { R with pr := fun y => decide (y = x) || R.pr y, told := R.told ++ vs }) := fun hc => if_neg hc
  obtain ⟨m, hm⟩ : ∃ m, m = vs.length := ⟨_, rfl⟩
  have HM := Lib.hid hm
  rw [← hm]
  clear hm hr hg hA2 hn h
  obtain ⟨ld, hld⟩ : ∃ ld, ld = rleads R := ⟨_, rfl⟩
  rw [← hld] at HLD HP0 HP1
  clear hld
  go_enter Try.func14, Try.ntmps14
  go_wp2_with fail
  refine HLD.out.mono ?_
  clear HLD
  rintro e w2 ⟨rfl, hf2⟩
  have HF2 := Lib.hid hf2
  have H2 := Lib.hid (HH.out.nofr hf2)
  clear hf2 HH
  have HF2' : Hid (Fr (fun j => j = g) w w2) := HF2.out.mono fun _ _ h => h.elim
  cases ld with
  | true =>
    have HPX := Lib.hid (HP0.out (.inl rfl))
    clear HP0 HP1
    go_wp2_with fail
    refine bodyPost_ret (results_none rfl _ _ _) rfl ?_
    exact ⟨rfl, ⟨A, c, by rw [HPX.out]; exact H2.out⟩, HF2'.out⟩
  | false =>
    by_cases h0 : x < 0
    · have HPX := Lib.hid (HP0.out (.inr (by unfold hearB; rw [decide_eq_false (show ¬ 0 ≤ x by omega)]; simp)))
      clear HP0 HP1
      go_wp2_with fail
      refine bodyPost_ret (results_none rfl _ _ _) rfl ?_
      exact ⟨rfl, ⟨A, c, by rw [HPX.out]; exact H2.out⟩, HF2'.out⟩
    have c0 : w2.cell? ⟨g, 0, none⟩ = some (.int .i64 (R.voters : Int)) := H2.out.bk.cell 0
    by_cases h1 : (R.voters : Int) ≤ x
    · have HPX := Lib.hid (HP0.out (.inr (by unfold hearB; rw [decide_eq_false (show ¬ x < R.voters by omega)]; simp)))
      clear HP0 HP1
      go_wp2_with fail
      refine bodyPost_ret (results_none rfl _ _ _) rfl ?_
      exact ⟨rfl, ⟨A, c, by rw [HPX.out]; exact H2.out⟩, HF2'.out⟩
    obtain ⟨k, rfl⟩ : ∃ k : Nat, x = k := ⟨x.toNat, by omega⟩
    have hk9 : k < 9 := by have := H2.out.vo.2; omega
    have hk9i : (k : Int) < 9 := by omega
    have hk0 : (0 : Int) ≤ (k : Int) := by omega
    have hkv : (k : Int) < (R.voters : Int) := by omega
    have c1 : w2.cell? ⟨g, 2 + k, none⟩ = some (.bool (R.pr (k : Int))) := (H2.out.bk.cell (2 + k)).trans (rdc_getP R A _ c k hk9)
    have HHB : Hid (hearB R.pr R.voters k = !(R.pr (k : Int))) := by show _ = _; unfold hearB; rw [decide_eq_true hk0, decide_eq_true hkv, Bool.and_true, Bool.and_true]
    obtain ⟨o, ho⟩ : ∃ o, o = R.pr (k : Int) := ⟨_, rfl⟩
    rw [← ho] at c1 HHB
    clear ho
    cases o with
    | true =>
      have HPX := Lib.hid (HP0.out (.inr HHB.out))
      clear HP0 HP1 HHB
      go_wp2_with fail
      refine bodyPost_ret (results_none rfl _ _ _) rfl ?_
      exact ⟨rfl, ⟨A, c, by rw [HPX.out]; exact H2.out⟩, HF2'.out⟩
    | false =>
      have HPX := Lib.hid (HP1.out (by rw [HHB.out]; rintro (h | h) <;> cases h))
      clear HP0 HP1 HHB
      have f1 := H2.out.bk.free (2 + k)
      obtain ⟨w3, hw3⟩ : ∃ w3, w3 = w2.setCell ⟨g, 2 + k, none⟩ (.bool true) := ⟨_, rfl⟩
      have H3 : Hid (RdL w3 B g A c { R with pr := fun y => decide (y = (k : Int)) || R.pr y }) := by
        rw [hw3]
        exact H2.out.put (2 + k) (.bool true) (rdc_pr R A _ c k hk9) rfl rfl H2.out.sl H2.out.ho
      have HF3 : Hid (Fr (fun j => j = g) w w3) := by
        show Fr _ _ _
        rw [hw3]
        exact HF2'.out.setCell (p := ⟨g, 2 + k, none⟩) (fun _ => rfl) _
      have HB3 : Hid (B ≤ w3.heap.size) := Nat.le_trans hB HF3.out.size
      obtain ⟨w4, hw4⟩ : ∃ w4, w4 = w3.alloc (.cells #[] 86) := ⟨_, rfl⟩
      obtain ⟨q, hq⟩ : ∃ q, q = w2.heap.size := ⟨_, rfl⟩
      have hq3 : w3.heap.size = q := by rw [hw3, hq]; simp [World.setCell]
      have HF34 : Hid (Fr NoBlk w3 w4) := by show Fr _ _ _; rw [hw4]; exact (Fr.refl _ _).alloc _
      have HO4 : Hid (w4.ownsRow w3.heap.size 86 3 (.slice (some ⟨q, 0, none⟩) 0 0) 0 []) := own_litW 3 (by rw [hw4, ← hq3]; exact Bk.new _ _ _) (by rw [hq3]; exact Nat.le_refl _)
      have H4 := Lib.hid (H3.out.nofr HF34.out)
      have c11 : w4.cell? ⟨g, 11, none⟩ = some (.slice A R.told.length c) := H4.out.bk.cell 11
      have HS4 : Hid (Rd w4 A (vtsS R.told)) := Rd.of_ownW H4.out.own
      have HAC : Hid (A = none → c = 0) := by
        obtain ⟨A', c', e, _, h⟩ := own_form H4.out.own
        injection e with e1 e2 e3
        rw [e1, e3]
        exact h
      have HS3 : Hid (Rd w3 A2 (vtsS vs)) := (HR.out.nofr HF2.out).fr' (C := fun j => j = g) (by rw [hw3]; exact (Fr.refl (fun j => j = g) _).setCell (p := ⟨g, 2 + k, none⟩) (fun _ => rfl) _) HG.out
      obtain ⟨n, hn⟩ : ∃ n, n = R.told.length := ⟨_, rfl⟩
      rw [← hn] at c11
      have HNN := Lib.hid hn
      clear hn hq3
      rw [hw4, hw3] at c11
      go_wp2_with (first | (at_builtin; rw [← hw3, ← hw4, ← hq]; clear hw3 hw4 hq c11; go_loud (refine wpList_appW rfl _ _ 32 rfl w3.heap.size 86 i0 _ 3 32 Try.underlying32 hi hz0 hz1 hz2 rfl (by decide) (.slice (some ⟨q, 0, none⟩) 0 0) 0 [] rfl HO4.out A c n (vtsS R.told) rfl (by rw [vtsS_len, HNN.out]) HS4.out (vtsS_one _) HAC.out (by unfold maxLen; have := HN.out; have := HNN.out; omega) (by have := HN.out; have := HNN.out; omega) HF34.out.size ?_); intro v5 w5 ho5 hg5 hb5; rw [List.nil_append, Nat.zero_add] at ho5; obtain ⟨A5, c5, rfl, hc5, hA5⟩ := own_form ho5; have HO5 := Lib.hid ho5; have HF5 := Lib.hid (grown_no HF34.out HO4.out hg5); have HS5 := Lib.hid (HS3.out.nofr HF5.out); clear ho5 hg5 hb5 hA5) | (at_builtin; go_loud (refine wpList_appW rfl _ _ 32 rfl w3.heap.size 86 i0 _ 3 32 Try.underlying32 hi hz0 hz1 hz2 rfl (by decide) _ n (vtsS R.told) rfl HO5.out A2 c2 m (vtsS vs) rfl (by rw [vtsS_len, HM.out]) HS5.out (vtsS_one _) HA2.out (by unfold maxLen; have := HN.out; have := HNN.out; have := HM.out; omega) (by have := HN.out; have := HNN.out; have := HM.out; omega) HF5.out.size ?_); intro v6 w6 ho6 hg6 hb6; obtain ⟨A6, c6, rfl, hc6, hA6⟩ := own_form ho6; have HO6 := Lib.hid ho6; have HF6 := Lib.hid (grown_no HF5.out HO5.out hg6); have f11 := (H3.out.nofr HF6.out).bk.free 11; have d11 : w6.cell? ⟨g, 11, none⟩ = some (.slice A R.told.length c) := (H3.out.nofr HF6.out).bk.cell 11; clear ho6 hg6 hb6 hA6) | fail)
      go_end0
      refine ⟨rfl, ⟨A6, c6, ?_⟩, ?_⟩
      · rw [HPX.out]
        have H6 := H3.out.nofr HF6.out
        have hf : Fr (fun j => j = g) w6 (w6.setCell ⟨g, 11, none⟩ (.slice A6 (n + m) c6)) := (Fr.refl (fun j => j = g) _).setCell (p := ⟨g, 11, none⟩) (fun _ => rfl) _
        have hl : (R.told ++ vs).length = n + m := by rw [List.length_append, HNN.out, HM.out]
        refine ⟨?_, ?_, H6.b0, H6.vo, H6.sl, H6.ho⟩
        · rw [hl]
          exact H6.bk.put 11 (.slice A6 (n + m) c6)
        · rw [hl, vtsS_append]
          exact own_base (own_fr HO6.out hf (fun k hk e => own_apart HO6.out H6.bk (by decide) (e ▸ hk))) HB3.out
      · exact (HF3.out.trans (HF6.out.mono fun _ _ h => h.elim)).setCell (p := ⟨g, 11, none⟩) (fun _ => rfl) _
end Go.Proofs.Ytimfinpifngdiaa
