/- The walk of a tree from a key on. Conditions: as for the walk of all. -/
import Derived.Test.YtkdcacajacndmaaN3R

namespace Go.Proofs.Ytkdcacajacndmaa
open Go.RowKit Go.Shelf
attribute [local go_sem] Oper.semAt_some
theorem ablk_map {A : Option Addr} {k b : Nat} (h : ablk (A.map fun x => x.add k) b) : ablk A b := by
  obtain ⟨a, e, rfl⟩ := h
  cases A with
  | none => cases e
  | some ad =>
    refine ⟨ad, rfl, ?_⟩
    injection e with e
    subst e
    show ad.block = (ad.add k).block
    unfold Addr.add
    split <;> rfl
theorem Rd.cut_ {w : World} {A : Option Addr} {xs : List Value} (h : Rd w A xs) {k : Nat} (hk : k ≤ xs.length) : Rd w (A.map fun x => x.add k) (xs.drop k) := by
  have := Rd.cut (cap := xs.length + k + 1) h hk (by omega)
  rwa [if_neg (by omega)] at this
theorem Rd.off {w : World} {g : Nat} {xs : List Value} (h : Rd w (some ⟨g, 0, none⟩) xs) (i : Nat) : Rd w (some ⟨g, i, none⟩) (xs.drop i) := by
  intro hx
  rw [List.length_drop] at hx
  obtain ⟨b, o, e, hc⟩ := h (by omega)
  injection e with e
  injection e with e1 e2
  subst e1 e2
  refine ⟨g, i, rfl, fun j v hj => ?_⟩
  rw [List.getElem?_drop] at hj
  have := hc _ _ hj
  rwa [Nat.zero_add] at this
def FroR (l N : Nat) (K : Nat → Prop) (J Jx : List ItR → World → Prop) (W0 : World) (p : Nat) (key : Bs) (T : List ItR) : Prop :=
  ∀ m pre W, Keep K W0 W → J pre W → pre.length + T.length ≤ N → CallsIn Fence.wide m Try.prog 67 #[.pointer (some ⟨p, 0, none⟩), .string (bstr key), .func (.yield l) #[] #[]] W (WalkR K J Jx pre T W)
set_option maxRecDepth 100000 in
set_option maxHeartbeats 800000 in
theorem fromR_in (l N : Nat) (K : Nat → Prop) (J Jx : List ItR → World → Prop) (W0 : World) {S : ItR → Prop} (HY : Hid (RoundsR l N K W0 J Jx S)) (key : Bs) :
    ∀ (d : Nat) (t : Tr ItR d), t.lies tkR W0 → t.shape → (∀ b, t.own b → K b) → t.n ≤ 16 → UpI Op.bytesLess t.flat → (∀ x ∈ t.flat, S x) → FroR l N K J Jx W0 t.g key (geL Op.bytesLess key t.flat) := by
  intro d
  induction d with
  | zero =>
    intro t hl hs hK hn hu hS n pre W hW h0 hN
    have HT := Lib.hid (Tr.lies_kept hW hl hK)
    obtain ⟨hg, hA, hc, hB, he, hxs⟩ := t
    have hnn : hxs.length ≤ 16 := hn
    have hu0 : UpI Op.bytesLess hxs := hu
    obtain ⟨b1, b2, b3⟩ : (Hd.mk hg hA hc hB he hxs).lies tkR W [] := HT.out
    unfold tkR at b1 b2
    dsimp only at b1 b2
    have HFD := Lib.hid (findR_any W hA hc hxs key b2.rd hu0 (by omega))
    show CallsIn _ _ _ _ #[.pointer (some ⟨hg, 0, none⟩), _, _] _ (WalkR K J Jx pre (geL Op.bytesLess key hxs) W)
    replace hN : pre.length + (geL Op.bytesLess key hxs).length ≤ N := hN
    have HBH : Hid (∀ (i : Nat) (A' : Option Addr) (c' : Nat) W', IsAt Op.bytesLess hxs key i → Fr NoBlk W W' → Rd W0 A' (itsR (hxs.drop i)) → (∀ b, ablk A' b → K b) → CallsIn Fence.wide (n - 1) Try.prog 73 #[.slice A' (hxs.length - i) c', .slice hB 0 he, .func (.yield l) #[] #[]] W' (WalkR K J Jx pre (geL Op.bytesLess key hxs) W)) := fun i A' c' W' hi hf hr hk => by
      have hd := HY.out.nofr hW h0 hf
      have h1 := behindR_in l N K J Jx W0 HY A' c' (hxs.drop i) (fun x hx => hS x (List.mem_of_mem_drop hx)) hB 0 he (List.replicate (hxs.drop i).length []) (by simp) hr (fun _ => hk) [] (Rd.none_ _ _) (fun h => by simp at h) rfl (.inl ⟨rfl, fun T hT => (List.mem_replicate.1 hT).2⟩) (by rw [List.length_drop]; omega) (n - 1) pre W' (hW.t hd.2) hd.1 (by rw [postW_rep, ← geL_at hi]; exact hN)
      rw [postW_rep, List.length_drop, ← geL_at hi] at h1
      exact h1.mono fun e w' h => h.from_ hd.2
    have hcl := (b2.form)
    obtain ⟨A2, c2, hv, hle, hnone⟩ := hcl
    injection hv with hv1 hv2 hv3
    subst hv1 hv3
    have HB1 := Lib.hid b1
    have HR0 := Lib.hid hl.2.1
    have HKA : Hid (∀ b, ablk hA b → K b) := fun b hb => hK b (.inr (.inl hb))
    have c0 : W.cell? ⟨hg, 0, none⟩ = some (.slice hA hxs.length hc) := b1.cell 0
    obtain ⟨k0, hk0⟩ : ∃ k0, k0 = hxs.length := ⟨_, rfl⟩
    rw [← hk0] at c0 HBH HFD hle hnn HB1
    have HK0 := Lib.hid hk0
    clear b1 b2 b3 HT hk0 hl hs hK hn hS h0 hN hu hu0 hv2
    refine callsIn_of_wp Try.func67 rfl trivial ?_ rfl
    simp only [Try.ntmps67, List.size_toArray, List.length_cons, List.length_nil, Nat.reduceAdd, Nat.reduceSub, Array.replicate_succ, Array.replicate_zero, List.push_toArray, List.append_toArray, List.nil_append, List.cons_append]
    gi_wp2
    refine ⟨trivial, fun h => (by simp [Fence.wide] at h), (callsIn_wide.2 HFD.out).mono ?_⟩
    clear HFD
    rintro e w1 ⟨i, fd, rfl, hi, hfd, hf1⟩
    have HB11 := Lib.hid (HB1.out.fr hf1 fun h => h)
    have c0 : w1.cell? ⟨hg, 0, none⟩ = some (.slice hA k0 hc) := HB11.out.cell 0
    have c1 : w1.cell? ⟨hg, 1, none⟩ = some (.slice hB 0 he) := HB11.out.cell 1
    have hik : i ≤ k0 := by rw [HK0.out]; exact hi.le
    have HI := Lib.hid hi
    have HF1 := Lib.hid hf1
    clear hi hfd hf1
    by_cases hci : hc = i
    · gi_wp2
      gi_quiet (fail)
      gi_wp2
      refine ⟨trivial, fun h => (by simp [Fence.wide] at h), (HBH.out i hA 0 _ HI.out (HF1.out.drewN _) (by rw [List.drop_eq_nil_of_le (by have := HK0.out; omega)]; exact Rd.none_ _ _) HKA.out).mono ?_⟩
      clear HBH
      rintro e W4 (⟨rfl, h4⟩ | ⟨rfl, h4⟩)
      · have H4 := Lib.hid h4
        clear h4
        gi_wp2
        exact bodyPost_ret (results_tmp rfl _ _ _) rfl (.inl ⟨rfl, H4.out⟩)
      · have H4 := Lib.hid h4
        clear h4
        gi_wp2
        exact bodyPost_ret (results_tmp rfl _ _ _) rfl (.inr ⟨rfl, H4.out⟩)
    · gi_wp2
      gi_quiet (fail)
      gi_wp2
      refine ⟨trivial, fun h => (by simp [Fence.wide] at h), (HBH.out i _ (hc - i) _ HI.out (HF1.out.drewN _) (by rw [itsR_drop]; exact HR0.out.rd.cut_ (by show i * 5 ≤ (itsR hxs).length; rw [itsR_len]; have := HK0.out; omega)) (fun b hb => HKA.out b (ablk_map hb))).mono ?_⟩
      clear HBH
      rintro e W4 (⟨rfl, h4⟩ | ⟨rfl, h4⟩)
      · have H4 := Lib.hid h4
        clear h4
        gi_wp2
        exact bodyPost_ret (results_tmp rfl _ _ _) rfl (.inl ⟨rfl, H4.out⟩)
      · have H4 := Lib.hid h4
        clear h4
        gi_wp2
        exact bodyPost_ret (results_tmp rfl _ _ _) rfl (.inr ⟨rfl, H4.out⟩)
  | succ d ih =>
    intro t hl hs hK hn hu hS n pre W hW h0 hN
    have HT := Lib.hid (Tr.lies_kept hW hl hK)
    obtain ⟨⟨hg, hA, hc, hB, he, hxs⟩, ks⟩ := t
    have hlen : ks.length = hxs.length + 1 := hs.1
    have hnn : hxs.length ≤ 16 := hn
    replace hu : UpI Op.bytesLess (Tr.flat (d := d + 1) (Tr.node ⟨hg, hA, hc, hB, he, hxs⟩ ks)) := hu
    replace hN : pre.length + (geL Op.bytesLess key (Tr.flat (d := d + 1) (Tr.node ⟨hg, hA, hc, hB, he, hxs⟩ ks))).length ≤ N := hN
    show CallsIn _ _ _ _ #[.pointer (some ⟨hg, 0, none⟩), _, _] _ (WalkR K J Jx pre (geL Op.bytesLess key (Tr.flat (d := d + 1) (Tr.node ⟨hg, hA, hc, hB, he, hxs⟩ ks))) W)
    obtain ⟨T, hT⟩ : ∃ T, T = geL Op.bytesLess key (Tr.flat (d := d + 1) (Tr.node ⟨hg, hA, hc, hB, he, hxs⟩ ks)) := ⟨_, rfl⟩
    rw [← hT] at hN ⊢
    have hu0 : UpI Op.bytesLess hxs := hu.sub (sub_weave _ _)
    obtain ⟨b1, b2, b3⟩ : (Hd.mk hg hA hc hB he hxs).lies tkR W (ks.map Tr.g) := HT.out.1
    unfold tkR at b1 b2 b3
    dsimp only at b1 b2 b3
    have HFD := Lib.hid (findR_any W hA hc hxs key b2.rd hu0 (by omega))
    obtain ⟨np, hnp⟩ : ∃ np, np = (ks.map Tr.g).length := ⟨_, rfl⟩
    rw [← hnp] at b1 b3
    have hnpl : np = hxs.length + 1 := by rw [hnp, List.length_map, hlen]
    have HBH : Hid (∀ (i : Nat) (A' : Option Addr) (c' : Nat) (B' : Option Addr) (e' : Nat) pre' W', i ≤ hxs.length → Keep K W0 W' → J pre' W' → pre'.length + (postW (hxs.drop i) ((ks.drop (i + 1)).map Tr.flat)).length ≤ N → Rd W0 A' (itsR (hxs.drop i)) → (∀ b, ablk A' b → K b) → Rd W0 B' (((ks.map Tr.g).drop i).map ptr) → (∀ b, ablk B' b → K b) →
        CallsIn Fence.wide (n - 1) Try.prog 73 #[.slice A' (hxs.length - i) c', .slice B' (np - i) e', .func (.yield l) #[] #[]] W' (WalkR K J Jx pre' (postW (hxs.drop i) ((ks.drop (i + 1)).map Tr.flat)) W')) := fun i A' c' B' e' pre' W' hi h1 h2 h3 hr hk hr' hk' => by
      have h4 := behindR_in l N K J Jx W0 HY A' c' (hxs.drop i) (fun x hx => hS x ((sub_weave _ _).subset (List.mem_of_mem_drop hx))) B' (np - i) e' ((ks.drop (i + 1)).map Tr.flat) (by rw [List.length_map, List.length_drop, List.length_drop]; omega) hr (fun _ => hk) ((ks.map Tr.g).drop i) hr' (fun _ => hk') (by rw [List.length_drop, hnp]) (.inr ⟨by rw [List.length_drop, List.length_drop, List.length_map]; omega, fun j T p hT hp => by
        rw [List.getElem?_map, List.getElem?_drop] at hT
        rw [List.getElem?_drop, List.getElem?_map, show i + (j + 1) = i + 1 + j by omega] at hp
        cases hk : ks[i + 1 + j]? with
        | none => rw [hk] at hT; cases hT
        | some k =>
          rw [hk] at hT hp
          injection hT with hT
          injection hp with hp
          subst hT hp
          have hm := List.mem_of_getElem? hk
          exact allR_in l N K J Jx W0 HY d k (hl.2 k hm) (hs.2 k hm).1 (fun b hb => hK b (.inr ⟨k, hm, hb⟩)) (hs.2 k hm).2.2 (fun x hx => hS x ((sub_kid (ks.map Tr.flat) hxs (List.mem_map_of_mem hm) (by rw [List.length_map]; omega)).subset hx))⟩) (by rw [List.length_drop]; omega) (n - 1) pre' W' h1 h2 h3
      rw [List.length_drop] at h4
      exact h4
    have HGE : Hid (∀ i, IsAt Op.bytesLess hxs key i → ∃ k, ks[i]? = some k ∧ T = geL Op.bytesLess key k.flat ++ postW (hxs.drop i) ((ks.drop (i + 1)).map Tr.flat) ∧ ((∃ v, hxs[i]? = some (key, v)) → geL Op.bytesLess key k.flat = []) ∧ FroR l N K J Jx W0 k.g key (geL Op.bytesLess key k.flat)) := fun i hi => by
      have hle := hi.le
      obtain ⟨k, hk⟩ : ∃ k, ks[i]? = some k := ⟨_, List.getElem?_eq_getElem (by omega)⟩
      obtain ⟨a, b, hab, hal, hbe⟩ : ∃ a b, ks = a ++ [k] ++ b ∧ a.length = i ∧ b = ks.drop (i + 1) := ⟨ks.take i, ks.drop (i + 1), by rw [List.append_assoc]; exact list_mid hk, by rw [List.length_take]; omega, rfl⟩
      have hm := List.mem_of_getElem? hk
      have hfk := ih k (hl.2 k hm) (hs.2 k hm).1 (fun b hb => hK b (.inr ⟨k, hm, hb⟩)) (hs.2 k hm).2.2 (hu.sub (sub_kid (ks.map Tr.flat) hxs (List.mem_map_of_mem hm) (by rw [List.length_map]; omega))) (fun x hx => hS x ((sub_kid (ks.map Tr.flat) hxs (List.mem_map_of_mem hm) (by rw [List.length_map]; omega)).subset hx))
      refine ⟨k, hk, ?_⟩
      rw [← hbe]
      rw [hab] at hu hlen hT
      have h5 := from_node linS (h := ⟨hg, hA, hc, hB, he, hxs⟩) hlen hu (key := key) (by rw [hal]; exact hi)
      rw [hal] at h5
      exact ⟨hT.trans h5.1, h5.2, hfk⟩
    have hnp0 : 0 < np := by omega
    obtain ⟨pb, rfl⟩ := b3.addr hnp0
    obtain ⟨A2, c2, hv, hle, hnone⟩ := b2.form
    injection hv with hv1 hv2 hv3
    subst hv1 hv3
    obtain ⟨A2, c2, hv, hle2, hnone2⟩ := b3.form
    injection hv with hv1' hv2' hv3'
    subst hv3'
    have HB1 := Lib.hid b1
    have HB3 := Lib.hid b3
    have HR0 := Lib.hid hl.1.2.1
    have HP0 := Lib.hid hl.1.2.2
    have HKA : Hid (∀ b, ablk hA b → K b) := fun b hb => hK b (.inl (.inr (.inl hb)))
    have HKB : Hid (∀ b, ablk (some ⟨pb, 0, none⟩) b → K b) := fun b hb => hK b (.inl (.inr (.inr hb)))
    have c0 : W.cell? ⟨hg, 0, none⟩ = some (.slice hA hxs.length hc) := b1.cell 0
    obtain ⟨k0, hk0⟩ : ∃ k0, k0 = hxs.length := ⟨_, rfl⟩
    rw [← hk0] at c0 HBH HFD hle hnn HB1 hnpl
    have HK0 := Lib.hid hk0
    have HNP := Lib.hid hnp
    subst hnpl
    have HW := Lib.hid hW
    have HJ := Lib.hid h0
    have HN := Lib.hid hN
    clear b1 b2 b3 HT hk0 hl hs hK hn hS h0 hN hu hu0 hv2 hnp hv1' hv2' hnone hnone2 hW ih hT hlen
    refine callsIn_of_wp Try.func67 rfl trivial ?_ rfl
    simp only [Try.ntmps67, List.size_toArray, List.length_cons, List.length_nil, Nat.reduceAdd, Nat.reduceSub, Array.replicate_succ, Array.replicate_zero, List.push_toArray, List.append_toArray, List.nil_append, List.cons_append]
    gi_wp2
    refine ⟨trivial, fun h => (by simp [Fence.wide] at h), (callsIn_wide.2 HFD.out).mono ?_⟩
    clear HFD
    rintro e w1 ⟨i, fd, rfl, hi, hfd, hf1⟩
    have HB11 := Lib.hid (HB1.out.fr hf1 fun h => h)
    have HB31 := Lib.hid (HB3.out.fr hf1 fun _ _ h => h)
    have c0 : w1.cell? ⟨hg, 0, none⟩ = some (.slice hA k0 hc) := HB11.out.cell 0
    have c1 : w1.cell? ⟨hg, 1, none⟩ = some (.slice (some ⟨pb, 0, none⟩) (k0 + 1 : Nat) he) := HB11.out.cell 1
    have hik : i ≤ k0 := by rw [HK0.out]; exact hi.le
    obtain ⟨k, hk, hTe, hfn, hfro⟩ := HGE.out i hi
    have HTE := Lib.hid hTe
    have HD := Lib.hid (HY.out.nofr HW.out HJ.out hf1)
    have HR1 : Hid (Rd W0 (some ⟨pb, 0, none⟩) ((ks.map Tr.g).map ptr)) := HP0.out.rd
    obtain ⟨kg, hkg⟩ : ∃ kg, kg = k.g := ⟨_, rfl⟩
    have pc : w1.cell? ⟨pb, i, none⟩ = some (.pointer (some ⟨kg, 0, none⟩)) := by rw [hkg]; exact HB31.out.cellP (by rw [List.getElem?_map, hk]; rfl)
    have HFN := Lib.hid hfn
    have HFO : Hid (FroR l N K J Jx W0 kg key (geL Op.bytesLess key k.flat)) := by rw [hkg]; exact hfro
    have HFD := Lib.hid hfd
    have HI := Lib.hid hi
    have HF1 := Lib.hid hf1
    have hne : ¬ he = i := by omega
    have hni : i < k0 + 1 := by omega
    clear hi hf1 hk hTe hfn hfro HGE hkg hfd
    by_cases hci : hc = i
    · cases fd with
      | true =>
        have HD2 : Hid (∀ q, J pre (w1.drewN q) ∧ Keep K W (w1.drewN q)) := fun q => HY.out.nofr HW.out HJ.out (HF1.out.drewN q)
        have HT0 : Hid (T = postW (hxs.drop i) ((ks.drop (i + 1)).map Tr.flat)) := by
          have h := HTE.out
          rw [HFN.out (HFD.out.1 rfl), List.nil_append] at h
          exact h
        have HCB : Hid (∀ q, CallsIn Fence.wide (n - 1) Try.prog 73 #[.slice hA (k0 - i) 0, .slice (some ⟨pb, i, none⟩) (k0 + 1 - i) (he - i), .func (.yield l) #[] #[]] (w1.drewN q) (WalkR K J Jx pre T W)) := fun q => by
          rw [HT0.out]
          exact (HBH.out i hA 0 (some ⟨pb, i, none⟩) (he - i) pre (w1.drewN q) hik (HW.out.t (HD2.out q).2) (HD2.out q).1 (by have := HN.out; rw [HT0.out] at this; exact this) (by rw [List.drop_eq_nil_of_le (by have := HK0.out; omega)]; exact Rd.none_ _ _) HKA.out (by rw [List.map_drop]; exact HR1.out.off i) (fun b hb => HKB.out b (by obtain ⟨_, h, h2⟩ := hb; injection h with h; subst h; exact ⟨_, rfl, h2⟩))).mono fun e w' h => h.from_ (HD2.out q).2
        clear HBH
        gi_wp2
        gi_quiet (fail)
        gi_wp2_with (first | (refine skip_wide (by rfl) ?_))
        refine ⟨trivial, fun h => (by simp [Fence.wide] at h), (HCB.out _).mono ?_⟩
        clear HCB
        rintro e W4 (⟨rfl, h4⟩ | ⟨rfl, h4⟩)
        · have H4 := Lib.hid h4
          clear h4
          gi_wp2
          exact bodyPost_ret (results_tmp rfl _ _ _) rfl (.inl ⟨rfl, H4.out⟩)
        · have H4 := Lib.hid h4
          clear h4
          gi_wp2
          exact bodyPost_ret (results_tmp rfl _ _ _) rfl (.inr ⟨rfl, H4.out⟩)
      | false =>
        have HD2 : Hid (∀ q, J pre (w1.drewN q) ∧ Keep K W (w1.drewN q)) := fun q => HY.out.nofr HW.out HJ.out (HF1.out.drewN q)
        have HCF : Hid (∀ q, CallsIn Fence.wide (n - 1) Try.prog 67 #[.pointer (some ⟨kg, 0, none⟩), .string (bstr key), .func (.yield l) #[] #[]] (w1.drewN q) (WalkR K J Jx pre (geL Op.bytesLess key k.flat) W)) := fun q =>
          (HFO.out (n - 1) pre (w1.drewN q) (HW.out.t (HD2.out q).2) (HD2.out q).1 (by have := HN.out; rw [HTE.out, List.length_append] at this; omega)).mono fun e w' h => h.from_ (HD2.out q).2
        gi_wp2
        gi_quiet (fail)
        gi_wp2
        refine ⟨trivial, fun h => (by simp [Fence.wide] at h), (HCF.out _).mono ?_⟩
        clear HCF
        rintro e W4 (⟨rfl, hJ4, hk4⟩ | ⟨rfl, q, hq, hx4⟩)
        · have HK4 := Lib.hid hk4
          have HCB : Hid (CallsIn Fence.wide (n - 1) Try.prog 73 #[.slice hA (k0 - i) 0, .slice (some ⟨pb, i, none⟩) (k0 + 1 - i) (he - i), .func (.yield l) #[] #[]] W4 (WalkR K J Jx (pre ++ geL Op.bytesLess key k.flat) (postW (hxs.drop i) ((ks.drop (i + 1)).map Tr.flat)) W4)) :=
            HBH.out i hA 0 (some ⟨pb, i, none⟩) (he - i) _ W4 hik (HW.out.t hk4) hJ4 (by have := HN.out; rw [HTE.out, List.length_append] at this; rw [List.length_append]; omega) (by rw [List.drop_eq_nil_of_le (by have := HK0.out; omega)]; exact Rd.none_ _ _) HKA.out (by rw [List.map_drop]; exact HR1.out.off i) (fun b hb => HKB.out b (by obtain ⟨_, h, h2⟩ := hb; injection h with h; subst h; exact ⟨_, rfl, h2⟩))
          clear HBH hJ4 hk4
          gi_wp2
          refine ⟨trivial, fun h => (by simp [Fence.wide] at h), HCB.out.mono ?_⟩
          clear HCB
          rintro e W5 (⟨rfl, hJ5, hk5⟩ | ⟨rfl, q, hq, hx5⟩)
          · have H5 := Lib.hid (And.intro hJ5 hk5)
            clear hJ5 hk5
            gi_wp2
            exact bodyPost_ret (results_tmp rfl _ _ _) rfl (.inl ⟨rfl, by rw [HTE.out, ← List.append_assoc]; exact H5.out.1, HK4.out.t H5.out.2⟩)
          · have H5 := Lib.hid (And.intro hq hx5)
            clear hq hx5
            gi_wp2
            exact bodyPost_ret (results_tmp rfl _ _ _) rfl (.inr ⟨rfl, geL Op.bytesLess key k.flat ++ q, by rw [HTE.out]; exact (List.prefix_append_right_inj _).2 H5.out.1, by rw [← List.append_assoc]; exact H5.out.2⟩)
        · have H4 := Lib.hid (And.intro hq hx4)
          clear hq hx4
          gi_wp2
          exact bodyPost_ret (results_tmp rfl _ _ _) rfl (.inr ⟨rfl, q, by rw [HTE.out]; exact H4.out.1.trans (List.prefix_append _ _), H4.out.2⟩)
    · cases fd with
      | true =>
        have HD2 : Hid (∀ q, J pre (w1.drewN q) ∧ Keep K W (w1.drewN q)) := fun q => HY.out.nofr HW.out HJ.out (HF1.out.drewN q)
        have HT0 : Hid (T = postW (hxs.drop i) ((ks.drop (i + 1)).map Tr.flat)) := by
          have h := HTE.out
          rw [HFN.out (HFD.out.1 rfl), List.nil_append] at h
          exact h
        have HCB : Hid (∀ q, CallsIn Fence.wide (n - 1) Try.prog 73 #[.slice (hA.map fun x => x.add (i * 5)) (k0 - i) (hc - i), .slice (some ⟨pb, i, none⟩) (k0 + 1 - i) (he - i), .func (.yield l) #[] #[]] (w1.drewN q) (WalkR K J Jx pre T W)) := fun q => by
          rw [HT0.out]
          exact (HBH.out i _ (hc - i) (some ⟨pb, i, none⟩) (he - i) pre (w1.drewN q) hik (HW.out.t (HD2.out q).2) (HD2.out q).1 (by have := HN.out; rw [HT0.out] at this; exact this) (by rw [itsR_drop]; exact HR0.out.rd.cut_ (by show i * 5 ≤ (itsR hxs).length; rw [itsR_len]; have := HK0.out; omega)) (fun b hb => HKA.out b (ablk_map hb)) (by rw [List.map_drop]; exact HR1.out.off i) (fun b hb => HKB.out b (by obtain ⟨_, h, h2⟩ := hb; injection h with h; subst h; exact ⟨_, rfl, h2⟩))).mono fun e w' h => h.from_ (HD2.out q).2
        clear HBH
        gi_wp2
        gi_quiet (fail)
        gi_wp2_with (first | (refine skip_wide (by rfl) ?_))
        refine ⟨trivial, fun h => (by simp [Fence.wide] at h), (HCB.out _).mono ?_⟩
        clear HCB
        rintro e W4 (⟨rfl, h4⟩ | ⟨rfl, h4⟩)
        · have H4 := Lib.hid h4
          clear h4
          gi_wp2
          exact bodyPost_ret (results_tmp rfl _ _ _) rfl (.inl ⟨rfl, H4.out⟩)
        · have H4 := Lib.hid h4
          clear h4
          gi_wp2
          exact bodyPost_ret (results_tmp rfl _ _ _) rfl (.inr ⟨rfl, H4.out⟩)
      | false =>
        have HD2 : Hid (∀ q, J pre (w1.drewN q) ∧ Keep K W (w1.drewN q)) := fun q => HY.out.nofr HW.out HJ.out (HF1.out.drewN q)
        have HCF : Hid (∀ q, CallsIn Fence.wide (n - 1) Try.prog 67 #[.pointer (some ⟨kg, 0, none⟩), .string (bstr key), .func (.yield l) #[] #[]] (w1.drewN q) (WalkR K J Jx pre (geL Op.bytesLess key k.flat) W)) := fun q =>
          (HFO.out (n - 1) pre (w1.drewN q) (HW.out.t (HD2.out q).2) (HD2.out q).1 (by have := HN.out; rw [HTE.out, List.length_append] at this; omega)).mono fun e w' h => h.from_ (HD2.out q).2
        gi_wp2
        gi_quiet (fail)
        gi_wp2
        refine ⟨trivial, fun h => (by simp [Fence.wide] at h), (HCF.out _).mono ?_⟩
        clear HCF
        rintro e W4 (⟨rfl, hJ4, hk4⟩ | ⟨rfl, q, hq, hx4⟩)
        · have HK4 := Lib.hid hk4
          have HCB : Hid (CallsIn Fence.wide (n - 1) Try.prog 73 #[.slice (hA.map fun x => x.add (i * 5)) (k0 - i) (hc - i), .slice (some ⟨pb, i, none⟩) (k0 + 1 - i) (he - i), .func (.yield l) #[] #[]] W4 (WalkR K J Jx (pre ++ geL Op.bytesLess key k.flat) (postW (hxs.drop i) ((ks.drop (i + 1)).map Tr.flat)) W4)) :=
            HBH.out i _ (hc - i) (some ⟨pb, i, none⟩) (he - i) _ W4 hik (HW.out.t hk4) hJ4 (by have := HN.out; rw [HTE.out, List.length_append] at this; rw [List.length_append]; omega) (by rw [itsR_drop]; exact HR0.out.rd.cut_ (by show i * 5 ≤ (itsR hxs).length; rw [itsR_len]; have := HK0.out; omega)) (fun b hb => HKA.out b (ablk_map hb)) (by rw [List.map_drop]; exact HR1.out.off i) (fun b hb => HKB.out b (by obtain ⟨_, h, h2⟩ := hb; injection h with h; subst h; exact ⟨_, rfl, h2⟩))
          clear HBH hJ4 hk4
          gi_wp2
          refine ⟨trivial, fun h => (by simp [Fence.wide] at h), HCB.out.mono ?_⟩
          clear HCB
          rintro e W5 (⟨rfl, hJ5, hk5⟩ | ⟨rfl, q, hq, hx5⟩)
          · have H5 := Lib.hid (And.intro hJ5 hk5)
            clear hJ5 hk5
            gi_wp2
            exact bodyPost_ret (results_tmp rfl _ _ _) rfl (.inl ⟨rfl, by rw [HTE.out, ← List.append_assoc]; exact H5.out.1, HK4.out.t H5.out.2⟩)
          · have H5 := Lib.hid (And.intro hq hx5)
            clear hq hx5
            gi_wp2
            exact bodyPost_ret (results_tmp rfl _ _ _) rfl (.inr ⟨rfl, geL Op.bytesLess key k.flat ++ q, by rw [HTE.out]; exact (List.prefix_append_right_inj _).2 H5.out.1, by rw [← List.append_assoc]; exact H5.out.2⟩)
        · have H4 := Lib.hid (And.intro hq hx4)
          clear hq hx4
          gi_wp2
          exact bodyPost_ret (results_tmp rfl _ _ _) rfl (.inr ⟨rfl, q, by rw [HTE.out]; exact H4.out.1.trans (List.prefix_append _ _), H4.out.2⟩)
end Go.Proofs.Ytkdcacajacndmaa
