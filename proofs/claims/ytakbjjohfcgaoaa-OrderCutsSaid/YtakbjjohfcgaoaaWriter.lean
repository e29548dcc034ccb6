/- The program's writer: nums and keys. Conditions: the pen's row is the call's own, and short. -/
import Derived.Test.YtakbjjohfcgaoaaOBytes
import Derived.Lib.ConvBytes
namespace Go.Proofs.Ytakbjjohfcgaoaa
open Go.RowKit

set_option maxRecDepth 100000 in
set_option maxHeartbeats 2000000 in
theorem wnums_any (w : World) (base g : Nat) (A : Option Addr) (n c : Nat) (ns : List Nat) (v : Value) (l : List UInt8) (hp : Pen w base g v l) (hb : base ≤ w.heap.size) (hn : n = ns.length) (hr : Rd w A (uc ns)) (h64 : ∀ x ∈ ns, x < 2 ^ 64)
    (hs : 0 < ns.length → ∀ k, ablk A k → k ≠ g ∧ some k ≠ v.ownBlock) (hns : ns.length ≤ 1000) (hl : (l ++ nums ns).length ≤ 100000000) :
    Calls Try.prog 37 #[.pointer (some ⟨g, 0, none⟩), .slice A n c] w fun e w' => e = .returned (.tuple #[]) ∧ ∃ v', Wro w w' base g v v' (l ++ nums ns) := by
  subst hn
  have HP := Lib.hid hp
  have HR := Lib.hid hr
  have H64 := Lib.hid h64
  have HS := Lib.hid hs
  have HL := Lib.hid hl
  clear hp hr h64 hs hl
  go_enter Try.func37, Try.ntmps37
  go_wp2
  go_loopw [8] (fun s wr => ∃ (k : Nat) (v' : Value), k ≤ ns.length ∧ s = .int .i64 k ∧ Hid (Wro w wr base g v v' (l ++ nums (ns.take k)))) (fun s _ => ns.length - (intOf s).toNat)
  case atStart => exact ⟨0, v, by omega, rfl, by show Wro _ _ _ _ _ _ _; simpa [nums] using HP.out.wro⟩
  case round =>
    obtain ⟨k, v', hk, rfl, HW⟩ := hrel
    by_cases hlt : k < ns.length
    · obtain ⟨m, hm⟩ : ∃ m, ns[k]? = some m := ⟨_, List.getElem?_eq_getElem hlt⟩
      obtain ⟨b, o, rfl, hc⟩ := (HR.out.fr' HW.out.fr (fun hx j hj e => by
        rw [uc_len] at hx
        obtain ⟨h1, h2⟩ := HS.out hx j hj
        rcases e with e | e
        · exact h1 e
        · exact h2 e)).at_ (uc_get ns k m hm)
      have HSN := Lib.hid (nums_snoc ns k m hm)
      have HK := Lib.hid (num_any wr base g m v' (l ++ nums (ns.take k)) HW.out.pen (Nat.le_trans hb HW.out.fr.size) (H64.out m (List.mem_of_getElem? hm)) (by have h1 := HL.out; have h2 := nums_le ns k; rw [List.length_append] at h1 ⊢; omega))
      clear hm
      go_wp2_with fail
      refine HK.out.mono ?_
      rintro e w1 ⟨rfl, v1, hw1⟩
      have HX : Hid (Wro w w1 base g v v1 (l ++ nums (ns.take (k + 1)))) := by
        show Wro _ _ _ _ _ _ _
        rw [HSN.out, ← List.append_assoc]
        exact HW.out.trans hw1
      clear hw1 HK hc
      go_wp2_with fail
      go_roundw
      case rel => exact ⟨k + 1, v1, by omega, by go_num, HX⟩
      case measure => simp [intOf]; omega
    · have HT : Hid (ns.take k = ns) := List.take_of_length_le (by omega)
      have hw := HW.out
      rw [HT.out] at hw
      have HW2 := Lib.hid hw
      clear hw
      go_wp2_with fail
      go_end0
      exact ⟨rfl, _, HW2.out⟩

/-- a text as bytes in new memory. -/
theorem conv (w : World) (key : Bs) : ∃ W c, (convert 9 45 (.string (bstr key))).run Try.prog w = .ok (.slice (some ⟨w.heap.size, 0, none⟩) key.length c) W ∧ Rd W (some ⟨w.heap.size, 0, none⟩) (cb key) ∧ Fr NoBlk w W := by
  refine ⟨_, _, (Lib.run_convert_string_bytes (P := Try.prog) w 9 45 5 (bstr key) Try.underlying9 Try.underlying45 Try.underlying5).trans (by rw [bstr_size]), fun _ => ⟨w.heap.size, 0, rfl, fun j v hj => ?_⟩, ⟨?_, ?_, ?_, ?_, fun k hk _ => Lib.bytesWorld_at_old _ _ _ k hk⟩⟩
  · have hjl := (List.getElem?_eq_some_iff.1 hj).1
    rw [cb_length] at hjl
    rw [Nat.zero_add, Lib.bytesWorld_cell w _ _ j (by rw [bstr_size]; exact hjl), ← hj, cb_get key j hjl]
    rfl
  · simp [Lib.bytesWorld, World.freeze, World.alloc, World.drew, -World.alloc_eq, -World.drew_eq]
  · simp [Lib.bytesWorld, World.freeze, World.alloc, World.drew, -World.alloc_eq, -World.drew_eq]
  · simp [Lib.bytesWorld, World.freeze, World.alloc, World.drew, -World.alloc_eq, -World.drew_eq]
  · rw [Lib.bytesWorld_size]; omega

theorem Pen.nofr {w w' : World} {base g : Nat} {v : Value} {l : List UInt8} (h : Pen w base g v l) (hf : Fr NoBlk w w') : Pen w' base g v l := h.keep hf (fun h => h) (fun _ _ h => h)
theorem Wro.pre {w w0 w1 : World} {base g : Nat} {v v1 : Value} {l : List UInt8} (hf : Fr NoBlk w w0) (h : Wro w0 w1 base g v v1 l) : Wro w w1 base g v v1 l :=
  ⟨h.pen, (hf.mono fun _ _ h => h.elim).trans h.fr, by
    rcases h.blk with h1 | ⟨k, e, hk⟩
    · exact .inl h1
    · exact .inr ⟨k, e, Nat.le_trans hf.size hk⟩⟩
theorem Pen.lt {w : World} {base g : Nat} {v : Value} {l : List UInt8} (h : Pen w base g v l) : g < w.heap.size ∧ ∀ k, v.ownBlock = some k → k < w.heap.size := ⟨h.bk.lt, fun _ hk => (own_blk h.own hk).2⟩
/-- what lay ahead of a pen's call, apart from the pen, lies there still. -/
theorem Wro.rd {w w' : World} {base g : Nat} {v v' : Value} {l : List UInt8} (h : Wro w w' base g v v' l) {A : Option Addr} {xs : List Value} (hr : Rd w A xs) (hs : 0 < xs.length → ∀ k, ablk A k → k ≠ g ∧ some k ≠ v.ownBlock) : Rd w' A xs :=
  hr.fr' h.fr fun hx k hk e => by
    obtain ⟨h1, h2⟩ := hs hx k hk
    rcases e with e | e
    · exact h1 e
    · exact h2 e

set_option maxRecDepth 100000 in
set_option maxHeartbeats 2000000 in
theorem wkeys_any (w : World) (base g : Nat) (A : Option Addr) (n c : Nat) (ks : List Bs) (v : Value) (l : List UInt8) (hp : Pen w base g v l) (hb : base ≤ w.heap.size) (hn : n = ks.length) (hr : Rd w A (sts ks))
    (hs : 0 < ks.length → ∀ k, ablk A k → k ≠ g ∧ some k ≠ v.ownBlock) (hks : ks.length ≤ 1000) (hl : (l ++ keysB ks).length ≤ 100000000) :
    Calls Try.prog 82 #[.pointer (some ⟨g, 0, none⟩), .slice A n c] w fun e w' => e = .returned (.tuple #[]) ∧ ∃ v', Wro w w' base g v v' (l ++ keysB ks) := by
  subst hn
  have HP := Lib.hid hp
  have HR := Lib.hid hr
  have HS := Lib.hid hs
  have HL := Lib.hid hl
  have HNUM : Hid (Rd (w.alloc (.cells #[.int .u64 ((ks.length : Nat) : Int)] 22)) (some ⟨w.heap.size, 0, none⟩) (uc [ks.length])) := Rd.of_cells (Bk.new _ _ _)
  have HFA : Hid (Fr NoBlk w (w.alloc (.cells #[.int .u64 ((ks.length : Nat) : Int)] 22))) := (Fr.refl _ _).alloc _
  have HK1 := Lib.hid (wnums_any (w.alloc (.cells #[.int .u64 ((ks.length : Nat) : Int)] 22)) base g (some ⟨w.heap.size, 0, none⟩) 1 1 [ks.length] v l (hp.nofr HFA.out) (by have := HFA.out.size; omega) rfl HNUM.out (fun x hx => by rw [List.mem_singleton.1 hx]; omega)
    (fun _ k hk => by
      obtain ⟨ad, e, rfl⟩ := hk
      injection e with e
      subst e
      have := hp.lt
      exact ⟨by show w.heap.size ≠ g; omega, fun e => absurd (this.2 _ e.symm) (Nat.lt_irrefl _)⟩) (by show 1 ≤ 1000; omega) (by have h1 := hl; unfold keysB at h1; simp only [List.length_append, nums, List.flatMap_cons, List.flatMap_nil, List.length_nil] at h1 ⊢; omega))
  clear hp hr hs hl HNUM
  have hwr : ((ks.length : Int) % 18446744073709551616) = (ks.length : Int) := by omega
  go_enter Try.func82, Try.ntmps82
  go_wp2_with fail
  refine HK1.out.mono ?_
  rintro e w1 ⟨rfl, v1, hw1⟩
  have HW1 := Lib.hid (Wro.pre HFA.out hw1)
  clear hw1 HK1 hwr
  go_wp2_with fail
  go_loopw [14] (fun s wr => ∃ (k : Nat) (v' : Value), k ≤ ks.length ∧ s = .int .i64 k ∧ Hid (Wro w wr base g v v' (l ++ (num ks.length ++ (ks.take k).flatMap textB)))) (fun s _ => ks.length - (intOf s).toNat)
  case atStart => exact ⟨0, v1, by omega, rfl, by show Wro _ _ _ _ _ _ _; simpa [nums] using HW1.out⟩
  case round =>
    obtain ⟨k, v', hk, rfl, HW⟩ := hrel
    by_cases hlt : k < ks.length
    · obtain ⟨m, hm⟩ : ∃ m, ks[k]? = some m := ⟨_, List.getElem?_eq_getElem hlt⟩
      obtain ⟨b, o, rfl, hc⟩ := (HW.out.rd HR.out (fun hx j hj => by rw [sts_len] at hx; exact HS.out hx j hj)).at_ (k := k) (v := st m) (by simp [sts, hm])
      have HSN := Lib.hid (flat_snoc textB ks k m hm)
      obtain ⟨W, cw, hcv, hrd, hfr⟩ := conv wr m
      have hlen : (l ++ (num ks.length ++ (ks.take k).flatMap textB)).length + (textB m).length ≤ 100000000 := by
        have h1 := HL.out
        have h2 := flat_le textB ks (k + 1)
        rw [HSN.out] at h2
        unfold keysB at h1
        simp only [List.length_append] at h1 h2 ⊢
        omega
      have hlt2 := HW.out.pen.lt
      have HK := Lib.hid (text_any W base g (some ⟨wr.heap.size, 0, none⟩) m.length cw m v' (l ++ (num ks.length ++ (ks.take k).flatMap textB)) (HW.out.pen.nofr hfr) (Nat.le_trans hb (Nat.le_trans HW.out.fr.size hfr.size)) rfl hrd (fun h => by cases h)
        (fun _ j hj => by
          obtain ⟨ad, e, rfl⟩ := hj
          injection e with e
          subst e
          exact ⟨by show wr.heap.size ≠ g; omega, fun e => absurd (hlt2.2 _ e.symm) (Nat.lt_irrefl _)⟩) (by unfold textB at hlen; simp only [List.length_append] at hlen; omega) (by omega))
      have HFW := Lib.hid hfr
      clear hm hrd hfr hlen hlt2
      unfold st at hc
      go_wp2_with fail
      refine HK.out.mono ?_
      rintro e w2 ⟨rfl, v2, hw2⟩
      have HX : Hid (Wro w w2 base g v v2 (l ++ (num ks.length ++ (ks.take (k + 1)).flatMap textB))) := by
        show Wro _ _ _ _ _ _ _
        have h := HW.out.trans (Wro.pre HFW.out hw2)
        rw [HSN.out]
        unfold textB at h ⊢
        simpa [List.append_assoc] using h
      clear hw2 HK hc hcv
      go_wp2_with fail
      go_roundw
      case rel => exact ⟨k + 1, v2, by omega, by go_num, HX⟩
      case measure => simp [intOf]; omega
    · have HT : Hid (ks.take k = ks) := List.take_of_length_le (by omega)
      have hw := HW.out
      rw [HT.out] at hw
      have HW2 := Lib.hid hw
      clear hw
      go_wp2_with fail
      go_end0
      exact ⟨rfl, _, HW2.out⟩
end Go.Proofs.Ytakbjjohfcgaoaa
