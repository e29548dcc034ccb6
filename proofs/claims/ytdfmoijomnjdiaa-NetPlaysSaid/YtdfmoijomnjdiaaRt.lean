/- The document's net: Take. Conditions: it lies in blocks made since a first world. -/
import Derived.Test.YtdfmoijomnjdiaaRf
namespace Go.Proofs.Ytdfmoijomnjdiaa
open Go.RowKit

def RTakePost (R : Nat → Prop) (w W : World) (m : Nat) (qs : List Pc) (k : Int) (e : Ending) (W' : World) : Prop :=
  if hasB qs.length k = true then ∃ p A c, qs[k.toNat]? = some p ∧ e = .returned (.tuple #[.agg #[.int .i64 p.src, .int .i64 p.dst, .int .u64 p.ep, .int .u64 p.pe, .int .u64 p.sq, .int .u64 p.ak, .slice p.d.1 p.d.2.2.length p.d.2.1], .bool true]) ∧ Fr (fun k => k = m) W W' ∧ RtIn (Plus R W W') w W' m A c (qs.eraseIdx k.toNat)
  else e = .returned (.tuple #[.agg #[.int .i64 0, .int .i64 0, .int .u64 0, .int .u64 0, .int .u64 0, .int .u64 0, .slice none 0 0], .bool false]) ∧ Fr NoBlk W W'

set_option maxRecDepth 100000 in
set_option maxHeartbeats 8000000 in
theorem rtake_any (w W : World) (R : Nat → Prop) (m : Nat) (a : Option Addr) (c : Nat) (qs : List Pc) (h : RtIn R w W m a c qs) (hm : w.heap.size ≤ m) (k : Int) :
    Calls Try.prog 9 #[.pointer (some ⟨m, 0, none⟩), .int .i64 k] W (RTakePost R w W m qs k) := by
  obtain ⟨i0, hi, hz0, hz1, hz2⟩ := info_parts pcInfo
  have HP : Hid (∀ e W', RTakePost R w W m qs k e W' = if hasB qs.length k = true then ∃ p A c, qs[k.toNat]? = some p ∧ e = .returned (.tuple #[.agg #[.int .i64 p.src, .int .i64 p.dst, .int .u64 p.ep, .int .u64 p.pe, .int .u64 p.sq, .int .u64 p.ak, .slice p.d.1 p.d.2.2.length p.d.2.1], .bool true]) ∧ Fr (fun k => k = m) W W' ∧ RtIn (Plus R W W') w W' m A c (qs.eraseIdx k.toNat)
    else e = .returned (.tuple #[.agg #[.int .i64 0, .int .i64 0, .int .u64 0, .int .u64 0, .int .u64 0, .int .u64 0, .slice none 0 0], .bool false]) ∧ Fr NoBlk W W') := fun _ _ => rfl
  have HMW := Lib.hid hm
  have HOL : Hid (∀ k, R k → k < W.heap.size) := h.ol
  have hml : m < W.heap.size := h.ol m h.om
  obtain ⟨w1, hw1⟩ : ∃ w1, w1 = W.alloc (.cells #[.int .i64 0, .int .i64 0, .int .u64 0, .int .u64 0, .int .u64 0, .int .u64 0, .slice none 0 0] 35) := ⟨_, rfl⟩
  obtain ⟨gr, hgr⟩ : ∃ gr, gr = W.heap.size := ⟨_, rfl⟩
  have HF1 : Hid (Fr NoBlk W w1) := by show Fr _ _ _; rw [hw1]; exact (Fr.refl _ _).alloc _
  have HB1 : Hid (Bk w1 gr 35 pcz) := by show Bk _ _ _ _; rw [hw1, hgr]; exact Bk.new _ _ _
  have HN1 := Lib.hid (h.nofr HF1.out)
  have HHS := Lib.hid (rhas_any w1 w R m a c qs HN1.out k)
  clear h hm
  unfold pcz at HB1
  by_cases hb : hasB qs.length k = true
  · obtain ⟨j, rfl, hj⟩ := hasB_true hb
    rw [hb] at HHS
    obtain ⟨p, hp⟩ : ∃ p, qs[j]? = some p := ⟨_, List.getElem?_eq_getElem hj⟩
    obtain ⟨q, rfl⟩ : ∃ q, a = some ⟨q, 0, none⟩ := by
      rcases HN1.out.own.2 with ⟨_, e0⟩ | ⟨q, cap, cur, e, _⟩
      · omega
      · injection e with e _ _
        exact ⟨q, e⟩
    have HPJ : Hid (hasB qs.length (j : Int) = true ∧ qs[j]? = some p) := ⟨hb, hp⟩
    have HPI := Lib.hid (HN1.out.data p (List.mem_of_getElem? hp))
    have HJ := Lib.hid hj
    obtain ⟨r0, r1, r2, r3, r4, r5, r6⟩ : w1.cell? ⟨q, j * 7, none⟩ = some (.int .i64 p.src) ∧ w1.cell? ⟨q, j * 7 + 1, none⟩ = some (.int .i64 p.dst) ∧ w1.cell? ⟨q, j * 7 + 2, none⟩ = some (.int .u64 p.ep) ∧ w1.cell? ⟨q, j * 7 + 3, none⟩ = some (.int .u64 p.pe) ∧ w1.cell? ⟨q, j * 7 + 4, none⟩ = some (.int .u64 p.sq) ∧ w1.cell? ⟨q, j * 7 + 5, none⟩ = some (.int .u64 p.ak) ∧ w1.cell? ⟨q, j * 7 + 6, none⟩ = some (.slice p.d.1 p.d.2.2.length p.d.2.1) := by
      obtain ⟨b, o, e, hc⟩ := Rd.cat pcc 7 pcc_len (Rd.of_ownN HN1.out.own) (by omega) hp
      injection e with e
      injection e with e1 e2
      subst e1 e2
      simp only [Nat.zero_add] at hc
      exact ⟨hc 0 _ rfl, hc 1 _ rfl, hc 2 _ rfl, hc 3 _ rfl, hc 4 _ rfl, hc 5 _ rfl, hc 6 _ rfl⟩
    have hcN : w1.cell? ⟨m, 0, none⟩ = some (.slice (some ⟨q, 0, none⟩) qs.length c) := HN1.out.bk.cell 0
    have hji : (j : Int) < (qs.length : Int) := by omega
    clear hb hp
    obtain ⟨w5, hw5⟩ : ∃ w5, w5 = w1.alloc (.cells (pca p) 35) := ⟨_, rfl⟩
    obtain ⟨gx, hgx⟩ : ∃ gx, gx = w1.heap.size := ⟨_, rfl⟩
    have HF5 : Hid (Fr NoBlk w1 w5) := by show Fr _ _ _; rw [hw5]; exact (Fr.refl _ _).alloc _
    have HBX : Hid (Bk w5 gx 35 (pca p)) := by show Bk _ _ _ _; rw [hw5, hgx]; exact Bk.new _ _ _
    have HBR : Hid (Bk w5 gr 35 pcz) := HB1.out.fr HF5.out (fun h => h)
    have HL5 := Lib.hid (HN1.out.nofr HF5.out)
    have HGM : Hid (m < gr ∧ m < gx) := by
      have := HF1.out.size
      exact ⟨by omega, by omega⟩
    unfold pca at hw5
    have HPOST : Hid (∀ (W' W'' : World) (A4 : Option Addr) (c4 : Nat), RtIn (Plus R w5 W') w W' m A4 c4 (qs.eraseIdx j) → Fr (fun k => k = m) w5 W' → Fr (fun k => k = gr) W' W'' → RTakePost R w W m qs (j : Int) (.returned (.tuple #[.agg #[.int .i64 p.src, .int .i64 p.dst, .int .u64 p.ep, .int .u64 p.pe, .int .u64 p.sq, .int .u64 p.ak, .slice p.d.1 p.d.2.2.length p.d.2.1], .bool true])) W'') := fun W' W'' A4 c4 h1 h2 h3 => by
      rw [HP.out, if_pos HPJ.out.1]
      have hs1 := HF1.out.size
      have hs5 := HF5.out.size
      have hs3 := h3.size
      have hlt := HB1.out.lt
      have hrm : ∀ k, Plus R w5 W' k → ¬ k = gr := fun k hk e => by
        rcases hk with hk | hk
        · have := HOL.out k hk; omega
        · omega
      have h4 := h1.fr' h3 hrm (h1.fr.step h3 fun k hk e => by have := HMW.out; omega)
      refine ⟨p, A4, c4, HPJ.out.2, rfl, ((((HF1.out.trans HF5.out).mono fun _ _ h => h.elim).trans h2).step h3 fun k hk e => by omega), ⟨h4.bk, h4.own, h4.data, ?_, fun b hb => ?_, fun k hk => ?_, h4.few, h4.fr⟩⟩
      · rcases h4.om with e | e
        · exact .inl e
        · exact .inr ⟨by omega, by omega⟩
      · rcases h4.os b hb with e | e
        · exact .inl e
        · exact .inr ⟨by omega, by omega⟩
      · rcases hk with hk | hk
        · have := HOL.out k hk
          have := h2.size
          omega
        · exact hk.2
    have hcN5 : w5.cell? ⟨m, 0, none⟩ = some (.slice (some ⟨q, 0, none⟩) qs.length c) := HL5.out.bk.cell 0
    have hw64 : IntKind.i64.wrap ((j : Int) + 1) = (j : Int) + 1 := by rw [IntWalk.i64_in _ (by have := HL5.out.few; omega)]
    have hcp := own_lens HL5.out.own
    have h1 : (0 : Int) ≤ (j : Int) + 1 := by omega
    have h2 : (j : Int) + 1 ≤ (qs.length : Int) := by omega
    have h3 : j ≤ c := by omega
    have h3' : (j : Int) ≤ (c : Int) := by omega
    have h4 : (qs.length : Int) ≤ (c : Int) := by omega
    have h5 : qs.length ≤ c := by omega
    have h6 : j + 1 ≤ qs.length := by omega
    have h7 : ((j : Int) + 1).toNat = j + 1 := by omega
    have h8 : (j : Int) ≤ (j : Int) + 1 := by omega
    have h9 : (j : Int) + 1 ≤ (c : Int) := by omega
    go_enter Try.func9, Try.ntmps9
    go_wp2_with fail
    rw [← hw1, ← hgr]
    clear hw1 hgr
    refine HHS.out.mono ?_
    rintro e w' ⟨rfl, rfl⟩
    clear HHS
    go_upto_region 4 with fail
    rw [← hw5, ← hgx]
    clear hw5 hgx hcN r0 r1 r2 r3 r4 r5 r6 hcp hml
    by_cases hci : c = j + 1
    · subst hci
      have hq1 : qs.length = j + 1 := by omega
      have HCI := Lib.hid hq1
      have HBH : Hid (∀ w', Fr NoBlk w5 w' → Rd w' (some ⟨q, 0, none⟩) (pcsc (qs.drop (j + 1)))) := fun w' _ => by
        rw [List.drop_eq_nil_of_le (by omega)]
        exact Rd.none_ _ _
      have hqz : qs.length - (j + 1) = 0 := by omega
      clear hq1
      refine wp_region_held_drew (S := fun _ => True) (by kernel_rfl) trivial (fun hHeld => ?_)
      obtain ⟨w6, hw6⟩ : ∃ w6, w6 = w5.drew := ⟨_, rfl⟩
      have HFw6 : Hid (Fr NoBlk w5 w6) := by show Fr _ _ _; rw [hw6]; exact (Fr.refl NoBlk w5).drew
      rw [← hw6]
      clear hw6
      refine wpAnyH_take (i := 0) (oi := ⟨some 19, _, _, _, _, _⟩) (v := ?_) rfl (by kernel_rfl) (by kernel_rfl) (by kernel_rfl) (fun _ _ _ h => h) (Or.inl ⟨by rfl, ?_⟩) (by assumption) ?_
      rotate_left 1
      · (intro w hSw; (try dsimp only at hSw); go_simp) <;> (with_reducible rfl)
      try simp only [Act.put, List.setIfInBounds_toArray, List.set_cons_zero, List.set_cons_succ]
      refine wpAnyH_take (i := 2) (oi := ⟨some 21, _, _, _, _, _⟩) (v := ?_) rfl (by kernel_rfl) (by kernel_rfl) (by kernel_rfl) (fun _ _ _ h => h) (Or.inl ⟨by rfl, ?_⟩) (by assumption) ?_
      rotate_left 1
      · (intro w hSw; (try dsimp only at hSw); go_simp) <;> (with_reducible rfl)
      try simp only [Act.put, List.setIfInBounds_toArray, List.set_cons_zero, List.set_cons_succ]
      refine wpAnyH_take (i := 3) (oi := ⟨some 22, _, _, _, _, _⟩) (v := ?_) rfl (by kernel_rfl) (by kernel_rfl) (by kernel_rfl) (fun _ _ _ h => h) (Or.inl ⟨by rfl, ?_⟩) (by assumption) ?_
      rotate_left 1
      · (intro w hSw; (try dsimp only at hSw); go_simp) <;> (with_reducible rfl)
      try simp only [Act.put, List.setIfInBounds_toArray, List.set_cons_zero, List.set_cons_succ]
      refine wpAnyH_take (i := 4) (oi := ⟨some 23, _, _, _, _, _⟩) (v := ?_) rfl (by kernel_rfl) (by kernel_rfl) (by kernel_rfl) (fun _ _ _ h => h) (Or.inl ⟨by rfl, ?_⟩) (by assumption) ?_
      rotate_left 1
      · (intro w hSw; (try dsimp only at hSw); go_simp) <;> (with_reducible rfl)
      try simp only [Act.put, List.setIfInBounds_toArray, List.set_cons_zero, List.set_cons_succ]
      refine wpAnyH_take (i := 6) (oi := ⟨some 25, _, _, _, _, _⟩) (v := ?_) rfl (by kernel_rfl) (by kernel_rfl) (by kernel_rfl) (fun _ _ _ h => h) (Or.inl ⟨by rfl, ?_⟩) (by assumption) ?_
      rotate_left 1
      · (intro w hSw; (try dsimp only at hSw); go_simp) <;> (with_reducible rfl)
      try simp only [Act.put, List.setIfInBounds_toArray, List.set_cons_zero, List.set_cons_succ]
      refine wpAnyH_take (i := 9) (oi := ⟨some 28, _, _, _, _, _⟩) (v := ?_) rfl (by kernel_rfl) (by kernel_rfl) (by kernel_rfl) (fun _ _ _ h => h) (Or.inl ⟨by rfl, ?_⟩) (by assumption) ?_
      rotate_left 1
      · (intro w hSw; (try dsimp only at hSw); go_simp) <;> (with_reducible rfl)
      try simp only [Act.put, List.setIfInBounds_toArray, List.set_cons_zero, List.set_cons_succ]
      refine wpAnyH_take (i := 10) (oi := ⟨some 29, _, _, _, _, _⟩) (v := ?_) rfl (by kernel_rfl) (by kernel_rfl) (by kernel_rfl) (fun _ _ _ h => h) (Or.inl ⟨by rfl, ?_⟩) (by assumption) ?_
      rotate_left 1
      · (intro w hSw; (try dsimp only at hSw); go_simp) <;> (with_reducible rfl)
      try simp only [Act.put, List.setIfInBounds_toArray, List.set_cons_zero, List.set_cons_succ]
      refine wpAnyH_take (i := 11) (oi := ⟨some 30, _, _, _, _, _⟩) (v := ?_) rfl (by kernel_rfl) (by kernel_rfl) (by kernel_rfl) (fun _ _ _ h => h) (Or.inl ⟨by rfl, ?_⟩) (by assumption) ?_
      rotate_left 1
      · (intro w hSw; (try dsimp only at hSw); go_simp) <;> (with_reducible rfl)
      try simp only [Act.put, List.setIfInBounds_toArray, List.set_cons_zero, List.set_cons_succ]
      refine wpAnyH_take (i := 13) (oi := ⟨some 32, _, _, _, _, _⟩) (v := ?_) rfl (by kernel_rfl) (by kernel_rfl) (by kernel_rfl) (fun _ _ _ h => h) (Or.inl ⟨by rfl, ?_⟩) (by assumption) ?_
      rotate_left 1
      · (intro w hSw; (try dsimp only at hSw); go_simp) <;> (with_reducible rfl)
      try simp only [Act.put, List.setIfInBounds_toArray, List.set_cons_zero, List.set_cons_succ]
      refine wpAnyH_take (i := 14) (oi := ⟨some 33, _, _, _, _, _⟩) (v := ?_) rfl (by kernel_rfl) (by kernel_rfl) (by kernel_rfl) (fun _ _ _ h => h) (Or.inl ⟨by rfl, ?_⟩) (by assumption) ?_
      rotate_left 1
      · (intro w hSw; (try dsimp only at hSw); go_simp) <;> (with_reducible rfl)
      try simp only [Act.put, List.setIfInBounds_toArray, List.set_cons_zero, List.set_cons_succ]
      refine wpAnyH_ready (rs := [1, 5, 12]) (by kernel_rfl) (by simp) ?_
      refine AllReadyH.cons (o := ⟨some 20, _, _, _, _, _⟩) rfl (fun K hK => ?_) (AllReadyH.cons (o := ⟨some 24, _, _, _, _, _⟩) rfl (fun K hK => ?_) (AllReadyH.cons (o := ⟨some 31, _, _, _, _, _⟩) rfl (fun K hK => ?_) AllReadyH.nil))
      · go_simp
        obtain ⟨w69, hw69⟩ : ∃ w69, w69 = w6.alloc (.cells #[] 35) := ⟨_, rfl⟩
        obtain ⟨e1, he1⟩ : ∃ e1, e1 = w6.heap.size := ⟨_, rfl⟩
        have hfr : Fr NoBlk w6 w69 := by rw [hw69]; exact (Fr.refl _ _).alloc _
        have HFw69 : Hid (Fr NoBlk w5 w69) := HFw6.out.trans hfr
        have HEw69 : Hid (w69.ownsRow w5.heap.size 35 7 (.slice (some ⟨e1, 0, none⟩) 0 0) 0 []) := by show World.ownsRow _ _ _ _ _ _ _; rw [hw69, he1]; exact own_base (World.ownsRow_made w6 #[] 0 (Nat.le_refl _) (by decide) rfl) HFw6.out.size
        rw [← hw69, ← he1]
        clear hw69 hfr he1
        clear hHeld
        refine hK.out _ _ ?_ (fun hHeld => ?_)
        · trivial
        clear hK K
        try simp only [Act.put, List.setIfInBounds_toArray, List.set_cons_zero, List.set_cons_succ]
        refine wpAnyH_ready (rs := [5, 12]) (by kernel_rfl) (by simp) ?_
        refine AllReadyH.cons (o := ⟨some 24, _, _, _, _, _⟩) rfl (fun K hK => ?_) (AllReadyH.cons (o := ⟨some 31, _, _, _, _, _⟩) rfl (fun K hK => ?_) AllReadyH.nil)
        · have oN : w69.cell? ⟨m, 0, none⟩ = some (.slice (some ⟨q, 0, none⟩) qs.length (j + 1)) := (HL5.out.nofr HFw69.out).bk.cell 0
          go_simp
          clear oN
          clear hHeld
          refine hK.out _ _ ?_ (fun hHeld => ?_)
          · trivial
          clear hK K
          try simp only [Act.put, List.setIfInBounds_toArray, List.set_cons_zero, List.set_cons_succ]
          refine wpAnyH_take (i := 7) (oi := ⟨some 26, _, _, _, _, _⟩) (v := ?_) rfl (by kernel_rfl) (by kernel_rfl) (by kernel_rfl) (fun _ _ _ h => h) (Or.inl ⟨by rfl, ?_⟩) (by assumption) ?_
          rotate_left 1
          · (intro w hSw; (try dsimp only at hSw); go_simp) <;> (with_reducible rfl)
          try simp only [Act.put, List.setIfInBounds_toArray, List.set_cons_zero, List.set_cons_succ]
          refine wpAnyH_ready (rs := [8, 12]) (by kernel_rfl) (by simp) ?_
          refine AllReadyH.cons (o := ⟨some 27, _, _, _, _, _⟩) rfl (fun K hK => ?_) (AllReadyH.cons (o := ⟨some 31, _, _, _, _, _⟩) rfl (fun K hK => ?_) AllReadyH.nil)
          · refine step_appN rfl _ _ 27 rfl w5.heap.size 35 i0 _ 7 72 Try.underlying27 hi hz0 hz1 hz2 rfl (by decide) (.slice (some ⟨e1, 0, none⟩) 0 0) 0 [] rfl HEw69.out (some ⟨q, 0, none⟩) (j + 1) j (pcsc (qs.take j)) rfl (by rw [pcsc_len, List.length_take, Nat.min_eq_left (Nat.le_of_lt HJ.out)]) (by rw [← pcsc_take]; exact (Rd.of_ownN (HL5.out.nofr HFw69.out).own).take _) (pcsc_one _) (fun h => by cases h) ?q1 ?q2 HFw69.out.size ?_
            case q1 => have := HL5.out.few; have := HJ.out; unfold maxLen; omega
            case q2 => have := HL5.out.few; have := HJ.out; omega
            intro v6 w70 ho6 hg6 hb6
            simp only [Nat.zero_add, List.nil_append] at ho6
            obtain ⟨A6, c6, rfl, _, _⟩ := own_form ho6
            have HOw70 : Hid (w70.ownsRow w5.heap.size 35 7 (.slice A6 j c6) j (pcsc (qs.take j))) := ho6
            have HFw70 : Hid (Fr NoBlk w5 w70) := HFw69.out.grown hg6 (fun k hk hlt => by have := (own_blk HEw69.out hk).1; omega)
            try dsimp only
            clear ho6 hg6 hb6
            clear hHeld
            refine hK.out _ _ ?_ (fun hHeld => ?_)
            · trivial
            clear hK K
            try simp only [Act.put, List.setIfInBounds_toArray, List.set_cons_zero, List.set_cons_succ]
            refine wpAnyH_ready (rs := [12]) (by kernel_rfl) (by simp) ?_
            refine AllReadyH.cons (o := ⟨some 31, _, _, _, _, _⟩) rfl (fun K hK => ?_) AllReadyH.nil
            have oN : w70.cell? ⟨m, 0, none⟩ = some (.slice (some ⟨q, 0, none⟩) qs.length (j + 1)) := (HL5.out.nofr HFw70.out).bk.cell 0
            go_simp
            clear oN
            clear hHeld
            refine hK.out _ _ ?_ (fun hHeld => ?_)
            · trivial
            clear hK K
            try simp only [Act.put, List.setIfInBounds_toArray, List.set_cons_zero, List.set_cons_succ]
            refine wpAnyH_take (i := 15) (oi := ⟨some 34, _, _, _, _, _⟩) (v := ?_) rfl (by kernel_rfl) (by kernel_rfl) (by kernel_rfl) (fun _ _ _ h => h) (Or.inl ⟨by rfl, ?_⟩) (by assumption) ?_
            rotate_left 1
            · (intro w hSw; (try dsimp only at hSw); go_simp) <;> (with_reducible rfl)
            try simp only [Act.put, List.setIfInBounds_toArray, List.set_cons_zero, List.set_cons_succ]
            refine wpAnyH_ready (rs := [16]) (by kernel_rfl) (by simp) ?_
            refine AllReadyH.cons (o := ⟨some 35, _, _, _, _, _⟩) rfl (fun K hK => ?_) AllReadyH.nil
            refine step_appN rfl _ _ 27 rfl w5.heap.size 35 i0 _ 7 72 Try.underlying27 hi hz0 hz1 hz2 rfl (by decide) (.slice A6 j c6) j (pcsc (qs.take j)) rfl HOw70.out (some ⟨q, 0, none⟩) 0 0 (pcsc (qs.drop (j + 1))) rfl (by rw [pcsc_len, List.length_drop]; have := HCI.out; omega) (HBH.out _ HFw70.out) (pcsc_one _) (fun h => by cases h) ?q1 ?q2 HFw70.out.size ?_
            case q1 => have := HL5.out.few; have := HJ.out; unfold maxLen; omega
            case q2 => have := HL5.out.few; have := HJ.out; omega
            intro v9 w9 ho9 hg9 hb9
            obtain ⟨A9, c9, rfl, _, _⟩ := own_form ho9
            have HF9 : Hid (Fr NoBlk w5 w9) := HFw70.out.grown hg9 (fun k hk hlt => by have := (own_blk HOw70.out hk).1; omega)
            have HS := Lib.hid (HL5.out.put HF9.out (q := p) (n' := j) (ps := qs.eraseIdx j) (by have := HJ.out; rw [List.length_eraseIdx, if_pos HJ.out]; have := HCI.out; omega) (by rw [← pcsc_erase, pcsc_take, pcsc_drop]; exact ho9) (fun x hx => .inl (List.mem_of_mem_eraseIdx hx)) HPI.out (by have := HL5.out.few; have := HJ.out; omega))
            have oN : w9.cell? ⟨m, 0, none⟩ = some (.slice (some ⟨q, 0, none⟩) qs.length (j + 1)) := HS.out.1.cell 0
            have fN := HS.out.1.free 0
            clear ho9 hg9 hb9
            clear hHeld
            refine hK.out _ _ ?_ (fun hHeld => ?_)
            · trivial
            clear hK K
            try simp only [Act.put, List.setIfInBounds_toArray, List.set_cons_zero, List.set_cons_succ]
            refine wpAnyH_take (i := 17) (oi := ⟨some 36, _, _, _, _, _⟩) (v := ?_) rfl (by kernel_rfl) (by kernel_rfl) (by kernel_rfl) (fun _ _ _ h => h) (Or.inl ⟨by rfl, ?_⟩) (by assumption) ?_
            rotate_left 1
            · (intro w hSw; (try dsimp only at hSw); go_simp) <;> (with_reducible rfl)
            try simp only [Act.put, List.setIfInBounds_toArray, List.set_cons_zero, List.set_cons_succ]
            refine wpAnyH_take (i := 18) (oi := ⟨some 37, _, _, _, _, _⟩) (v := ?_) rfl (by kernel_rfl) (by kernel_rfl) (by kernel_rfl) (fun _ _ _ h => h) (Or.inl ⟨by rfl, ?_⟩) (by assumption) ?_
            rotate_left 1
            · (intro w hSw; (try dsimp only at hSw); go_simp) <;> (with_reducible rfl)
            try simp only [Act.put, List.setIfInBounds_toArray, List.set_cons_zero, List.set_cons_succ]
            refine wpAnyH_ready (rs := [19]) (by kernel_rfl) (by simp) ?_
            refine AllReadyH.cons (o := ⟨none, _, _, _, _, _⟩) rfl (fun K hK => ?_) AllReadyH.nil
            go_simp
            clear hHeld
            refine hK.out _ _ ?_ (fun hHeld => ?_)
            · trivial
            clear hK K
            try simp only [Act.put, List.setIfInBounds_toArray, List.set_cons_zero, List.set_cons_succ]
            refine wpAnyH_done (by kernel_rfl) ?_ _
            clear hHeld
            obtain ⟨wa, hwa⟩ : ∃ wa, wa = w9.setCell ⟨m, 0, none⟩ (.slice A9 (j) c9) := ⟨_, rfl⟩
            have HZ := Lib.hid HS.out.2
            rw [← hwa] at HZ ⊢
            have hbx4 : Bk wa gx 35 (pca p) := by rw [hwa]; exact (HBX.out.fr HF9.out (fun h => h)).far (by have := HGM.out; show _ ≠ m; omega) _
            have hbr4 : Bk wa gr 35 pcz := by rw [hwa]; exact (HBR.out.fr HF9.out (fun h => h)).far (by have := HGM.out; show _ ≠ m; omega) _
            clear hwa HS HF9 oN fN
            have b0 := hbx4.cell 0
            have b1 := hbx4.cell 1
            have b2 := hbx4.cell 2
            have b3 := hbx4.cell 3
            have b4 := hbx4.cell 4
            have b5 := hbx4.cell 5
            have b6 := hbx4.cell 6
            have z0 := hbr4.cell 0
            have z1 := hbr4.cell 1
            have z2 := hbr4.cell 2
            have z3 := hbr4.cell 3
            have z4 := hbr4.cell 4
            have z5 := hbr4.cell 5
            have z6 := hbr4.cell 6
            have y0 := hbr4.free 0
            have y1 := hbr4.free 1
            have y2 := hbr4.free 2
            have y3 := hbr4.free 3
            have y4 := hbr4.free 4
            have y5 := hbr4.free 5
            have y6 := hbr4.free 6
            have HB4 := Lib.hid hbr4
            unfold pca at b0 b1 b2 b3 b4 b5 b6
            unfold pcz at z0 z1 z2 z3 z4 z5 z6
            simp only [List.getElem?_toArray, List.getElem?_cons_zero, List.getElem?_cons_succ] at b0 b1 b2 b3 b4 b5 b6 z0 z1 z2 z3 z4 z5 z6
            clear hbx4 hbr4
            go_wp2_with fail
            obtain ⟨wb, hwb⟩ : ∃ wb, wb = put7 wa gr p := ⟨_, rfl⟩
            have hb5 : Bk wb gr 35 (pca p) := by rw [hwb]; exact put7_bk p HB4.out
            have hf5 : Fr (fun k => k = gr) wa wb := by rw [hwb]; exact put7_fr wa _ p
            unfold put7 at hwb
            rw [← hwb]
            clear hwb b0 b1 b2 b3 b4 b5 b6 z0 z1 z2 z3 z4 z5 z6
            have b0 := hb5.cell 0
            have b1 := hb5.cell 1
            have b2 := hb5.cell 2
            have b3 := hb5.cell 3
            have b4 := hb5.cell 4
            have b5 := hb5.cell 5
            have b6 := hb5.cell 6
            unfold pca at b0 b1 b2 b3 b4 b5 b6
            simp only [List.getElem?_toArray, List.getElem?_cons_zero, List.getElem?_cons_succ] at b0 b1 b2 b3 b4 b5 b6
            have HY := Lib.hid (HPOST.out _ _ _ _ HZ.out.1 HZ.out.2 hf5)
            clear HZ HPOST
            refine bodyPost_ret (v := .tuple #[.agg #[.int .i64 p.src, .int .i64 p.dst, .int .u64 p.ep, .int .u64 p.pe, .int .u64 p.sq, .int .u64 p.ak, .slice p.d.1 p.d.2.2.length p.d.2.1], .bool true]) (by rw [results_cell_tmp rfl]; go_simp) rfl HY.out
          · have oN : w69.cell? ⟨m, 0, none⟩ = some (.slice (some ⟨q, 0, none⟩) qs.length (j + 1)) := (HL5.out.nofr HFw69.out).bk.cell 0
            go_simp
            clear oN
            clear hHeld
            refine hK.out _ _ ?_ (fun hHeld => ?_)
            · trivial
            clear hK K
            try simp only [Act.put, List.setIfInBounds_toArray, List.set_cons_zero, List.set_cons_succ]
            refine wpAnyH_take (i := 15) (oi := ⟨some 34, _, _, _, _, _⟩) (v := ?_) rfl (by kernel_rfl) (by kernel_rfl) (by kernel_rfl) (fun _ _ _ h => h) (Or.inl ⟨by rfl, ?_⟩) (by assumption) ?_
            rotate_left 1
            · (intro w hSw; (try dsimp only at hSw); go_simp) <;> (with_reducible rfl)
            try simp only [Act.put, List.setIfInBounds_toArray, List.set_cons_zero, List.set_cons_succ]
            refine wpAnyH_ready (rs := [8]) (by kernel_rfl) (by simp) ?_
            refine AllReadyH.cons (o := ⟨some 27, _, _, _, _, _⟩) rfl (fun K hK => ?_) AllReadyH.nil
            refine step_appN rfl _ _ 27 rfl w5.heap.size 35 i0 _ 7 72 Try.underlying27 hi hz0 hz1 hz2 rfl (by decide) (.slice (some ⟨e1, 0, none⟩) 0 0) 0 [] rfl HEw69.out (some ⟨q, 0, none⟩) (j + 1) j (pcsc (qs.take j)) rfl (by rw [pcsc_len, List.length_take, Nat.min_eq_left (Nat.le_of_lt HJ.out)]) (by rw [← pcsc_take]; exact (Rd.of_ownN (HL5.out.nofr HFw69.out).own).take _) (pcsc_one _) (fun h => by cases h) ?q1 ?q2 HFw69.out.size ?_
            case q1 => have := HL5.out.few; have := HJ.out; unfold maxLen; omega
            case q2 => have := HL5.out.few; have := HJ.out; omega
            intro v6 w71 ho6 hg6 hb6
            simp only [Nat.zero_add, List.nil_append] at ho6
            obtain ⟨A6, c6, rfl, _, _⟩ := own_form ho6
            have HOw71 : Hid (w71.ownsRow w5.heap.size 35 7 (.slice A6 j c6) j (pcsc (qs.take j))) := ho6
            have HFw71 : Hid (Fr NoBlk w5 w71) := HFw69.out.grown hg6 (fun k hk hlt => by have := (own_blk HEw69.out hk).1; omega)
            try dsimp only
            clear ho6 hg6 hb6
            clear hHeld
            refine hK.out _ _ ?_ (fun hHeld => ?_)
            · trivial
            clear hK K
            try simp only [Act.put, List.setIfInBounds_toArray, List.set_cons_zero, List.set_cons_succ]
            refine wpAnyH_ready (rs := [16]) (by kernel_rfl) (by simp) ?_
            refine AllReadyH.cons (o := ⟨some 35, _, _, _, _, _⟩) rfl (fun K hK => ?_) AllReadyH.nil
            refine step_appN rfl _ _ 27 rfl w5.heap.size 35 i0 _ 7 72 Try.underlying27 hi hz0 hz1 hz2 rfl (by decide) (.slice A6 j c6) j (pcsc (qs.take j)) rfl HOw71.out (some ⟨q, 0, none⟩) 0 0 (pcsc (qs.drop (j + 1))) rfl (by rw [pcsc_len, List.length_drop]; have := HCI.out; omega) (HBH.out _ HFw71.out) (pcsc_one _) (fun h => by cases h) ?q1 ?q2 HFw71.out.size ?_
            case q1 => have := HL5.out.few; have := HJ.out; unfold maxLen; omega
            case q2 => have := HL5.out.few; have := HJ.out; omega
            intro v9 w9 ho9 hg9 hb9
            obtain ⟨A9, c9, rfl, _, _⟩ := own_form ho9
            have HF9 : Hid (Fr NoBlk w5 w9) := HFw71.out.grown hg9 (fun k hk hlt => by have := (own_blk HOw71.out hk).1; omega)
            have HS := Lib.hid (HL5.out.put HF9.out (q := p) (n' := j) (ps := qs.eraseIdx j) (by have := HJ.out; rw [List.length_eraseIdx, if_pos HJ.out]; have := HCI.out; omega) (by rw [← pcsc_erase, pcsc_take, pcsc_drop]; exact ho9) (fun x hx => .inl (List.mem_of_mem_eraseIdx hx)) HPI.out (by have := HL5.out.few; have := HJ.out; omega))
            have oN : w9.cell? ⟨m, 0, none⟩ = some (.slice (some ⟨q, 0, none⟩) qs.length (j + 1)) := HS.out.1.cell 0
            have fN := HS.out.1.free 0
            clear ho9 hg9 hb9
            clear hHeld
            refine hK.out _ _ ?_ (fun hHeld => ?_)
            · trivial
            clear hK K
            try simp only [Act.put, List.setIfInBounds_toArray, List.set_cons_zero, List.set_cons_succ]
            refine wpAnyH_take (i := 17) (oi := ⟨some 36, _, _, _, _, _⟩) (v := ?_) rfl (by kernel_rfl) (by kernel_rfl) (by kernel_rfl) (fun _ _ _ h => h) (Or.inl ⟨by rfl, ?_⟩) (by assumption) ?_
            rotate_left 1
            · (intro w hSw; (try dsimp only at hSw); go_simp) <;> (with_reducible rfl)
            try simp only [Act.put, List.setIfInBounds_toArray, List.set_cons_zero, List.set_cons_succ]
            refine wpAnyH_take (i := 18) (oi := ⟨some 37, _, _, _, _, _⟩) (v := ?_) rfl (by kernel_rfl) (by kernel_rfl) (by kernel_rfl) (fun _ _ _ h => h) (Or.inl ⟨by rfl, ?_⟩) (by assumption) ?_
            rotate_left 1
            · (intro w hSw; (try dsimp only at hSw); go_simp) <;> (with_reducible rfl)
            try simp only [Act.put, List.setIfInBounds_toArray, List.set_cons_zero, List.set_cons_succ]
            refine wpAnyH_ready (rs := [19]) (by kernel_rfl) (by simp) ?_
            refine AllReadyH.cons (o := ⟨none, _, _, _, _, _⟩) rfl (fun K hK => ?_) AllReadyH.nil
            go_simp
            clear hHeld
            refine hK.out _ _ ?_ (fun hHeld => ?_)
            · trivial
            clear hK K
            try simp only [Act.put, List.setIfInBounds_toArray, List.set_cons_zero, List.set_cons_succ]
            refine wpAnyH_done (by kernel_rfl) ?_ _
            clear hHeld
            obtain ⟨wa, hwa⟩ : ∃ wa, wa = w9.setCell ⟨m, 0, none⟩ (.slice A9 (j) c9) := ⟨_, rfl⟩
            have HZ := Lib.hid HS.out.2
            rw [← hwa] at HZ ⊢
            have hbx4 : Bk wa gx 35 (pca p) := by rw [hwa]; exact (HBX.out.fr HF9.out (fun h => h)).far (by have := HGM.out; show _ ≠ m; omega) _
            have hbr4 : Bk wa gr 35 pcz := by rw [hwa]; exact (HBR.out.fr HF9.out (fun h => h)).far (by have := HGM.out; show _ ≠ m; omega) _
            clear hwa HS HF9 oN fN
            have b0 := hbx4.cell 0
            have b1 := hbx4.cell 1
            have b2 := hbx4.cell 2
            have b3 := hbx4.cell 3
            have b4 := hbx4.cell 4
            have b5 := hbx4.cell 5
            have b6 := hbx4.cell 6
            have z0 := hbr4.cell 0
            have z1 := hbr4.cell 1
            have z2 := hbr4.cell 2
            have z3 := hbr4.cell 3
            have z4 := hbr4.cell 4
            have z5 := hbr4.cell 5
            have z6 := hbr4.cell 6
            have y0 := hbr4.free 0
            have y1 := hbr4.free 1
            have y2 := hbr4.free 2
            have y3 := hbr4.free 3
            have y4 := hbr4.free 4
            have y5 := hbr4.free 5
            have y6 := hbr4.free 6
            have HB4 := Lib.hid hbr4
            unfold pca at b0 b1 b2 b3 b4 b5 b6
            unfold pcz at z0 z1 z2 z3 z4 z5 z6
            simp only [List.getElem?_toArray, List.getElem?_cons_zero, List.getElem?_cons_succ] at b0 b1 b2 b3 b4 b5 b6 z0 z1 z2 z3 z4 z5 z6
            clear hbx4 hbr4
            go_wp2_with fail
            obtain ⟨wb, hwb⟩ : ∃ wb, wb = put7 wa gr p := ⟨_, rfl⟩
            have hb5 : Bk wb gr 35 (pca p) := by rw [hwb]; exact put7_bk p HB4.out
            have hf5 : Fr (fun k => k = gr) wa wb := by rw [hwb]; exact put7_fr wa _ p
            unfold put7 at hwb
            rw [← hwb]
            clear hwb b0 b1 b2 b3 b4 b5 b6 z0 z1 z2 z3 z4 z5 z6
            have b0 := hb5.cell 0
            have b1 := hb5.cell 1
            have b2 := hb5.cell 2
            have b3 := hb5.cell 3
            have b4 := hb5.cell 4
            have b5 := hb5.cell 5
            have b6 := hb5.cell 6
            unfold pca at b0 b1 b2 b3 b4 b5 b6
            simp only [List.getElem?_toArray, List.getElem?_cons_zero, List.getElem?_cons_succ] at b0 b1 b2 b3 b4 b5 b6
            have HY := Lib.hid (HPOST.out _ _ _ _ HZ.out.1 HZ.out.2 hf5)
            clear HZ HPOST
            refine bodyPost_ret (v := .tuple #[.agg #[.int .i64 p.src, .int .i64 p.dst, .int .u64 p.ep, .int .u64 p.pe, .int .u64 p.sq, .int .u64 p.ak, .slice p.d.1 p.d.2.2.length p.d.2.1], .bool true]) (by rw [results_cell_tmp rfl]; go_simp) rfl HY.out
        · have oN : w69.cell? ⟨m, 0, none⟩ = some (.slice (some ⟨q, 0, none⟩) qs.length (j + 1)) := (HL5.out.nofr HFw69.out).bk.cell 0
          go_simp
          clear oN
          clear hHeld
          refine hK.out _ _ ?_ (fun hHeld => ?_)
          · trivial
          clear hK K
          try simp only [Act.put, List.setIfInBounds_toArray, List.set_cons_zero, List.set_cons_succ]
          refine wpAnyH_take (i := 15) (oi := ⟨some 34, _, _, _, _, _⟩) (v := ?_) rfl (by kernel_rfl) (by kernel_rfl) (by kernel_rfl) (fun _ _ _ h => h) (Or.inl ⟨by rfl, ?_⟩) (by assumption) ?_
          rotate_left 1
          · (intro w hSw; (try dsimp only at hSw); go_simp) <;> (with_reducible rfl)
          try simp only [Act.put, List.setIfInBounds_toArray, List.set_cons_zero, List.set_cons_succ]
          refine wpAnyH_ready (rs := [5]) (by kernel_rfl) (by simp) ?_
          refine AllReadyH.cons (o := ⟨some 24, _, _, _, _, _⟩) rfl (fun K hK => ?_) AllReadyH.nil
          have oN : w69.cell? ⟨m, 0, none⟩ = some (.slice (some ⟨q, 0, none⟩) qs.length (j + 1)) := (HL5.out.nofr HFw69.out).bk.cell 0
          go_simp
          clear oN
          clear hHeld
          refine hK.out _ _ ?_ (fun hHeld => ?_)
          · trivial
          clear hK K
          try simp only [Act.put, List.setIfInBounds_toArray, List.set_cons_zero, List.set_cons_succ]
          refine wpAnyH_take (i := 7) (oi := ⟨some 26, _, _, _, _, _⟩) (v := ?_) rfl (by kernel_rfl) (by kernel_rfl) (by kernel_rfl) (fun _ _ _ h => h) (Or.inl ⟨by rfl, ?_⟩) (by assumption) ?_
          rotate_left 1
          · (intro w hSw; (try dsimp only at hSw); go_simp) <;> (with_reducible rfl)
          try simp only [Act.put, List.setIfInBounds_toArray, List.set_cons_zero, List.set_cons_succ]
          refine wpAnyH_ready (rs := [8]) (by kernel_rfl) (by simp) ?_
          refine AllReadyH.cons (o := ⟨some 27, _, _, _, _, _⟩) rfl (fun K hK => ?_) AllReadyH.nil
          refine step_appN rfl _ _ 27 rfl w5.heap.size 35 i0 _ 7 72 Try.underlying27 hi hz0 hz1 hz2 rfl (by decide) (.slice (some ⟨e1, 0, none⟩) 0 0) 0 [] rfl HEw69.out (some ⟨q, 0, none⟩) (j + 1) j (pcsc (qs.take j)) rfl (by rw [pcsc_len, List.length_take, Nat.min_eq_left (Nat.le_of_lt HJ.out)]) (by rw [← pcsc_take]; exact (Rd.of_ownN (HL5.out.nofr HFw69.out).own).take _) (pcsc_one _) (fun h => by cases h) ?q1 ?q2 HFw69.out.size ?_
          case q1 => have := HL5.out.few; have := HJ.out; unfold maxLen; omega
          case q2 => have := HL5.out.few; have := HJ.out; omega
          intro v6 w72 ho6 hg6 hb6
          simp only [Nat.zero_add, List.nil_append] at ho6
          obtain ⟨A6, c6, rfl, _, _⟩ := own_form ho6
          have HOw72 : Hid (w72.ownsRow w5.heap.size 35 7 (.slice A6 j c6) j (pcsc (qs.take j))) := ho6
          have HFw72 : Hid (Fr NoBlk w5 w72) := HFw69.out.grown hg6 (fun k hk hlt => by have := (own_blk HEw69.out hk).1; omega)
          try dsimp only
          clear ho6 hg6 hb6
          clear hHeld
          refine hK.out _ _ ?_ (fun hHeld => ?_)
          · trivial
          clear hK K
          try simp only [Act.put, List.setIfInBounds_toArray, List.set_cons_zero, List.set_cons_succ]
          refine wpAnyH_ready (rs := [16]) (by kernel_rfl) (by simp) ?_
          refine AllReadyH.cons (o := ⟨some 35, _, _, _, _, _⟩) rfl (fun K hK => ?_) AllReadyH.nil
          refine step_appN rfl _ _ 27 rfl w5.heap.size 35 i0 _ 7 72 Try.underlying27 hi hz0 hz1 hz2 rfl (by decide) (.slice A6 j c6) j (pcsc (qs.take j)) rfl HOw72.out (some ⟨q, 0, none⟩) 0 0 (pcsc (qs.drop (j + 1))) rfl (by rw [pcsc_len, List.length_drop]; have := HCI.out; omega) (HBH.out _ HFw72.out) (pcsc_one _) (fun h => by cases h) ?q1 ?q2 HFw72.out.size ?_
          case q1 => have := HL5.out.few; have := HJ.out; unfold maxLen; omega
          case q2 => have := HL5.out.few; have := HJ.out; omega
          intro v9 w9 ho9 hg9 hb9
          obtain ⟨A9, c9, rfl, _, _⟩ := own_form ho9
          have HF9 : Hid (Fr NoBlk w5 w9) := HFw72.out.grown hg9 (fun k hk hlt => by have := (own_blk HOw72.out hk).1; omega)
          have HS := Lib.hid (HL5.out.put HF9.out (q := p) (n' := j) (ps := qs.eraseIdx j) (by have := HJ.out; rw [List.length_eraseIdx, if_pos HJ.out]; have := HCI.out; omega) (by rw [← pcsc_erase, pcsc_take, pcsc_drop]; exact ho9) (fun x hx => .inl (List.mem_of_mem_eraseIdx hx)) HPI.out (by have := HL5.out.few; have := HJ.out; omega))
          have oN : w9.cell? ⟨m, 0, none⟩ = some (.slice (some ⟨q, 0, none⟩) qs.length (j + 1)) := HS.out.1.cell 0
          have fN := HS.out.1.free 0
          clear ho9 hg9 hb9
          clear hHeld
          refine hK.out _ _ ?_ (fun hHeld => ?_)
          · trivial
          clear hK K
          try simp only [Act.put, List.setIfInBounds_toArray, List.set_cons_zero, List.set_cons_succ]
          refine wpAnyH_take (i := 17) (oi := ⟨some 36, _, _, _, _, _⟩) (v := ?_) rfl (by kernel_rfl) (by kernel_rfl) (by kernel_rfl) (fun _ _ _ h => h) (Or.inl ⟨by rfl, ?_⟩) (by assumption) ?_
          rotate_left 1
          · (intro w hSw; (try dsimp only at hSw); go_simp) <;> (with_reducible rfl)
          try simp only [Act.put, List.setIfInBounds_toArray, List.set_cons_zero, List.set_cons_succ]
          refine wpAnyH_take (i := 18) (oi := ⟨some 37, _, _, _, _, _⟩) (v := ?_) rfl (by kernel_rfl) (by kernel_rfl) (by kernel_rfl) (fun _ _ _ h => h) (Or.inl ⟨by rfl, ?_⟩) (by assumption) ?_
          rotate_left 1
          · (intro w hSw; (try dsimp only at hSw); go_simp) <;> (with_reducible rfl)
          try simp only [Act.put, List.setIfInBounds_toArray, List.set_cons_zero, List.set_cons_succ]
          refine wpAnyH_ready (rs := [19]) (by kernel_rfl) (by simp) ?_
          refine AllReadyH.cons (o := ⟨none, _, _, _, _, _⟩) rfl (fun K hK => ?_) AllReadyH.nil
          go_simp
          clear hHeld
          refine hK.out _ _ ?_ (fun hHeld => ?_)
          · trivial
          clear hK K
          try simp only [Act.put, List.setIfInBounds_toArray, List.set_cons_zero, List.set_cons_succ]
          refine wpAnyH_done (by kernel_rfl) ?_ _
          clear hHeld
          obtain ⟨wa, hwa⟩ : ∃ wa, wa = w9.setCell ⟨m, 0, none⟩ (.slice A9 (j) c9) := ⟨_, rfl⟩
          have HZ := Lib.hid HS.out.2
          rw [← hwa] at HZ ⊢
          have hbx4 : Bk wa gx 35 (pca p) := by rw [hwa]; exact (HBX.out.fr HF9.out (fun h => h)).far (by have := HGM.out; show _ ≠ m; omega) _
          have hbr4 : Bk wa gr 35 pcz := by rw [hwa]; exact (HBR.out.fr HF9.out (fun h => h)).far (by have := HGM.out; show _ ≠ m; omega) _
          clear hwa HS HF9 oN fN
          have b0 := hbx4.cell 0
          have b1 := hbx4.cell 1
          have b2 := hbx4.cell 2
          have b3 := hbx4.cell 3
          have b4 := hbx4.cell 4
          have b5 := hbx4.cell 5
          have b6 := hbx4.cell 6
          have z0 := hbr4.cell 0
          have z1 := hbr4.cell 1
          have z2 := hbr4.cell 2
          have z3 := hbr4.cell 3
          have z4 := hbr4.cell 4
          have z5 := hbr4.cell 5
          have z6 := hbr4.cell 6
          have y0 := hbr4.free 0
          have y1 := hbr4.free 1
          have y2 := hbr4.free 2
          have y3 := hbr4.free 3
          have y4 := hbr4.free 4
          have y5 := hbr4.free 5
          have y6 := hbr4.free 6
          have HB4 := Lib.hid hbr4
          unfold pca at b0 b1 b2 b3 b4 b5 b6
          unfold pcz at z0 z1 z2 z3 z4 z5 z6
          simp only [List.getElem?_toArray, List.getElem?_cons_zero, List.getElem?_cons_succ] at b0 b1 b2 b3 b4 b5 b6 z0 z1 z2 z3 z4 z5 z6
          clear hbx4 hbr4
          go_wp2_with fail
          obtain ⟨wb, hwb⟩ : ∃ wb, wb = put7 wa gr p := ⟨_, rfl⟩
          have hb5 : Bk wb gr 35 (pca p) := by rw [hwb]; exact put7_bk p HB4.out
          have hf5 : Fr (fun k => k = gr) wa wb := by rw [hwb]; exact put7_fr wa _ p
          unfold put7 at hwb
          rw [← hwb]
          clear hwb b0 b1 b2 b3 b4 b5 b6 z0 z1 z2 z3 z4 z5 z6
          have b0 := hb5.cell 0
          have b1 := hb5.cell 1
          have b2 := hb5.cell 2
          have b3 := hb5.cell 3
          have b4 := hb5.cell 4
          have b5 := hb5.cell 5
          have b6 := hb5.cell 6
          unfold pca at b0 b1 b2 b3 b4 b5 b6
          simp only [List.getElem?_toArray, List.getElem?_cons_zero, List.getElem?_cons_succ] at b0 b1 b2 b3 b4 b5 b6
          have HY := Lib.hid (HPOST.out _ _ _ _ HZ.out.1 HZ.out.2 hf5)
          clear HZ HPOST
          refine bodyPost_ret (v := .tuple #[.agg #[.int .i64 p.src, .int .i64 p.dst, .int .u64 p.ep, .int .u64 p.pe, .int .u64 p.sq, .int .u64 p.ak, .slice p.d.1 p.d.2.2.length p.d.2.1], .bool true]) (by rw [results_cell_tmp rfl]; go_simp) rfl HY.out
      · have oN : w6.cell? ⟨m, 0, none⟩ = some (.slice (some ⟨q, 0, none⟩) qs.length (j + 1)) := (HL5.out.nofr HFw6.out).bk.cell 0
        go_simp
        clear oN
        clear hHeld
        refine hK.out _ _ ?_ (fun hHeld => ?_)
        · trivial
        clear hK K
        try simp only [Act.put, List.setIfInBounds_toArray, List.set_cons_zero, List.set_cons_succ]
        refine wpAnyH_take (i := 7) (oi := ⟨some 26, _, _, _, _, _⟩) (v := ?_) rfl (by kernel_rfl) (by kernel_rfl) (by kernel_rfl) (fun _ _ _ h => h) (Or.inl ⟨by rfl, ?_⟩) (by assumption) ?_
        rotate_left 1
        · (intro w hSw; (try dsimp only at hSw); go_simp) <;> (with_reducible rfl)
        try simp only [Act.put, List.setIfInBounds_toArray, List.set_cons_zero, List.set_cons_succ]
        refine wpAnyH_ready (rs := [1, 12]) (by kernel_rfl) (by simp) ?_
        refine AllReadyH.cons (o := ⟨some 20, _, _, _, _, _⟩) rfl (fun K hK => ?_) (AllReadyH.cons (o := ⟨some 31, _, _, _, _, _⟩) rfl (fun K hK => ?_) AllReadyH.nil)
        · go_simp
          obtain ⟨w73, hw73⟩ : ∃ w73, w73 = w6.alloc (.cells #[] 35) := ⟨_, rfl⟩
          obtain ⟨e1, he1⟩ : ∃ e1, e1 = w6.heap.size := ⟨_, rfl⟩
          have hfr : Fr NoBlk w6 w73 := by rw [hw73]; exact (Fr.refl _ _).alloc _
          have HFw73 : Hid (Fr NoBlk w5 w73) := HFw6.out.trans hfr
          have HEw73 : Hid (w73.ownsRow w5.heap.size 35 7 (.slice (some ⟨e1, 0, none⟩) 0 0) 0 []) := by show World.ownsRow _ _ _ _ _ _ _; rw [hw73, he1]; exact own_base (World.ownsRow_made w6 #[] 0 (Nat.le_refl _) (by decide) rfl) HFw6.out.size
          rw [← hw73, ← he1]
          clear hw73 hfr he1
          clear hHeld
          refine hK.out _ _ ?_ (fun hHeld => ?_)
          · trivial
          clear hK K
          try simp only [Act.put, List.setIfInBounds_toArray, List.set_cons_zero, List.set_cons_succ]
          refine wpAnyH_ready (rs := [8, 12]) (by kernel_rfl) (by simp) ?_
          refine AllReadyH.cons (o := ⟨some 27, _, _, _, _, _⟩) rfl (fun K hK => ?_) (AllReadyH.cons (o := ⟨some 31, _, _, _, _, _⟩) rfl (fun K hK => ?_) AllReadyH.nil)
          · refine step_appN rfl _ _ 27 rfl w5.heap.size 35 i0 _ 7 72 Try.underlying27 hi hz0 hz1 hz2 rfl (by decide) (.slice (some ⟨e1, 0, none⟩) 0 0) 0 [] rfl HEw73.out (some ⟨q, 0, none⟩) (j + 1) j (pcsc (qs.take j)) rfl (by rw [pcsc_len, List.length_take, Nat.min_eq_left (Nat.le_of_lt HJ.out)]) (by rw [← pcsc_take]; exact (Rd.of_ownN (HL5.out.nofr HFw73.out).own).take _) (pcsc_one _) (fun h => by cases h) ?q1 ?q2 HFw73.out.size ?_
            case q1 => have := HL5.out.few; have := HJ.out; unfold maxLen; omega
            case q2 => have := HL5.out.few; have := HJ.out; omega
            intro v6 w74 ho6 hg6 hb6
            simp only [Nat.zero_add, List.nil_append] at ho6
            obtain ⟨A6, c6, rfl, _, _⟩ := own_form ho6
            have HOw74 : Hid (w74.ownsRow w5.heap.size 35 7 (.slice A6 j c6) j (pcsc (qs.take j))) := ho6
            have HFw74 : Hid (Fr NoBlk w5 w74) := HFw73.out.grown hg6 (fun k hk hlt => by have := (own_blk HEw73.out hk).1; omega)
            try dsimp only
            clear ho6 hg6 hb6
            clear hHeld
            refine hK.out _ _ ?_ (fun hHeld => ?_)
            · trivial
            clear hK K
            try simp only [Act.put, List.setIfInBounds_toArray, List.set_cons_zero, List.set_cons_succ]
            refine wpAnyH_ready (rs := [12]) (by kernel_rfl) (by simp) ?_
            refine AllReadyH.cons (o := ⟨some 31, _, _, _, _, _⟩) rfl (fun K hK => ?_) AllReadyH.nil
            have oN : w74.cell? ⟨m, 0, none⟩ = some (.slice (some ⟨q, 0, none⟩) qs.length (j + 1)) := (HL5.out.nofr HFw74.out).bk.cell 0
            go_simp
            clear oN
            clear hHeld
            refine hK.out _ _ ?_ (fun hHeld => ?_)
            · trivial
            clear hK K
            try simp only [Act.put, List.setIfInBounds_toArray, List.set_cons_zero, List.set_cons_succ]
            refine wpAnyH_take (i := 15) (oi := ⟨some 34, _, _, _, _, _⟩) (v := ?_) rfl (by kernel_rfl) (by kernel_rfl) (by kernel_rfl) (fun _ _ _ h => h) (Or.inl ⟨by rfl, ?_⟩) (by assumption) ?_
            rotate_left 1
            · (intro w hSw; (try dsimp only at hSw); go_simp) <;> (with_reducible rfl)
            try simp only [Act.put, List.setIfInBounds_toArray, List.set_cons_zero, List.set_cons_succ]
            refine wpAnyH_ready (rs := [16]) (by kernel_rfl) (by simp) ?_
            refine AllReadyH.cons (o := ⟨some 35, _, _, _, _, _⟩) rfl (fun K hK => ?_) AllReadyH.nil
            refine step_appN rfl _ _ 27 rfl w5.heap.size 35 i0 _ 7 72 Try.underlying27 hi hz0 hz1 hz2 rfl (by decide) (.slice A6 j c6) j (pcsc (qs.take j)) rfl HOw74.out (some ⟨q, 0, none⟩) 0 0 (pcsc (qs.drop (j + 1))) rfl (by rw [pcsc_len, List.length_drop]; have := HCI.out; omega) (HBH.out _ HFw74.out) (pcsc_one _) (fun h => by cases h) ?q1 ?q2 HFw74.out.size ?_
            case q1 => have := HL5.out.few; have := HJ.out; unfold maxLen; omega
            case q2 => have := HL5.out.few; have := HJ.out; omega
            intro v9 w9 ho9 hg9 hb9
            obtain ⟨A9, c9, rfl, _, _⟩ := own_form ho9
            have HF9 : Hid (Fr NoBlk w5 w9) := HFw74.out.grown hg9 (fun k hk hlt => by have := (own_blk HOw74.out hk).1; omega)
            have HS := Lib.hid (HL5.out.put HF9.out (q := p) (n' := j) (ps := qs.eraseIdx j) (by have := HJ.out; rw [List.length_eraseIdx, if_pos HJ.out]; have := HCI.out; omega) (by rw [← pcsc_erase, pcsc_take, pcsc_drop]; exact ho9) (fun x hx => .inl (List.mem_of_mem_eraseIdx hx)) HPI.out (by have := HL5.out.few; have := HJ.out; omega))
            have oN : w9.cell? ⟨m, 0, none⟩ = some (.slice (some ⟨q, 0, none⟩) qs.length (j + 1)) := HS.out.1.cell 0
            have fN := HS.out.1.free 0
            clear ho9 hg9 hb9
            clear hHeld
            refine hK.out _ _ ?_ (fun hHeld => ?_)
            · trivial
            clear hK K
            try simp only [Act.put, List.setIfInBounds_toArray, List.set_cons_zero, List.set_cons_succ]
            refine wpAnyH_take (i := 17) (oi := ⟨some 36, _, _, _, _, _⟩) (v := ?_) rfl (by kernel_rfl) (by kernel_rfl) (by kernel_rfl) (fun _ _ _ h => h) (Or.inl ⟨by rfl, ?_⟩) (by assumption) ?_
            rotate_left 1
            · (intro w hSw; (try dsimp only at hSw); go_simp) <;> (with_reducible rfl)
            try simp only [Act.put, List.setIfInBounds_toArray, List.set_cons_zero, List.set_cons_succ]
            refine wpAnyH_take (i := 18) (oi := ⟨some 37, _, _, _, _, _⟩) (v := ?_) rfl (by kernel_rfl) (by kernel_rfl) (by kernel_rfl) (fun _ _ _ h => h) (Or.inl ⟨by rfl, ?_⟩) (by assumption) ?_
            rotate_left 1
            · (intro w hSw; (try dsimp only at hSw); go_simp) <;> (with_reducible rfl)
            try simp only [Act.put, List.setIfInBounds_toArray, List.set_cons_zero, List.set_cons_succ]
            refine wpAnyH_ready (rs := [19]) (by kernel_rfl) (by simp) ?_
            refine AllReadyH.cons (o := ⟨none, _, _, _, _, _⟩) rfl (fun K hK => ?_) AllReadyH.nil
            go_simp
            clear hHeld
            refine hK.out _ _ ?_ (fun hHeld => ?_)
            · trivial
            clear hK K
            try simp only [Act.put, List.setIfInBounds_toArray, List.set_cons_zero, List.set_cons_succ]
            refine wpAnyH_done (by kernel_rfl) ?_ _
            clear hHeld
            obtain ⟨wa, hwa⟩ : ∃ wa, wa = w9.setCell ⟨m, 0, none⟩ (.slice A9 (j) c9) := ⟨_, rfl⟩
            have HZ := Lib.hid HS.out.2
            rw [← hwa] at HZ ⊢
            have hbx4 : Bk wa gx 35 (pca p) := by rw [hwa]; exact (HBX.out.fr HF9.out (fun h => h)).far (by have := HGM.out; show _ ≠ m; omega) _
            have hbr4 : Bk wa gr 35 pcz := by rw [hwa]; exact (HBR.out.fr HF9.out (fun h => h)).far (by have := HGM.out; show _ ≠ m; omega) _
            clear hwa HS HF9 oN fN
            have b0 := hbx4.cell 0
            have b1 := hbx4.cell 1
            have b2 := hbx4.cell 2
            have b3 := hbx4.cell 3
            have b4 := hbx4.cell 4
            have b5 := hbx4.cell 5
            have b6 := hbx4.cell 6
            have z0 := hbr4.cell 0
            have z1 := hbr4.cell 1
            have z2 := hbr4.cell 2
            have z3 := hbr4.cell 3
            have z4 := hbr4.cell 4
            have z5 := hbr4.cell 5
            have z6 := hbr4.cell 6
            have y0 := hbr4.free 0
            have y1 := hbr4.free 1
            have y2 := hbr4.free 2
            have y3 := hbr4.free 3
            have y4 := hbr4.free 4
            have y5 := hbr4.free 5
            have y6 := hbr4.free 6
            have HB4 := Lib.hid hbr4
            unfold pca at b0 b1 b2 b3 b4 b5 b6
            unfold pcz at z0 z1 z2 z3 z4 z5 z6
            simp only [List.getElem?_toArray, List.getElem?_cons_zero, List.getElem?_cons_succ] at b0 b1 b2 b3 b4 b5 b6 z0 z1 z2 z3 z4 z5 z6
            clear hbx4 hbr4
            go_wp2_with fail
            obtain ⟨wb, hwb⟩ : ∃ wb, wb = put7 wa gr p := ⟨_, rfl⟩
            have hb5 : Bk wb gr 35 (pca p) := by rw [hwb]; exact put7_bk p HB4.out
            have hf5 : Fr (fun k => k = gr) wa wb := by rw [hwb]; exact put7_fr wa _ p
            unfold put7 at hwb
            rw [← hwb]
            clear hwb b0 b1 b2 b3 b4 b5 b6 z0 z1 z2 z3 z4 z5 z6
            have b0 := hb5.cell 0
            have b1 := hb5.cell 1
            have b2 := hb5.cell 2
            have b3 := hb5.cell 3
            have b4 := hb5.cell 4
            have b5 := hb5.cell 5
            have b6 := hb5.cell 6
            unfold pca at b0 b1 b2 b3 b4 b5 b6
            simp only [List.getElem?_toArray, List.getElem?_cons_zero, List.getElem?_cons_succ] at b0 b1 b2 b3 b4 b5 b6
            have HY := Lib.hid (HPOST.out _ _ _ _ HZ.out.1 HZ.out.2 hf5)
            clear HZ HPOST
            refine bodyPost_ret (v := .tuple #[.agg #[.int .i64 p.src, .int .i64 p.dst, .int .u64 p.ep, .int .u64 p.pe, .int .u64 p.sq, .int .u64 p.ak, .slice p.d.1 p.d.2.2.length p.d.2.1], .bool true]) (by rw [results_cell_tmp rfl]; go_simp) rfl HY.out
          · have oN : w73.cell? ⟨m, 0, none⟩ = some (.slice (some ⟨q, 0, none⟩) qs.length (j + 1)) := (HL5.out.nofr HFw73.out).bk.cell 0
            go_simp
            clear oN
            clear hHeld
            refine hK.out _ _ ?_ (fun hHeld => ?_)
            · trivial
            clear hK K
            try simp only [Act.put, List.setIfInBounds_toArray, List.set_cons_zero, List.set_cons_succ]
            refine wpAnyH_take (i := 15) (oi := ⟨some 34, _, _, _, _, _⟩) (v := ?_) rfl (by kernel_rfl) (by kernel_rfl) (by kernel_rfl) (fun _ _ _ h => h) (Or.inl ⟨by rfl, ?_⟩) (by assumption) ?_
            rotate_left 1
            · (intro w hSw; (try dsimp only at hSw); go_simp) <;> (with_reducible rfl)
            try simp only [Act.put, List.setIfInBounds_toArray, List.set_cons_zero, List.set_cons_succ]
            refine wpAnyH_ready (rs := [8]) (by kernel_rfl) (by simp) ?_
            refine AllReadyH.cons (o := ⟨some 27, _, _, _, _, _⟩) rfl (fun K hK => ?_) AllReadyH.nil
            refine step_appN rfl _ _ 27 rfl w5.heap.size 35 i0 _ 7 72 Try.underlying27 hi hz0 hz1 hz2 rfl (by decide) (.slice (some ⟨e1, 0, none⟩) 0 0) 0 [] rfl HEw73.out (some ⟨q, 0, none⟩) (j + 1) j (pcsc (qs.take j)) rfl (by rw [pcsc_len, List.length_take, Nat.min_eq_left (Nat.le_of_lt HJ.out)]) (by rw [← pcsc_take]; exact (Rd.of_ownN (HL5.out.nofr HFw73.out).own).take _) (pcsc_one _) (fun h => by cases h) ?q1 ?q2 HFw73.out.size ?_
            case q1 => have := HL5.out.few; have := HJ.out; unfold maxLen; omega
            case q2 => have := HL5.out.few; have := HJ.out; omega
            intro v6 w75 ho6 hg6 hb6
            simp only [Nat.zero_add, List.nil_append] at ho6
            obtain ⟨A6, c6, rfl, _, _⟩ := own_form ho6
            have HOw75 : Hid (w75.ownsRow w5.heap.size 35 7 (.slice A6 j c6) j (pcsc (qs.take j))) := ho6
            have HFw75 : Hid (Fr NoBlk w5 w75) := HFw73.out.grown hg6 (fun k hk hlt => by have := (own_blk HEw73.out hk).1; omega)
            try dsimp only
            clear ho6 hg6 hb6
            clear hHeld
            refine hK.out _ _ ?_ (fun hHeld => ?_)
            · trivial
            clear hK K
            try simp only [Act.put, List.setIfInBounds_toArray, List.set_cons_zero, List.set_cons_succ]
            refine wpAnyH_ready (rs := [16]) (by kernel_rfl) (by simp) ?_
            refine AllReadyH.cons (o := ⟨some 35, _, _, _, _, _⟩) rfl (fun K hK => ?_) AllReadyH.nil
            refine step_appN rfl _ _ 27 rfl w5.heap.size 35 i0 _ 7 72 Try.underlying27 hi hz0 hz1 hz2 rfl (by decide) (.slice A6 j c6) j (pcsc (qs.take j)) rfl HOw75.out (some ⟨q, 0, none⟩) 0 0 (pcsc (qs.drop (j + 1))) rfl (by rw [pcsc_len, List.length_drop]; have := HCI.out; omega) (HBH.out _ HFw75.out) (pcsc_one _) (fun h => by cases h) ?q1 ?q2 HFw75.out.size ?_
            case q1 => have := HL5.out.few; have := HJ.out; unfold maxLen; omega
            case q2 => have := HL5.out.few; have := HJ.out; omega
            intro v9 w9 ho9 hg9 hb9
            obtain ⟨A9, c9, rfl, _, _⟩ := own_form ho9
            have HF9 : Hid (Fr NoBlk w5 w9) := HFw75.out.grown hg9 (fun k hk hlt => by have := (own_blk HOw75.out hk).1; omega)
            have HS := Lib.hid (HL5.out.put HF9.out (q := p) (n' := j) (ps := qs.eraseIdx j) (by have := HJ.out; rw [List.length_eraseIdx, if_pos HJ.out]; have := HCI.out; omega) (by rw [← pcsc_erase, pcsc_take, pcsc_drop]; exact ho9) (fun x hx => .inl (List.mem_of_mem_eraseIdx hx)) HPI.out (by have := HL5.out.few; have := HJ.out; omega))
            have oN : w9.cell? ⟨m, 0, none⟩ = some (.slice (some ⟨q, 0, none⟩) qs.length (j + 1)) := HS.out.1.cell 0
            have fN := HS.out.1.free 0
            clear ho9 hg9 hb9
            clear hHeld
            refine hK.out _ _ ?_ (fun hHeld => ?_)
            · trivial
            clear hK K
            try simp only [Act.put, List.setIfInBounds_toArray, List.set_cons_zero, List.set_cons_succ]
            refine wpAnyH_take (i := 17) (oi := ⟨some 36, _, _, _, _, _⟩) (v := ?_) rfl (by kernel_rfl) (by kernel_rfl) (by kernel_rfl) (fun _ _ _ h => h) (Or.inl ⟨by rfl, ?_⟩) (by assumption) ?_
            rotate_left 1
            · (intro w hSw; (try dsimp only at hSw); go_simp) <;> (with_reducible rfl)
            try simp only [Act.put, List.setIfInBounds_toArray, List.set_cons_zero, List.set_cons_succ]
            refine wpAnyH_take (i := 18) (oi := ⟨some 37, _, _, _, _, _⟩) (v := ?_) rfl (by kernel_rfl) (by kernel_rfl) (by kernel_rfl) (fun _ _ _ h => h) (Or.inl ⟨by rfl, ?_⟩) (by assumption) ?_
            rotate_left 1
            · (intro w hSw; (try dsimp only at hSw); go_simp) <;> (with_reducible rfl)
            try simp only [Act.put, List.setIfInBounds_toArray, List.set_cons_zero, List.set_cons_succ]
            refine wpAnyH_ready (rs := [19]) (by kernel_rfl) (by simp) ?_
            refine AllReadyH.cons (o := ⟨none, _, _, _, _, _⟩) rfl (fun K hK => ?_) AllReadyH.nil
            go_simp
            clear hHeld
            refine hK.out _ _ ?_ (fun hHeld => ?_)
            · trivial
            clear hK K
            try simp only [Act.put, List.setIfInBounds_toArray, List.set_cons_zero, List.set_cons_succ]
            refine wpAnyH_done (by kernel_rfl) ?_ _
            clear hHeld
            obtain ⟨wa, hwa⟩ : ∃ wa, wa = w9.setCell ⟨m, 0, none⟩ (.slice A9 (j) c9) := ⟨_, rfl⟩
            have HZ := Lib.hid HS.out.2
            rw [← hwa] at HZ ⊢
            have hbx4 : Bk wa gx 35 (pca p) := by rw [hwa]; exact (HBX.out.fr HF9.out (fun h => h)).far (by have := HGM.out; show _ ≠ m; omega) _
            have hbr4 : Bk wa gr 35 pcz := by rw [hwa]; exact (HBR.out.fr HF9.out (fun h => h)).far (by have := HGM.out; show _ ≠ m; omega) _
            clear hwa HS HF9 oN fN
            have b0 := hbx4.cell 0
            have b1 := hbx4.cell 1
            have b2 := hbx4.cell 2
            have b3 := hbx4.cell 3
            have b4 := hbx4.cell 4
            have b5 := hbx4.cell 5
            have b6 := hbx4.cell 6
            have z0 := hbr4.cell 0
            have z1 := hbr4.cell 1
            have z2 := hbr4.cell 2
            have z3 := hbr4.cell 3
            have z4 := hbr4.cell 4
            have z5 := hbr4.cell 5
            have z6 := hbr4.cell 6
            have y0 := hbr4.free 0
            have y1 := hbr4.free 1
            have y2 := hbr4.free 2
            have y3 := hbr4.free 3
            have y4 := hbr4.free 4
            have y5 := hbr4.free 5
            have y6 := hbr4.free 6
            have HB4 := Lib.hid hbr4
            unfold pca at b0 b1 b2 b3 b4 b5 b6
            unfold pcz at z0 z1 z2 z3 z4 z5 z6
            simp only [List.getElem?_toArray, List.getElem?_cons_zero, List.getElem?_cons_succ] at b0 b1 b2 b3 b4 b5 b6 z0 z1 z2 z3 z4 z5 z6
            clear hbx4 hbr4
            go_wp2_with fail
            obtain ⟨wb, hwb⟩ : ∃ wb, wb = put7 wa gr p := ⟨_, rfl⟩
            have hb5 : Bk wb gr 35 (pca p) := by rw [hwb]; exact put7_bk p HB4.out
            have hf5 : Fr (fun k => k = gr) wa wb := by rw [hwb]; exact put7_fr wa _ p
            unfold put7 at hwb
            rw [← hwb]
            clear hwb b0 b1 b2 b3 b4 b5 b6 z0 z1 z2 z3 z4 z5 z6
            have b0 := hb5.cell 0
            have b1 := hb5.cell 1
            have b2 := hb5.cell 2
            have b3 := hb5.cell 3
            have b4 := hb5.cell 4
            have b5 := hb5.cell 5
            have b6 := hb5.cell 6
            unfold pca at b0 b1 b2 b3 b4 b5 b6
            simp only [List.getElem?_toArray, List.getElem?_cons_zero, List.getElem?_cons_succ] at b0 b1 b2 b3 b4 b5 b6
            have HY := Lib.hid (HPOST.out _ _ _ _ HZ.out.1 HZ.out.2 hf5)
            clear HZ HPOST
            refine bodyPost_ret (v := .tuple #[.agg #[.int .i64 p.src, .int .i64 p.dst, .int .u64 p.ep, .int .u64 p.pe, .int .u64 p.sq, .int .u64 p.ak, .slice p.d.1 p.d.2.2.length p.d.2.1], .bool true]) (by rw [results_cell_tmp rfl]; go_simp) rfl HY.out
        · have oN : w6.cell? ⟨m, 0, none⟩ = some (.slice (some ⟨q, 0, none⟩) qs.length (j + 1)) := (HL5.out.nofr HFw6.out).bk.cell 0
          go_simp
          clear oN
          clear hHeld
          refine hK.out _ _ ?_ (fun hHeld => ?_)
          · trivial
          clear hK K
          try simp only [Act.put, List.setIfInBounds_toArray, List.set_cons_zero, List.set_cons_succ]
          refine wpAnyH_take (i := 15) (oi := ⟨some 34, _, _, _, _, _⟩) (v := ?_) rfl (by kernel_rfl) (by kernel_rfl) (by kernel_rfl) (fun _ _ _ h => h) (Or.inl ⟨by rfl, ?_⟩) (by assumption) ?_
          rotate_left 1
          · (intro w hSw; (try dsimp only at hSw); go_simp) <;> (with_reducible rfl)
          try simp only [Act.put, List.setIfInBounds_toArray, List.set_cons_zero, List.set_cons_succ]
          refine wpAnyH_ready (rs := [1]) (by kernel_rfl) (by simp) ?_
          refine AllReadyH.cons (o := ⟨some 20, _, _, _, _, _⟩) rfl (fun K hK => ?_) AllReadyH.nil
          go_simp
          obtain ⟨w76, hw76⟩ : ∃ w76, w76 = w6.alloc (.cells #[] 35) := ⟨_, rfl⟩
          obtain ⟨e1, he1⟩ : ∃ e1, e1 = w6.heap.size := ⟨_, rfl⟩
          have hfr : Fr NoBlk w6 w76 := by rw [hw76]; exact (Fr.refl _ _).alloc _
          have HFw76 : Hid (Fr NoBlk w5 w76) := HFw6.out.trans hfr
          have HEw76 : Hid (w76.ownsRow w5.heap.size 35 7 (.slice (some ⟨e1, 0, none⟩) 0 0) 0 []) := by show World.ownsRow _ _ _ _ _ _ _; rw [hw76, he1]; exact own_base (World.ownsRow_made w6 #[] 0 (Nat.le_refl _) (by decide) rfl) HFw6.out.size
          rw [← hw76, ← he1]
          clear hw76 hfr he1
          clear hHeld
          refine hK.out _ _ ?_ (fun hHeld => ?_)
          · trivial
          clear hK K
          try simp only [Act.put, List.setIfInBounds_toArray, List.set_cons_zero, List.set_cons_succ]
          refine wpAnyH_ready (rs := [8]) (by kernel_rfl) (by simp) ?_
          refine AllReadyH.cons (o := ⟨some 27, _, _, _, _, _⟩) rfl (fun K hK => ?_) AllReadyH.nil
          refine step_appN rfl _ _ 27 rfl w5.heap.size 35 i0 _ 7 72 Try.underlying27 hi hz0 hz1 hz2 rfl (by decide) (.slice (some ⟨e1, 0, none⟩) 0 0) 0 [] rfl HEw76.out (some ⟨q, 0, none⟩) (j + 1) j (pcsc (qs.take j)) rfl (by rw [pcsc_len, List.length_take, Nat.min_eq_left (Nat.le_of_lt HJ.out)]) (by rw [← pcsc_take]; exact (Rd.of_ownN (HL5.out.nofr HFw76.out).own).take _) (pcsc_one _) (fun h => by cases h) ?q1 ?q2 HFw76.out.size ?_
          case q1 => have := HL5.out.few; have := HJ.out; unfold maxLen; omega
          case q2 => have := HL5.out.few; have := HJ.out; omega
          intro v6 w77 ho6 hg6 hb6
          simp only [Nat.zero_add, List.nil_append] at ho6
          obtain ⟨A6, c6, rfl, _, _⟩ := own_form ho6
          have HOw77 : Hid (w77.ownsRow w5.heap.size 35 7 (.slice A6 j c6) j (pcsc (qs.take j))) := ho6
          have HFw77 : Hid (Fr NoBlk w5 w77) := HFw76.out.grown hg6 (fun k hk hlt => by have := (own_blk HEw76.out hk).1; omega)
          try dsimp only
          clear ho6 hg6 hb6
          clear hHeld
          refine hK.out _ _ ?_ (fun hHeld => ?_)
          · trivial
          clear hK K
          try simp only [Act.put, List.setIfInBounds_toArray, List.set_cons_zero, List.set_cons_succ]
          refine wpAnyH_ready (rs := [16]) (by kernel_rfl) (by simp) ?_
          refine AllReadyH.cons (o := ⟨some 35, _, _, _, _, _⟩) rfl (fun K hK => ?_) AllReadyH.nil
          refine step_appN rfl _ _ 27 rfl w5.heap.size 35 i0 _ 7 72 Try.underlying27 hi hz0 hz1 hz2 rfl (by decide) (.slice A6 j c6) j (pcsc (qs.take j)) rfl HOw77.out (some ⟨q, 0, none⟩) 0 0 (pcsc (qs.drop (j + 1))) rfl (by rw [pcsc_len, List.length_drop]; have := HCI.out; omega) (HBH.out _ HFw77.out) (pcsc_one _) (fun h => by cases h) ?q1 ?q2 HFw77.out.size ?_
          case q1 => have := HL5.out.few; have := HJ.out; unfold maxLen; omega
          case q2 => have := HL5.out.few; have := HJ.out; omega
          intro v9 w9 ho9 hg9 hb9
          obtain ⟨A9, c9, rfl, _, _⟩ := own_form ho9
          have HF9 : Hid (Fr NoBlk w5 w9) := HFw77.out.grown hg9 (fun k hk hlt => by have := (own_blk HOw77.out hk).1; omega)
          have HS := Lib.hid (HL5.out.put HF9.out (q := p) (n' := j) (ps := qs.eraseIdx j) (by have := HJ.out; rw [List.length_eraseIdx, if_pos HJ.out]; have := HCI.out; omega) (by rw [← pcsc_erase, pcsc_take, pcsc_drop]; exact ho9) (fun x hx => .inl (List.mem_of_mem_eraseIdx hx)) HPI.out (by have := HL5.out.few; have := HJ.out; omega))
          have oN : w9.cell? ⟨m, 0, none⟩ = some (.slice (some ⟨q, 0, none⟩) qs.length (j + 1)) := HS.out.1.cell 0
          have fN := HS.out.1.free 0
          clear ho9 hg9 hb9
          clear hHeld
          refine hK.out _ _ ?_ (fun hHeld => ?_)
          · trivial
          clear hK K
          try simp only [Act.put, List.setIfInBounds_toArray, List.set_cons_zero, List.set_cons_succ]
          refine wpAnyH_take (i := 17) (oi := ⟨some 36, _, _, _, _, _⟩) (v := ?_) rfl (by kernel_rfl) (by kernel_rfl) (by kernel_rfl) (fun _ _ _ h => h) (Or.inl ⟨by rfl, ?_⟩) (by assumption) ?_
          rotate_left 1
          · (intro w hSw; (try dsimp only at hSw); go_simp) <;> (with_reducible rfl)
          try simp only [Act.put, List.setIfInBounds_toArray, List.set_cons_zero, List.set_cons_succ]
          refine wpAnyH_take (i := 18) (oi := ⟨some 37, _, _, _, _, _⟩) (v := ?_) rfl (by kernel_rfl) (by kernel_rfl) (by kernel_rfl) (fun _ _ _ h => h) (Or.inl ⟨by rfl, ?_⟩) (by assumption) ?_
          rotate_left 1
          · (intro w hSw; (try dsimp only at hSw); go_simp) <;> (with_reducible rfl)
          try simp only [Act.put, List.setIfInBounds_toArray, List.set_cons_zero, List.set_cons_succ]
          refine wpAnyH_ready (rs := [19]) (by kernel_rfl) (by simp) ?_
          refine AllReadyH.cons (o := ⟨none, _, _, _, _, _⟩) rfl (fun K hK => ?_) AllReadyH.nil
          go_simp
          clear hHeld
          refine hK.out _ _ ?_ (fun hHeld => ?_)
          · trivial
          clear hK K
          try simp only [Act.put, List.setIfInBounds_toArray, List.set_cons_zero, List.set_cons_succ]
          refine wpAnyH_done (by kernel_rfl) ?_ _
          clear hHeld
          obtain ⟨wa, hwa⟩ : ∃ wa, wa = w9.setCell ⟨m, 0, none⟩ (.slice A9 (j) c9) := ⟨_, rfl⟩
          have HZ := Lib.hid HS.out.2
          rw [← hwa] at HZ ⊢
          have hbx4 : Bk wa gx 35 (pca p) := by rw [hwa]; exact (HBX.out.fr HF9.out (fun h => h)).far (by have := HGM.out; show _ ≠ m; omega) _
          have hbr4 : Bk wa gr 35 pcz := by rw [hwa]; exact (HBR.out.fr HF9.out (fun h => h)).far (by have := HGM.out; show _ ≠ m; omega) _
          clear hwa HS HF9 oN fN
          have b0 := hbx4.cell 0
          have b1 := hbx4.cell 1
          have b2 := hbx4.cell 2
          have b3 := hbx4.cell 3
          have b4 := hbx4.cell 4
          have b5 := hbx4.cell 5
          have b6 := hbx4.cell 6
          have z0 := hbr4.cell 0
          have z1 := hbr4.cell 1
          have z2 := hbr4.cell 2
          have z3 := hbr4.cell 3
          have z4 := hbr4.cell 4
          have z5 := hbr4.cell 5
          have z6 := hbr4.cell 6
          have y0 := hbr4.free 0
          have y1 := hbr4.free 1
          have y2 := hbr4.free 2
          have y3 := hbr4.free 3
          have y4 := hbr4.free 4
          have y5 := hbr4.free 5
          have y6 := hbr4.free 6
          have HB4 := Lib.hid hbr4
          unfold pca at b0 b1 b2 b3 b4 b5 b6
          unfold pcz at z0 z1 z2 z3 z4 z5 z6
          simp only [List.getElem?_toArray, List.getElem?_cons_zero, List.getElem?_cons_succ] at b0 b1 b2 b3 b4 b5 b6 z0 z1 z2 z3 z4 z5 z6
          clear hbx4 hbr4
          go_wp2_with fail
          obtain ⟨wb, hwb⟩ : ∃ wb, wb = put7 wa gr p := ⟨_, rfl⟩
          have hb5 : Bk wb gr 35 (pca p) := by rw [hwb]; exact put7_bk p HB4.out
          have hf5 : Fr (fun k => k = gr) wa wb := by rw [hwb]; exact put7_fr wa _ p
          unfold put7 at hwb
          rw [← hwb]
          clear hwb b0 b1 b2 b3 b4 b5 b6 z0 z1 z2 z3 z4 z5 z6
          have b0 := hb5.cell 0
          have b1 := hb5.cell 1
          have b2 := hb5.cell 2
          have b3 := hb5.cell 3
          have b4 := hb5.cell 4
          have b5 := hb5.cell 5
          have b6 := hb5.cell 6
          unfold pca at b0 b1 b2 b3 b4 b5 b6
          simp only [List.getElem?_toArray, List.getElem?_cons_zero, List.getElem?_cons_succ] at b0 b1 b2 b3 b4 b5 b6
          have HY := Lib.hid (HPOST.out _ _ _ _ HZ.out.1 HZ.out.2 hf5)
          clear HZ HPOST
          refine bodyPost_ret (v := .tuple #[.agg #[.int .i64 p.src, .int .i64 p.dst, .int .u64 p.ep, .int .u64 p.pe, .int .u64 p.sq, .int .u64 p.ak, .slice p.d.1 p.d.2.2.length p.d.2.1], .bool true]) (by rw [results_cell_tmp rfl]; go_simp) rfl HY.out
      · have oN : w6.cell? ⟨m, 0, none⟩ = some (.slice (some ⟨q, 0, none⟩) qs.length (j + 1)) := (HL5.out.nofr HFw6.out).bk.cell 0
        go_simp
        clear oN
        clear hHeld
        refine hK.out _ _ ?_ (fun hHeld => ?_)
        · trivial
        clear hK K
        try simp only [Act.put, List.setIfInBounds_toArray, List.set_cons_zero, List.set_cons_succ]
        refine wpAnyH_take (i := 15) (oi := ⟨some 34, _, _, _, _, _⟩) (v := ?_) rfl (by kernel_rfl) (by kernel_rfl) (by kernel_rfl) (fun _ _ _ h => h) (Or.inl ⟨by rfl, ?_⟩) (by assumption) ?_
        rotate_left 1
        · (intro w hSw; (try dsimp only at hSw); go_simp) <;> (with_reducible rfl)
        try simp only [Act.put, List.setIfInBounds_toArray, List.set_cons_zero, List.set_cons_succ]
        refine wpAnyH_ready (rs := [1, 5]) (by kernel_rfl) (by simp) ?_
        refine AllReadyH.cons (o := ⟨some 20, _, _, _, _, _⟩) rfl (fun K hK => ?_) (AllReadyH.cons (o := ⟨some 24, _, _, _, _, _⟩) rfl (fun K hK => ?_) AllReadyH.nil)
        · go_simp
          obtain ⟨w78, hw78⟩ : ∃ w78, w78 = w6.alloc (.cells #[] 35) := ⟨_, rfl⟩
          obtain ⟨e1, he1⟩ : ∃ e1, e1 = w6.heap.size := ⟨_, rfl⟩
          have hfr : Fr NoBlk w6 w78 := by rw [hw78]; exact (Fr.refl _ _).alloc _
          have HFw78 : Hid (Fr NoBlk w5 w78) := HFw6.out.trans hfr
          have HEw78 : Hid (w78.ownsRow w5.heap.size 35 7 (.slice (some ⟨e1, 0, none⟩) 0 0) 0 []) := by show World.ownsRow _ _ _ _ _ _ _; rw [hw78, he1]; exact own_base (World.ownsRow_made w6 #[] 0 (Nat.le_refl _) (by decide) rfl) HFw6.out.size
          rw [← hw78, ← he1]
          clear hw78 hfr he1
          clear hHeld
          refine hK.out _ _ ?_ (fun hHeld => ?_)
          · trivial
          clear hK K
          try simp only [Act.put, List.setIfInBounds_toArray, List.set_cons_zero, List.set_cons_succ]
          refine wpAnyH_ready (rs := [5]) (by kernel_rfl) (by simp) ?_
          refine AllReadyH.cons (o := ⟨some 24, _, _, _, _, _⟩) rfl (fun K hK => ?_) AllReadyH.nil
          have oN : w78.cell? ⟨m, 0, none⟩ = some (.slice (some ⟨q, 0, none⟩) qs.length (j + 1)) := (HL5.out.nofr HFw78.out).bk.cell 0
          go_simp
          clear oN
          clear hHeld
          refine hK.out _ _ ?_ (fun hHeld => ?_)
          · trivial
          clear hK K
          try simp only [Act.put, List.setIfInBounds_toArray, List.set_cons_zero, List.set_cons_succ]
          refine wpAnyH_take (i := 7) (oi := ⟨some 26, _, _, _, _, _⟩) (v := ?_) rfl (by kernel_rfl) (by kernel_rfl) (by kernel_rfl) (fun _ _ _ h => h) (Or.inl ⟨by rfl, ?_⟩) (by assumption) ?_
          rotate_left 1
          · (intro w hSw; (try dsimp only at hSw); go_simp) <;> (with_reducible rfl)
          try simp only [Act.put, List.setIfInBounds_toArray, List.set_cons_zero, List.set_cons_succ]
          refine wpAnyH_ready (rs := [8]) (by kernel_rfl) (by simp) ?_
          refine AllReadyH.cons (o := ⟨some 27, _, _, _, _, _⟩) rfl (fun K hK => ?_) AllReadyH.nil
          refine step_appN rfl _ _ 27 rfl w5.heap.size 35 i0 _ 7 72 Try.underlying27 hi hz0 hz1 hz2 rfl (by decide) (.slice (some ⟨e1, 0, none⟩) 0 0) 0 [] rfl HEw78.out (some ⟨q, 0, none⟩) (j + 1) j (pcsc (qs.take j)) rfl (by rw [pcsc_len, List.length_take, Nat.min_eq_left (Nat.le_of_lt HJ.out)]) (by rw [← pcsc_take]; exact (Rd.of_ownN (HL5.out.nofr HFw78.out).own).take _) (pcsc_one _) (fun h => by cases h) ?q1 ?q2 HFw78.out.size ?_
          case q1 => have := HL5.out.few; have := HJ.out; unfold maxLen; omega
          case q2 => have := HL5.out.few; have := HJ.out; omega
          intro v6 w79 ho6 hg6 hb6
          simp only [Nat.zero_add, List.nil_append] at ho6
          obtain ⟨A6, c6, rfl, _, _⟩ := own_form ho6
          have HOw79 : Hid (w79.ownsRow w5.heap.size 35 7 (.slice A6 j c6) j (pcsc (qs.take j))) := ho6
          have HFw79 : Hid (Fr NoBlk w5 w79) := HFw78.out.grown hg6 (fun k hk hlt => by have := (own_blk HEw78.out hk).1; omega)
          try dsimp only
          clear ho6 hg6 hb6
          clear hHeld
          refine hK.out _ _ ?_ (fun hHeld => ?_)
          · trivial
          clear hK K
          try simp only [Act.put, List.setIfInBounds_toArray, List.set_cons_zero, List.set_cons_succ]
          refine wpAnyH_ready (rs := [16]) (by kernel_rfl) (by simp) ?_
          refine AllReadyH.cons (o := ⟨some 35, _, _, _, _, _⟩) rfl (fun K hK => ?_) AllReadyH.nil
          refine step_appN rfl _ _ 27 rfl w5.heap.size 35 i0 _ 7 72 Try.underlying27 hi hz0 hz1 hz2 rfl (by decide) (.slice A6 j c6) j (pcsc (qs.take j)) rfl HOw79.out (some ⟨q, 0, none⟩) 0 0 (pcsc (qs.drop (j + 1))) rfl (by rw [pcsc_len, List.length_drop]; have := HCI.out; omega) (HBH.out _ HFw79.out) (pcsc_one _) (fun h => by cases h) ?q1 ?q2 HFw79.out.size ?_
          case q1 => have := HL5.out.few; have := HJ.out; unfold maxLen; omega
          case q2 => have := HL5.out.few; have := HJ.out; omega
          intro v9 w9 ho9 hg9 hb9
          obtain ⟨A9, c9, rfl, _, _⟩ := own_form ho9
          have HF9 : Hid (Fr NoBlk w5 w9) := HFw79.out.grown hg9 (fun k hk hlt => by have := (own_blk HOw79.out hk).1; omega)
          have HS := Lib.hid (HL5.out.put HF9.out (q := p) (n' := j) (ps := qs.eraseIdx j) (by have := HJ.out; rw [List.length_eraseIdx, if_pos HJ.out]; have := HCI.out; omega) (by rw [← pcsc_erase, pcsc_take, pcsc_drop]; exact ho9) (fun x hx => .inl (List.mem_of_mem_eraseIdx hx)) HPI.out (by have := HL5.out.few; have := HJ.out; omega))
          have oN : w9.cell? ⟨m, 0, none⟩ = some (.slice (some ⟨q, 0, none⟩) qs.length (j + 1)) := HS.out.1.cell 0
          have fN := HS.out.1.free 0
          clear ho9 hg9 hb9
          clear hHeld
          refine hK.out _ _ ?_ (fun hHeld => ?_)
          · trivial
          clear hK K
          try simp only [Act.put, List.setIfInBounds_toArray, List.set_cons_zero, List.set_cons_succ]
          refine wpAnyH_take (i := 17) (oi := ⟨some 36, _, _, _, _, _⟩) (v := ?_) rfl (by kernel_rfl) (by kernel_rfl) (by kernel_rfl) (fun _ _ _ h => h) (Or.inl ⟨by rfl, ?_⟩) (by assumption) ?_
          rotate_left 1
          · (intro w hSw; (try dsimp only at hSw); go_simp) <;> (with_reducible rfl)
          try simp only [Act.put, List.setIfInBounds_toArray, List.set_cons_zero, List.set_cons_succ]
          refine wpAnyH_take (i := 18) (oi := ⟨some 37, _, _, _, _, _⟩) (v := ?_) rfl (by kernel_rfl) (by kernel_rfl) (by kernel_rfl) (fun _ _ _ h => h) (Or.inl ⟨by rfl, ?_⟩) (by assumption) ?_
          rotate_left 1
          · (intro w hSw; (try dsimp only at hSw); go_simp) <;> (with_reducible rfl)
          try simp only [Act.put, List.setIfInBounds_toArray, List.set_cons_zero, List.set_cons_succ]
          refine wpAnyH_ready (rs := [19]) (by kernel_rfl) (by simp) ?_
          refine AllReadyH.cons (o := ⟨none, _, _, _, _, _⟩) rfl (fun K hK => ?_) AllReadyH.nil
          go_simp
          clear hHeld
          refine hK.out _ _ ?_ (fun hHeld => ?_)
          · trivial
          clear hK K
          try simp only [Act.put, List.setIfInBounds_toArray, List.set_cons_zero, List.set_cons_succ]
          refine wpAnyH_done (by kernel_rfl) ?_ _
          clear hHeld
          obtain ⟨wa, hwa⟩ : ∃ wa, wa = w9.setCell ⟨m, 0, none⟩ (.slice A9 (j) c9) := ⟨_, rfl⟩
          have HZ := Lib.hid HS.out.2
          rw [← hwa] at HZ ⊢
          have hbx4 : Bk wa gx 35 (pca p) := by rw [hwa]; exact (HBX.out.fr HF9.out (fun h => h)).far (by have := HGM.out; show _ ≠ m; omega) _
          have hbr4 : Bk wa gr 35 pcz := by rw [hwa]; exact (HBR.out.fr HF9.out (fun h => h)).far (by have := HGM.out; show _ ≠ m; omega) _
          clear hwa HS HF9 oN fN
          have b0 := hbx4.cell 0
          have b1 := hbx4.cell 1
          have b2 := hbx4.cell 2
          have b3 := hbx4.cell 3
          have b4 := hbx4.cell 4
          have b5 := hbx4.cell 5
          have b6 := hbx4.cell 6
          have z0 := hbr4.cell 0
          have z1 := hbr4.cell 1
          have z2 := hbr4.cell 2
          have z3 := hbr4.cell 3
          have z4 := hbr4.cell 4
          have z5 := hbr4.cell 5
          have z6 := hbr4.cell 6
          have y0 := hbr4.free 0
          have y1 := hbr4.free 1
          have y2 := hbr4.free 2
          have y3 := hbr4.free 3
          have y4 := hbr4.free 4
          have y5 := hbr4.free 5
          have y6 := hbr4.free 6
          have HB4 := Lib.hid hbr4
          unfold pca at b0 b1 b2 b3 b4 b5 b6
          unfold pcz at z0 z1 z2 z3 z4 z5 z6
          simp only [List.getElem?_toArray, List.getElem?_cons_zero, List.getElem?_cons_succ] at b0 b1 b2 b3 b4 b5 b6 z0 z1 z2 z3 z4 z5 z6
          clear hbx4 hbr4
          go_wp2_with fail
          obtain ⟨wb, hwb⟩ : ∃ wb, wb = put7 wa gr p := ⟨_, rfl⟩
          have hb5 : Bk wb gr 35 (pca p) := by rw [hwb]; exact put7_bk p HB4.out
          have hf5 : Fr (fun k => k = gr) wa wb := by rw [hwb]; exact put7_fr wa _ p
          unfold put7 at hwb
          rw [← hwb]
          clear hwb b0 b1 b2 b3 b4 b5 b6 z0 z1 z2 z3 z4 z5 z6
          have b0 := hb5.cell 0
          have b1 := hb5.cell 1
          have b2 := hb5.cell 2
          have b3 := hb5.cell 3
          have b4 := hb5.cell 4
          have b5 := hb5.cell 5
          have b6 := hb5.cell 6
          unfold pca at b0 b1 b2 b3 b4 b5 b6
          simp only [List.getElem?_toArray, List.getElem?_cons_zero, List.getElem?_cons_succ] at b0 b1 b2 b3 b4 b5 b6
          have HY := Lib.hid (HPOST.out _ _ _ _ HZ.out.1 HZ.out.2 hf5)
          clear HZ HPOST
          refine bodyPost_ret (v := .tuple #[.agg #[.int .i64 p.src, .int .i64 p.dst, .int .u64 p.ep, .int .u64 p.pe, .int .u64 p.sq, .int .u64 p.ak, .slice p.d.1 p.d.2.2.length p.d.2.1], .bool true]) (by rw [results_cell_tmp rfl]; go_simp) rfl HY.out
        · have oN : w6.cell? ⟨m, 0, none⟩ = some (.slice (some ⟨q, 0, none⟩) qs.length (j + 1)) := (HL5.out.nofr HFw6.out).bk.cell 0
          go_simp
          clear oN
          clear hHeld
          refine hK.out _ _ ?_ (fun hHeld => ?_)
          · trivial
          clear hK K
          try simp only [Act.put, List.setIfInBounds_toArray, List.set_cons_zero, List.set_cons_succ]
          refine wpAnyH_take (i := 7) (oi := ⟨some 26, _, _, _, _, _⟩) (v := ?_) rfl (by kernel_rfl) (by kernel_rfl) (by kernel_rfl) (fun _ _ _ h => h) (Or.inl ⟨by rfl, ?_⟩) (by assumption) ?_
          rotate_left 1
          · (intro w hSw; (try dsimp only at hSw); go_simp) <;> (with_reducible rfl)
          try simp only [Act.put, List.setIfInBounds_toArray, List.set_cons_zero, List.set_cons_succ]
          refine wpAnyH_ready (rs := [1]) (by kernel_rfl) (by simp) ?_
          refine AllReadyH.cons (o := ⟨some 20, _, _, _, _, _⟩) rfl (fun K hK => ?_) AllReadyH.nil
          go_simp
          obtain ⟨w80, hw80⟩ : ∃ w80, w80 = w6.alloc (.cells #[] 35) := ⟨_, rfl⟩
          obtain ⟨e1, he1⟩ : ∃ e1, e1 = w6.heap.size := ⟨_, rfl⟩
          have hfr : Fr NoBlk w6 w80 := by rw [hw80]; exact (Fr.refl _ _).alloc _
          have HFw80 : Hid (Fr NoBlk w5 w80) := HFw6.out.trans hfr
          have HEw80 : Hid (w80.ownsRow w5.heap.size 35 7 (.slice (some ⟨e1, 0, none⟩) 0 0) 0 []) := by show World.ownsRow _ _ _ _ _ _ _; rw [hw80, he1]; exact own_base (World.ownsRow_made w6 #[] 0 (Nat.le_refl _) (by decide) rfl) HFw6.out.size
          rw [← hw80, ← he1]
          clear hw80 hfr he1
          clear hHeld
          refine hK.out _ _ ?_ (fun hHeld => ?_)
          · trivial
          clear hK K
          try simp only [Act.put, List.setIfInBounds_toArray, List.set_cons_zero, List.set_cons_succ]
          refine wpAnyH_ready (rs := [8]) (by kernel_rfl) (by simp) ?_
          refine AllReadyH.cons (o := ⟨some 27, _, _, _, _, _⟩) rfl (fun K hK => ?_) AllReadyH.nil
          refine step_appN rfl _ _ 27 rfl w5.heap.size 35 i0 _ 7 72 Try.underlying27 hi hz0 hz1 hz2 rfl (by decide) (.slice (some ⟨e1, 0, none⟩) 0 0) 0 [] rfl HEw80.out (some ⟨q, 0, none⟩) (j + 1) j (pcsc (qs.take j)) rfl (by rw [pcsc_len, List.length_take, Nat.min_eq_left (Nat.le_of_lt HJ.out)]) (by rw [← pcsc_take]; exact (Rd.of_ownN (HL5.out.nofr HFw80.out).own).take _) (pcsc_one _) (fun h => by cases h) ?q1 ?q2 HFw80.out.size ?_
          case q1 => have := HL5.out.few; have := HJ.out; unfold maxLen; omega
          case q2 => have := HL5.out.few; have := HJ.out; omega
          intro v6 w81 ho6 hg6 hb6
          simp only [Nat.zero_add, List.nil_append] at ho6
          obtain ⟨A6, c6, rfl, _, _⟩ := own_form ho6
          have HOw81 : Hid (w81.ownsRow w5.heap.size 35 7 (.slice A6 j c6) j (pcsc (qs.take j))) := ho6
          have HFw81 : Hid (Fr NoBlk w5 w81) := HFw80.out.grown hg6 (fun k hk hlt => by have := (own_blk HEw80.out hk).1; omega)
          try dsimp only
          clear ho6 hg6 hb6
          clear hHeld
          refine hK.out _ _ ?_ (fun hHeld => ?_)
          · trivial
          clear hK K
          try simp only [Act.put, List.setIfInBounds_toArray, List.set_cons_zero, List.set_cons_succ]
          refine wpAnyH_ready (rs := [16]) (by kernel_rfl) (by simp) ?_
          refine AllReadyH.cons (o := ⟨some 35, _, _, _, _, _⟩) rfl (fun K hK => ?_) AllReadyH.nil
          refine step_appN rfl _ _ 27 rfl w5.heap.size 35 i0 _ 7 72 Try.underlying27 hi hz0 hz1 hz2 rfl (by decide) (.slice A6 j c6) j (pcsc (qs.take j)) rfl HOw81.out (some ⟨q, 0, none⟩) 0 0 (pcsc (qs.drop (j + 1))) rfl (by rw [pcsc_len, List.length_drop]; have := HCI.out; omega) (HBH.out _ HFw81.out) (pcsc_one _) (fun h => by cases h) ?q1 ?q2 HFw81.out.size ?_
          case q1 => have := HL5.out.few; have := HJ.out; unfold maxLen; omega
          case q2 => have := HL5.out.few; have := HJ.out; omega
          intro v9 w9 ho9 hg9 hb9
          obtain ⟨A9, c9, rfl, _, _⟩ := own_form ho9
          have HF9 : Hid (Fr NoBlk w5 w9) := HFw81.out.grown hg9 (fun k hk hlt => by have := (own_blk HOw81.out hk).1; omega)
          have HS := Lib.hid (HL5.out.put HF9.out (q := p) (n' := j) (ps := qs.eraseIdx j) (by have := HJ.out; rw [List.length_eraseIdx, if_pos HJ.out]; have := HCI.out; omega) (by rw [← pcsc_erase, pcsc_take, pcsc_drop]; exact ho9) (fun x hx => .inl (List.mem_of_mem_eraseIdx hx)) HPI.out (by have := HL5.out.few; have := HJ.out; omega))
          have oN : w9.cell? ⟨m, 0, none⟩ = some (.slice (some ⟨q, 0, none⟩) qs.length (j + 1)) := HS.out.1.cell 0
          have fN := HS.out.1.free 0
          clear ho9 hg9 hb9
          clear hHeld
          refine hK.out _ _ ?_ (fun hHeld => ?_)
          · trivial
          clear hK K
          try simp only [Act.put, List.setIfInBounds_toArray, List.set_cons_zero, List.set_cons_succ]
          refine wpAnyH_take (i := 17) (oi := ⟨some 36, _, _, _, _, _⟩) (v := ?_) rfl (by kernel_rfl) (by kernel_rfl) (by kernel_rfl) (fun _ _ _ h => h) (Or.inl ⟨by rfl, ?_⟩) (by assumption) ?_
          rotate_left 1
          · (intro w hSw; (try dsimp only at hSw); go_simp) <;> (with_reducible rfl)
          try simp only [Act.put, List.setIfInBounds_toArray, List.set_cons_zero, List.set_cons_succ]
          refine wpAnyH_take (i := 18) (oi := ⟨some 37, _, _, _, _, _⟩) (v := ?_) rfl (by kernel_rfl) (by kernel_rfl) (by kernel_rfl) (fun _ _ _ h => h) (Or.inl ⟨by rfl, ?_⟩) (by assumption) ?_
          rotate_left 1
          · (intro w hSw; (try dsimp only at hSw); go_simp) <;> (with_reducible rfl)
          try simp only [Act.put, List.setIfInBounds_toArray, List.set_cons_zero, List.set_cons_succ]
          refine wpAnyH_ready (rs := [19]) (by kernel_rfl) (by simp) ?_
          refine AllReadyH.cons (o := ⟨none, _, _, _, _, _⟩) rfl (fun K hK => ?_) AllReadyH.nil
          go_simp
          clear hHeld
          refine hK.out _ _ ?_ (fun hHeld => ?_)
          · trivial
          clear hK K
          try simp only [Act.put, List.setIfInBounds_toArray, List.set_cons_zero, List.set_cons_succ]
          refine wpAnyH_done (by kernel_rfl) ?_ _
          clear hHeld
          obtain ⟨wa, hwa⟩ : ∃ wa, wa = w9.setCell ⟨m, 0, none⟩ (.slice A9 (j) c9) := ⟨_, rfl⟩
          have HZ := Lib.hid HS.out.2
          rw [← hwa] at HZ ⊢
          have hbx4 : Bk wa gx 35 (pca p) := by rw [hwa]; exact (HBX.out.fr HF9.out (fun h => h)).far (by have := HGM.out; show _ ≠ m; omega) _
          have hbr4 : Bk wa gr 35 pcz := by rw [hwa]; exact (HBR.out.fr HF9.out (fun h => h)).far (by have := HGM.out; show _ ≠ m; omega) _
          clear hwa HS HF9 oN fN
          have b0 := hbx4.cell 0
          have b1 := hbx4.cell 1
          have b2 := hbx4.cell 2
          have b3 := hbx4.cell 3
          have b4 := hbx4.cell 4
          have b5 := hbx4.cell 5
          have b6 := hbx4.cell 6
          have z0 := hbr4.cell 0
          have z1 := hbr4.cell 1
          have z2 := hbr4.cell 2
          have z3 := hbr4.cell 3
          have z4 := hbr4.cell 4
          have z5 := hbr4.cell 5
          have z6 := hbr4.cell 6
          have y0 := hbr4.free 0
          have y1 := hbr4.free 1
          have y2 := hbr4.free 2
          have y3 := hbr4.free 3
          have y4 := hbr4.free 4
          have y5 := hbr4.free 5
          have y6 := hbr4.free 6
          have HB4 := Lib.hid hbr4
          unfold pca at b0 b1 b2 b3 b4 b5 b6
          unfold pcz at z0 z1 z2 z3 z4 z5 z6
          simp only [List.getElem?_toArray, List.getElem?_cons_zero, List.getElem?_cons_succ] at b0 b1 b2 b3 b4 b5 b6 z0 z1 z2 z3 z4 z5 z6
          clear hbx4 hbr4
          go_wp2_with fail
          obtain ⟨wb, hwb⟩ : ∃ wb, wb = put7 wa gr p := ⟨_, rfl⟩
          have hb5 : Bk wb gr 35 (pca p) := by rw [hwb]; exact put7_bk p HB4.out
          have hf5 : Fr (fun k => k = gr) wa wb := by rw [hwb]; exact put7_fr wa _ p
          unfold put7 at hwb
          rw [← hwb]
          clear hwb b0 b1 b2 b3 b4 b5 b6 z0 z1 z2 z3 z4 z5 z6
          have b0 := hb5.cell 0
          have b1 := hb5.cell 1
          have b2 := hb5.cell 2
          have b3 := hb5.cell 3
          have b4 := hb5.cell 4
          have b5 := hb5.cell 5
          have b6 := hb5.cell 6
          unfold pca at b0 b1 b2 b3 b4 b5 b6
          simp only [List.getElem?_toArray, List.getElem?_cons_zero, List.getElem?_cons_succ] at b0 b1 b2 b3 b4 b5 b6
          have HY := Lib.hid (HPOST.out _ _ _ _ HZ.out.1 HZ.out.2 hf5)
          clear HZ HPOST
          refine bodyPost_ret (v := .tuple #[.agg #[.int .i64 p.src, .int .i64 p.dst, .int .u64 p.ep, .int .u64 p.pe, .int .u64 p.sq, .int .u64 p.ak, .slice p.d.1 p.d.2.2.length p.d.2.1], .bool true]) (by rw [results_cell_tmp rfl]; go_simp) rfl HY.out
    · have HBH : Hid (∀ w', Fr NoBlk w5 w' → Rd w' (some ⟨q, (j + 1) * 7, none⟩) (pcsc (qs.drop (j + 1)))) := fun w' hf => by
        intro hpos
        rw [← pcsc_drop] at hpos ⊢
        refine ⟨q, (j + 1) * 7, rfl, fun i v hv => ?_⟩
        rw [List.getElem?_drop] at hv
        obtain ⟨b, o, e, hc⟩ := Rd.of_ownN (HL5.out.nofr hf).own (by have := (List.getElem?_eq_some_iff.1 hv).1; omega)
        injection e with e
        injection e with e1 e2
        subst e1 e2
        have := hc _ _ hv
        rwa [Nat.zero_add] at this
      refine wp_region_held_drew (S := fun _ => True) (by kernel_rfl) trivial (fun hHeld => ?_)
      obtain ⟨w6, hw6⟩ : ∃ w6, w6 = w5.drew := ⟨_, rfl⟩
      have HFw6 : Hid (Fr NoBlk w5 w6) := by show Fr _ _ _; rw [hw6]; exact (Fr.refl NoBlk w5).drew
      rw [← hw6]
      clear hw6
      refine wpAnyH_take (i := 0) (oi := ⟨some 19, _, _, _, _, _⟩) (v := ?_) rfl (by kernel_rfl) (by kernel_rfl) (by kernel_rfl) (fun _ _ _ h => h) (Or.inl ⟨by rfl, ?_⟩) (by assumption) ?_
      rotate_left 1
      · (intro w hSw; (try dsimp only at hSw); go_simp) <;> (with_reducible rfl)
      try simp only [Act.put, List.setIfInBounds_toArray, List.set_cons_zero, List.set_cons_succ]
      refine wpAnyH_take (i := 2) (oi := ⟨some 21, _, _, _, _, _⟩) (v := ?_) rfl (by kernel_rfl) (by kernel_rfl) (by kernel_rfl) (fun _ _ _ h => h) (Or.inl ⟨by rfl, ?_⟩) (by assumption) ?_
      rotate_left 1
      · (intro w hSw; (try dsimp only at hSw); go_simp) <;> (with_reducible rfl)
      try simp only [Act.put, List.setIfInBounds_toArray, List.set_cons_zero, List.set_cons_succ]
      refine wpAnyH_take (i := 3) (oi := ⟨some 22, _, _, _, _, _⟩) (v := ?_) rfl (by kernel_rfl) (by kernel_rfl) (by kernel_rfl) (fun _ _ _ h => h) (Or.inl ⟨by rfl, ?_⟩) (by assumption) ?_
      rotate_left 1
      · (intro w hSw; (try dsimp only at hSw); go_simp) <;> (with_reducible rfl)
      try simp only [Act.put, List.setIfInBounds_toArray, List.set_cons_zero, List.set_cons_succ]
      refine wpAnyH_take (i := 4) (oi := ⟨some 23, _, _, _, _, _⟩) (v := ?_) rfl (by kernel_rfl) (by kernel_rfl) (by kernel_rfl) (fun _ _ _ h => h) (Or.inl ⟨by rfl, ?_⟩) (by assumption) ?_
      rotate_left 1
      · (intro w hSw; (try dsimp only at hSw); go_simp) <;> (with_reducible rfl)
      try simp only [Act.put, List.setIfInBounds_toArray, List.set_cons_zero, List.set_cons_succ]
      refine wpAnyH_take (i := 6) (oi := ⟨some 25, _, _, _, _, _⟩) (v := ?_) rfl (by kernel_rfl) (by kernel_rfl) (by kernel_rfl) (fun _ _ _ h => h) (Or.inl ⟨by rfl, ?_⟩) (by assumption) ?_
      rotate_left 1
      · (intro w hSw; (try dsimp only at hSw); go_simp) <;> (with_reducible rfl)
      try simp only [Act.put, List.setIfInBounds_toArray, List.set_cons_zero, List.set_cons_succ]
      refine wpAnyH_take (i := 9) (oi := ⟨some 28, _, _, _, _, _⟩) (v := ?_) rfl (by kernel_rfl) (by kernel_rfl) (by kernel_rfl) (fun _ _ _ h => h) (Or.inl ⟨by rfl, ?_⟩) (by assumption) ?_
      rotate_left 1
      · (intro w hSw; (try dsimp only at hSw); go_simp) <;> (with_reducible rfl)
      try simp only [Act.put, List.setIfInBounds_toArray, List.set_cons_zero, List.set_cons_succ]
      refine wpAnyH_take (i := 10) (oi := ⟨some 29, _, _, _, _, _⟩) (v := ?_) rfl (by kernel_rfl) (by kernel_rfl) (by kernel_rfl) (fun _ _ _ h => h) (Or.inl ⟨by rfl, ?_⟩) (by assumption) ?_
      rotate_left 1
      · (intro w hSw; (try dsimp only at hSw); go_simp) <;> (with_reducible rfl)
      try simp only [Act.put, List.setIfInBounds_toArray, List.set_cons_zero, List.set_cons_succ]
      refine wpAnyH_take (i := 11) (oi := ⟨some 30, _, _, _, _, _⟩) (v := ?_) rfl (by kernel_rfl) (by kernel_rfl) (by kernel_rfl) (fun _ _ _ h => h) (Or.inl ⟨by rfl, ?_⟩) (by assumption) ?_
      rotate_left 1
      · (intro w hSw; (try dsimp only at hSw); go_simp) <;> (with_reducible rfl)
      try simp only [Act.put, List.setIfInBounds_toArray, List.set_cons_zero, List.set_cons_succ]
      refine wpAnyH_take (i := 13) (oi := ⟨some 32, _, _, _, _, _⟩) (v := ?_) rfl (by kernel_rfl) (by kernel_rfl) (by kernel_rfl) (fun _ _ _ h => h) (Or.inl ⟨by rfl, ?_⟩) (by assumption) ?_
      rotate_left 1
      · (intro w hSw; (try dsimp only at hSw); go_simp) <;> (with_reducible rfl)
      try simp only [Act.put, List.setIfInBounds_toArray, List.set_cons_zero, List.set_cons_succ]
      refine wpAnyH_take (i := 14) (oi := ⟨some 33, _, _, _, _, _⟩) (v := ?_) rfl (by kernel_rfl) (by kernel_rfl) (by kernel_rfl) (fun _ _ _ h => h) (Or.inl ⟨by rfl, ?_⟩) (by assumption) ?_
      rotate_left 1
      · (intro w hSw; (try dsimp only at hSw); go_simp) <;> (with_reducible rfl)
      try simp only [Act.put, List.setIfInBounds_toArray, List.set_cons_zero, List.set_cons_succ]
      refine wpAnyH_ready (rs := [1, 5, 12]) (by kernel_rfl) (by simp) ?_
      refine AllReadyH.cons (o := ⟨some 20, _, _, _, _, _⟩) rfl (fun K hK => ?_) (AllReadyH.cons (o := ⟨some 24, _, _, _, _, _⟩) rfl (fun K hK => ?_) (AllReadyH.cons (o := ⟨some 31, _, _, _, _, _⟩) rfl (fun K hK => ?_) AllReadyH.nil))
      · go_simp
        obtain ⟨w82, hw82⟩ : ∃ w82, w82 = w6.alloc (.cells #[] 35) := ⟨_, rfl⟩
        obtain ⟨e1, he1⟩ : ∃ e1, e1 = w6.heap.size := ⟨_, rfl⟩
        have hfr : Fr NoBlk w6 w82 := by rw [hw82]; exact (Fr.refl _ _).alloc _
        have HFw82 : Hid (Fr NoBlk w5 w82) := HFw6.out.trans hfr
        have HEw82 : Hid (w82.ownsRow w5.heap.size 35 7 (.slice (some ⟨e1, 0, none⟩) 0 0) 0 []) := by show World.ownsRow _ _ _ _ _ _ _; rw [hw82, he1]; exact own_base (World.ownsRow_made w6 #[] 0 (Nat.le_refl _) (by decide) rfl) HFw6.out.size
        rw [← hw82, ← he1]
        clear hw82 hfr he1
        clear hHeld
        refine hK.out _ _ ?_ (fun hHeld => ?_)
        · trivial
        clear hK K
        try simp only [Act.put, List.setIfInBounds_toArray, List.set_cons_zero, List.set_cons_succ]
        refine wpAnyH_ready (rs := [5, 12]) (by kernel_rfl) (by simp) ?_
        refine AllReadyH.cons (o := ⟨some 24, _, _, _, _, _⟩) rfl (fun K hK => ?_) (AllReadyH.cons (o := ⟨some 31, _, _, _, _, _⟩) rfl (fun K hK => ?_) AllReadyH.nil)
        · have oN : w82.cell? ⟨m, 0, none⟩ = some (.slice (some ⟨q, 0, none⟩) qs.length c) := (HL5.out.nofr HFw82.out).bk.cell 0
          go_simp
          clear oN
          clear hHeld
          refine hK.out _ _ ?_ (fun hHeld => ?_)
          · trivial
          clear hK K
          try simp only [Act.put, List.setIfInBounds_toArray, List.set_cons_zero, List.set_cons_succ]
          refine wpAnyH_take (i := 7) (oi := ⟨some 26, _, _, _, _, _⟩) (v := ?_) rfl (by kernel_rfl) (by kernel_rfl) (by kernel_rfl) (fun _ _ _ h => h) (Or.inl ⟨by rfl, ?_⟩) (by assumption) ?_
          rotate_left 1
          · (intro w hSw; (try dsimp only at hSw); go_simp) <;> (with_reducible rfl)
          try simp only [Act.put, List.setIfInBounds_toArray, List.set_cons_zero, List.set_cons_succ]
          refine wpAnyH_ready (rs := [8, 12]) (by kernel_rfl) (by simp) ?_
          refine AllReadyH.cons (o := ⟨some 27, _, _, _, _, _⟩) rfl (fun K hK => ?_) (AllReadyH.cons (o := ⟨some 31, _, _, _, _, _⟩) rfl (fun K hK => ?_) AllReadyH.nil)
          · refine step_appN rfl _ _ 27 rfl w5.heap.size 35 i0 _ 7 72 Try.underlying27 hi hz0 hz1 hz2 rfl (by decide) (.slice (some ⟨e1, 0, none⟩) 0 0) 0 [] rfl HEw82.out (some ⟨q, 0, none⟩) c j (pcsc (qs.take j)) rfl (by rw [pcsc_len, List.length_take, Nat.min_eq_left (Nat.le_of_lt HJ.out)]) (by rw [← pcsc_take]; exact (Rd.of_ownN (HL5.out.nofr HFw82.out).own).take _) (pcsc_one _) (fun h => by cases h) ?q1 ?q2 HFw82.out.size ?_
            case q1 => have := HL5.out.few; have := HJ.out; unfold maxLen; omega
            case q2 => have := HL5.out.few; have := HJ.out; omega
            intro v6 w83 ho6 hg6 hb6
            simp only [Nat.zero_add, List.nil_append] at ho6
            obtain ⟨A6, c6, rfl, _, _⟩ := own_form ho6
            have HOw83 : Hid (w83.ownsRow w5.heap.size 35 7 (.slice A6 j c6) j (pcsc (qs.take j))) := ho6
            have HFw83 : Hid (Fr NoBlk w5 w83) := HFw82.out.grown hg6 (fun k hk hlt => by have := (own_blk HEw82.out hk).1; omega)
            try dsimp only
            clear ho6 hg6 hb6
            clear hHeld
            refine hK.out _ _ ?_ (fun hHeld => ?_)
            · trivial
            clear hK K
            try simp only [Act.put, List.setIfInBounds_toArray, List.set_cons_zero, List.set_cons_succ]
            refine wpAnyH_ready (rs := [12]) (by kernel_rfl) (by simp) ?_
            refine AllReadyH.cons (o := ⟨some 31, _, _, _, _, _⟩) rfl (fun K hK => ?_) AllReadyH.nil
            have oN : w83.cell? ⟨m, 0, none⟩ = some (.slice (some ⟨q, 0, none⟩) qs.length c) := (HL5.out.nofr HFw83.out).bk.cell 0
            go_simp
            clear oN
            clear hHeld
            refine hK.out _ _ ?_ (fun hHeld => ?_)
            · trivial
            clear hK K
            try simp only [Act.put, List.setIfInBounds_toArray, List.set_cons_zero, List.set_cons_succ]
            refine wpAnyH_take (i := 15) (oi := ⟨some 34, _, _, _, _, _⟩) (v := ?_) rfl (by kernel_rfl) (by kernel_rfl) (by kernel_rfl) (fun _ _ _ h => h) (Or.inl ⟨by rfl, ?_⟩) (by assumption) ?_
            rotate_left 1
            · (intro w hSw; (try dsimp only at hSw); go_simp) <;> (with_reducible rfl)
            try simp only [Act.put, List.setIfInBounds_toArray, List.set_cons_zero, List.set_cons_succ]
            refine wpAnyH_ready (rs := [16]) (by kernel_rfl) (by simp) ?_
            refine AllReadyH.cons (o := ⟨some 35, _, _, _, _, _⟩) rfl (fun K hK => ?_) AllReadyH.nil
            refine step_appN rfl _ _ 27 rfl w5.heap.size 35 i0 _ 7 72 Try.underlying27 hi hz0 hz1 hz2 rfl (by decide) (.slice A6 j c6) j (pcsc (qs.take j)) rfl HOw83.out (some ⟨q, (j + 1) * 7, none⟩) (c - (j + 1)) (qs.length - (j + 1)) (pcsc (qs.drop (j + 1))) rfl (by rw [pcsc_len, List.length_drop]) (HBH.out _ HFw83.out) (pcsc_one _) (fun h => by cases h) ?q1 ?q2 HFw83.out.size ?_
            case q1 => have := HL5.out.few; have := HJ.out; unfold maxLen; omega
            case q2 => have := HL5.out.few; have := HJ.out; omega
            intro v9 w9 ho9 hg9 hb9
            obtain ⟨A9, c9, rfl, _, _⟩ := own_form ho9
            have HF9 : Hid (Fr NoBlk w5 w9) := HFw83.out.grown hg9 (fun k hk hlt => by have := (own_blk HOw83.out hk).1; omega)
            have HS := Lib.hid (HL5.out.put HF9.out (q := p) (n' := j + (qs.length - (j + 1))) (ps := qs.eraseIdx j) (by have := HJ.out; rw [List.length_eraseIdx, if_pos HJ.out]; omega) (by rw [← pcsc_erase, pcsc_take, pcsc_drop]; exact ho9) (fun x hx => .inl (List.mem_of_mem_eraseIdx hx)) HPI.out (by have := HL5.out.few; have := HJ.out; omega))
            have oN : w9.cell? ⟨m, 0, none⟩ = some (.slice (some ⟨q, 0, none⟩) qs.length c) := HS.out.1.cell 0
            have fN := HS.out.1.free 0
            clear ho9 hg9 hb9
            clear hHeld
            refine hK.out _ _ ?_ (fun hHeld => ?_)
            · trivial
            clear hK K
            try simp only [Act.put, List.setIfInBounds_toArray, List.set_cons_zero, List.set_cons_succ]
            refine wpAnyH_take (i := 17) (oi := ⟨some 36, _, _, _, _, _⟩) (v := ?_) rfl (by kernel_rfl) (by kernel_rfl) (by kernel_rfl) (fun _ _ _ h => h) (Or.inl ⟨by rfl, ?_⟩) (by assumption) ?_
            rotate_left 1
            · (intro w hSw; (try dsimp only at hSw); go_simp) <;> (with_reducible rfl)
            try simp only [Act.put, List.setIfInBounds_toArray, List.set_cons_zero, List.set_cons_succ]
            refine wpAnyH_take (i := 18) (oi := ⟨some 37, _, _, _, _, _⟩) (v := ?_) rfl (by kernel_rfl) (by kernel_rfl) (by kernel_rfl) (fun _ _ _ h => h) (Or.inl ⟨by rfl, ?_⟩) (by assumption) ?_
            rotate_left 1
            · (intro w hSw; (try dsimp only at hSw); go_simp) <;> (with_reducible rfl)
            try simp only [Act.put, List.setIfInBounds_toArray, List.set_cons_zero, List.set_cons_succ]
            refine wpAnyH_ready (rs := [19]) (by kernel_rfl) (by simp) ?_
            refine AllReadyH.cons (o := ⟨none, _, _, _, _, _⟩) rfl (fun K hK => ?_) AllReadyH.nil
            go_simp
            clear hHeld
            refine hK.out _ _ ?_ (fun hHeld => ?_)
            · trivial
            clear hK K
            try simp only [Act.put, List.setIfInBounds_toArray, List.set_cons_zero, List.set_cons_succ]
            refine wpAnyH_done (by kernel_rfl) ?_ _
            clear hHeld
            obtain ⟨wa, hwa⟩ : ∃ wa, wa = w9.setCell ⟨m, 0, none⟩ (.slice A9 (j + (qs.length - (j + 1))) c9) := ⟨_, rfl⟩
            have HZ := Lib.hid HS.out.2
            rw [← hwa] at HZ ⊢
            have hbx4 : Bk wa gx 35 (pca p) := by rw [hwa]; exact (HBX.out.fr HF9.out (fun h => h)).far (by have := HGM.out; show _ ≠ m; omega) _
            have hbr4 : Bk wa gr 35 pcz := by rw [hwa]; exact (HBR.out.fr HF9.out (fun h => h)).far (by have := HGM.out; show _ ≠ m; omega) _
            clear hwa HS HF9 oN fN
            have b0 := hbx4.cell 0
            have b1 := hbx4.cell 1
            have b2 := hbx4.cell 2
            have b3 := hbx4.cell 3
            have b4 := hbx4.cell 4
            have b5 := hbx4.cell 5
            have b6 := hbx4.cell 6
            have z0 := hbr4.cell 0
            have z1 := hbr4.cell 1
            have z2 := hbr4.cell 2
            have z3 := hbr4.cell 3
            have z4 := hbr4.cell 4
            have z5 := hbr4.cell 5
            have z6 := hbr4.cell 6
            have y0 := hbr4.free 0
            have y1 := hbr4.free 1
            have y2 := hbr4.free 2
            have y3 := hbr4.free 3
            have y4 := hbr4.free 4
            have y5 := hbr4.free 5
            have y6 := hbr4.free 6
            have HB4 := Lib.hid hbr4
            unfold pca at b0 b1 b2 b3 b4 b5 b6
            unfold pcz at z0 z1 z2 z3 z4 z5 z6
            simp only [List.getElem?_toArray, List.getElem?_cons_zero, List.getElem?_cons_succ] at b0 b1 b2 b3 b4 b5 b6 z0 z1 z2 z3 z4 z5 z6
            clear hbx4 hbr4
            go_wp2_with fail
            obtain ⟨wb, hwb⟩ : ∃ wb, wb = put7 wa gr p := ⟨_, rfl⟩
            have hb5 : Bk wb gr 35 (pca p) := by rw [hwb]; exact put7_bk p HB4.out
            have hf5 : Fr (fun k => k = gr) wa wb := by rw [hwb]; exact put7_fr wa _ p
            unfold put7 at hwb
            rw [← hwb]
            clear hwb b0 b1 b2 b3 b4 b5 b6 z0 z1 z2 z3 z4 z5 z6
            have b0 := hb5.cell 0
            have b1 := hb5.cell 1
            have b2 := hb5.cell 2
            have b3 := hb5.cell 3
            have b4 := hb5.cell 4
            have b5 := hb5.cell 5
            have b6 := hb5.cell 6
            unfold pca at b0 b1 b2 b3 b4 b5 b6
            simp only [List.getElem?_toArray, List.getElem?_cons_zero, List.getElem?_cons_succ] at b0 b1 b2 b3 b4 b5 b6
            have HY := Lib.hid (HPOST.out _ _ _ _ HZ.out.1 HZ.out.2 hf5)
            clear HZ HPOST
            refine bodyPost_ret (v := .tuple #[.agg #[.int .i64 p.src, .int .i64 p.dst, .int .u64 p.ep, .int .u64 p.pe, .int .u64 p.sq, .int .u64 p.ak, .slice p.d.1 p.d.2.2.length p.d.2.1], .bool true]) (by rw [results_cell_tmp rfl]; go_simp) rfl HY.out
          · have oN : w82.cell? ⟨m, 0, none⟩ = some (.slice (some ⟨q, 0, none⟩) qs.length c) := (HL5.out.nofr HFw82.out).bk.cell 0
            go_simp
            clear oN
            clear hHeld
            refine hK.out _ _ ?_ (fun hHeld => ?_)
            · trivial
            clear hK K
            try simp only [Act.put, List.setIfInBounds_toArray, List.set_cons_zero, List.set_cons_succ]
            refine wpAnyH_take (i := 15) (oi := ⟨some 34, _, _, _, _, _⟩) (v := ?_) rfl (by kernel_rfl) (by kernel_rfl) (by kernel_rfl) (fun _ _ _ h => h) (Or.inl ⟨by rfl, ?_⟩) (by assumption) ?_
            rotate_left 1
            · (intro w hSw; (try dsimp only at hSw); go_simp) <;> (with_reducible rfl)
            try simp only [Act.put, List.setIfInBounds_toArray, List.set_cons_zero, List.set_cons_succ]
            refine wpAnyH_ready (rs := [8]) (by kernel_rfl) (by simp) ?_
            refine AllReadyH.cons (o := ⟨some 27, _, _, _, _, _⟩) rfl (fun K hK => ?_) AllReadyH.nil
            refine step_appN rfl _ _ 27 rfl w5.heap.size 35 i0 _ 7 72 Try.underlying27 hi hz0 hz1 hz2 rfl (by decide) (.slice (some ⟨e1, 0, none⟩) 0 0) 0 [] rfl HEw82.out (some ⟨q, 0, none⟩) c j (pcsc (qs.take j)) rfl (by rw [pcsc_len, List.length_take, Nat.min_eq_left (Nat.le_of_lt HJ.out)]) (by rw [← pcsc_take]; exact (Rd.of_ownN (HL5.out.nofr HFw82.out).own).take _) (pcsc_one _) (fun h => by cases h) ?q1 ?q2 HFw82.out.size ?_
            case q1 => have := HL5.out.few; have := HJ.out; unfold maxLen; omega
            case q2 => have := HL5.out.few; have := HJ.out; omega
            intro v6 w84 ho6 hg6 hb6
            simp only [Nat.zero_add, List.nil_append] at ho6
            obtain ⟨A6, c6, rfl, _, _⟩ := own_form ho6
            have HOw84 : Hid (w84.ownsRow w5.heap.size 35 7 (.slice A6 j c6) j (pcsc (qs.take j))) := ho6
            have HFw84 : Hid (Fr NoBlk w5 w84) := HFw82.out.grown hg6 (fun k hk hlt => by have := (own_blk HEw82.out hk).1; omega)
            try dsimp only
            clear ho6 hg6 hb6
            clear hHeld
            refine hK.out _ _ ?_ (fun hHeld => ?_)
            · trivial
            clear hK K
            try simp only [Act.put, List.setIfInBounds_toArray, List.set_cons_zero, List.set_cons_succ]
            refine wpAnyH_ready (rs := [16]) (by kernel_rfl) (by simp) ?_
            refine AllReadyH.cons (o := ⟨some 35, _, _, _, _, _⟩) rfl (fun K hK => ?_) AllReadyH.nil
            refine step_appN rfl _ _ 27 rfl w5.heap.size 35 i0 _ 7 72 Try.underlying27 hi hz0 hz1 hz2 rfl (by decide) (.slice A6 j c6) j (pcsc (qs.take j)) rfl HOw84.out (some ⟨q, (j + 1) * 7, none⟩) (c - (j + 1)) (qs.length - (j + 1)) (pcsc (qs.drop (j + 1))) rfl (by rw [pcsc_len, List.length_drop]) (HBH.out _ HFw84.out) (pcsc_one _) (fun h => by cases h) ?q1 ?q2 HFw84.out.size ?_
            case q1 => have := HL5.out.few; have := HJ.out; unfold maxLen; omega
            case q2 => have := HL5.out.few; have := HJ.out; omega
            intro v9 w9 ho9 hg9 hb9
            obtain ⟨A9, c9, rfl, _, _⟩ := own_form ho9
            have HF9 : Hid (Fr NoBlk w5 w9) := HFw84.out.grown hg9 (fun k hk hlt => by have := (own_blk HOw84.out hk).1; omega)
            have HS := Lib.hid (HL5.out.put HF9.out (q := p) (n' := j + (qs.length - (j + 1))) (ps := qs.eraseIdx j) (by have := HJ.out; rw [List.length_eraseIdx, if_pos HJ.out]; omega) (by rw [← pcsc_erase, pcsc_take, pcsc_drop]; exact ho9) (fun x hx => .inl (List.mem_of_mem_eraseIdx hx)) HPI.out (by have := HL5.out.few; have := HJ.out; omega))
            have oN : w9.cell? ⟨m, 0, none⟩ = some (.slice (some ⟨q, 0, none⟩) qs.length c) := HS.out.1.cell 0
            have fN := HS.out.1.free 0
            clear ho9 hg9 hb9
            clear hHeld
            refine hK.out _ _ ?_ (fun hHeld => ?_)
            · trivial
            clear hK K
            try simp only [Act.put, List.setIfInBounds_toArray, List.set_cons_zero, List.set_cons_succ]
            refine wpAnyH_take (i := 17) (oi := ⟨some 36, _, _, _, _, _⟩) (v := ?_) rfl (by kernel_rfl) (by kernel_rfl) (by kernel_rfl) (fun _ _ _ h => h) (Or.inl ⟨by rfl, ?_⟩) (by assumption) ?_
            rotate_left 1
            · (intro w hSw; (try dsimp only at hSw); go_simp) <;> (with_reducible rfl)
            try simp only [Act.put, List.setIfInBounds_toArray, List.set_cons_zero, List.set_cons_succ]
            refine wpAnyH_take (i := 18) (oi := ⟨some 37, _, _, _, _, _⟩) (v := ?_) rfl (by kernel_rfl) (by kernel_rfl) (by kernel_rfl) (fun _ _ _ h => h) (Or.inl ⟨by rfl, ?_⟩) (by assumption) ?_
            rotate_left 1
            · (intro w hSw; (try dsimp only at hSw); go_simp) <;> (with_reducible rfl)
            try simp only [Act.put, List.setIfInBounds_toArray, List.set_cons_zero, List.set_cons_succ]
            refine wpAnyH_ready (rs := [19]) (by kernel_rfl) (by simp) ?_
            refine AllReadyH.cons (o := ⟨none, _, _, _, _, _⟩) rfl (fun K hK => ?_) AllReadyH.nil
            go_simp
            clear hHeld
            refine hK.out _ _ ?_ (fun hHeld => ?_)
            · trivial
            clear hK K
            try simp only [Act.put, List.setIfInBounds_toArray, List.set_cons_zero, List.set_cons_succ]
            refine wpAnyH_done (by kernel_rfl) ?_ _
            clear hHeld
            obtain ⟨wa, hwa⟩ : ∃ wa, wa = w9.setCell ⟨m, 0, none⟩ (.slice A9 (j + (qs.length - (j + 1))) c9) := ⟨_, rfl⟩
            have HZ := Lib.hid HS.out.2
            rw [← hwa] at HZ ⊢
            have hbx4 : Bk wa gx 35 (pca p) := by rw [hwa]; exact (HBX.out.fr HF9.out (fun h => h)).far (by have := HGM.out; show _ ≠ m; omega) _
            have hbr4 : Bk wa gr 35 pcz := by rw [hwa]; exact (HBR.out.fr HF9.out (fun h => h)).far (by have := HGM.out; show _ ≠ m; omega) _
            clear hwa HS HF9 oN fN
            have b0 := hbx4.cell 0
            have b1 := hbx4.cell 1
            have b2 := hbx4.cell 2
            have b3 := hbx4.cell 3
            have b4 := hbx4.cell 4
            have b5 := hbx4.cell 5
            have b6 := hbx4.cell 6
            have z0 := hbr4.cell 0
            have z1 := hbr4.cell 1
            have z2 := hbr4.cell 2
            have z3 := hbr4.cell 3
            have z4 := hbr4.cell 4
            have z5 := hbr4.cell 5
            have z6 := hbr4.cell 6
            have y0 := hbr4.free 0
            have y1 := hbr4.free 1
            have y2 := hbr4.free 2
            have y3 := hbr4.free 3
            have y4 := hbr4.free 4
            have y5 := hbr4.free 5
            have y6 := hbr4.free 6
            have HB4 := Lib.hid hbr4
            unfold pca at b0 b1 b2 b3 b4 b5 b6
            unfold pcz at z0 z1 z2 z3 z4 z5 z6
            simp only [List.getElem?_toArray, List.getElem?_cons_zero, List.getElem?_cons_succ] at b0 b1 b2 b3 b4 b5 b6 z0 z1 z2 z3 z4 z5 z6
            clear hbx4 hbr4
            go_wp2_with fail
            obtain ⟨wb, hwb⟩ : ∃ wb, wb = put7 wa gr p := ⟨_, rfl⟩
            have hb5 : Bk wb gr 35 (pca p) := by rw [hwb]; exact put7_bk p HB4.out
            have hf5 : Fr (fun k => k = gr) wa wb := by rw [hwb]; exact put7_fr wa _ p
            unfold put7 at hwb
            rw [← hwb]
            clear hwb b0 b1 b2 b3 b4 b5 b6 z0 z1 z2 z3 z4 z5 z6
            have b0 := hb5.cell 0
            have b1 := hb5.cell 1
            have b2 := hb5.cell 2
            have b3 := hb5.cell 3
            have b4 := hb5.cell 4
            have b5 := hb5.cell 5
            have b6 := hb5.cell 6
            unfold pca at b0 b1 b2 b3 b4 b5 b6
            simp only [List.getElem?_toArray, List.getElem?_cons_zero, List.getElem?_cons_succ] at b0 b1 b2 b3 b4 b5 b6
            have HY := Lib.hid (HPOST.out _ _ _ _ HZ.out.1 HZ.out.2 hf5)
            clear HZ HPOST
            refine bodyPost_ret (v := .tuple #[.agg #[.int .i64 p.src, .int .i64 p.dst, .int .u64 p.ep, .int .u64 p.pe, .int .u64 p.sq, .int .u64 p.ak, .slice p.d.1 p.d.2.2.length p.d.2.1], .bool true]) (by rw [results_cell_tmp rfl]; go_simp) rfl HY.out
        · have oN : w82.cell? ⟨m, 0, none⟩ = some (.slice (some ⟨q, 0, none⟩) qs.length c) := (HL5.out.nofr HFw82.out).bk.cell 0
          go_simp
          clear oN
          clear hHeld
          refine hK.out _ _ ?_ (fun hHeld => ?_)
          · trivial
          clear hK K
          try simp only [Act.put, List.setIfInBounds_toArray, List.set_cons_zero, List.set_cons_succ]
          refine wpAnyH_take (i := 15) (oi := ⟨some 34, _, _, _, _, _⟩) (v := ?_) rfl (by kernel_rfl) (by kernel_rfl) (by kernel_rfl) (fun _ _ _ h => h) (Or.inl ⟨by rfl, ?_⟩) (by assumption) ?_
          rotate_left 1
          · (intro w hSw; (try dsimp only at hSw); go_simp) <;> (with_reducible rfl)
          try simp only [Act.put, List.setIfInBounds_toArray, List.set_cons_zero, List.set_cons_succ]
          refine wpAnyH_ready (rs := [5]) (by kernel_rfl) (by simp) ?_
          refine AllReadyH.cons (o := ⟨some 24, _, _, _, _, _⟩) rfl (fun K hK => ?_) AllReadyH.nil
          have oN : w82.cell? ⟨m, 0, none⟩ = some (.slice (some ⟨q, 0, none⟩) qs.length c) := (HL5.out.nofr HFw82.out).bk.cell 0
          go_simp
          clear oN
          clear hHeld
          refine hK.out _ _ ?_ (fun hHeld => ?_)
          · trivial
          clear hK K
          try simp only [Act.put, List.setIfInBounds_toArray, List.set_cons_zero, List.set_cons_succ]
          refine wpAnyH_take (i := 7) (oi := ⟨some 26, _, _, _, _, _⟩) (v := ?_) rfl (by kernel_rfl) (by kernel_rfl) (by kernel_rfl) (fun _ _ _ h => h) (Or.inl ⟨by rfl, ?_⟩) (by assumption) ?_
          rotate_left 1
          · (intro w hSw; (try dsimp only at hSw); go_simp) <;> (with_reducible rfl)
          try simp only [Act.put, List.setIfInBounds_toArray, List.set_cons_zero, List.set_cons_succ]
          refine wpAnyH_ready (rs := [8]) (by kernel_rfl) (by simp) ?_
          refine AllReadyH.cons (o := ⟨some 27, _, _, _, _, _⟩) rfl (fun K hK => ?_) AllReadyH.nil
          refine step_appN rfl _ _ 27 rfl w5.heap.size 35 i0 _ 7 72 Try.underlying27 hi hz0 hz1 hz2 rfl (by decide) (.slice (some ⟨e1, 0, none⟩) 0 0) 0 [] rfl HEw82.out (some ⟨q, 0, none⟩) c j (pcsc (qs.take j)) rfl (by rw [pcsc_len, List.length_take, Nat.min_eq_left (Nat.le_of_lt HJ.out)]) (by rw [← pcsc_take]; exact (Rd.of_ownN (HL5.out.nofr HFw82.out).own).take _) (pcsc_one _) (fun h => by cases h) ?q1 ?q2 HFw82.out.size ?_
          case q1 => have := HL5.out.few; have := HJ.out; unfold maxLen; omega
          case q2 => have := HL5.out.few; have := HJ.out; omega
          intro v6 w85 ho6 hg6 hb6
          simp only [Nat.zero_add, List.nil_append] at ho6
          obtain ⟨A6, c6, rfl, _, _⟩ := own_form ho6
          have HOw85 : Hid (w85.ownsRow w5.heap.size 35 7 (.slice A6 j c6) j (pcsc (qs.take j))) := ho6
          have HFw85 : Hid (Fr NoBlk w5 w85) := HFw82.out.grown hg6 (fun k hk hlt => by have := (own_blk HEw82.out hk).1; omega)
          try dsimp only
          clear ho6 hg6 hb6
          clear hHeld
          refine hK.out _ _ ?_ (fun hHeld => ?_)
          · trivial
          clear hK K
          try simp only [Act.put, List.setIfInBounds_toArray, List.set_cons_zero, List.set_cons_succ]
          refine wpAnyH_ready (rs := [16]) (by kernel_rfl) (by simp) ?_
          refine AllReadyH.cons (o := ⟨some 35, _, _, _, _, _⟩) rfl (fun K hK => ?_) AllReadyH.nil
          refine step_appN rfl _ _ 27 rfl w5.heap.size 35 i0 _ 7 72 Try.underlying27 hi hz0 hz1 hz2 rfl (by decide) (.slice A6 j c6) j (pcsc (qs.take j)) rfl HOw85.out (some ⟨q, (j + 1) * 7, none⟩) (c - (j + 1)) (qs.length - (j + 1)) (pcsc (qs.drop (j + 1))) rfl (by rw [pcsc_len, List.length_drop]) (HBH.out _ HFw85.out) (pcsc_one _) (fun h => by cases h) ?q1 ?q2 HFw85.out.size ?_
          case q1 => have := HL5.out.few; have := HJ.out; unfold maxLen; omega
          case q2 => have := HL5.out.few; have := HJ.out; omega
          intro v9 w9 ho9 hg9 hb9
          obtain ⟨A9, c9, rfl, _, _⟩ := own_form ho9
          have HF9 : Hid (Fr NoBlk w5 w9) := HFw85.out.grown hg9 (fun k hk hlt => by have := (own_blk HOw85.out hk).1; omega)
          have HS := Lib.hid (HL5.out.put HF9.out (q := p) (n' := j + (qs.length - (j + 1))) (ps := qs.eraseIdx j) (by have := HJ.out; rw [List.length_eraseIdx, if_pos HJ.out]; omega) (by rw [← pcsc_erase, pcsc_take, pcsc_drop]; exact ho9) (fun x hx => .inl (List.mem_of_mem_eraseIdx hx)) HPI.out (by have := HL5.out.few; have := HJ.out; omega))
          have oN : w9.cell? ⟨m, 0, none⟩ = some (.slice (some ⟨q, 0, none⟩) qs.length c) := HS.out.1.cell 0
          have fN := HS.out.1.free 0
          clear ho9 hg9 hb9
          clear hHeld
          refine hK.out _ _ ?_ (fun hHeld => ?_)
          · trivial
          clear hK K
          try simp only [Act.put, List.setIfInBounds_toArray, List.set_cons_zero, List.set_cons_succ]
          refine wpAnyH_take (i := 17) (oi := ⟨some 36, _, _, _, _, _⟩) (v := ?_) rfl (by kernel_rfl) (by kernel_rfl) (by kernel_rfl) (fun _ _ _ h => h) (Or.inl ⟨by rfl, ?_⟩) (by assumption) ?_
          rotate_left 1
          · (intro w hSw; (try dsimp only at hSw); go_simp) <;> (with_reducible rfl)
          try simp only [Act.put, List.setIfInBounds_toArray, List.set_cons_zero, List.set_cons_succ]
          refine wpAnyH_take (i := 18) (oi := ⟨some 37, _, _, _, _, _⟩) (v := ?_) rfl (by kernel_rfl) (by kernel_rfl) (by kernel_rfl) (fun _ _ _ h => h) (Or.inl ⟨by rfl, ?_⟩) (by assumption) ?_
          rotate_left 1
          · (intro w hSw; (try dsimp only at hSw); go_simp) <;> (with_reducible rfl)
          try simp only [Act.put, List.setIfInBounds_toArray, List.set_cons_zero, List.set_cons_succ]
          refine wpAnyH_ready (rs := [19]) (by kernel_rfl) (by simp) ?_
          refine AllReadyH.cons (o := ⟨none, _, _, _, _, _⟩) rfl (fun K hK => ?_) AllReadyH.nil
          go_simp
          clear hHeld
          refine hK.out _ _ ?_ (fun hHeld => ?_)
          · trivial
          clear hK K
          try simp only [Act.put, List.setIfInBounds_toArray, List.set_cons_zero, List.set_cons_succ]
          refine wpAnyH_done (by kernel_rfl) ?_ _
          clear hHeld
          obtain ⟨wa, hwa⟩ : ∃ wa, wa = w9.setCell ⟨m, 0, none⟩ (.slice A9 (j + (qs.length - (j + 1))) c9) := ⟨_, rfl⟩
          have HZ := Lib.hid HS.out.2
          rw [← hwa] at HZ ⊢
          have hbx4 : Bk wa gx 35 (pca p) := by rw [hwa]; exact (HBX.out.fr HF9.out (fun h => h)).far (by have := HGM.out; show _ ≠ m; omega) _
          have hbr4 : Bk wa gr 35 pcz := by rw [hwa]; exact (HBR.out.fr HF9.out (fun h => h)).far (by have := HGM.out; show _ ≠ m; omega) _
          clear hwa HS HF9 oN fN
          have b0 := hbx4.cell 0
          have b1 := hbx4.cell 1
          have b2 := hbx4.cell 2
          have b3 := hbx4.cell 3
          have b4 := hbx4.cell 4
          have b5 := hbx4.cell 5
          have b6 := hbx4.cell 6
          have z0 := hbr4.cell 0
          have z1 := hbr4.cell 1
          have z2 := hbr4.cell 2
          have z3 := hbr4.cell 3
          have z4 := hbr4.cell 4
          have z5 := hbr4.cell 5
          have z6 := hbr4.cell 6
          have y0 := hbr4.free 0
          have y1 := hbr4.free 1
          have y2 := hbr4.free 2
          have y3 := hbr4.free 3
          have y4 := hbr4.free 4
          have y5 := hbr4.free 5
          have y6 := hbr4.free 6
          have HB4 := Lib.hid hbr4
          unfold pca at b0 b1 b2 b3 b4 b5 b6
          unfold pcz at z0 z1 z2 z3 z4 z5 z6
          simp only [List.getElem?_toArray, List.getElem?_cons_zero, List.getElem?_cons_succ] at b0 b1 b2 b3 b4 b5 b6 z0 z1 z2 z3 z4 z5 z6
          clear hbx4 hbr4
          go_wp2_with fail
          obtain ⟨wb, hwb⟩ : ∃ wb, wb = put7 wa gr p := ⟨_, rfl⟩
          have hb5 : Bk wb gr 35 (pca p) := by rw [hwb]; exact put7_bk p HB4.out
          have hf5 : Fr (fun k => k = gr) wa wb := by rw [hwb]; exact put7_fr wa _ p
          unfold put7 at hwb
          rw [← hwb]
          clear hwb b0 b1 b2 b3 b4 b5 b6 z0 z1 z2 z3 z4 z5 z6
          have b0 := hb5.cell 0
          have b1 := hb5.cell 1
          have b2 := hb5.cell 2
          have b3 := hb5.cell 3
          have b4 := hb5.cell 4
          have b5 := hb5.cell 5
          have b6 := hb5.cell 6
          unfold pca at b0 b1 b2 b3 b4 b5 b6
          simp only [List.getElem?_toArray, List.getElem?_cons_zero, List.getElem?_cons_succ] at b0 b1 b2 b3 b4 b5 b6
          have HY := Lib.hid (HPOST.out _ _ _ _ HZ.out.1 HZ.out.2 hf5)
          clear HZ HPOST
          refine bodyPost_ret (v := .tuple #[.agg #[.int .i64 p.src, .int .i64 p.dst, .int .u64 p.ep, .int .u64 p.pe, .int .u64 p.sq, .int .u64 p.ak, .slice p.d.1 p.d.2.2.length p.d.2.1], .bool true]) (by rw [results_cell_tmp rfl]; go_simp) rfl HY.out
      · have oN : w6.cell? ⟨m, 0, none⟩ = some (.slice (some ⟨q, 0, none⟩) qs.length c) := (HL5.out.nofr HFw6.out).bk.cell 0
        go_simp
        clear oN
        clear hHeld
        refine hK.out _ _ ?_ (fun hHeld => ?_)
        · trivial
        clear hK K
        try simp only [Act.put, List.setIfInBounds_toArray, List.set_cons_zero, List.set_cons_succ]
        refine wpAnyH_take (i := 7) (oi := ⟨some 26, _, _, _, _, _⟩) (v := ?_) rfl (by kernel_rfl) (by kernel_rfl) (by kernel_rfl) (fun _ _ _ h => h) (Or.inl ⟨by rfl, ?_⟩) (by assumption) ?_
        rotate_left 1
        · (intro w hSw; (try dsimp only at hSw); go_simp) <;> (with_reducible rfl)
        try simp only [Act.put, List.setIfInBounds_toArray, List.set_cons_zero, List.set_cons_succ]
        refine wpAnyH_ready (rs := [1, 12]) (by kernel_rfl) (by simp) ?_
        refine AllReadyH.cons (o := ⟨some 20, _, _, _, _, _⟩) rfl (fun K hK => ?_) (AllReadyH.cons (o := ⟨some 31, _, _, _, _, _⟩) rfl (fun K hK => ?_) AllReadyH.nil)
        · go_simp
          obtain ⟨w86, hw86⟩ : ∃ w86, w86 = w6.alloc (.cells #[] 35) := ⟨_, rfl⟩
          obtain ⟨e1, he1⟩ : ∃ e1, e1 = w6.heap.size := ⟨_, rfl⟩
          have hfr : Fr NoBlk w6 w86 := by rw [hw86]; exact (Fr.refl _ _).alloc _
          have HFw86 : Hid (Fr NoBlk w5 w86) := HFw6.out.trans hfr
          have HEw86 : Hid (w86.ownsRow w5.heap.size 35 7 (.slice (some ⟨e1, 0, none⟩) 0 0) 0 []) := by show World.ownsRow _ _ _ _ _ _ _; rw [hw86, he1]; exact own_base (World.ownsRow_made w6 #[] 0 (Nat.le_refl _) (by decide) rfl) HFw6.out.size
          rw [← hw86, ← he1]
          clear hw86 hfr he1
          clear hHeld
          refine hK.out _ _ ?_ (fun hHeld => ?_)
          · trivial
          clear hK K
          try simp only [Act.put, List.setIfInBounds_toArray, List.set_cons_zero, List.set_cons_succ]
          refine wpAnyH_ready (rs := [8, 12]) (by kernel_rfl) (by simp) ?_
          refine AllReadyH.cons (o := ⟨some 27, _, _, _, _, _⟩) rfl (fun K hK => ?_) (AllReadyH.cons (o := ⟨some 31, _, _, _, _, _⟩) rfl (fun K hK => ?_) AllReadyH.nil)
          · refine step_appN rfl _ _ 27 rfl w5.heap.size 35 i0 _ 7 72 Try.underlying27 hi hz0 hz1 hz2 rfl (by decide) (.slice (some ⟨e1, 0, none⟩) 0 0) 0 [] rfl HEw86.out (some ⟨q, 0, none⟩) c j (pcsc (qs.take j)) rfl (by rw [pcsc_len, List.length_take, Nat.min_eq_left (Nat.le_of_lt HJ.out)]) (by rw [← pcsc_take]; exact (Rd.of_ownN (HL5.out.nofr HFw86.out).own).take _) (pcsc_one _) (fun h => by cases h) ?q1 ?q2 HFw86.out.size ?_
            case q1 => have := HL5.out.few; have := HJ.out; unfold maxLen; omega
            case q2 => have := HL5.out.few; have := HJ.out; omega
            intro v6 w87 ho6 hg6 hb6
            simp only [Nat.zero_add, List.nil_append] at ho6
            obtain ⟨A6, c6, rfl, _, _⟩ := own_form ho6
            have HOw87 : Hid (w87.ownsRow w5.heap.size 35 7 (.slice A6 j c6) j (pcsc (qs.take j))) := ho6
            have HFw87 : Hid (Fr NoBlk w5 w87) := HFw86.out.grown hg6 (fun k hk hlt => by have := (own_blk HEw86.out hk).1; omega)
            try dsimp only
            clear ho6 hg6 hb6
            clear hHeld
            refine hK.out _ _ ?_ (fun hHeld => ?_)
            · trivial
            clear hK K
            try simp only [Act.put, List.setIfInBounds_toArray, List.set_cons_zero, List.set_cons_succ]
            refine wpAnyH_ready (rs := [12]) (by kernel_rfl) (by simp) ?_
            refine AllReadyH.cons (o := ⟨some 31, _, _, _, _, _⟩) rfl (fun K hK => ?_) AllReadyH.nil
            have oN : w87.cell? ⟨m, 0, none⟩ = some (.slice (some ⟨q, 0, none⟩) qs.length c) := (HL5.out.nofr HFw87.out).bk.cell 0
            go_simp
            clear oN
            clear hHeld
            refine hK.out _ _ ?_ (fun hHeld => ?_)
            · trivial
            clear hK K
            try simp only [Act.put, List.setIfInBounds_toArray, List.set_cons_zero, List.set_cons_succ]
            refine wpAnyH_take (i := 15) (oi := ⟨some 34, _, _, _, _, _⟩) (v := ?_) rfl (by kernel_rfl) (by kernel_rfl) (by kernel_rfl) (fun _ _ _ h => h) (Or.inl ⟨by rfl, ?_⟩) (by assumption) ?_
            rotate_left 1
            · (intro w hSw; (try dsimp only at hSw); go_simp) <;> (with_reducible rfl)
            try simp only [Act.put, List.setIfInBounds_toArray, List.set_cons_zero, List.set_cons_succ]
            refine wpAnyH_ready (rs := [16]) (by kernel_rfl) (by simp) ?_
            refine AllReadyH.cons (o := ⟨some 35, _, _, _, _, _⟩) rfl (fun K hK => ?_) AllReadyH.nil
            refine step_appN rfl _ _ 27 rfl w5.heap.size 35 i0 _ 7 72 Try.underlying27 hi hz0 hz1 hz2 rfl (by decide) (.slice A6 j c6) j (pcsc (qs.take j)) rfl HOw87.out (some ⟨q, (j + 1) * 7, none⟩) (c - (j + 1)) (qs.length - (j + 1)) (pcsc (qs.drop (j + 1))) rfl (by rw [pcsc_len, List.length_drop]) (HBH.out _ HFw87.out) (pcsc_one _) (fun h => by cases h) ?q1 ?q2 HFw87.out.size ?_
            case q1 => have := HL5.out.few; have := HJ.out; unfold maxLen; omega
            case q2 => have := HL5.out.few; have := HJ.out; omega
            intro v9 w9 ho9 hg9 hb9
            obtain ⟨A9, c9, rfl, _, _⟩ := own_form ho9
            have HF9 : Hid (Fr NoBlk w5 w9) := HFw87.out.grown hg9 (fun k hk hlt => by have := (own_blk HOw87.out hk).1; omega)
            have HS := Lib.hid (HL5.out.put HF9.out (q := p) (n' := j + (qs.length - (j + 1))) (ps := qs.eraseIdx j) (by have := HJ.out; rw [List.length_eraseIdx, if_pos HJ.out]; omega) (by rw [← pcsc_erase, pcsc_take, pcsc_drop]; exact ho9) (fun x hx => .inl (List.mem_of_mem_eraseIdx hx)) HPI.out (by have := HL5.out.few; have := HJ.out; omega))
            have oN : w9.cell? ⟨m, 0, none⟩ = some (.slice (some ⟨q, 0, none⟩) qs.length c) := HS.out.1.cell 0
            have fN := HS.out.1.free 0
            clear ho9 hg9 hb9
            clear hHeld
            refine hK.out _ _ ?_ (fun hHeld => ?_)
            · trivial
            clear hK K
            try simp only [Act.put, List.setIfInBounds_toArray, List.set_cons_zero, List.set_cons_succ]
            refine wpAnyH_take (i := 17) (oi := ⟨some 36, _, _, _, _, _⟩) (v := ?_) rfl (by kernel_rfl) (by kernel_rfl) (by kernel_rfl) (fun _ _ _ h => h) (Or.inl ⟨by rfl, ?_⟩) (by assumption) ?_
            rotate_left 1
            · (intro w hSw; (try dsimp only at hSw); go_simp) <;> (with_reducible rfl)
            try simp only [Act.put, List.setIfInBounds_toArray, List.set_cons_zero, List.set_cons_succ]
            refine wpAnyH_take (i := 18) (oi := ⟨some 37, _, _, _, _, _⟩) (v := ?_) rfl (by kernel_rfl) (by kernel_rfl) (by kernel_rfl) (fun _ _ _ h => h) (Or.inl ⟨by rfl, ?_⟩) (by assumption) ?_
            rotate_left 1
            · (intro w hSw; (try dsimp only at hSw); go_simp) <;> (with_reducible rfl)
            try simp only [Act.put, List.setIfInBounds_toArray, List.set_cons_zero, List.set_cons_succ]
            refine wpAnyH_ready (rs := [19]) (by kernel_rfl) (by simp) ?_
            refine AllReadyH.cons (o := ⟨none, _, _, _, _, _⟩) rfl (fun K hK => ?_) AllReadyH.nil
            go_simp
            clear hHeld
            refine hK.out _ _ ?_ (fun hHeld => ?_)
            · trivial
            clear hK K
            try simp only [Act.put, List.setIfInBounds_toArray, List.set_cons_zero, List.set_cons_succ]
            refine wpAnyH_done (by kernel_rfl) ?_ _
            clear hHeld
            obtain ⟨wa, hwa⟩ : ∃ wa, wa = w9.setCell ⟨m, 0, none⟩ (.slice A9 (j + (qs.length - (j + 1))) c9) := ⟨_, rfl⟩
            have HZ := Lib.hid HS.out.2
            rw [← hwa] at HZ ⊢
            have hbx4 : Bk wa gx 35 (pca p) := by rw [hwa]; exact (HBX.out.fr HF9.out (fun h => h)).far (by have := HGM.out; show _ ≠ m; omega) _
            have hbr4 : Bk wa gr 35 pcz := by rw [hwa]; exact (HBR.out.fr HF9.out (fun h => h)).far (by have := HGM.out; show _ ≠ m; omega) _
            clear hwa HS HF9 oN fN
            have b0 := hbx4.cell 0
            have b1 := hbx4.cell 1
            have b2 := hbx4.cell 2
            have b3 := hbx4.cell 3
            have b4 := hbx4.cell 4
            have b5 := hbx4.cell 5
            have b6 := hbx4.cell 6
            have z0 := hbr4.cell 0
            have z1 := hbr4.cell 1
            have z2 := hbr4.cell 2
            have z3 := hbr4.cell 3
            have z4 := hbr4.cell 4
            have z5 := hbr4.cell 5
            have z6 := hbr4.cell 6
            have y0 := hbr4.free 0
            have y1 := hbr4.free 1
            have y2 := hbr4.free 2
            have y3 := hbr4.free 3
            have y4 := hbr4.free 4
            have y5 := hbr4.free 5
            have y6 := hbr4.free 6
            have HB4 := Lib.hid hbr4
            unfold pca at b0 b1 b2 b3 b4 b5 b6
            unfold pcz at z0 z1 z2 z3 z4 z5 z6
            simp only [List.getElem?_toArray, List.getElem?_cons_zero, List.getElem?_cons_succ] at b0 b1 b2 b3 b4 b5 b6 z0 z1 z2 z3 z4 z5 z6
            clear hbx4 hbr4
            go_wp2_with fail
            obtain ⟨wb, hwb⟩ : ∃ wb, wb = put7 wa gr p := ⟨_, rfl⟩
            have hb5 : Bk wb gr 35 (pca p) := by rw [hwb]; exact put7_bk p HB4.out
            have hf5 : Fr (fun k => k = gr) wa wb := by rw [hwb]; exact put7_fr wa _ p
            unfold put7 at hwb
            rw [← hwb]
            clear hwb b0 b1 b2 b3 b4 b5 b6 z0 z1 z2 z3 z4 z5 z6
            have b0 := hb5.cell 0
            have b1 := hb5.cell 1
            have b2 := hb5.cell 2
            have b3 := hb5.cell 3
            have b4 := hb5.cell 4
            have b5 := hb5.cell 5
            have b6 := hb5.cell 6
            unfold pca at b0 b1 b2 b3 b4 b5 b6
            simp only [List.getElem?_toArray, List.getElem?_cons_zero, List.getElem?_cons_succ] at b0 b1 b2 b3 b4 b5 b6
            have HY := Lib.hid (HPOST.out _ _ _ _ HZ.out.1 HZ.out.2 hf5)
            clear HZ HPOST
            refine bodyPost_ret (v := .tuple #[.agg #[.int .i64 p.src, .int .i64 p.dst, .int .u64 p.ep, .int .u64 p.pe, .int .u64 p.sq, .int .u64 p.ak, .slice p.d.1 p.d.2.2.length p.d.2.1], .bool true]) (by rw [results_cell_tmp rfl]; go_simp) rfl HY.out
          · have oN : w86.cell? ⟨m, 0, none⟩ = some (.slice (some ⟨q, 0, none⟩) qs.length c) := (HL5.out.nofr HFw86.out).bk.cell 0
            go_simp
            clear oN
            clear hHeld
            refine hK.out _ _ ?_ (fun hHeld => ?_)
            · trivial
            clear hK K
            try simp only [Act.put, List.setIfInBounds_toArray, List.set_cons_zero, List.set_cons_succ]
            refine wpAnyH_take (i := 15) (oi := ⟨some 34, _, _, _, _, _⟩) (v := ?_) rfl (by kernel_rfl) (by kernel_rfl) (by kernel_rfl) (fun _ _ _ h => h) (Or.inl ⟨by rfl, ?_⟩) (by assumption) ?_
            rotate_left 1
            · (intro w hSw; (try dsimp only at hSw); go_simp) <;> (with_reducible rfl)
            try simp only [Act.put, List.setIfInBounds_toArray, List.set_cons_zero, List.set_cons_succ]
            refine wpAnyH_ready (rs := [8]) (by kernel_rfl) (by simp) ?_
            refine AllReadyH.cons (o := ⟨some 27, _, _, _, _, _⟩) rfl (fun K hK => ?_) AllReadyH.nil
            refine step_appN rfl _ _ 27 rfl w5.heap.size 35 i0 _ 7 72 Try.underlying27 hi hz0 hz1 hz2 rfl (by decide) (.slice (some ⟨e1, 0, none⟩) 0 0) 0 [] rfl HEw86.out (some ⟨q, 0, none⟩) c j (pcsc (qs.take j)) rfl (by rw [pcsc_len, List.length_take, Nat.min_eq_left (Nat.le_of_lt HJ.out)]) (by rw [← pcsc_take]; exact (Rd.of_ownN (HL5.out.nofr HFw86.out).own).take _) (pcsc_one _) (fun h => by cases h) ?q1 ?q2 HFw86.out.size ?_
            case q1 => have := HL5.out.few; have := HJ.out; unfold maxLen; omega
            case q2 => have := HL5.out.few; have := HJ.out; omega
            intro v6 w88 ho6 hg6 hb6
            simp only [Nat.zero_add, List.nil_append] at ho6
            obtain ⟨A6, c6, rfl, _, _⟩ := own_form ho6
            have HOw88 : Hid (w88.ownsRow w5.heap.size 35 7 (.slice A6 j c6) j (pcsc (qs.take j))) := ho6
            have HFw88 : Hid (Fr NoBlk w5 w88) := HFw86.out.grown hg6 (fun k hk hlt => by have := (own_blk HEw86.out hk).1; omega)
            try dsimp only
            clear ho6 hg6 hb6
            clear hHeld
            refine hK.out _ _ ?_ (fun hHeld => ?_)
            · trivial
            clear hK K
            try simp only [Act.put, List.setIfInBounds_toArray, List.set_cons_zero, List.set_cons_succ]
            refine wpAnyH_ready (rs := [16]) (by kernel_rfl) (by simp) ?_
            refine AllReadyH.cons (o := ⟨some 35, _, _, _, _, _⟩) rfl (fun K hK => ?_) AllReadyH.nil
            refine step_appN rfl _ _ 27 rfl w5.heap.size 35 i0 _ 7 72 Try.underlying27 hi hz0 hz1 hz2 rfl (by decide) (.slice A6 j c6) j (pcsc (qs.take j)) rfl HOw88.out (some ⟨q, (j + 1) * 7, none⟩) (c - (j + 1)) (qs.length - (j + 1)) (pcsc (qs.drop (j + 1))) rfl (by rw [pcsc_len, List.length_drop]) (HBH.out _ HFw88.out) (pcsc_one _) (fun h => by cases h) ?q1 ?q2 HFw88.out.size ?_
            case q1 => have := HL5.out.few; have := HJ.out; unfold maxLen; omega
            case q2 => have := HL5.out.few; have := HJ.out; omega
            intro v9 w9 ho9 hg9 hb9
            obtain ⟨A9, c9, rfl, _, _⟩ := own_form ho9
            have HF9 : Hid (Fr NoBlk w5 w9) := HFw88.out.grown hg9 (fun k hk hlt => by have := (own_blk HOw88.out hk).1; omega)
            have HS := Lib.hid (HL5.out.put HF9.out (q := p) (n' := j + (qs.length - (j + 1))) (ps := qs.eraseIdx j) (by have := HJ.out; rw [List.length_eraseIdx, if_pos HJ.out]; omega) (by rw [← pcsc_erase, pcsc_take, pcsc_drop]; exact ho9) (fun x hx => .inl (List.mem_of_mem_eraseIdx hx)) HPI.out (by have := HL5.out.few; have := HJ.out; omega))
            have oN : w9.cell? ⟨m, 0, none⟩ = some (.slice (some ⟨q, 0, none⟩) qs.length c) := HS.out.1.cell 0
            have fN := HS.out.1.free 0
            clear ho9 hg9 hb9
            clear hHeld
            refine hK.out _ _ ?_ (fun hHeld => ?_)
            · trivial
            clear hK K
            try simp only [Act.put, List.setIfInBounds_toArray, List.set_cons_zero, List.set_cons_succ]
            refine wpAnyH_take (i := 17) (oi := ⟨some 36, _, _, _, _, _⟩) (v := ?_) rfl (by kernel_rfl) (by kernel_rfl) (by kernel_rfl) (fun _ _ _ h => h) (Or.inl ⟨by rfl, ?_⟩) (by assumption) ?_
            rotate_left 1
            · (intro w hSw; (try dsimp only at hSw); go_simp) <;> (with_reducible rfl)
            try simp only [Act.put, List.setIfInBounds_toArray, List.set_cons_zero, List.set_cons_succ]
            refine wpAnyH_take (i := 18) (oi := ⟨some 37, _, _, _, _, _⟩) (v := ?_) rfl (by kernel_rfl) (by kernel_rfl) (by kernel_rfl) (fun _ _ _ h => h) (Or.inl ⟨by rfl, ?_⟩) (by assumption) ?_
            rotate_left 1
            · (intro w hSw; (try dsimp only at hSw); go_simp) <;> (with_reducible rfl)
            try simp only [Act.put, List.setIfInBounds_toArray, List.set_cons_zero, List.set_cons_succ]
            refine wpAnyH_ready (rs := [19]) (by kernel_rfl) (by simp) ?_
            refine AllReadyH.cons (o := ⟨none, _, _, _, _, _⟩) rfl (fun K hK => ?_) AllReadyH.nil
            go_simp
            clear hHeld
            refine hK.out _ _ ?_ (fun hHeld => ?_)
            · trivial
            clear hK K
            try simp only [Act.put, List.setIfInBounds_toArray, List.set_cons_zero, List.set_cons_succ]
            refine wpAnyH_done (by kernel_rfl) ?_ _
            clear hHeld
            obtain ⟨wa, hwa⟩ : ∃ wa, wa = w9.setCell ⟨m, 0, none⟩ (.slice A9 (j + (qs.length - (j + 1))) c9) := ⟨_, rfl⟩
            have HZ := Lib.hid HS.out.2
            rw [← hwa] at HZ ⊢
            have hbx4 : Bk wa gx 35 (pca p) := by rw [hwa]; exact (HBX.out.fr HF9.out (fun h => h)).far (by have := HGM.out; show _ ≠ m; omega) _
            have hbr4 : Bk wa gr 35 pcz := by rw [hwa]; exact (HBR.out.fr HF9.out (fun h => h)).far (by have := HGM.out; show _ ≠ m; omega) _
            clear hwa HS HF9 oN fN
            have b0 := hbx4.cell 0
            have b1 := hbx4.cell 1
            have b2 := hbx4.cell 2
            have b3 := hbx4.cell 3
            have b4 := hbx4.cell 4
            have b5 := hbx4.cell 5
            have b6 := hbx4.cell 6
            have z0 := hbr4.cell 0
            have z1 := hbr4.cell 1
            have z2 := hbr4.cell 2
            have z3 := hbr4.cell 3
            have z4 := hbr4.cell 4
            have z5 := hbr4.cell 5
            have z6 := hbr4.cell 6
            have y0 := hbr4.free 0
            have y1 := hbr4.free 1
            have y2 := hbr4.free 2
            have y3 := hbr4.free 3
            have y4 := hbr4.free 4
            have y5 := hbr4.free 5
            have y6 := hbr4.free 6
            have HB4 := Lib.hid hbr4
            unfold pca at b0 b1 b2 b3 b4 b5 b6
            unfold pcz at z0 z1 z2 z3 z4 z5 z6
            simp only [List.getElem?_toArray, List.getElem?_cons_zero, List.getElem?_cons_succ] at b0 b1 b2 b3 b4 b5 b6 z0 z1 z2 z3 z4 z5 z6
            clear hbx4 hbr4
            go_wp2_with fail
            obtain ⟨wb, hwb⟩ : ∃ wb, wb = put7 wa gr p := ⟨_, rfl⟩
            have hb5 : Bk wb gr 35 (pca p) := by rw [hwb]; exact put7_bk p HB4.out
            have hf5 : Fr (fun k => k = gr) wa wb := by rw [hwb]; exact put7_fr wa _ p
            unfold put7 at hwb
            rw [← hwb]
            clear hwb b0 b1 b2 b3 b4 b5 b6 z0 z1 z2 z3 z4 z5 z6
            have b0 := hb5.cell 0
            have b1 := hb5.cell 1
            have b2 := hb5.cell 2
            have b3 := hb5.cell 3
            have b4 := hb5.cell 4
            have b5 := hb5.cell 5
            have b6 := hb5.cell 6
            unfold pca at b0 b1 b2 b3 b4 b5 b6
            simp only [List.getElem?_toArray, List.getElem?_cons_zero, List.getElem?_cons_succ] at b0 b1 b2 b3 b4 b5 b6
            have HY := Lib.hid (HPOST.out _ _ _ _ HZ.out.1 HZ.out.2 hf5)
            clear HZ HPOST
            refine bodyPost_ret (v := .tuple #[.agg #[.int .i64 p.src, .int .i64 p.dst, .int .u64 p.ep, .int .u64 p.pe, .int .u64 p.sq, .int .u64 p.ak, .slice p.d.1 p.d.2.2.length p.d.2.1], .bool true]) (by rw [results_cell_tmp rfl]; go_simp) rfl HY.out
        · have oN : w6.cell? ⟨m, 0, none⟩ = some (.slice (some ⟨q, 0, none⟩) qs.length c) := (HL5.out.nofr HFw6.out).bk.cell 0
          go_simp
          clear oN
          clear hHeld
          refine hK.out _ _ ?_ (fun hHeld => ?_)
          · trivial
          clear hK K
          try simp only [Act.put, List.setIfInBounds_toArray, List.set_cons_zero, List.set_cons_succ]
          refine wpAnyH_take (i := 15) (oi := ⟨some 34, _, _, _, _, _⟩) (v := ?_) rfl (by kernel_rfl) (by kernel_rfl) (by kernel_rfl) (fun _ _ _ h => h) (Or.inl ⟨by rfl, ?_⟩) (by assumption) ?_
          rotate_left 1
          · (intro w hSw; (try dsimp only at hSw); go_simp) <;> (with_reducible rfl)
          try simp only [Act.put, List.setIfInBounds_toArray, List.set_cons_zero, List.set_cons_succ]
          refine wpAnyH_ready (rs := [1]) (by kernel_rfl) (by simp) ?_
          refine AllReadyH.cons (o := ⟨some 20, _, _, _, _, _⟩) rfl (fun K hK => ?_) AllReadyH.nil
          go_simp
          obtain ⟨w89, hw89⟩ : ∃ w89, w89 = w6.alloc (.cells #[] 35) := ⟨_, rfl⟩
          obtain ⟨e1, he1⟩ : ∃ e1, e1 = w6.heap.size := ⟨_, rfl⟩
          have hfr : Fr NoBlk w6 w89 := by rw [hw89]; exact (Fr.refl _ _).alloc _
          have HFw89 : Hid (Fr NoBlk w5 w89) := HFw6.out.trans hfr
          have HEw89 : Hid (w89.ownsRow w5.heap.size 35 7 (.slice (some ⟨e1, 0, none⟩) 0 0) 0 []) := by show World.ownsRow _ _ _ _ _ _ _; rw [hw89, he1]; exact own_base (World.ownsRow_made w6 #[] 0 (Nat.le_refl _) (by decide) rfl) HFw6.out.size
          rw [← hw89, ← he1]
          clear hw89 hfr he1
          clear hHeld
          refine hK.out _ _ ?_ (fun hHeld => ?_)
          · trivial
          clear hK K
          try simp only [Act.put, List.setIfInBounds_toArray, List.set_cons_zero, List.set_cons_succ]
          refine wpAnyH_ready (rs := [8]) (by kernel_rfl) (by simp) ?_
          refine AllReadyH.cons (o := ⟨some 27, _, _, _, _, _⟩) rfl (fun K hK => ?_) AllReadyH.nil
          refine step_appN rfl _ _ 27 rfl w5.heap.size 35 i0 _ 7 72 Try.underlying27 hi hz0 hz1 hz2 rfl (by decide) (.slice (some ⟨e1, 0, none⟩) 0 0) 0 [] rfl HEw89.out (some ⟨q, 0, none⟩) c j (pcsc (qs.take j)) rfl (by rw [pcsc_len, List.length_take, Nat.min_eq_left (Nat.le_of_lt HJ.out)]) (by rw [← pcsc_take]; exact (Rd.of_ownN (HL5.out.nofr HFw89.out).own).take _) (pcsc_one _) (fun h => by cases h) ?q1 ?q2 HFw89.out.size ?_
          case q1 => have := HL5.out.few; have := HJ.out; unfold maxLen; omega
          case q2 => have := HL5.out.few; have := HJ.out; omega
          intro v6 w90 ho6 hg6 hb6
          simp only [Nat.zero_add, List.nil_append] at ho6
          obtain ⟨A6, c6, rfl, _, _⟩ := own_form ho6
          have HOw90 : Hid (w90.ownsRow w5.heap.size 35 7 (.slice A6 j c6) j (pcsc (qs.take j))) := ho6
          have HFw90 : Hid (Fr NoBlk w5 w90) := HFw89.out.grown hg6 (fun k hk hlt => by have := (own_blk HEw89.out hk).1; omega)
          try dsimp only
          clear ho6 hg6 hb6
          clear hHeld
          refine hK.out _ _ ?_ (fun hHeld => ?_)
          · trivial
          clear hK K
          try simp only [Act.put, List.setIfInBounds_toArray, List.set_cons_zero, List.set_cons_succ]
          refine wpAnyH_ready (rs := [16]) (by kernel_rfl) (by simp) ?_
          refine AllReadyH.cons (o := ⟨some 35, _, _, _, _, _⟩) rfl (fun K hK => ?_) AllReadyH.nil
          refine step_appN rfl _ _ 27 rfl w5.heap.size 35 i0 _ 7 72 Try.underlying27 hi hz0 hz1 hz2 rfl (by decide) (.slice A6 j c6) j (pcsc (qs.take j)) rfl HOw90.out (some ⟨q, (j + 1) * 7, none⟩) (c - (j + 1)) (qs.length - (j + 1)) (pcsc (qs.drop (j + 1))) rfl (by rw [pcsc_len, List.length_drop]) (HBH.out _ HFw90.out) (pcsc_one _) (fun h => by cases h) ?q1 ?q2 HFw90.out.size ?_
          case q1 => have := HL5.out.few; have := HJ.out; unfold maxLen; omega
          case q2 => have := HL5.out.few; have := HJ.out; omega
          intro v9 w9 ho9 hg9 hb9
          obtain ⟨A9, c9, rfl, _, _⟩ := own_form ho9
          have HF9 : Hid (Fr NoBlk w5 w9) := HFw90.out.grown hg9 (fun k hk hlt => by have := (own_blk HOw90.out hk).1; omega)
          have HS := Lib.hid (HL5.out.put HF9.out (q := p) (n' := j + (qs.length - (j + 1))) (ps := qs.eraseIdx j) (by have := HJ.out; rw [List.length_eraseIdx, if_pos HJ.out]; omega) (by rw [← pcsc_erase, pcsc_take, pcsc_drop]; exact ho9) (fun x hx => .inl (List.mem_of_mem_eraseIdx hx)) HPI.out (by have := HL5.out.few; have := HJ.out; omega))
          have oN : w9.cell? ⟨m, 0, none⟩ = some (.slice (some ⟨q, 0, none⟩) qs.length c) := HS.out.1.cell 0
          have fN := HS.out.1.free 0
          clear ho9 hg9 hb9
          clear hHeld
          refine hK.out _ _ ?_ (fun hHeld => ?_)
          · trivial
          clear hK K
          try simp only [Act.put, List.setIfInBounds_toArray, List.set_cons_zero, List.set_cons_succ]
          refine wpAnyH_take (i := 17) (oi := ⟨some 36, _, _, _, _, _⟩) (v := ?_) rfl (by kernel_rfl) (by kernel_rfl) (by kernel_rfl) (fun _ _ _ h => h) (Or.inl ⟨by rfl, ?_⟩) (by assumption) ?_
          rotate_left 1
          · (intro w hSw; (try dsimp only at hSw); go_simp) <;> (with_reducible rfl)
          try simp only [Act.put, List.setIfInBounds_toArray, List.set_cons_zero, List.set_cons_succ]
          refine wpAnyH_take (i := 18) (oi := ⟨some 37, _, _, _, _, _⟩) (v := ?_) rfl (by kernel_rfl) (by kernel_rfl) (by kernel_rfl) (fun _ _ _ h => h) (Or.inl ⟨by rfl, ?_⟩) (by assumption) ?_
          rotate_left 1
          · (intro w hSw; (try dsimp only at hSw); go_simp) <;> (with_reducible rfl)
          try simp only [Act.put, List.setIfInBounds_toArray, List.set_cons_zero, List.set_cons_succ]
          refine wpAnyH_ready (rs := [19]) (by kernel_rfl) (by simp) ?_
          refine AllReadyH.cons (o := ⟨none, _, _, _, _, _⟩) rfl (fun K hK => ?_) AllReadyH.nil
          go_simp
          clear hHeld
          refine hK.out _ _ ?_ (fun hHeld => ?_)
          · trivial
          clear hK K
          try simp only [Act.put, List.setIfInBounds_toArray, List.set_cons_zero, List.set_cons_succ]
          refine wpAnyH_done (by kernel_rfl) ?_ _
          clear hHeld
          obtain ⟨wa, hwa⟩ : ∃ wa, wa = w9.setCell ⟨m, 0, none⟩ (.slice A9 (j + (qs.length - (j + 1))) c9) := ⟨_, rfl⟩
          have HZ := Lib.hid HS.out.2
          rw [← hwa] at HZ ⊢
          have hbx4 : Bk wa gx 35 (pca p) := by rw [hwa]; exact (HBX.out.fr HF9.out (fun h => h)).far (by have := HGM.out; show _ ≠ m; omega) _
          have hbr4 : Bk wa gr 35 pcz := by rw [hwa]; exact (HBR.out.fr HF9.out (fun h => h)).far (by have := HGM.out; show _ ≠ m; omega) _
          clear hwa HS HF9 oN fN
          have b0 := hbx4.cell 0
          have b1 := hbx4.cell 1
          have b2 := hbx4.cell 2
          have b3 := hbx4.cell 3
          have b4 := hbx4.cell 4
          have b5 := hbx4.cell 5
          have b6 := hbx4.cell 6
          have z0 := hbr4.cell 0
          have z1 := hbr4.cell 1
          have z2 := hbr4.cell 2
          have z3 := hbr4.cell 3
          have z4 := hbr4.cell 4
          have z5 := hbr4.cell 5
          have z6 := hbr4.cell 6
          have y0 := hbr4.free 0
          have y1 := hbr4.free 1
          have y2 := hbr4.free 2
          have y3 := hbr4.free 3
          have y4 := hbr4.free 4
          have y5 := hbr4.free 5
          have y6 := hbr4.free 6
          have HB4 := Lib.hid hbr4
          unfold pca at b0 b1 b2 b3 b4 b5 b6
          unfold pcz at z0 z1 z2 z3 z4 z5 z6
          simp only [List.getElem?_toArray, List.getElem?_cons_zero, List.getElem?_cons_succ] at b0 b1 b2 b3 b4 b5 b6 z0 z1 z2 z3 z4 z5 z6
          clear hbx4 hbr4
          go_wp2_with fail
          obtain ⟨wb, hwb⟩ : ∃ wb, wb = put7 wa gr p := ⟨_, rfl⟩
          have hb5 : Bk wb gr 35 (pca p) := by rw [hwb]; exact put7_bk p HB4.out
          have hf5 : Fr (fun k => k = gr) wa wb := by rw [hwb]; exact put7_fr wa _ p
          unfold put7 at hwb
          rw [← hwb]
          clear hwb b0 b1 b2 b3 b4 b5 b6 z0 z1 z2 z3 z4 z5 z6
          have b0 := hb5.cell 0
          have b1 := hb5.cell 1
          have b2 := hb5.cell 2
          have b3 := hb5.cell 3
          have b4 := hb5.cell 4
          have b5 := hb5.cell 5
          have b6 := hb5.cell 6
          unfold pca at b0 b1 b2 b3 b4 b5 b6
          simp only [List.getElem?_toArray, List.getElem?_cons_zero, List.getElem?_cons_succ] at b0 b1 b2 b3 b4 b5 b6
          have HY := Lib.hid (HPOST.out _ _ _ _ HZ.out.1 HZ.out.2 hf5)
          clear HZ HPOST
          refine bodyPost_ret (v := .tuple #[.agg #[.int .i64 p.src, .int .i64 p.dst, .int .u64 p.ep, .int .u64 p.pe, .int .u64 p.sq, .int .u64 p.ak, .slice p.d.1 p.d.2.2.length p.d.2.1], .bool true]) (by rw [results_cell_tmp rfl]; go_simp) rfl HY.out
      · have oN : w6.cell? ⟨m, 0, none⟩ = some (.slice (some ⟨q, 0, none⟩) qs.length c) := (HL5.out.nofr HFw6.out).bk.cell 0
        go_simp
        clear oN
        clear hHeld
        refine hK.out _ _ ?_ (fun hHeld => ?_)
        · trivial
        clear hK K
        try simp only [Act.put, List.setIfInBounds_toArray, List.set_cons_zero, List.set_cons_succ]
        refine wpAnyH_take (i := 15) (oi := ⟨some 34, _, _, _, _, _⟩) (v := ?_) rfl (by kernel_rfl) (by kernel_rfl) (by kernel_rfl) (fun _ _ _ h => h) (Or.inl ⟨by rfl, ?_⟩) (by assumption) ?_
        rotate_left 1
        · (intro w hSw; (try dsimp only at hSw); go_simp) <;> (with_reducible rfl)
        try simp only [Act.put, List.setIfInBounds_toArray, List.set_cons_zero, List.set_cons_succ]
        refine wpAnyH_ready (rs := [1, 5]) (by kernel_rfl) (by simp) ?_
        refine AllReadyH.cons (o := ⟨some 20, _, _, _, _, _⟩) rfl (fun K hK => ?_) (AllReadyH.cons (o := ⟨some 24, _, _, _, _, _⟩) rfl (fun K hK => ?_) AllReadyH.nil)
        · go_simp
          obtain ⟨w91, hw91⟩ : ∃ w91, w91 = w6.alloc (.cells #[] 35) := ⟨_, rfl⟩
          obtain ⟨e1, he1⟩ : ∃ e1, e1 = w6.heap.size := ⟨_, rfl⟩
          have hfr : Fr NoBlk w6 w91 := by rw [hw91]; exact (Fr.refl _ _).alloc _
          have HFw91 : Hid (Fr NoBlk w5 w91) := HFw6.out.trans hfr
          have HEw91 : Hid (w91.ownsRow w5.heap.size 35 7 (.slice (some ⟨e1, 0, none⟩) 0 0) 0 []) := by show World.ownsRow _ _ _ _ _ _ _; rw [hw91, he1]; exact own_base (World.ownsRow_made w6 #[] 0 (Nat.le_refl _) (by decide) rfl) HFw6.out.size
          rw [← hw91, ← he1]
          clear hw91 hfr he1
          clear hHeld
          refine hK.out _ _ ?_ (fun hHeld => ?_)
          · trivial
          clear hK K
          try simp only [Act.put, List.setIfInBounds_toArray, List.set_cons_zero, List.set_cons_succ]
          refine wpAnyH_ready (rs := [5]) (by kernel_rfl) (by simp) ?_
          refine AllReadyH.cons (o := ⟨some 24, _, _, _, _, _⟩) rfl (fun K hK => ?_) AllReadyH.nil
          have oN : w91.cell? ⟨m, 0, none⟩ = some (.slice (some ⟨q, 0, none⟩) qs.length c) := (HL5.out.nofr HFw91.out).bk.cell 0
          go_simp
          clear oN
          clear hHeld
          refine hK.out _ _ ?_ (fun hHeld => ?_)
          · trivial
          clear hK K
          try simp only [Act.put, List.setIfInBounds_toArray, List.set_cons_zero, List.set_cons_succ]
          refine wpAnyH_take (i := 7) (oi := ⟨some 26, _, _, _, _, _⟩) (v := ?_) rfl (by kernel_rfl) (by kernel_rfl) (by kernel_rfl) (fun _ _ _ h => h) (Or.inl ⟨by rfl, ?_⟩) (by assumption) ?_
          rotate_left 1
          · (intro w hSw; (try dsimp only at hSw); go_simp) <;> (with_reducible rfl)
          try simp only [Act.put, List.setIfInBounds_toArray, List.set_cons_zero, List.set_cons_succ]
          refine wpAnyH_ready (rs := [8]) (by kernel_rfl) (by simp) ?_
          refine AllReadyH.cons (o := ⟨some 27, _, _, _, _, _⟩) rfl (fun K hK => ?_) AllReadyH.nil
          refine step_appN rfl _ _ 27 rfl w5.heap.size 35 i0 _ 7 72 Try.underlying27 hi hz0 hz1 hz2 rfl (by decide) (.slice (some ⟨e1, 0, none⟩) 0 0) 0 [] rfl HEw91.out (some ⟨q, 0, none⟩) c j (pcsc (qs.take j)) rfl (by rw [pcsc_len, List.length_take, Nat.min_eq_left (Nat.le_of_lt HJ.out)]) (by rw [← pcsc_take]; exact (Rd.of_ownN (HL5.out.nofr HFw91.out).own).take _) (pcsc_one _) (fun h => by cases h) ?q1 ?q2 HFw91.out.size ?_
          case q1 => have := HL5.out.few; have := HJ.out; unfold maxLen; omega
          case q2 => have := HL5.out.few; have := HJ.out; omega
          intro v6 w92 ho6 hg6 hb6
          simp only [Nat.zero_add, List.nil_append] at ho6
          obtain ⟨A6, c6, rfl, _, _⟩ := own_form ho6
          have HOw92 : Hid (w92.ownsRow w5.heap.size 35 7 (.slice A6 j c6) j (pcsc (qs.take j))) := ho6
          have HFw92 : Hid (Fr NoBlk w5 w92) := HFw91.out.grown hg6 (fun k hk hlt => by have := (own_blk HEw91.out hk).1; omega)
          try dsimp only
          clear ho6 hg6 hb6
          clear hHeld
          refine hK.out _ _ ?_ (fun hHeld => ?_)
          · trivial
          clear hK K
          try simp only [Act.put, List.setIfInBounds_toArray, List.set_cons_zero, List.set_cons_succ]
          refine wpAnyH_ready (rs := [16]) (by kernel_rfl) (by simp) ?_
          refine AllReadyH.cons (o := ⟨some 35, _, _, _, _, _⟩) rfl (fun K hK => ?_) AllReadyH.nil
          refine step_appN rfl _ _ 27 rfl w5.heap.size 35 i0 _ 7 72 Try.underlying27 hi hz0 hz1 hz2 rfl (by decide) (.slice A6 j c6) j (pcsc (qs.take j)) rfl HOw92.out (some ⟨q, (j + 1) * 7, none⟩) (c - (j + 1)) (qs.length - (j + 1)) (pcsc (qs.drop (j + 1))) rfl (by rw [pcsc_len, List.length_drop]) (HBH.out _ HFw92.out) (pcsc_one _) (fun h => by cases h) ?q1 ?q2 HFw92.out.size ?_
          case q1 => have := HL5.out.few; have := HJ.out; unfold maxLen; omega
          case q2 => have := HL5.out.few; have := HJ.out; omega
          intro v9 w9 ho9 hg9 hb9
          obtain ⟨A9, c9, rfl, _, _⟩ := own_form ho9
          have HF9 : Hid (Fr NoBlk w5 w9) := HFw92.out.grown hg9 (fun k hk hlt => by have := (own_blk HOw92.out hk).1; omega)
          have HS := Lib.hid (HL5.out.put HF9.out (q := p) (n' := j + (qs.length - (j + 1))) (ps := qs.eraseIdx j) (by have := HJ.out; rw [List.length_eraseIdx, if_pos HJ.out]; omega) (by rw [← pcsc_erase, pcsc_take, pcsc_drop]; exact ho9) (fun x hx => .inl (List.mem_of_mem_eraseIdx hx)) HPI.out (by have := HL5.out.few; have := HJ.out; omega))
          have oN : w9.cell? ⟨m, 0, none⟩ = some (.slice (some ⟨q, 0, none⟩) qs.length c) := HS.out.1.cell 0
          have fN := HS.out.1.free 0
          clear ho9 hg9 hb9
          clear hHeld
          refine hK.out _ _ ?_ (fun hHeld => ?_)
          · trivial
          clear hK K
          try simp only [Act.put, List.setIfInBounds_toArray, List.set_cons_zero, List.set_cons_succ]
          refine wpAnyH_take (i := 17) (oi := ⟨some 36, _, _, _, _, _⟩) (v := ?_) rfl (by kernel_rfl) (by kernel_rfl) (by kernel_rfl) (fun _ _ _ h => h) (Or.inl ⟨by rfl, ?_⟩) (by assumption) ?_
          rotate_left 1
          · (intro w hSw; (try dsimp only at hSw); go_simp) <;> (with_reducible rfl)
          try simp only [Act.put, List.setIfInBounds_toArray, List.set_cons_zero, List.set_cons_succ]
          refine wpAnyH_take (i := 18) (oi := ⟨some 37, _, _, _, _, _⟩) (v := ?_) rfl (by kernel_rfl) (by kernel_rfl) (by kernel_rfl) (fun _ _ _ h => h) (Or.inl ⟨by rfl, ?_⟩) (by assumption) ?_
          rotate_left 1
          · (intro w hSw; (try dsimp only at hSw); go_simp) <;> (with_reducible rfl)
          try simp only [Act.put, List.setIfInBounds_toArray, List.set_cons_zero, List.set_cons_succ]
          refine wpAnyH_ready (rs := [19]) (by kernel_rfl) (by simp) ?_
          refine AllReadyH.cons (o := ⟨none, _, _, _, _, _⟩) rfl (fun K hK => ?_) AllReadyH.nil
          go_simp
          clear hHeld
          refine hK.out _ _ ?_ (fun hHeld => ?_)
          · trivial
          clear hK K
          try simp only [Act.put, List.setIfInBounds_toArray, List.set_cons_zero, List.set_cons_succ]
          refine wpAnyH_done (by kernel_rfl) ?_ _
          clear hHeld
          obtain ⟨wa, hwa⟩ : ∃ wa, wa = w9.setCell ⟨m, 0, none⟩ (.slice A9 (j + (qs.length - (j + 1))) c9) := ⟨_, rfl⟩
          have HZ := Lib.hid HS.out.2
          rw [← hwa] at HZ ⊢
          have hbx4 : Bk wa gx 35 (pca p) := by rw [hwa]; exact (HBX.out.fr HF9.out (fun h => h)).far (by have := HGM.out; show _ ≠ m; omega) _
          have hbr4 : Bk wa gr 35 pcz := by rw [hwa]; exact (HBR.out.fr HF9.out (fun h => h)).far (by have := HGM.out; show _ ≠ m; omega) _
          clear hwa HS HF9 oN fN
          have b0 := hbx4.cell 0
          have b1 := hbx4.cell 1
          have b2 := hbx4.cell 2
          have b3 := hbx4.cell 3
          have b4 := hbx4.cell 4
          have b5 := hbx4.cell 5
          have b6 := hbx4.cell 6
          have z0 := hbr4.cell 0
          have z1 := hbr4.cell 1
          have z2 := hbr4.cell 2
          have z3 := hbr4.cell 3
          have z4 := hbr4.cell 4
          have z5 := hbr4.cell 5
          have z6 := hbr4.cell 6
          have y0 := hbr4.free 0
          have y1 := hbr4.free 1
          have y2 := hbr4.free 2
          have y3 := hbr4.free 3
          have y4 := hbr4.free 4
          have y5 := hbr4.free 5
          have y6 := hbr4.free 6
          have HB4 := Lib.hid hbr4
          unfold pca at b0 b1 b2 b3 b4 b5 b6
          unfold pcz at z0 z1 z2 z3 z4 z5 z6
          simp only [List.getElem?_toArray, List.getElem?_cons_zero, List.getElem?_cons_succ] at b0 b1 b2 b3 b4 b5 b6 z0 z1 z2 z3 z4 z5 z6
          clear hbx4 hbr4
          go_wp2_with fail
          obtain ⟨wb, hwb⟩ : ∃ wb, wb = put7 wa gr p := ⟨_, rfl⟩
          have hb5 : Bk wb gr 35 (pca p) := by rw [hwb]; exact put7_bk p HB4.out
          have hf5 : Fr (fun k => k = gr) wa wb := by rw [hwb]; exact put7_fr wa _ p
          unfold put7 at hwb
          rw [← hwb]
          clear hwb b0 b1 b2 b3 b4 b5 b6 z0 z1 z2 z3 z4 z5 z6
          have b0 := hb5.cell 0
          have b1 := hb5.cell 1
          have b2 := hb5.cell 2
          have b3 := hb5.cell 3
          have b4 := hb5.cell 4
          have b5 := hb5.cell 5
          have b6 := hb5.cell 6
          unfold pca at b0 b1 b2 b3 b4 b5 b6
          simp only [List.getElem?_toArray, List.getElem?_cons_zero, List.getElem?_cons_succ] at b0 b1 b2 b3 b4 b5 b6
          have HY := Lib.hid (HPOST.out _ _ _ _ HZ.out.1 HZ.out.2 hf5)
          clear HZ HPOST
          refine bodyPost_ret (v := .tuple #[.agg #[.int .i64 p.src, .int .i64 p.dst, .int .u64 p.ep, .int .u64 p.pe, .int .u64 p.sq, .int .u64 p.ak, .slice p.d.1 p.d.2.2.length p.d.2.1], .bool true]) (by rw [results_cell_tmp rfl]; go_simp) rfl HY.out
        · have oN : w6.cell? ⟨m, 0, none⟩ = some (.slice (some ⟨q, 0, none⟩) qs.length c) := (HL5.out.nofr HFw6.out).bk.cell 0
          go_simp
          clear oN
          clear hHeld
          refine hK.out _ _ ?_ (fun hHeld => ?_)
          · trivial
          clear hK K
          try simp only [Act.put, List.setIfInBounds_toArray, List.set_cons_zero, List.set_cons_succ]
          refine wpAnyH_take (i := 7) (oi := ⟨some 26, _, _, _, _, _⟩) (v := ?_) rfl (by kernel_rfl) (by kernel_rfl) (by kernel_rfl) (fun _ _ _ h => h) (Or.inl ⟨by rfl, ?_⟩) (by assumption) ?_
          rotate_left 1
          · (intro w hSw; (try dsimp only at hSw); go_simp) <;> (with_reducible rfl)
          try simp only [Act.put, List.setIfInBounds_toArray, List.set_cons_zero, List.set_cons_succ]
          refine wpAnyH_ready (rs := [1]) (by kernel_rfl) (by simp) ?_
          refine AllReadyH.cons (o := ⟨some 20, _, _, _, _, _⟩) rfl (fun K hK => ?_) AllReadyH.nil
          go_simp
          obtain ⟨w93, hw93⟩ : ∃ w93, w93 = w6.alloc (.cells #[] 35) := ⟨_, rfl⟩
          obtain ⟨e1, he1⟩ : ∃ e1, e1 = w6.heap.size := ⟨_, rfl⟩
          have hfr : Fr NoBlk w6 w93 := by rw [hw93]; exact (Fr.refl _ _).alloc _
          have HFw93 : Hid (Fr NoBlk w5 w93) := HFw6.out.trans hfr
          have HEw93 : Hid (w93.ownsRow w5.heap.size 35 7 (.slice (some ⟨e1, 0, none⟩) 0 0) 0 []) := by show World.ownsRow _ _ _ _ _ _ _; rw [hw93, he1]; exact own_base (World.ownsRow_made w6 #[] 0 (Nat.le_refl _) (by decide) rfl) HFw6.out.size
          rw [← hw93, ← he1]
          clear hw93 hfr he1
          clear hHeld
          refine hK.out _ _ ?_ (fun hHeld => ?_)
          · trivial
          clear hK K
          try simp only [Act.put, List.setIfInBounds_toArray, List.set_cons_zero, List.set_cons_succ]
          refine wpAnyH_ready (rs := [8]) (by kernel_rfl) (by simp) ?_
          refine AllReadyH.cons (o := ⟨some 27, _, _, _, _, _⟩) rfl (fun K hK => ?_) AllReadyH.nil
          refine step_appN rfl _ _ 27 rfl w5.heap.size 35 i0 _ 7 72 Try.underlying27 hi hz0 hz1 hz2 rfl (by decide) (.slice (some ⟨e1, 0, none⟩) 0 0) 0 [] rfl HEw93.out (some ⟨q, 0, none⟩) c j (pcsc (qs.take j)) rfl (by rw [pcsc_len, List.length_take, Nat.min_eq_left (Nat.le_of_lt HJ.out)]) (by rw [← pcsc_take]; exact (Rd.of_ownN (HL5.out.nofr HFw93.out).own).take _) (pcsc_one _) (fun h => by cases h) ?q1 ?q2 HFw93.out.size ?_
          case q1 => have := HL5.out.few; have := HJ.out; unfold maxLen; omega
          case q2 => have := HL5.out.few; have := HJ.out; omega
          intro v6 w94 ho6 hg6 hb6
          simp only [Nat.zero_add, List.nil_append] at ho6
          obtain ⟨A6, c6, rfl, _, _⟩ := own_form ho6
          have HOw94 : Hid (w94.ownsRow w5.heap.size 35 7 (.slice A6 j c6) j (pcsc (qs.take j))) := ho6
          have HFw94 : Hid (Fr NoBlk w5 w94) := HFw93.out.grown hg6 (fun k hk hlt => by have := (own_blk HEw93.out hk).1; omega)
          try dsimp only
          clear ho6 hg6 hb6
          clear hHeld
          refine hK.out _ _ ?_ (fun hHeld => ?_)
          · trivial
          clear hK K
          try simp only [Act.put, List.setIfInBounds_toArray, List.set_cons_zero, List.set_cons_succ]
          refine wpAnyH_ready (rs := [16]) (by kernel_rfl) (by simp) ?_
          refine AllReadyH.cons (o := ⟨some 35, _, _, _, _, _⟩) rfl (fun K hK => ?_) AllReadyH.nil
          refine step_appN rfl _ _ 27 rfl w5.heap.size 35 i0 _ 7 72 Try.underlying27 hi hz0 hz1 hz2 rfl (by decide) (.slice A6 j c6) j (pcsc (qs.take j)) rfl HOw94.out (some ⟨q, (j + 1) * 7, none⟩) (c - (j + 1)) (qs.length - (j + 1)) (pcsc (qs.drop (j + 1))) rfl (by rw [pcsc_len, List.length_drop]) (HBH.out _ HFw94.out) (pcsc_one _) (fun h => by cases h) ?q1 ?q2 HFw94.out.size ?_
          case q1 => have := HL5.out.few; have := HJ.out; unfold maxLen; omega
          case q2 => have := HL5.out.few; have := HJ.out; omega
          intro v9 w9 ho9 hg9 hb9
          obtain ⟨A9, c9, rfl, _, _⟩ := own_form ho9
          have HF9 : Hid (Fr NoBlk w5 w9) := HFw94.out.grown hg9 (fun k hk hlt => by have := (own_blk HOw94.out hk).1; omega)
          have HS := Lib.hid (HL5.out.put HF9.out (q := p) (n' := j + (qs.length - (j + 1))) (ps := qs.eraseIdx j) (by have := HJ.out; rw [List.length_eraseIdx, if_pos HJ.out]; omega) (by rw [← pcsc_erase, pcsc_take, pcsc_drop]; exact ho9) (fun x hx => .inl (List.mem_of_mem_eraseIdx hx)) HPI.out (by have := HL5.out.few; have := HJ.out; omega))
          have oN : w9.cell? ⟨m, 0, none⟩ = some (.slice (some ⟨q, 0, none⟩) qs.length c) := HS.out.1.cell 0
          have fN := HS.out.1.free 0
          clear ho9 hg9 hb9
          clear hHeld
          refine hK.out _ _ ?_ (fun hHeld => ?_)
          · trivial
          clear hK K
          try simp only [Act.put, List.setIfInBounds_toArray, List.set_cons_zero, List.set_cons_succ]
          refine wpAnyH_take (i := 17) (oi := ⟨some 36, _, _, _, _, _⟩) (v := ?_) rfl (by kernel_rfl) (by kernel_rfl) (by kernel_rfl) (fun _ _ _ h => h) (Or.inl ⟨by rfl, ?_⟩) (by assumption) ?_
          rotate_left 1
          · (intro w hSw; (try dsimp only at hSw); go_simp) <;> (with_reducible rfl)
          try simp only [Act.put, List.setIfInBounds_toArray, List.set_cons_zero, List.set_cons_succ]
          refine wpAnyH_take (i := 18) (oi := ⟨some 37, _, _, _, _, _⟩) (v := ?_) rfl (by kernel_rfl) (by kernel_rfl) (by kernel_rfl) (fun _ _ _ h => h) (Or.inl ⟨by rfl, ?_⟩) (by assumption) ?_
          rotate_left 1
          · (intro w hSw; (try dsimp only at hSw); go_simp) <;> (with_reducible rfl)
          try simp only [Act.put, List.setIfInBounds_toArray, List.set_cons_zero, List.set_cons_succ]
          refine wpAnyH_ready (rs := [19]) (by kernel_rfl) (by simp) ?_
          refine AllReadyH.cons (o := ⟨none, _, _, _, _, _⟩) rfl (fun K hK => ?_) AllReadyH.nil
          go_simp
          clear hHeld
          refine hK.out _ _ ?_ (fun hHeld => ?_)
          · trivial
          clear hK K
          try simp only [Act.put, List.setIfInBounds_toArray, List.set_cons_zero, List.set_cons_succ]
          refine wpAnyH_done (by kernel_rfl) ?_ _
          clear hHeld
          obtain ⟨wa, hwa⟩ : ∃ wa, wa = w9.setCell ⟨m, 0, none⟩ (.slice A9 (j + (qs.length - (j + 1))) c9) := ⟨_, rfl⟩
          have HZ := Lib.hid HS.out.2
          rw [← hwa] at HZ ⊢
          have hbx4 : Bk wa gx 35 (pca p) := by rw [hwa]; exact (HBX.out.fr HF9.out (fun h => h)).far (by have := HGM.out; show _ ≠ m; omega) _
          have hbr4 : Bk wa gr 35 pcz := by rw [hwa]; exact (HBR.out.fr HF9.out (fun h => h)).far (by have := HGM.out; show _ ≠ m; omega) _
          clear hwa HS HF9 oN fN
          have b0 := hbx4.cell 0
          have b1 := hbx4.cell 1
          have b2 := hbx4.cell 2
          have b3 := hbx4.cell 3
          have b4 := hbx4.cell 4
          have b5 := hbx4.cell 5
          have b6 := hbx4.cell 6
          have z0 := hbr4.cell 0
          have z1 := hbr4.cell 1
          have z2 := hbr4.cell 2
          have z3 := hbr4.cell 3
          have z4 := hbr4.cell 4
          have z5 := hbr4.cell 5
          have z6 := hbr4.cell 6
          have y0 := hbr4.free 0
          have y1 := hbr4.free 1
          have y2 := hbr4.free 2
          have y3 := hbr4.free 3
          have y4 := hbr4.free 4
          have y5 := hbr4.free 5
          have y6 := hbr4.free 6
          have HB4 := Lib.hid hbr4
          unfold pca at b0 b1 b2 b3 b4 b5 b6
          unfold pcz at z0 z1 z2 z3 z4 z5 z6
          simp only [List.getElem?_toArray, List.getElem?_cons_zero, List.getElem?_cons_succ] at b0 b1 b2 b3 b4 b5 b6 z0 z1 z2 z3 z4 z5 z6
          clear hbx4 hbr4
          go_wp2_with fail
          obtain ⟨wb, hwb⟩ : ∃ wb, wb = put7 wa gr p := ⟨_, rfl⟩
          have hb5 : Bk wb gr 35 (pca p) := by rw [hwb]; exact put7_bk p HB4.out
          have hf5 : Fr (fun k => k = gr) wa wb := by rw [hwb]; exact put7_fr wa _ p
          unfold put7 at hwb
          rw [← hwb]
          clear hwb b0 b1 b2 b3 b4 b5 b6 z0 z1 z2 z3 z4 z5 z6
          have b0 := hb5.cell 0
          have b1 := hb5.cell 1
          have b2 := hb5.cell 2
          have b3 := hb5.cell 3
          have b4 := hb5.cell 4
          have b5 := hb5.cell 5
          have b6 := hb5.cell 6
          unfold pca at b0 b1 b2 b3 b4 b5 b6
          simp only [List.getElem?_toArray, List.getElem?_cons_zero, List.getElem?_cons_succ] at b0 b1 b2 b3 b4 b5 b6
          have HY := Lib.hid (HPOST.out _ _ _ _ HZ.out.1 HZ.out.2 hf5)
          clear HZ HPOST
          refine bodyPost_ret (v := .tuple #[.agg #[.int .i64 p.src, .int .i64 p.dst, .int .u64 p.ep, .int .u64 p.pe, .int .u64 p.sq, .int .u64 p.ak, .slice p.d.1 p.d.2.2.length p.d.2.1], .bool true]) (by rw [results_cell_tmp rfl]; go_simp) rfl HY.out
  · have hb' : hasB qs.length k = false := by simpa using hb
    have HPJ : Hid (¬ hasB qs.length k = true) := hb
    rw [hb'] at HHS
    clear hb hb'
    obtain ⟨c0, c1, c2, c3, c4, c5, c6⟩ : w1.cell? ⟨gr, 0, none⟩ = some (.int .i64 0) ∧ w1.cell? ⟨gr, 1, none⟩ = some (.int .i64 0) ∧ w1.cell? ⟨gr, 2, none⟩ = some (.int .u64 0) ∧ w1.cell? ⟨gr, 3, none⟩ = some (.int .u64 0) ∧ w1.cell? ⟨gr, 4, none⟩ = some (.int .u64 0) ∧ w1.cell? ⟨gr, 5, none⟩ = some (.int .u64 0) ∧ w1.cell? ⟨gr, 6, none⟩ = some (.slice none 0 0) := ⟨HB1.out.cell 0, HB1.out.cell 1, HB1.out.cell 2, HB1.out.cell 3, HB1.out.cell 4, HB1.out.cell 5, HB1.out.cell 6⟩
    have y0 := HB1.out.free 0
    have y1 := HB1.out.free 1
    have y2 := HB1.out.free 2
    have y3 := HB1.out.free 3
    have y4 := HB1.out.free 4
    have y5 := HB1.out.free 5
    have y6 := HB1.out.free 6
    have HGR : Hid (W.heap.size ≤ gr) := by show _ ≤ _; omega
    go_enter Try.func9, Try.ntmps9
    go_wp2_with fail
    rw [← hw1, ← hgr]
    clear hw1 hgr
    refine HHS.out.mono ?_
    rintro e w' ⟨rfl, rfl⟩
    clear HHS
    go_wp2_with fail
    obtain ⟨w5, hw5⟩ : ∃ w5, w5 = put7 w1 gr ⟨0, 0, 0, 0, 0, 0, none, 0, []⟩ := ⟨_, rfl⟩
    have hb5 : Bk w5 gr 35 (pca ⟨0, 0, 0, 0, 0, 0, none, 0, []⟩) := by rw [hw5]; exact put7_bk _ HB1.out
    have hf5 : Fr (fun k => k = gr) w1 w5 := by rw [hw5]; exact put7_fr w1 _ _
    unfold put7 at hw5
    simp only [List.length_nil] at hw5
    rw [← hw5]
    clear hw5 c0 c1 c2 c3 c4 c5 c6
    have b0 := hb5.cell 0
    have b1 := hb5.cell 1
    have b2 := hb5.cell 2
    have b3 := hb5.cell 3
    have b4 := hb5.cell 4
    have b5 := hb5.cell 5
    have b6 := hb5.cell 6
    unfold pca at b0 b1 b2 b3 b4 b5 b6
    simp only [List.getElem?_toArray, List.getElem?_cons_zero, List.getElem?_cons_succ, List.length_nil] at b0 b1 b2 b3 b4 b5 b6
    have HZ : Hid (RTakePost R w W m qs k (.returned (.tuple #[.agg #[.int .i64 0, .int .i64 0, .int .u64 0, .int .u64 0, .int .u64 0, .int .u64 0, .slice none 0 0], .bool false])) w5) := by
      show RTakePost _ _ _ _ _ _ _ _
      rw [HP.out, if_neg HPJ.out]
      exact ⟨rfl, HF1.out.step hf5 (fun k hk e => by have := HGR.out; omega)⟩
    clear HP
    refine bodyPost_ret (v := .tuple #[.agg #[.int .i64 0, .int .i64 0, .int .u64 0, .int .u64 0, .int .u64 0, .int .u64 0, .slice none 0 0], .bool false]) (by rw [results_cell_tmp rfl]; go_simp) rfl HZ.out
end Go.Proofs.Ytdfmoijomnjdiaa
