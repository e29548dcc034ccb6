/- The document's Keys. Conditions: the transaction is small. -/
import Derived.Test.YtakbjjohfcgaoaaInsP
import Derived.Test.YtakbjjohfcgaoaaRef
import Derived.Test.YtakbjjohfcgaoaaRight4
namespace Go.Proofs.Ytakbjjohfcgaoaa
open Go.RowKit

def DKeysPost (w : World) (rs ws : List Bs) (e : Ending) (w' : World) : Prop := ∃ A c ks, e = .returned (.slice A ks.length c) ∧ IsKeys ks rs ws ∧ Rd w' A (sts ks) ∧ ks.length ≤ maxLen ∧ Fr NoBlk w w'

theorem sts_swap (q suf : List Bs) (x y : Bs) : ((sts ((q ++ [y]) ++ x :: suf)).set (q.length + 1) (st y)).set q.length (st x) = sts (q ++ x :: y :: suf) := by
  induction q with
  | nil => rfl
  | cons a q ih => exact congrArg (List.cons (st a)) ih

theorem sts_at1 (q suf : List Bs) (x y : Bs) : (sts ((q ++ [y]) ++ x :: suf))[q.length + 1]? = some (.string (bstr x)) := by
  induction q with
  | nil => rfl
  | cons a q ih => exact ih
theorem sts_at0 (q suf : List Bs) (x y : Bs) : (sts ((q ++ [y]) ++ x :: suf))[q.length]? = some (.string (bstr y)) := by
  induction q with
  | nil => rfl
  | cons a q ih => exact ih
/-- the outer loop's state. -/
structure OSt (w w2 w4 : World) (al : List Bs) (A4 : Option Addr) (i : Nat) (v : Value) (ks : List Bs) (wr : World) : Prop where
  own : wr.ownsRow w.heap.size 9 1 v ks.length (sts ks)
  ins : InSt al i ks
  le : ks.length ≤ i
  ap : ∀ k, v.ownBlock = some k → k < w2.heap.size ∨ w4.heap.size ≤ k
  fr : Fr NoBlk w wr
  rd : Rd wr A4 (sts al)
  sz : w4.heap.size ≤ wr.heap.size

theorem OSt.drewN {w w2 w4 : World} {al : List Bs} {A4 : Option Addr} {i : Nat} {v : Value} {ks : List Bs} {wr : World} (h : OSt w w2 w4 al A4 i v ks wr) (n : Nat) : OSt w w2 w4 al A4 i v ks (wr.drewN n) :=
  ⟨h.own, h.ins, h.le, h.ap, h.fr.drewN n, h.rd, h.sz⟩
theorem OSt.next {w w2 w4 : World} {al : List Bs} {A4 : Option Addr} {i : Nat} {v : Value} {ks : List Bs} {wo w8 wq : World} (h : OSt w w2 w4 al A4 i v ks wo) (hA4 : ∀ k, ablk A4 k → w2.heap.size ≤ k ∧ k < w4.heap.size)
    {o : Obj} {g c8 m : Nat} {x : Bs} {pre suf : List Bs} (hx : al[i]? = some x) (hm : x ∉ ks) (hins : Ins ks x pre suf) (he : pre = [] ∨ ∃ q y, pre = q ++ [y] ∧ Op.bytesLess x y = false)
    (hgr : (wo.alloc o).grownBy w8 v.ownBlock) (hb8 : (Value.slice (some ⟨g, 0, none⟩) m c8).ownBlock = v.ownBlock ∨ (Value.slice (some ⟨g, 0, none⟩) m c8).ownBlock = some (wo.alloc o).heap.size)
    (hfi : Fr (fun k => k = g) w8 wq) (how : wq.ownsRow w.heap.size 9 1 (.slice (some ⟨g, 0, none⟩) m c8) m (sts (pre ++ x :: suf))) (hm1 : m = ks.length + 1) :
    OSt w w2 w4 al A4 (i + 1) (.slice (some ⟨g, 0, none⟩) m c8) (pre ++ x :: suf) wq := by
  have hlen : (pre ++ x :: suf).length = m := by rw [hm1, hins.eq]; simp; omega
  have hsz1 : (wo.alloc o).heap.size = wo.heap.size + 1 := by simp
  have hap : ∀ k, (Value.slice (some ⟨g, 0, none⟩) m c8).ownBlock = some k → k < w2.heap.size ∨ w4.heap.size ≤ k := by
    intro k hk
    rcases hb8 with e | e
    · exact h.ap k (e ▸ hk)
    · rw [e] at hk
      injection hk with hk
      have := h.sz
      omega
  have hfa : Fr NoBlk wo (wo.alloc o) := (Fr.refl _ _).alloc _
  have hvl : ∀ k, v.ownBlock = some k → w.heap.size ≤ k := fun k hk => (own_blk h.own hk).1
  have hg8 := hap g rfl
  have hgw : w.heap.size ≤ g := (own_blk how (k := g) rfl).1
  refine ⟨by rw [hlen]; exact how, h.ins.put hx hm hins he, by rw [hlen, hm1]; have := h.le; omega, hap, ?_, ?_, ?_⟩
  · exact ((h.fr.trans hfa).grown hgr (fun k hk hlt => absurd (hvl k hk) (by omega))).step hfi (fun k hk e => by omega)
  · have r8 : Rd w8 A4 (sts al) := (h.rd.nofr hfa).fr' (Fr.ofGrown hgr) (fun hp k hk e => by
      have h1 := hA4 k hk
      rcases h.ap k e.symm with h2 | h2 <;> omega)
    exact r8.fr' hfi (fun hp k hk e => by
      have h1 := hA4 k hk
      omega)
  · have h1 := hgr.size
    have h2 := hfi.size
    have h3 := h.sz
    omega

set_option maxRecDepth 100000 in
set_option maxHeartbeats 4000000 in
theorem dkeys_any (w : World) (t : Tx) (ht : TxIn w t) (hs : Small t) :
    Calls Try.prog 30 #[txv t] w (DKeysPost w t.reads t.writes) := by
  obtain ⟨i0, hi, hz0, hz1, hz2⟩ := info_parts strInfo
  have HF : Hid (Fr NoBlk w ((w.alloc (.cells (txa t) 30)).alloc (.cells #[] 9))) := ((Fr.refl _ _).alloc _).alloc _
  have HB := Lib.hid ((Bk.new w 30 (txa t)).alloc (.cells #[] 9))
  have HO0 : Hid (((w.alloc (.cells (txa t) 30)).alloc (.cells #[] 9)).ownsRow w.heap.size 9 1 (.slice (some ⟨w.heap.size + 1, 0, none⟩) 0 0) 0 []) := own_new (by simp) (by simp)
  have HT := Lib.hid ht
  have hrn := hs.r
  have hwn := hs.w
  clear ht hs
  unfold txa at HF HB HO0
  unfold txv txa
  go_enter Try.func30, Try.ntmps30
  go_wp2_with fail
  have hwz : w.heap.size + 2 = ((w.alloc (.cells #[.int .i64 t.kind, .slice t.ra t.reads.length t.rc, .slice t.wa t.writes.length t.wc, .slice t.oa t.ops.length t.oc, .int .i64 t.to] 30)).alloc (.cells #[] 9)).heap.size := by simp
  generalize hW : (w.alloc _).alloc _ = w2 at *
  have HWZ := Lib.hid hwz
  have hwl2 : w.heap.size < w2.heap.size := by omega
  have d1 : w2.cell? ⟨w.heap.size, 1, none⟩ = some (.slice t.ra t.reads.length t.rc) := HB.out.cell 1
  have d2 : w2.cell? ⟨w.heap.size, 2, none⟩ = some (.slice t.wa t.writes.length t.wc) := HB.out.cell 2
  clear hW hwz
  have HR1 : Hid (Rd (w2.alloc (.cells #[] 9)).drew t.ra (sts t.reads)) := HT.out.reads.nofr (HF.out.trans (((Fr.refl _ _).alloc _).drew))
  have HO1 : Hid ((w2.alloc (.cells #[] 9)).drew.ownsRow w2.heap.size 9 1 (.slice (some ⟨w2.heap.size, 0, none⟩) 0 0) 0 []) := (own_new rfl (Nat.le_refl _) : (w2.alloc (.cells #[] 9)).ownsRow w2.heap.size 9 1 _ 0 [])
  have HFB : Hid (Fr NoBlk w2 (w2.alloc (.cells #[] 9)).drew) := ((Fr.refl _ _).alloc _).drew
  go_region_held3 (fun w' => w'.cell? ⟨w.heap.size, 1, none⟩ = some (.slice t.ra t.reads.length t.rc) ∧ w'.cell? ⟨w.heap.size, 2, none⟩ = some (.slice t.wa t.writes.length t.wc))
    ((first | with_reducible exact hk4 | with_reducible exact hk3 | go_keep)) (first
    | (refine step_app rfl (.tmp 9) (.tmp 11) 27 rfl w2.heap.size 9 i0 (.string ByteArray.empty) 16 Try.underlying27 hi hz0 hz1 hz2 rfl (.slice (some ⟨w2.heap.size, 0, none⟩) 0 0) 0 [] rfl HO1.out t.ra t.rc t.reads.length (sts t.reads) rfl (sts_len _) HR1.out (sts_one _) HT.out.rl.2.2 (by unfold maxLen; omega) (by omega) (by simp) ?_
       intro v3 w3 hown3 hgr3 _ _
       have HF3 : Hid (Fr NoBlk w2 w3) := HFB.out.grown hgr3 (fun k hk hlt => absurd hk (by simp [Value.ownBlock]; omega))
       have hk3 : w3.cell? ⟨w.heap.size, 1, none⟩ = some (.slice t.ra t.reads.length t.rc) ∧ w3.cell? ⟨w.heap.size, 2, none⟩ = some (.slice t.wa t.writes.length t.wc) := ⟨(HF3.out.cell (p := ⟨w.heap.size, 1, none⟩) hwl2 (fun h => h)).trans d1, (HF3.out.cell (p := ⟨w.heap.size, 2, none⟩) hwl2 (fun h => h)).trans d2⟩
       have HO3 := Lib.hid hown3
       clear hown3 hgr3)
    | (refine step_app rfl (.tmp 12) (.tmp 14) 27 rfl w2.heap.size 9 i0 (.string ByteArray.empty) 16 Try.underlying27 hi hz0 hz1 hz2 rfl v3 (0 + t.reads.length) ([] ++ sts t.reads) rfl HO3.out t.wa t.wc t.writes.length (sts t.writes) rfl (sts_len _) (HT.out.writes.nofr (HF.out.trans HF3.out)) (sts_one _) HT.out.wl.2.2 (by unfold maxLen; omega) (by omega) HF3.out.size ?_
       intro v4 w4 hown4 hgr4 _ _
       have HF4 : Hid (Fr NoBlk w2 w4) := HF3.out.grown hgr4 (fun k hk hlt => absurd (own_blk HO3.out hk).1 (by omega))
       have hk4 : w4.cell? ⟨w.heap.size, 1, none⟩ = some (.slice t.ra t.reads.length t.rc) ∧ w4.cell? ⟨w.heap.size, 2, none⟩ = some (.slice t.wa t.writes.length t.wc) := ⟨(HF4.out.cell (p := ⟨w.heap.size, 1, none⟩) hwl2 (fun h => h)).trans d1, (HF4.out.cell (p := ⟨w.heap.size, 2, none⟩) hwl2 (fun h => h)).trans d2⟩
       have HO4 := Lib.hid hown4
       clear hown4 hgr4))
  obtain ⟨al, hal⟩ : ∃ al, al = t.reads ++ t.writes := ⟨_, rfl⟩
  have HAL := Lib.hid hal
  have hown4 := HO4.out
  rw [List.nil_append, ← sts_append, ← hal, show 0 + t.reads.length + t.writes.length = al.length by rw [hal, List.length_append]; omega] at hown4
  obtain ⟨A4, c4, rfl, _, _⟩ := own_form hown4
  have hal80 : al.length ≤ 80 := by rw [hal, List.length_append]; omega
  have HRK : Hid (Rd w4 A4 (sts al)) := Rd.of_own hown4
  have HA4 : Hid (∀ k, ablk A4 k → w2.heap.size ≤ k ∧ k < w4.heap.size) := fun k hk => own_blk hown4 (by obtain ⟨b, hb, rfl⟩ := hk; rw [hb]; rfl)
  have hlen4 : 0 + t.reads.length + t.writes.length = al.length := by rw [hal, List.length_append]; omega
  have HO2 : Hid (w4.ownsRow w.heap.size 9 1 (.slice (some ⟨w.heap.size + 1, 0, none⟩) 0 0) 0 []) := own_fr HO0.out HF4.out (fun _ _ h => h)
  have HF5 := Lib.hid (HF.out.trans HF4.out)
  clear hown4 hlen4 hal hk3 HO1 HR1 HFB HO3 HO4 d1 d2 HF3 HO0
  go_wp2_with fail
  have HST : Hid (OSt w w2 w4 al A4 0 (.slice (some ⟨w.heap.size + 1, 0, none⟩) 0 0) [] w4) := ⟨HO2.out, InSt.start al, Nat.le_refl _, (fun k hk => by simp [Value.ownBlock] at hk; have := HWZ.out; left; omega), HF5.out, HRK.out, Nat.le_refl _⟩
  go_loopw [3, 5] (fun v z wr => ∃ (i : Nat) (ks : List Bs), i ≤ al.length ∧ z = .int .i64 i ∧ ks.length ≤ i ∧ Hid (OSt w w2 w4 al A4 i v ks wr)) (fun _ z _ => al.length - (intOf z).toNat)
  case atStart => exact ⟨0, [], by omega, rfl, Nat.le_refl _, HST⟩
  case round =>
    obtain ⟨i, ks, hi4, rfl, hki, HH⟩ := hrel
    obtain ⟨wo, rfl⟩ : ∃ wo, wo = wr := ⟨_, rfl⟩
    obtain ⟨A, c, rfl, _, _⟩ := own_form HH.out.own
    by_cases hlt : i < al.length
    · obtain ⟨b, o, hA, hcell⟩ := HH.out.rd.text (k := i) hlt
      obtain ⟨x, hx⟩ : ∃ x, al[i]? = some x := ⟨_, List.getElem?_eq_getElem hlt⟩
      rw [List.getD_eq_getElem?_getD, hx, Option.getD_some] at hcell
      have HX := Lib.hid hx
      have HIN := Lib.hid (in_any wo A _ c ks x rfl (Rd.of_own HH.out.own) (by unfold maxLen; omega))
      rw [hA]
      have HHA := Lib.hid hA
      clear hA hx
      go_wp2_with fail
      refine HIN.out.mono ?_
      rintro e w5 ⟨rfl, rfl⟩
      cases hb : inB ks x
      rotate_left
      · have HN : Hid (OSt w w2 w4 al A4 (i + 1) (.slice A ks.length c) ks wo) := ⟨HH.out.own, HH.out.ins.skip HX.out ((inB_iff _ _).1 hb), by omega, HH.out.ap, HH.out.fr, HH.out.rd, HH.out.sz⟩
        go_wp2_with fail
        go_roundw
        case rel => exact ⟨i + 1, ks, by omega, by go_num, by omega, by rw [← HHA.out]; exact HN⟩
        case measure => simp [intOf]; omega
      · have HNB : Hid (x ∉ ks) := fun h => by rw [(inB_iff _ _).2 h] at hb; cases hb
        clear hb
        have HO7 : Hid ((wo.alloc (.cells #[.string (bstr x)] 9)).ownsRow w.heap.size 9 1 (.slice A ks.length c) ks.length (sts ks)) := own_fr HH.out.own ((Fr.refl _ _).alloc _) (fun _ _ h => h)
        have HR7 : Hid (Rd (wo.alloc (.cells #[.string (bstr x)] 9)) (some ⟨wo.heap.size, 0, none⟩) [.string (bstr x)]) := Rd.of_cells (Bk.new wo 9 #[.string (bstr x)])
        have HSB : Hid (w.heap.size ≤ (wo.alloc (.cells #[.string (bstr x)] 9)).heap.size) := Nat.le_trans HH.out.fr.size (by simp)
        go_wp2_with (at_builtin; refine wpList_app rfl (.tmp 28) (.tmp 33) 27 rfl w.heap.size 9 i0 (.string ByteArray.empty) 16 Try.underlying27 hi hz0 hz1 hz2 rfl (.slice A ks.length c) ks.length (sts ks) rfl HO7.out (some ⟨wo.heap.size, 0, none⟩) 1 1 [.string (bstr x)] rfl rfl HR7.out ?q1 (fun h => by cases h) ?q3 ?q4 HSB.out ?_)
        case q1 => intro u hu; rw [List.mem_singleton.1 hu]; rfl
        case q3 => unfold maxLen; omega
        case q4 => omega
        intro v8 w8 hown8 hgr8 _ hb8
        obtain ⟨g, c8, rfl⟩ : ∃ g c8, v8 = .slice (some ⟨g, 0, none⟩) (ks.length + 1) c8 := by
          rcases hown8.2 with ⟨_, h⟩ | ⟨g, c8, cur, h, _⟩
          · omega
          · exact ⟨g, c8, h⟩
        have HO8 := Lib.hid hown8
        have HG8 := Lib.hid hgr8
        have HB8 := Lib.hid hb8
        clear hown8 hgr8 hb8 hcell
        go_wp2_with fail
        go_loopw [6] (fun z wq => ∃ (pre suf : List Bs), z = .int .i64 (pre.length : Nat) ∧ pre.length ≤ ks.length ∧ Hid (wq.ownsRow w.heap.size 9 1 (.slice (some ⟨g, 0, none⟩) (ks.length + 1) c8) (ks.length + 1) (sts (pre ++ x :: suf))) ∧ Hid (Ins ks x pre suf) ∧ Hid (Fr (fun k => k = g) w8 wq)) (fun z _ => (intOf z).toNat)
        case atStart => exact ⟨ks, [], by first | rfl | go_num, Nat.le_refl _, by rw [sts_append]; exact HO8, Ins.start ks x, Fr.refl _ _⟩
        case round =>
          obtain ⟨pre, suf, rfl, hpk, HOW, HINS, HFI⟩ := hrel
          have HEX : Hid ((pre = [] ∨ ∃ q y, pre = q ++ [y] ∧ Op.bytesLess x y = false) → OSt w w2 w4 al A4 (i + 1) (.slice (some ⟨g, 0, none⟩) (ks.length + 1) c8) (pre ++ x :: suf) wr) := fun he => HH.out.next HA4.out HX.out HNB.out HINS.out he HG8.out (by simpa using HB8.out) HFI.out HOW.out rfl
          have HEL : Hid ((pre ++ x :: suf).length = ks.length + 1) := by
            have h := congrArg List.length HINS.out.eq
            show _ = _
            rw [List.length_append] at h ⊢
            rw [List.length_cons]
            omega
          rcases List.eq_nil_or_concat pre with rfl | ⟨q, y, hq⟩
          · have HN := Lib.hid (HEX.out (.inl rfl))
            clear HEX
            go_wp2_with fail
            go_quiet (fail)
            go_wp2
            go_roundw
            case rel => exact ⟨i + 1, [] ++ x :: suf, by omega, by go_num, by rw [HEL.out]; omega, by rw [← HHA.out]; exact HN.out.drewN _⟩
            case measure => simp [intOf]; omega
          · rw [List.concat_eq_append] at hq
            subst hq
            have p1 : wr.cell? ⟨g, q.length + 1, none⟩ = some (.string (bstr x)) := (HOW.out.cellAt (q.length + 1) (by rw [List.length_append, List.length_singleton] at hpk; omega)).trans (sts_at1 q suf x y)
            have p0 : wr.cell? ⟨g, q.length, none⟩ = some (.string (bstr y)) := (HOW.out.cellAt q.length (by rw [List.length_append, List.length_singleton] at hpk; omega)).trans (sts_at0 q suf x y)
            have f1 := HOW.out.frozenAt (q.length + 1)
            have f0 := HOW.out.frozenAt q.length
            have e3 := bstr_toList x
            have e4 := bstr_toList y
            rw [List.length_append, List.length_singleton] at hpk ⊢
            have k0 : (0 : Int) < ((q.length + 1 : Nat) : Int) := by omega
            have k1 : (0 : Int) ≤ (q.length : Int) := by omega
            have k2 : (q.length : Int) < (ks.length : Int) + 1 := by omega
            have k3 : (q.length : Int) + 1 < (ks.length : Int) + 1 := by omega
            have k4 : IntKind.i64.wrap ((q.length : Int) + 1 - 1) = (q.length : Int) := by rw [IntWalk.i64_in _ (by omega)]; omega
            cases hb : Op.bytesLess x y
            · have HN := Lib.hid (HEX.out (.inr ⟨q, y, rfl, hb⟩))
              clear HEX
              go_wp2_with fail
              go_quiet (fail)
              go_wp2
              go_roundw
              case rel => exact ⟨i + 1, (q ++ [y]) ++ x :: suf, by omega, by go_num, by rw [HEL.out]; omega, by rw [← HHA.out]; exact HN.out.drewN _⟩
              case measure => simp [intOf]; omega
            · have HN := Lib.hid (HINS.out.step hb)
              have HO9 : Hid (((wr.setCell ⟨g, q.length + 1, none⟩ (.string (bstr y))).setCell ⟨g, q.length, none⟩ (.string (bstr x))).ownsRow w.heap.size 9 1 (.slice (some ⟨g, 0, none⟩) (ks.length + 1) c8) (ks.length + 1) (sts (q ++ x :: y :: suf))) := by
                have h := (((HOW.out.stored (q.length + 1) (st y)).1).stored q.length (st x)).1
                rw [sts_swap] at h
                exact h
              clear HEX
              go_wp2_with fail
              go_quiet (fail)
              go_wp2
              go_roundw
              case rel => exact ⟨q, y :: suf, by first | rfl | go_num, by omega, HO9.out, HN, Fr.putV (Fr.putV (HFI.out.drewN _))⟩
              case measure => first | (simp [intOf]; done) | (simp [intOf]; omega)
    · have HZ : Hid (IsKeys ks t.reads t.writes) := by
        have h := HH.out.ins
        rw [HAL.out] at h
        exact h.fin (by rw [← HAL.out]; omega)
      go_wp2_with fail
      go_ret
      exact ⟨A, c, ks, rfl, HZ.out, Rd.of_own HH.out.own, by unfold maxLen; omega, HH.out.fr⟩
end Go.Proofs.Ytakbjjohfcgaoaa
