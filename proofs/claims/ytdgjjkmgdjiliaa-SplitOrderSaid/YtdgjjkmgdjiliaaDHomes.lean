/- The document's Homes. Conditions: the order has few marks. -/
import Derived.Test.YtdgjjkmgdjiliaaHomesP
namespace Go.Proofs.Ytdgjjkmgdjiliaa
open Go.RowKit

structure InsI (ks : List Int) (x : Int) (pre suf : List Int) : Prop where
  eq : ks = pre ++ suf
  big : ∀ b ∈ suf, x < b
theorem InsI.start (ks : List Int) (x : Int) : InsI ks x ks [] := ⟨(List.append_nil ks).symm, fun b h => by cases h⟩
theorem InsI.step {ks : List Int} {x y : Int} {pre suf : List Int} (h : InsI ks x (pre ++ [y]) suf) (hl : x < y) : InsI ks x pre (y :: suf) := by
  refine ⟨by rw [h.eq, List.append_assoc]; rfl, fun b hb => ?_⟩
  rcases List.mem_cons.1 hb with rfl | hb
  · exact hl
  · exact h.big b hb
theorem InsI.mem {ks : List Int} {x : Int} {pre suf : List Int} (h : InsI ks x pre suf) (a : Int) : a ∈ pre ++ x :: suf ↔ a ∈ ks ∨ a = x := by
  rw [h.eq]
  simp only [List.mem_append, List.mem_cons]
  constructor
  · rintro (h | h | h)
    · exact .inl (.inl h)
    · exact .inr h
    · exact .inl (.inr h)
  · rintro ((h | h) | h)
    · exact .inl h
    · exact .inr (.inr h)
    · exact .inr (.inl h)
theorem InsI.fin {ks : List Int} {x : Int} {pre suf : List Int} (h : InsI ks x pre suf) (hu : UpI ks) (hx : x ∉ ks) (he : pre = [] ∨ ∃ q y, pre = q ++ [y] ∧ ¬ x < y) : UpI (pre ++ x :: suf) := by
  have hks := h.eq
  rw [hks] at hu hx
  have hp := List.pairwise_append.1 hu
  refine List.pairwise_append.2 ⟨hp.1, List.pairwise_cons.2 ⟨h.big, hp.2.1⟩, fun a ha b hb => ?_⟩
  rcases List.mem_cons.1 hb with rfl | hb
  · rcases he with rfl | ⟨q, y, rfl, hl⟩
    · cases ha
    · have hyx : y < b := by
        have : b ≠ y := fun e => hx (by rw [e]; simp)
        omega
      rcases List.mem_append.1 ha with ha | ha
      · have := (List.pairwise_append.1 hp.1).2.2 a ha y (List.mem_singleton.2 rfl)
        omega
      · rw [List.mem_singleton.1 ha]
        exact hyx
  · exact hp.2.2 a ha b hb

/-- the homes put in so far: rising, and just those of the first i. -/
def InStI (all : List Int) (i : Nat) (ks : List Int) : Prop := UpI ks ∧ ∀ a, a ∈ ks ↔ a ∈ all.take i
theorem InStI.start (all : List Int) : InStI all 0 [] := ⟨List.Pairwise.nil, fun a => by simp⟩
theorem InStI.skip {all : List Int} {i : Nat} {ks : List Int} {x : Int} (h : InStI all i ks) (hx : all[i]? = some x) (hm : x ∈ ks) : InStI all (i + 1) ks := by
  obtain ⟨hi, rfl⟩ := List.getElem?_eq_some_iff.1 hx
  refine ⟨h.1, fun a => ?_⟩
  rw [List.take_succ_eq_append_getElem hi, List.mem_append, List.mem_singleton, ← h.2 a]
  exact ⟨.inl, fun e => e.elim id (fun e => by rw [e]; exact hm)⟩
theorem InStI.put {all : List Int} {i : Nat} {ks pre suf : List Int} {x : Int} (h : InStI all i ks) (hx : all[i]? = some x) (hm : x ∉ ks) (hi : InsI ks x pre suf) (he : pre = [] ∨ ∃ q y, pre = q ++ [y] ∧ ¬ x < y) : InStI all (i + 1) (pre ++ x :: suf) := by
  refine ⟨hi.fin h.1 hm he, fun a => ?_⟩
  obtain ⟨hl, rfl⟩ := List.getElem?_eq_some_iff.1 hx
  rw [hi.mem, List.take_succ_eq_append_getElem hl, List.mem_append, List.mem_singleton, h.2 a]
theorem InStI.fin {all : List Int} {i : Nat} {ks : List Int} (h : InStI all i ks) (hi : all.length ≤ i) : IsHomes ks all := by
  refine ⟨h.1, fun a => ?_⟩
  rw [h.2 a, List.take_of_length_le hi]

def inI (xs : List Int) (a : Int) : Bool := xs.any fun y => y == a
theorem inI_iff (xs : List Int) (a : Int) : inI xs a = true ↔ a ∈ xs := by
  rw [inI, List.any_eq_true]
  constructor
  · rintro ⟨x, hx, e⟩
    rw [← beq_iff_eq.1 e]; exact hx
  · intro h
    exact ⟨a, h, by simp⟩
theorem inI_succ (xs : List Int) (a y : Int) (k : Nat) (h : xs[k]? = some y) : inI (xs.take (k + 1)) a = (inI (xs.take k) a || (y == a)) := by
  obtain ⟨hk, rfl⟩ := List.getElem?_eq_some_iff.1 h
  rw [inI, List.take_succ_eq_append_getElem hk, List.any_append]
  simp [inI]

theorem ic_swap (q suf : List Int) (x y : Int) : ((ic ((q ++ [y]) ++ x :: suf)).set (q.length + 1) (.int .i64 y)).set q.length (.int .i64 x) = ic (q ++ x :: y :: suf) := by
  induction q with
  | nil => rfl
  | cons a q ih => exact congrArg (List.cons (Value.int .i64 a)) ih
theorem ic_at1 (q suf : List Int) (x y : Int) : (ic ((q ++ [y]) ++ x :: suf))[q.length + 1]? = some (.int .i64 x) := by
  induction q with
  | nil => rfl
  | cons a q ih => exact ih
theorem ic_at0 (q suf : List Int) (x y : Int) : (ic ((q ++ [y]) ++ x :: suf))[q.length]? = some (.int .i64 y) := by
  induction q with
  | nil => rfl
  | cons a q ih => exact ih

/-- the outer loop's state. -/
structure HSt (w1 wr : World) (all : List Int) (i : Nat) (v : Value) (hs : List Int) : Prop where
  own : wr.ownsRow w1.heap.size 3 1 v hs.length (ic hs)
  ins : InStI all i hs
  le : hs.length ≤ i
  fr : Fr NoBlk w1 wr
theorem HSt.drewN {w1 wr : World} {all : List Int} {i : Nat} {v : Value} {hs : List Int} (h : HSt w1 wr all i v hs) (n : Nat) : HSt w1 (wr.drewN n) all i v hs := ⟨h.own, h.ins, h.le, h.fr.drewN n⟩
theorem HSt.next {w1 wo w8 wq : World} {all : List Int} {i : Nat} {v : Value} {hs : List Int} (h : HSt w1 wo all i v hs) {o : Obj} {g c8 m : Nat} {x : Int} {pre suf : List Int} (hx : all[i]? = some x) (hm : x ∉ hs) (hins : InsI hs x pre suf)
    (he : pre = [] ∨ ∃ q y, pre = q ++ [y] ∧ ¬ x < y) (hgr : (wo.alloc o).grownBy w8 v.ownBlock)
    (hfi : Fr (fun k => k = g) w8 wq) (how : wq.ownsRow w1.heap.size 3 1 (.slice (some ⟨g, 0, none⟩) m c8) m (ic (pre ++ x :: suf))) (hm1 : m = hs.length + 1) :
    HSt w1 wq all (i + 1) (.slice (some ⟨g, 0, none⟩) m c8) (pre ++ x :: suf) := by
  have hlen : (pre ++ x :: suf).length = m := by rw [hm1, hins.eq]; simp; omega
  have hg : w1.heap.size ≤ g := (own_blk how (k := g) rfl).1
  refine ⟨by rw [hlen]; exact how, h.ins.put hx hm hins he, by rw [hlen, hm1]; have := h.le; omega, ?_⟩
  exact ((h.fr.alloc o).grown hgr (fun k hk hlt => absurd (own_blk h.own hk).1 (by omega))).step hfi (fun k hk e => by omega)

set_option maxRecDepth 100000 in
set_option maxHeartbeats 4000000 in
theorem dhomes_any (w : World) (o : Od) (ho : OdIn w o) (hm : o.marks.length ≤ 1000) :
    Calls Try.prog 46 #[odv o] w (IntsPost w (homesOf o.marks)) := by
  obtain ⟨i0, hi, hz0, hz1, hz2⟩ := info_parts intInfo
  obtain ⟨w1, hw1⟩ : ∃ w1, w1 = w.alloc (.cells (oda o) 38) := ⟨_, rfl⟩
  have HF : Hid (Fr NoBlk w w1) := by
    show Fr _ _ _
    rw [hw1]
    exact (Fr.refl _ _).alloc _
  have HB : Hid (Bk w1 w.heap.size 38 (oda o)) := by
    show Bk _ _ _ _
    rw [hw1]
    exact Bk.new w _ _
  have hz1' : w1.heap.size = w.heap.size + 1 := by rw [hw1]; simp
  have HSZ := Lib.hid hz1'
  have HR := Lib.hid (ho.marks.nofr HF.out)
  have HO0 : Hid ((w1.alloc (.cells #[] 3)).ownsRow w1.heap.size 3 1 (.slice (some ⟨w.heap.size + 1, 0, none⟩) 0 0) 0 []) := own_new hz1'.symm (Nat.le_refl _)
  have HST0 : Hid (HSt w1 (w1.alloc (.cells #[] 3)) (homesI o.marks) 0 (.slice (some ⟨w.heap.size + 1, 0, none⟩) 0 0) []) := ⟨HO0.out, InStI.start _, Nat.le_refl _, (Fr.refl _ _).alloc _⟩
  have HAL : Hid ((homesI o.marks).length = o.marks.length) := List.length_map _
  have HNIL := Lib.hid (fun h : o.marks.length = 0 => show homesOf o.marks = [0] by rw [List.eq_nil_of_length_eq_zero h]; rfl)
  have HIS := Lib.hid (fun h : o.marks ≠ [] => homesOf_is h)
  clear ho HO0 hz1'
  have HW := Lib.hid hw1
  unfold oda at hw1
  unfold odv oda
  go_enter Try.func46, Try.ntmps46
  go_wp2_with fail
  rw [← hw1]
  clear hw1
  go_loopw [3, 4] (fun v z wr => ∃ (i : Nat) (hs : List Int), i ≤ o.marks.length ∧ z = .int .i64 i ∧ hs.length ≤ i ∧ Hid (HSt w1 wr (homesI o.marks) i v hs)) (fun _ z _ => o.marks.length - (intOf z).toNat)
  case atStart => exact ⟨0, [], by omega, rfl, Nat.le_refl _, HST0⟩
  case round =>
    obtain ⟨i, hs, hi4, rfl, hki, HH⟩ := hrel
    obtain ⟨wo, rfl⟩ : ∃ wo, wo = wr := ⟨_, rfl⟩
    obtain ⟨A, c, rfl, _, _⟩ := own_form HH.out.own
    have hb9 : wo.cell? ⟨w.heap.size, 9, none⟩ = some (.slice o.ma o.marks.length o.mc) := (HB.out.fr HH.out.fr (fun h => h)).cell 9
    by_cases hlt : i < o.marks.length
    · obtain ⟨m, hm'⟩ : ∃ m, o.marks[i]? = some m := ⟨_, List.getElem?_eq_getElem hlt⟩
      obtain ⟨b, o', hA, hc0, hc1, hc2⟩ := (HR.out.nofr HH.out.fr).mark hm'
      have HX : Hid ((homesI o.marks)[i]? = some m.home) := by
        show _ = _
        unfold homesI
        rw [List.getElem?_map, hm']; rfl
      rw [hA] at hb9
      have HHA := Lib.hid hA
      clear hA hm' hc0 hc2
      generalize m.home = x at *
      go_wp2_with fail
      go_loop [6, 7] (fun s z => ∃ k : Nat, k ≤ hs.length ∧ z = .int .i64 k ∧ s = .bool (inI (hs.take k) x)) (fun _ z => hs.length - (intOf z).toNat)
      case atStart => exact ⟨0, by omega, rfl, rfl⟩
      case round =>
        obtain ⟨k, hk, rfl, rfl⟩ := hrel
        by_cases hlt2 : k < hs.length
        · obtain ⟨y, hy⟩ : ∃ y, hs[k]? = some y := ⟨_, List.getElem?_eq_getElem hlt2⟩
          obtain ⟨b', o'', rfl, hcy⟩ := (Rd.of_own HH.out.own).at_ (ic_get hs k y hy)
          have HS := Lib.hid (inI_succ hs x y k hy)
          clear hy
          generalize inI (hs.take k) x = kn at *
          cases kn
          · go_wp2_with fail
            go_round
            case rel => exact ⟨k + 1, by omega, by go_num, by rw [HS.out]; rfl⟩
            case measure => simp [intOf]; omega
          · go_wp2_with fail
            go_round
            case rel => exact ⟨k + 1, by omega, by go_num, by rw [HS.out]; rfl⟩
            case measure => simp [intOf]; omega
        · have HT : Hid (hs.take k = hs) := List.take_of_length_le (by omega)
          rw [HT.out]
          cases hb : inI hs x
          rotate_left
          · have HN : Hid (HSt w1 wo (homesI o.marks) (i + 1) (.slice A hs.length c) hs) := ⟨HH.out.own, HH.out.ins.skip HX.out ((inI_iff _ _).1 hb), by omega, HH.out.fr⟩
            go_wp2_with fail
            go_roundw
            case rel => exact ⟨i + 1, hs, by omega, by go_num, by omega, HN⟩
            case measure => simp [intOf]; omega
          · have HNB : Hid (x ∉ hs) := fun h => by rw [(inI_iff _ _).2 h] at hb; cases hb
            clear hb
            have HO7 : Hid ((wo.alloc (.cells #[.int .i64 x] 3)).ownsRow w1.heap.size 3 1 (.slice A hs.length c) hs.length (ic hs)) := own_fr HH.out.own ((Fr.refl _ _).alloc _) (fun _ _ h => h)
            have HR7 : Hid (Rd (wo.alloc (.cells #[.int .i64 x] 3)) (some ⟨wo.heap.size, 0, none⟩) [.int .i64 x]) := Rd.of_cells (Bk.new wo 3 #[.int .i64 x])
            have HSB : Hid (w1.heap.size ≤ (wo.alloc (.cells #[.int .i64 x] 3)).heap.size) := Nat.le_trans HH.out.fr.size (by simp)
            go_wp2_with (at_builtin; refine wpList_app rfl _ _ 72 rfl w1.heap.size 3 i0 (.int .i64 0) 8 Try.underlying72 hi hz0 hz1 hz2 rfl (.slice A hs.length c) hs.length (ic hs) rfl HO7.out (some ⟨wo.heap.size, 0, none⟩) 1 1 [.int .i64 x] rfl rfl HR7.out ?q1 (fun h => by cases h) ?q3 ?q4 HSB.out ?_)
            case q1 => first | rfl | (intro u hu; rw [List.mem_singleton.1 hu]; rfl)
            case q3 => unfold maxLen; omega
            case q4 => omega
            intro v8 w8 hown8 hgr8 _ hb8
            obtain ⟨g, c8, rfl⟩ : ∃ g c8, v8 = .slice (some ⟨g, 0, none⟩) (hs.length + 1) c8 := by
              rcases hown8.2 with ⟨_, h⟩ | ⟨g, c8, cur, h, _⟩
              · omega
              · exact ⟨g, c8, h⟩
            have HO8 := Lib.hid hown8
            have HG8 := Lib.hid hgr8
            clear hown8 hgr8 hb8 hb9
            go_wp2_with fail
            go_loopw [8] (fun z wq => ∃ (pre suf : List Int), z = .int .i64 (pre.length : Nat) ∧ pre.length ≤ hs.length ∧ Hid (wq.ownsRow w1.heap.size 3 1 (.slice (some ⟨g, 0, none⟩) (hs.length + 1) c8) (hs.length + 1) (ic (pre ++ x :: suf))) ∧ Hid (InsI hs x pre suf) ∧ Hid (Fr (fun k => k = g) w8 wq)) (fun z _ => (intOf z).toNat)
            case atStart => exact ⟨hs, [], by first | rfl | go_num, Nat.le_refl _, by rw [ic_append]; exact HO8, InsI.start hs x, Fr.refl _ _⟩
            case round =>
              obtain ⟨pre, suf, rfl, hpk, HOW, HINS, HFI⟩ := hrel
              have HEX : Hid ((pre = [] ∨ ∃ q y, pre = q ++ [y] ∧ ¬ x < y) → HSt w1 wr (homesI o.marks) (i + 1) (.slice (some ⟨g, 0, none⟩) (hs.length + 1) c8) (pre ++ x :: suf)) := fun he => HH.out.next HX.out HNB.out HINS.out he HG8.out HFI.out HOW.out rfl
              have HEL : Hid ((pre ++ x :: suf).length = hs.length + 1) := by
                have h := congrArg List.length HINS.out.eq
                show _ = _
                rw [List.length_append] at h ⊢
                rw [List.length_cons]
                omega
              rcases List.eq_nil_or_concat pre with rfl | ⟨q, y, hq⟩
              · have HN := Lib.hid (HEX.out (.inl rfl))
                clear HEX
                go_wp2_with fail
                go_quiet (fail)
                go_wp2
                go_roundw
                case rel => exact ⟨i + 1, [] ++ x :: suf, by omega, by go_num, by rw [HEL.out]; omega, HN.out.drewN _⟩
                case measure => simp [intOf]; omega
              · rw [List.concat_eq_append] at hq
                subst hq
                have p1 : wr.cell? ⟨g, q.length + 1, none⟩ = some (.int .i64 x) := (HOW.out.cellAt (q.length + 1) (by rw [List.length_append, List.length_singleton] at hpk; omega)).trans (ic_at1 q suf x y)
                have p0 : wr.cell? ⟨g, q.length, none⟩ = some (.int .i64 y) := (HOW.out.cellAt q.length (by rw [List.length_append, List.length_singleton] at hpk; omega)).trans (ic_at0 q suf x y)
                have f1 := HOW.out.frozenAt (q.length + 1)
                have f0 := HOW.out.frozenAt q.length
                rw [List.length_append, List.length_singleton] at hpk ⊢
                have k0 : (0 : Int) < ((q.length + 1 : Nat) : Int) := by omega
                have k1 : (0 : Int) ≤ (q.length : Int) := by omega
                have k2 : (q.length : Int) < (hs.length : Int) + 1 := by omega
                have k3 : (q.length : Int) + 1 < (hs.length : Int) + 1 := by omega
                have k4 : IntKind.i64.wrap ((q.length : Int) + 1 - 1) = (q.length : Int) := by rw [IntWalk.i64_in _ (by omega)]; omega
                by_cases hb : x < y
                rotate_left
                · have HN := Lib.hid (HEX.out (.inr ⟨q, y, rfl, hb⟩))
                  clear HEX
                  go_wp2_with fail
                  go_quiet (fail)
                  go_wp2
                  go_roundw
                  case rel => exact ⟨i + 1, (q ++ [y]) ++ x :: suf, by omega, by go_num, by rw [HEL.out]; omega, HN.out.drewN _⟩
                  case measure => simp [intOf]; omega
                · have HN := Lib.hid (HINS.out.step hb)
                  have HO9 : Hid (((wr.setCell ⟨g, q.length + 1, none⟩ (.int .i64 y)).setCell ⟨g, q.length, none⟩ (.int .i64 x)).ownsRow w1.heap.size 3 1 (.slice (some ⟨g, 0, none⟩) (hs.length + 1) c8) (hs.length + 1) (ic (q ++ x :: y :: suf))) := by
                    have h := (((HOW.out.stored (q.length + 1) (.int .i64 y)).1).stored q.length (.int .i64 x)).1
                    rw [ic_swap] at h
                    exact h
                  clear HEX
                  go_wp2_with fail
                  go_quiet (fail)
                  go_wp2
                  go_roundw
                  case rel => exact ⟨q, y :: suf, by first | rfl | go_num, by omega, HO9.out, HN, Fr.putV (Fr.putV (HFI.out.drewN _))⟩
                  case measure => first | (simp [intOf]; done) | (simp [intOf]; omega)
    · have i3 : (o.marks.length : Int) ≤ (i : Int) := by omega
      have HZ : Hid (o.marks ≠ [] → hs = homesOf o.marks) := fun hne => (HH.out.ins.fin (by rw [HAL.out]; omega)).unique (HIS.out hne)
      have HEM : Hid (hs.length = 0 → o.marks.length = 0) := fun h0 => by
        have hne : ¬ (o.marks ≠ []) := fun hne => by
          have h1 := (HIS.out hne).mem
          rw [← HZ.out hne, List.eq_nil_of_length_eq_zero h0] at h1
          obtain ⟨m, t, e⟩ := List.exists_cons_of_ne_nil hne
          have := (h1 m.home).2 (by rw [e]; simp [homesI])
          cases this
        rw [Decidable.not_not.1 hne]; rfl
      by_cases h0 : hs.length = 0
      · have hb0 : ((hs.length : Int) == 0) = true := beq_iff_eq.2 (by omega)
        have HHN := Lib.hid (HNIL.out (HEM.out h0))
        have HSZ2 := Lib.hid HH.out.fr.size
        have HLIT := Lib.hid (Rd.of_cells (Bk.new wo 3 #[.int .i64 0]))
        have HFF := Lib.hid ((HF.out.trans HH.out.fr).alloc (.cells #[.int .i64 0] 3))
        go_wp2_with fail
        go_ret
        rw [HHN.out]
        exact ⟨some ⟨wo.heap.size, 0, none⟩, 1, rfl, ⟨HLIT.out, Nat.le_refl _, by decide, (fun k ⟨a, e, h⟩ => by injection e with e; subst e; simp only at h; have := HSZ2.out; have := HSZ.out; omega), HFF.out⟩⟩
      · have hb0 : ((hs.length : Int) == 0) = false := beq_eq_false_iff_ne.2 (by omega)
        have HEQ : Hid (hs = homesOf o.marks) := HZ.out (fun e => h0 (by
          have h := HH.out.ins.2
          rw [e] at h
          rcases List.eq_nil_or_concat hs with h' | ⟨q, y, h'⟩
          · rw [h']; rfl
          · rw [List.concat_eq_append] at h'
            have := (h y).1 (by rw [h']; simp)
            simp [homesI] at this))
        have HIA : Hid (IntsAt w wo A c hs) := by
          obtain ⟨A', c', e, h1, h2⟩ := own_form HH.out.own
          injection e with e1 _ e3
          subst e1 e3
          exact ⟨Rd.of_own HH.out.own, h1, own_cap HH.out.own, (fun k hk => by
            have := (own_blk HH.out.own (k := k) (by obtain ⟨b, hb, rfl⟩ := hk; rw [hb]; rfl)).1
            have := HSZ.out
            omega), HF.out.trans HH.out.fr⟩
        go_wp2_with fail
        go_ret
        rw [← HEQ.out]
        exact ⟨A, c, rfl, HIA.out⟩
end Go.Proofs.Ytdgjjkmgdjiliaa
