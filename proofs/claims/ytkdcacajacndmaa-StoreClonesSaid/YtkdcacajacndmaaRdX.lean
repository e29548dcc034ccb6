/- What bytes tell as a store's rows; pure. No condition. cmp.Or of five; whether a store can have a row. Conditions: keys of at most 10^9 bytes. The reader's row. Conditions: at most 190000 bytes; one to three regions. The reader's whole, and Restore. Conditions: at most 190000 bytes. Restore. Conditions: at most 190000 bytes. -/
import Derived.Test.YtkdcacajacndmaaSmX
import Derived.Test.YtkdcacajacndmaaSnY
import Derived.Test.YtkdcacajacndmaaEyA
import Derived.Deep.RegionHeld3
import Derived.IntWalk
namespace Go.Proofs.Ytkdcacajacndmaa
open Go.RowKit
def r1 (l : Bs) : Bs := l.drop (rdText l).2.1
def r2 (l : Bs) : Bs := (r1 l).drop 1
def r3 (l : Bs) : Bs := (r2 l).drop (rdText (r2 l)).2.1
def r4 (l : Bs) : Bs := (r3 l).drop (rdNum (r3 l)).2.1
def r5 (l : Bs) : Bs := (r4 l).drop (rdNum (r4 l)).2.1
def rdKey (l : Bs) : Bs := (rdText l).1
def rdMark (l : Bs) : UInt8 := (r1 l).headD 0
def rdVal (l : Bs) : Bs := (rdText (r2 l)).1
def rdHome (l : Bs) : Nat := (rdNum (r3 l)).1
def rdCnt (l : Bs) : Nat := (rdNum (r4 l)).1
/-- all five were read. -/
def rdAll (l : Bs) : Bool := (rdText l).2.2 == 0 && !(r1 l).isEmpty && (rdText (r2 l)).2.2 == 0 && (rdNum (r3 l)).2.2 == 0 && (rdNum (r4 l)).2.2 == 0
def rdRec (l : Bs) : Rec := ⟨rdMark l == 1, rdVal l, (rdHome l : Int), rdCnt l⟩
/-- a row that a store can have. -/
def canB (n : Nat) (key : Bs) (r : Rec) : Bool := (r.has || r.count != 0) && ((r.has || r.val.length == 0) && (r.count != 0 || r.home == homeOf key (n : Int)))
def rowOk (n : Nat) (l : Bs) : Bool := rdAll l && (decide ((rdMark l).toNat ≤ 1) && (decide (rdHome l < n) && canB n (rdKey l) (rdRec l)))
def lastK (rs : List Rw) : Bs := (rs.getLast?.map fun x => x.1).getD []
/-- the next row may stand behind those. -/
def goesOn (n : Nat) (l : Bs) (acc : List Rw) : Bool := rowOk n l && (acc.isEmpty || Op.bytesLess (lastK acc) (rdKey l))
def decR (n : Nat) : Nat → Bs → List Rw → Option (List Rw)
  | 0, l, acc => if l = [] then some acc else none
  | c + 1, l, acc => if goesOn n l acc = true then decR n c (r5 l) (acc ++ [(rdKey l, rdRec l)]) else none
def s1 (l : Bs) : Bs := l.drop (rdNum l).2.1
def s2 (l : Bs) : Bs := (s1 l).drop (rdNum (s1 l)).2.1
/-- the rows that bytes tell, for n regions. -/
def dec (n : Nat) (l : Bs) : Option (List Rw) :=
  if (rdNum l).2.2 = 0 ∧ (rdNum l).1 = n ∧ (rdNum (s1 l)).2.2 = 0 then decR n (rdNum (s1 l)).1 (s2 l) [] else none
theorem lastK_snoc (rs : List Rw) (x : Rw) : lastK (rs ++ [x]) = x.1 := by unfold lastK; simp
theorem rdText_rest (l : Bs) (h : (rdText l).2.2 = 0) : (r1 l).length + (rdText l).1.length + 1 ≤ l.length := by
  have hs := rdNum_size l
  unfold r1
  unfold rdText at h ⊢
  split at h
  · rename_i h1
    split at h
    · cases h
    · rename_i h2
      rw [if_pos h1, if_neg h2]
      dsimp only
      have h3 : 1 ≤ (rdNum l).2.1 := by
        rcases Nat.eq_zero_or_pos (rdNum l).2.1 with h0 | h0
        · exfalso
          have h4 : ∀ (t : Bs) (k m : Nat), (numGo k m t).2.2 = 0 → 1 ≤ (numGo k m t).2.1 := by
            intro t
            induction t with
            | nil => intro k m h; rw [numGo] at h; cases h
            | cons x t ih =>
              intro k m h
              rw [numGo] at h ⊢
              split at h
              · cases h
              · rename_i a1
                rw [if_neg a1]
                split at h
                · rename_i a2
                  rw [if_pos a2]
                  exact ih _ _ h
                · rename_i a2
                  rw [if_neg a2]
                  split at h
                  · cases h
                  · rename_i a3
                    rw [if_neg a3]
                    exact Nat.succ_le_succ (Nat.zero_le _)
          have := h4 l 0 0 h1
          unfold rdNum at h0
          omega
        · exact h0
      rw [List.length_drop, List.length_take, List.length_drop]
      omega
  · rename_i h1
    exact absurd h h1
theorem rest_le (l : Bs) (h : rdAll l = true) : (r5 l).length + 2 ≤ l.length ∧ (rdVal l).length ≤ l.length ∧ (rdKey l).length ≤ l.length := by
  unfold rdAll at h
  simp only [Bool.and_eq_true, beq_iff_eq, Bool.not_eq_true', List.isEmpty_eq_false_iff] at h
  have h1 := rdText_rest l h.1.1.1.1
  have h2 : (r2 l).length + 1 = (r1 l).length := by
    have : (r1 l).length ≠ 0 := fun e => h.1.1.1.2 (List.eq_nil_of_length_eq_zero e)
    unfold r2
    rw [List.length_drop]
    omega
  have h3 := rdText_rest (r2 l) h.1.1.2
  have h3' : (r3 l).length ≤ (r2 l).length := by unfold r3; rw [List.length_drop]; omega
  have h4 : (r4 l).length ≤ (r3 l).length := by unfold r4; rw [List.length_drop]; omega
  have h5 : (r5 l).length ≤ (r4 l).length := by unfold r5; rw [List.length_drop]; omega
  unfold rdVal rdKey
  omega
theorem rdCnt_lt (l : Bs) : rdCnt l < 2 ^ 64 := rdNum_lt _
/-- a row behind all others. -/
theorem rset_last {rs : List Rw} (hu : UpI Op.bytesLess rs) {key : Bs} {r : Rec} (hr : (r.has || r.count != 0) = true) (hl : rs.isEmpty = true ∨ Op.bytesLess (lastK rs) key = true) : rset rs key r = rs ++ [(key, r)] := by
  have hall : ∀ x ∈ rs, Op.bytesLess x.1 key = true := by
    intro x hx
    rcases hl with hl | hl
    · rw [List.isEmpty_iff.1 hl] at hx
      cases hx
    · obtain ⟨ys, y, rfl⟩ : ∃ ys y, rs = ys ++ [y] := ⟨rs.dropLast, rs.getLast (List.ne_nil_of_mem hx), (List.dropLast_concat_getLast _).symm⟩
      rw [lastK_snoc] at hl
      rcases List.mem_append.1 hx with hx | hx
      · have h1 := (List.pairwise_append.1 hu).2.2 x hx y List.mem_cons_self
        exact linS.tr h1 hl
      · rw [List.mem_singleton.1 hx]
        exact hl
  unfold rset
  rw [if_pos hr]
  unfold putL
  have h1 : rs.filter (fun p => Op.bytesLess p.1 key) = rs := List.filter_eq_self.2 hall
  have h2 : rs.filter (fun p => Op.bytesLess key p.1) = [] := by
    rw [List.filter_eq_nil_iff]
    intro x hx
    rw [linS.asymm (hall x hx)]
    decide
  rw [h1, h2]
end Go.Proofs.Ytkdcacajacndmaa

namespace Go.Proofs.Ytkdcacajacndmaa
open Go.RowKit
def OrPost (es : Nat → Int) (e : Ending) : Prop := ∃ z : Int, e = .returned (.int .i64 z) ∧ (z = 0 ↔ ∀ i, i < 5 → es i = 0)
set_option maxRecDepth 100000 in
set_option maxHeartbeats 1000000 in
theorem or5_any (w : World) (b : Nat) (es : Nat → Int) (h : ∀ i : Nat, i < 5 → w.cell? ⟨b, i, none⟩ = some (.int .i64 (es i))) : Calls Try.prog 78 #[.slice (some ⟨b, 0, none⟩) 5 5] w fun e w' => OrPost es e ∧ w = w' := by
  have H := Lib.hid h
  clear h
  go_enter Try.func78, Try.ntmps78
  go_wp2
  go_loop [8] (fun i => ∃ k : Nat, k ≤ 5 ∧ i = .int .i64 k ∧ Hid (∀ i, i < k → es i = 0)) (fun i => 5 - (intOf i).toNat)
  case atStart => exact ⟨0, Nat.zero_le _, rfl, fun i hi => absurd hi (Nat.not_lt_zero _)⟩
  case round =>
    obtain ⟨k, hk, rfl, HZ⟩ := hrel
    by_cases hlt : k < 5
    · have hc := H.out k hlt
      have HEK : Hid (∀ z, es k = z → es k = z) := fun _ h => h
      obtain ⟨z, hz⟩ : ∃ z, z = es k := ⟨_, rfl⟩
      rw [← hz] at hc
      have HZZ := Lib.hid hz
      clear hz HEK
      by_cases h0 : z = 0
      · have hne : (z != 0) = false := by rw [h0]; rfl
        have H0 := Lib.hid h0
        clear h0
        go_wp2
        go_round
        case rel => exact ⟨k + 1, by omega, by go_num, fun i hi => by
          rcases Nat.lt_or_ge i k with h | h
          · exact HZ.out i h
          · obtain rfl : i = k := by omega
            exact HZZ.out.symm.trans H0.out⟩
        case measure => simp [intOf]; omega
      · have hne : (z != 0) = true := by rw [bne_iff_ne]; exact h0
        have H0 := Lib.hid h0
        clear h0
        go_wp2
        go_ret
        exact ⟨⟨z, rfl, ⟨fun e => absurd e H0.out, fun e => absurd (HZZ.out.trans (e k hlt)) H0.out⟩⟩, rfl⟩
    · obtain rfl : k = 5 := by omega
      go_wp2
      go_ret
      exact ⟨⟨0, rfl, ⟨fun _ => HZ.out, fun _ => rfl⟩⟩, rfl⟩
set_option maxRecDepth 100000 in
set_option maxHeartbeats 1000000 in
theorem canHave_any (w : World) (ge gs n : Nat) (cs : Array Value) (hb : Bk w gs 68 cs) (hcs : cs[0]? = some (.int .i64 (n : Int))) (key : Bs) (hk : key.length ≤ 1000000000) (v : VaR) (r : Rec) (h1 : v.has = r.has) (h2 : v.home = r.home) (h3 : v.count = r.count) (h4 : v.vn = r.val.length) :
    Calls Try.prog 79 #[.agg #[.pointer (some ⟨ge, 0, none⟩), .pointer (some ⟨gs, 0, none⟩)], .agg #[.string (bstr key), .bool v.has, .slice v.va v.vn v.vc, .int .i64 v.home, .int .u64 (v.count : Int)]] w fun e w' => e = .returned (.bool (canB n key r)) ∧ Fr NoBlk w w' := by
  obtain ⟨vh, va, vn, vc, vm, vt⟩ := v
  dsimp only at h1 h2 h3 h4
  obtain ⟨hm, hhm⟩ : ∃ h, h = homeOf key (n : Int) := ⟨_, rfl⟩
  obtain ⟨p, hp⟩ : ∃ p, p = w.heap.size := ⟨_, rfl⟩
  obtain ⟨w1, hw1⟩ : ∃ W, W = ((w.alloc (.cells #[.pointer (some ⟨ge, 0, none⟩), .pointer (some ⟨gs, 0, none⟩)] 86)).alloc (.cells #[.string (bstr key), .bool vh, .slice va vn vc, .int .i64 vm, .int .u64 (vt : Int)] 61)).alloc (.cells #[.bool vh, .slice va vn vc, .int .i64 vm, .int .u64 (vt : Int)] 38) := ⟨_, rfl⟩
  have hf1 : Fr NoBlk w w1 := by rw [hw1]; exact (((Fr.refl _ _).alloc _).alloc _).alloc _
  have hba : Bk w1 p 86 #[.pointer (some ⟨ge, 0, none⟩), .pointer (some ⟨gs, 0, none⟩)] := by rw [hw1, hp]; exact ((Bk.new _ _ _).alloc _).alloc _
  have hbb : Bk w1 (p + 1) 61 #[.string (bstr key), .bool vh, .slice va vn vc, .int .i64 vm, .int .u64 (vt : Int)] := by
    rw [hw1, hp]
    have h := Bk.new (w.alloc (.cells #[.pointer (some ⟨ge, 0, none⟩), .pointer (some ⟨gs, 0, none⟩)] 86)) 61 #[.string (bstr key), .bool vh, .slice va vn vc, .int .i64 vm, .int .u64 (vt : Int)]
    rw [World.size_alloc] at h
    exact h.alloc _
  have hbc : Bk w1 (p + 2) 38 #[.bool vh, .slice va vn vc, .int .i64 vm, .int .u64 (vt : Int)] := by
    rw [hw1, hp]
    have h := Bk.new ((w.alloc (.cells #[.pointer (some ⟨ge, 0, none⟩), .pointer (some ⟨gs, 0, none⟩)] 86)).alloc (.cells #[.string (bstr key), .bool vh, .slice va vn vc, .int .i64 vm, .int .u64 (vt : Int)] 61)) 38 #[.bool vh, .slice va vn vc, .int .i64 vm, .int .u64 (vt : Int)]
    rw [World.size_alloc, World.size_alloc] at h
    exact h
  have HP1 : Hid (Bk w1 p 86 #[.pointer (some ⟨ge, 0, none⟩), .pointer (some ⟨gs, 0, none⟩)] ∧ Bk w1 (p + 1) 61 #[.string (bstr key), .bool vh, .slice va vn vc, .int .i64 vm, .int .u64 (vt : Int)] ∧ Bk w1 (p + 2) 38 #[.bool vh, .slice va vn vc, .int .i64 vm, .int .u64 (vt : Int)]) := ⟨hba, hbb, hbc⟩
  have HSK : Hid (∀ w', Fr NoBlk w1 w' → w'.cell? ⟨p + 2, 2, none⟩ = some (.int .i64 vm) ∧ w'.cell? ⟨p + 2, 3, none⟩ = some (.int .u64 (vt : Int)) ∧ w'.cell? ⟨p + 1, 0, none⟩ = some (.string (bstr key)) ∧ w'.cell? ⟨p, 1, none⟩ = some (.pointer (some ⟨gs, 0, none⟩)) ∧ w'.cell? ⟨gs, 0, none⟩ = some (.int .i64 (n : Int)) ∧ True) := fun w' hf => ⟨(hbc.fr hf fun e => e).cell 2, (hbc.fr hf fun e => e).cell 3, (hbb.fr hf fun e => e).cell 0, (hba.fr hf fun e => e).cell 1, by rw [((hb.fr hf1 fun e => e).fr hf fun e => e).cell 0]; exact hcs, trivial⟩
  have HDF : Hid (∀ w', Calls Try.prog 20 #[.string (bstr key), .int .i64 (n : Int)] w' fun e w'' => e = .returned (.int .i64 hm) ∧ w' = w'') := fun w' => by rw [hhm]; exact default_any w' key n hk
  obtain ⟨yb, hyb⟩ : ∃ y, (vh || vt != 0) = y := ⟨_, rfl⟩
  have HI : Hid (∀ w', Fr NoBlk w1 w' → Calls Try.prog 68 #[.agg #[.bool vh, .slice va vn vc, .int .i64 vm, .int .u64 (vt : Int)]] w' fun e w'' => e = .returned (.bool yb) ∧ Fr NoBlk w' w'') := fun w' _ => by rw [← hyb]; exact isRow_any w' ⟨vh, va, vn, vc, vm, vt⟩
  obtain ⟨x6, hx6⟩ : ∃ x, ((vn : Int) == 0) = x := ⟨_, rfl⟩
  obtain ⟨x7, hx7⟩ : ∃ x, (vm == hm) = x := ⟨_, rfl⟩
  obtain ⟨xc, hxc⟩ : ∃ x, ((vt : Int) != 0) = x := ⟨_, rfl⟩
  have hxc' : (vt != 0) = xc := by
    rw [← hxc, Bool.eq_iff_iff, bne_iff_ne, bne_iff_ne]
    omega
  have HCB : Hid (canB n key r = ((vh || xc) && ((vh || x6) && (xc || x7)))) := by
    show _ = _
    unfold canB
    rw [← h1, ← h2, ← h3, ← h4, hxc', ← hx6, ← hx7, hhm]
    have e : ((vn : Int) == 0) = (vn == 0) := by
      rw [Bool.eq_iff_iff, beq_iff_eq, beq_iff_eq]
      omega
    rw [e]
  rw [hxc'] at hyb
  have HF1 := Lib.hid hf1
  have HW1 := Lib.hid hw1
  have HPP := Lib.hid hp
  have b0 : w1.cell? ⟨p + 2, 0, none⟩ = some (.bool vh) := hbc.cell 0
  have b1 : w1.cell? ⟨p + 2, 1, none⟩ = some (.slice va vn vc) := hbc.cell 1
  have b2 : w1.cell? ⟨p + 1, 1, none⟩ = some (.bool vh) := hbb.cell 1
  have b3 : w1.cell? ⟨p + 1, 2, none⟩ = some (.slice va vn vc) := hbb.cell 2
  clear h1 h2 h3 h4 hb hcs hk hf1 hba hbb hbc hw1 hp hhm hxc'

  subst hyb
  go_enter Try.func79, Try.ntmps79
  go_upto_region 2 with fail
  rw [← HW1.out, ← HPP.out]
  clear HW1 HPP
  cases vh with
  | false =>
    cases xc with
    | false =>
      go_upto_region 3 with fail
      refine wp_region_held_drew (S := fun w' => Fr NoBlk w1 w') (by kernel_rfl) ((Fr.refl _ _).drew) (fun hHeld => ?_)
      refine wpAnyH_take (i := 0) (oi := ⟨some 18, _, _, _, _, _⟩) (v := ?_) rfl (by kernel_rfl) (by kernel_rfl) (by kernel_rfl) (fun _ _ _ h => h) (Or.inl ⟨by rfl, ?_⟩) (by assumption) ?_
      rotate_left 1
      · (intro w hSw; (try dsimp only at hSw); obtain ⟨y0, y1, y2, y3, y4, y5⟩ := HSK.out _ hSw; go_simp) <;> (with_reducible rfl)
      try simp only [Act.put, List.setIfInBounds_toArray, List.set_cons_zero, List.set_cons_succ]
      refine wpAnyH_take (i := 1) (oi := ⟨some 19, _, _, _, _, _⟩) (v := ?_) rfl (by kernel_rfl) (by kernel_rfl) (by kernel_rfl) (fun _ _ _ h => h) (Or.inl ⟨by rfl, ?_⟩) (by assumption) ?_
      rotate_left 1
      · (intro w hSw; (try dsimp only at hSw); obtain ⟨y0, y1, y2, y3, y4, y5⟩ := HSK.out _ hSw; go_simp) <;> (with_reducible rfl)
      try simp only [Act.put, List.setIfInBounds_toArray, List.set_cons_zero, List.set_cons_succ]
      refine wpAnyH_take (i := 2) (oi := ⟨some 20, _, _, _, _, _⟩) (v := ?_) rfl (by kernel_rfl) (by kernel_rfl) (by kernel_rfl) (fun _ _ _ h => h) (Or.inl ⟨by rfl, ?_⟩) (by assumption) ?_
      rotate_left 1
      · (intro w hSw; (try dsimp only at hSw); obtain ⟨y0, y1, y2, y3, y4, y5⟩ := HSK.out _ hSw; go_simp) <;> (with_reducible rfl)
      try simp only [Act.put, List.setIfInBounds_toArray, List.set_cons_zero, List.set_cons_succ]
      refine wpAnyH_take (i := 3) (oi := ⟨some 21, _, _, _, _, _⟩) (v := ?_) rfl (by kernel_rfl) (by kernel_rfl) (by kernel_rfl) (fun _ _ _ h => h) (Or.inl ⟨by rfl, ?_⟩) (by assumption) ?_
      rotate_left 1
      · (intro w hSw; (try dsimp only at hSw); obtain ⟨y0, y1, y2, y3, y4, y5⟩ := HSK.out _ hSw; go_simp) <;> (with_reducible rfl)
      try simp only [Act.put, List.setIfInBounds_toArray, List.set_cons_zero, List.set_cons_succ]
      refine wpAnyH_take (i := 4) (oi := ⟨some 22, _, _, _, _, _⟩) (v := ?_) rfl (by kernel_rfl) (by kernel_rfl) (by kernel_rfl) (fun _ _ _ h => h) (Or.inl ⟨by rfl, ?_⟩) (by assumption) ?_
      rotate_left 1
      · (intro w hSw; (try dsimp only at hSw); obtain ⟨y0, y1, y2, y3, y4, y5⟩ := HSK.out _ hSw; go_simp) <;> (with_reducible rfl)
      try simp only [Act.put, List.setIfInBounds_toArray, List.set_cons_zero, List.set_cons_succ]
      refine wpAnyH_take (i := 5) (oi := ⟨some 23, _, _, _, _, _⟩) (v := ?_) rfl (by kernel_rfl) (by kernel_rfl) (by kernel_rfl) (fun _ _ _ h => h) (Or.inl ⟨by rfl, ?_⟩) (by assumption) ?_
      rotate_left 1
      · (intro w hSw; (try dsimp only at hSw); obtain ⟨y0, y1, y2, y3, y4, y5⟩ := HSK.out _ hSw; go_simp) <;> (with_reducible rfl)
      try simp only [Act.put, List.setIfInBounds_toArray, List.set_cons_zero, List.set_cons_succ]
      refine wpAnyH_take (i := 6) (oi := ⟨some 24, _, _, _, _, _⟩) (v := ?_) rfl (by kernel_rfl) (by kernel_rfl) (by kernel_rfl) (fun _ _ _ h => h) (Or.inl ⟨by rfl, ?_⟩) (by assumption) ?_
      rotate_left 1
      · (intro w hSw; (try dsimp only at hSw); obtain ⟨y0, y1, y2, y3, y4, y5⟩ := HSK.out _ hSw; go_simp) <;> (with_reducible rfl)
      try simp only [Act.put, List.setIfInBounds_toArray, List.set_cons_zero, List.set_cons_succ]
      refine wpAnyH_take (i := 7) (oi := ⟨some 25, _, _, _, _, _⟩) (v := ?_) rfl (by kernel_rfl) (by kernel_rfl) (by kernel_rfl) (fun _ _ _ h => h) (Or.inl ⟨by rfl, ?_⟩) (by assumption) ?_
      rotate_left 1
      · (intro w hSw; (try dsimp only at hSw); obtain ⟨y0, y1, y2, y3, y4, y5⟩ := HSK.out _ hSw; go_simp) <;> (with_reducible rfl)
      try simp only [Act.put, List.setIfInBounds_toArray, List.set_cons_zero, List.set_cons_succ]
      refine wpAnyH_take (i := 8) (oi := ⟨some 26, _, _, _, _, _⟩) (v := ?_) rfl (by kernel_rfl) (by kernel_rfl) (by kernel_rfl) (fun _ _ _ h => h) (Or.inl ⟨by rfl, ?_⟩) (by assumption) ?_
      rotate_left 1
      · (intro w hSw; (try dsimp only at hSw); obtain ⟨y0, y1, y2, y3, y4, y5⟩ := HSK.out _ hSw; go_simp) <;> (with_reducible rfl)
      try simp only [Act.put, List.setIfInBounds_toArray, List.set_cons_zero, List.set_cons_succ]
      refine wpAnyH_take (i := 9) (oi := ⟨some 27, _, _, _, _, _⟩) (v := ?_) rfl (by kernel_rfl) (by kernel_rfl) (by kernel_rfl) (fun _ _ _ h => h) (Or.inl ⟨by rfl, ?_⟩) (by assumption) ?_
      rotate_left 1
      · (intro w hSw; (try dsimp only at hSw); obtain ⟨y0, y1, y2, y3, y4, y5⟩ := HSK.out _ hSw; go_simp) <;> (with_reducible rfl)
      try simp only [Act.put, List.setIfInBounds_toArray, List.set_cons_zero, List.set_cons_succ]
      refine wpAnyH_take (i := 10) (oi := ⟨some 28, _, _, _, _, _⟩) (v := ?_) rfl (by kernel_rfl) (by kernel_rfl) (by kernel_rfl) (fun _ _ _ h => h) (Or.inl ⟨by rfl, ?_⟩) (by assumption) ?_
      rotate_left 1
      · (intro w hSw; (try dsimp only at hSw); obtain ⟨y0, y1, y2, y3, y4, y5⟩ := HSK.out _ hSw; go_simp) <;> (with_reducible rfl)
      try simp only [Act.put, List.setIfInBounds_toArray, List.set_cons_zero, List.set_cons_succ]
      refine wpAnyH_take (i := 11) (oi := ⟨some 29, _, _, _, _, _⟩) (v := ?_) rfl (by kernel_rfl) (by kernel_rfl) (by kernel_rfl) (fun _ _ _ h => h) (Or.inl ⟨by rfl, ?_⟩) (by assumption) ?_
      rotate_left 1
      · (intro w hSw; (try dsimp only at hSw); obtain ⟨y0, y1, y2, y3, y4, y5⟩ := HSK.out _ hSw; go_simp) <;> (with_reducible rfl)
      try simp only [Act.put, List.setIfInBounds_toArray, List.set_cons_zero, List.set_cons_succ]
      refine wpAnyH_take (i := 12) (oi := ⟨some 30, _, _, _, _, _⟩) (v := ?_) rfl (by kernel_rfl) (by kernel_rfl) (by kernel_rfl) (fun _ _ _ h => h) (Or.inl ⟨by rfl, ?_⟩) (by assumption) ?_
      rotate_left 1
      · (intro w hSw; (try dsimp only at hSw); obtain ⟨y0, y1, y2, y3, y4, y5⟩ := HSK.out _ hSw; go_simp) <;> (with_reducible rfl)
      try simp only [Act.put, List.setIfInBounds_toArray, List.set_cons_zero, List.set_cons_succ]
      refine wpAnyH_ready (rs := [13]) (by kernel_rfl) (by simp) ?_
      refine AllReadyH.cons (o := ⟨some 31, _, _, _, _, _⟩) rfl (fun K hK => ?_) AllReadyH.nil
      have hSw := hHeld
      go_simp
      go_at_call 20
      refine (HDF.out _).mono ?_
      rintro e w2 ⟨rfl, rfl⟩
      refine hK.out _ _ ?_ (fun hHeld => ?_)
      · exact hSw
      clear hK K
      try simp only [Act.put, List.setIfInBounds_toArray, List.set_cons_zero, List.set_cons_succ]
      refine wpAnyH_take (i := 14) (oi := ⟨some 32, _, _, _, _, _⟩) (v := ?_) rfl (by kernel_rfl) (by kernel_rfl) (by kernel_rfl) (fun _ _ _ h => h) (Or.inl ⟨by rfl, ?_⟩) (by assumption) ?_
      rotate_left 1
      · (intro w hSw; (try dsimp only at hSw); obtain ⟨y0, y1, y2, y3, y4, y5⟩ := HSK.out _ hSw; go_simp) <;> (with_reducible rfl)
      try simp only [Act.put, List.setIfInBounds_toArray, List.set_cons_zero, List.set_cons_succ]
      refine wpAnyH_take (i := 15) (oi := ⟨some 33, _, _, _, _, _⟩) (v := ?_) rfl (by kernel_rfl) (by kernel_rfl) (by kernel_rfl) (fun _ _ _ h => h) (Or.inl ⟨by rfl, ?_⟩) (by assumption) ?_
      rotate_left 1
      · (intro w hSw; (try dsimp only at hSw); obtain ⟨y0, y1, y2, y3, y4, y5⟩ := HSK.out _ hSw; go_simp) <;> (with_reducible rfl)
      try simp only [Act.put, List.setIfInBounds_toArray, List.set_cons_zero, List.set_cons_succ]
      refine wpAnyH_take (i := 16) (oi := ⟨some 7, _, _, _, _, _⟩) (v := ?_) rfl (by kernel_rfl) (by kernel_rfl) (by kernel_rfl) (fun _ _ _ h => h) (Or.inl ⟨by rfl, ?_⟩) (by assumption) ?_
      rotate_left 1
      · (intro w hSw; (try dsimp only at hSw); obtain ⟨y0, y1, y2, y3, y4, y5⟩ := HSK.out _ hSw; go_simp) <;> (with_reducible rfl)
      try simp only [Act.put, List.setIfInBounds_toArray, List.set_cons_zero, List.set_cons_succ]
      refine wpAnyH_done (by kernel_rfl) ?_ _
      have HFH := Lib.hid hHeld
      have e0 : (w1.drew).cell? ⟨p + 2, 0, none⟩ = some (.bool false) := (HP1.out.2.2.fr HFH.out fun e => e).cell 0
      have e1 : (w1.drew).cell? ⟨p + 2, 1, none⟩ = some (.slice va vn vc) := (HP1.out.2.2.fr HFH.out fun e => e).cell 1
      have e2 : (w1.drew).cell? ⟨p + 2, 2, none⟩ = some (.int .i64 vm) := (HP1.out.2.2.fr HFH.out fun e => e).cell 2
      have e3 : (w1.drew).cell? ⟨p + 2, 3, none⟩ = some (.int .u64 (vt : Int)) := (HP1.out.2.2.fr HFH.out fun e => e).cell 3
      have HIW := Lib.hid (HI.out _ HFH.out)
      clear hHeld HI HDF HSK b0 b1 b2 b3
      go_wp2_with fail
      refine HIW.out.mono ?_
      clear HIW
      rintro e w3 ⟨rfl, hf3⟩
      have HFZ : Hid (Fr NoBlk w w3) := HF1.out.trans (HFH.out.trans hf3)
      clear hf3 e0 e1 e2 e3
      cases x6 <;> cases x7 <;>
      · go_wp2_with fail
        go_ret
        exact ⟨by rw [HCB.out]; rfl, HFZ.out⟩
    | true =>
      go_upto_region 3 with fail
      refine wp_region_held_drew (S := fun w' => Fr NoBlk w1 w') (by kernel_rfl) ((Fr.refl _ _).drew) (fun hHeld => ?_)
      refine wpAnyH_take (i := 0) (oi := ⟨some 18, _, _, _, _, _⟩) (v := ?_) rfl (by kernel_rfl) (by kernel_rfl) (by kernel_rfl) (fun _ _ _ h => h) (Or.inl ⟨by rfl, ?_⟩) (by assumption) ?_
      rotate_left 1
      · (intro w hSw; (try dsimp only at hSw); obtain ⟨y0, y1, y2, y3, y4, y5⟩ := HSK.out _ hSw; go_simp) <;> (with_reducible rfl)
      try simp only [Act.put, List.setIfInBounds_toArray, List.set_cons_zero, List.set_cons_succ]
      refine wpAnyH_take (i := 1) (oi := ⟨some 19, _, _, _, _, _⟩) (v := ?_) rfl (by kernel_rfl) (by kernel_rfl) (by kernel_rfl) (fun _ _ _ h => h) (Or.inl ⟨by rfl, ?_⟩) (by assumption) ?_
      rotate_left 1
      · (intro w hSw; (try dsimp only at hSw); obtain ⟨y0, y1, y2, y3, y4, y5⟩ := HSK.out _ hSw; go_simp) <;> (with_reducible rfl)
      try simp only [Act.put, List.setIfInBounds_toArray, List.set_cons_zero, List.set_cons_succ]
      refine wpAnyH_take (i := 2) (oi := ⟨some 20, _, _, _, _, _⟩) (v := ?_) rfl (by kernel_rfl) (by kernel_rfl) (by kernel_rfl) (fun _ _ _ h => h) (Or.inl ⟨by rfl, ?_⟩) (by assumption) ?_
      rotate_left 1
      · (intro w hSw; (try dsimp only at hSw); obtain ⟨y0, y1, y2, y3, y4, y5⟩ := HSK.out _ hSw; go_simp) <;> (with_reducible rfl)
      try simp only [Act.put, List.setIfInBounds_toArray, List.set_cons_zero, List.set_cons_succ]
      refine wpAnyH_take (i := 3) (oi := ⟨some 21, _, _, _, _, _⟩) (v := ?_) rfl (by kernel_rfl) (by kernel_rfl) (by kernel_rfl) (fun _ _ _ h => h) (Or.inl ⟨by rfl, ?_⟩) (by assumption) ?_
      rotate_left 1
      · (intro w hSw; (try dsimp only at hSw); obtain ⟨y0, y1, y2, y3, y4, y5⟩ := HSK.out _ hSw; go_simp) <;> (with_reducible rfl)
      try simp only [Act.put, List.setIfInBounds_toArray, List.set_cons_zero, List.set_cons_succ]
      refine wpAnyH_take (i := 4) (oi := ⟨some 22, _, _, _, _, _⟩) (v := undef) rfl (by kernel_rfl) (by kernel_rfl) (by kernel_rfl) (fun _ _ _ h => h) (Or.inr ⟨by rfl, rfl⟩) (by assumption) ?_
      try simp only [Act.put, List.setIfInBounds_toArray, List.set_cons_zero, List.set_cons_succ]
      refine wpAnyH_take (i := 5) (oi := ⟨some 23, _, _, _, _, _⟩) (v := undef) rfl (by kernel_rfl) (by kernel_rfl) (by kernel_rfl) (fun _ _ _ h => h) (Or.inr ⟨by rfl, rfl⟩) (by assumption) ?_
      try simp only [Act.put, List.setIfInBounds_toArray, List.set_cons_zero, List.set_cons_succ]
      refine wpAnyH_take (i := 6) (oi := ⟨some 24, _, _, _, _, _⟩) (v := undef) rfl (by kernel_rfl) (by kernel_rfl) (by kernel_rfl) (fun _ _ _ h => h) (Or.inr ⟨by rfl, rfl⟩) (by assumption) ?_
      try simp only [Act.put, List.setIfInBounds_toArray, List.set_cons_zero, List.set_cons_succ]
      refine wpAnyH_take (i := 7) (oi := ⟨some 25, _, _, _, _, _⟩) (v := undef) rfl (by kernel_rfl) (by kernel_rfl) (by kernel_rfl) (fun _ _ _ h => h) (Or.inr ⟨by rfl, rfl⟩) (by assumption) ?_
      try simp only [Act.put, List.setIfInBounds_toArray, List.set_cons_zero, List.set_cons_succ]
      refine wpAnyH_take (i := 8) (oi := ⟨some 26, _, _, _, _, _⟩) (v := undef) rfl (by kernel_rfl) (by kernel_rfl) (by kernel_rfl) (fun _ _ _ h => h) (Or.inr ⟨by rfl, rfl⟩) (by assumption) ?_
      try simp only [Act.put, List.setIfInBounds_toArray, List.set_cons_zero, List.set_cons_succ]
      refine wpAnyH_take (i := 9) (oi := ⟨some 27, _, _, _, _, _⟩) (v := undef) rfl (by kernel_rfl) (by kernel_rfl) (by kernel_rfl) (fun _ _ _ h => h) (Or.inr ⟨by rfl, rfl⟩) (by assumption) ?_
      try simp only [Act.put, List.setIfInBounds_toArray, List.set_cons_zero, List.set_cons_succ]
      refine wpAnyH_take (i := 10) (oi := ⟨some 28, _, _, _, _, _⟩) (v := undef) rfl (by kernel_rfl) (by kernel_rfl) (by kernel_rfl) (fun _ _ _ h => h) (Or.inr ⟨by rfl, rfl⟩) (by assumption) ?_
      try simp only [Act.put, List.setIfInBounds_toArray, List.set_cons_zero, List.set_cons_succ]
      refine wpAnyH_take (i := 11) (oi := ⟨some 29, _, _, _, _, _⟩) (v := undef) rfl (by kernel_rfl) (by kernel_rfl) (by kernel_rfl) (fun _ _ _ h => h) (Or.inr ⟨by rfl, rfl⟩) (by assumption) ?_
      try simp only [Act.put, List.setIfInBounds_toArray, List.set_cons_zero, List.set_cons_succ]
      refine wpAnyH_take (i := 12) (oi := ⟨some 30, _, _, _, _, _⟩) (v := undef) rfl (by kernel_rfl) (by kernel_rfl) (by kernel_rfl) (fun _ _ _ h => h) (Or.inr ⟨by rfl, rfl⟩) (by assumption) ?_
      try simp only [Act.put, List.setIfInBounds_toArray, List.set_cons_zero, List.set_cons_succ]
      refine wpAnyH_take (i := 13) (oi := ⟨some 31, _, _, _, _, _⟩) (v := undef) rfl (by kernel_rfl) (by kernel_rfl) (by kernel_rfl) (fun _ _ _ h => h) (Or.inr ⟨by rfl, rfl⟩) (by assumption) ?_
      try simp only [Act.put, List.setIfInBounds_toArray, List.set_cons_zero, List.set_cons_succ]
      refine wpAnyH_take (i := 14) (oi := ⟨some 32, _, _, _, _, _⟩) (v := undef) rfl (by kernel_rfl) (by kernel_rfl) (by kernel_rfl) (fun _ _ _ h => h) (Or.inr ⟨by rfl, rfl⟩) (by assumption) ?_
      try simp only [Act.put, List.setIfInBounds_toArray, List.set_cons_zero, List.set_cons_succ]
      refine wpAnyH_take (i := 15) (oi := ⟨some 33, _, _, _, _, _⟩) (v := ?_) rfl (by kernel_rfl) (by kernel_rfl) (by kernel_rfl) (fun _ _ _ h => h) (Or.inl ⟨by rfl, ?_⟩) (by assumption) ?_
      rotate_left 1
      · (intro w hSw; (try dsimp only at hSw); obtain ⟨y0, y1, y2, y3, y4, y5⟩ := HSK.out _ hSw; go_simp) <;> (with_reducible rfl)
      try simp only [Act.put, List.setIfInBounds_toArray, List.set_cons_zero, List.set_cons_succ]
      refine wpAnyH_take (i := 16) (oi := ⟨some 7, _, _, _, _, _⟩) (v := ?_) rfl (by kernel_rfl) (by kernel_rfl) (by kernel_rfl) (fun _ _ _ h => h) (Or.inl ⟨by rfl, ?_⟩) (by assumption) ?_
      rotate_left 1
      · (intro w hSw; (try dsimp only at hSw); obtain ⟨y0, y1, y2, y3, y4, y5⟩ := HSK.out _ hSw; go_simp) <;> (with_reducible rfl)
      try simp only [Act.put, List.setIfInBounds_toArray, List.set_cons_zero, List.set_cons_succ]
      refine wpAnyH_done (by kernel_rfl) ?_ _
      have HFH := Lib.hid hHeld
      have e0 : (w1.drew).cell? ⟨p + 2, 0, none⟩ = some (.bool false) := (HP1.out.2.2.fr HFH.out fun e => e).cell 0
      have e1 : (w1.drew).cell? ⟨p + 2, 1, none⟩ = some (.slice va vn vc) := (HP1.out.2.2.fr HFH.out fun e => e).cell 1
      have e2 : (w1.drew).cell? ⟨p + 2, 2, none⟩ = some (.int .i64 vm) := (HP1.out.2.2.fr HFH.out fun e => e).cell 2
      have e3 : (w1.drew).cell? ⟨p + 2, 3, none⟩ = some (.int .u64 (vt : Int)) := (HP1.out.2.2.fr HFH.out fun e => e).cell 3
      have HIW := Lib.hid (HI.out _ HFH.out)
      clear hHeld HI HDF HSK b0 b1 b2 b3
      go_wp2_with fail
      refine HIW.out.mono ?_
      clear HIW
      rintro e w3 ⟨rfl, hf3⟩
      have HFZ : Hid (Fr NoBlk w w3) := HF1.out.trans (HFH.out.trans hf3)
      clear hf3 e0 e1 e2 e3
      cases x6 <;> cases x7 <;>
      · go_wp2_with fail
        go_ret
        exact ⟨by rw [HCB.out]; rfl, HFZ.out⟩
  | true =>
    cases xc with
    | false =>
      go_upto_region 3 with fail
      refine wp_region_held_drew (S := fun w' => Fr NoBlk w1 w') (by kernel_rfl) ((Fr.refl _ _).drew) (fun hHeld => ?_)
      refine wpAnyH_take (i := 0) (oi := ⟨some 18, _, _, _, _, _⟩) (v := ?_) rfl (by kernel_rfl) (by kernel_rfl) (by kernel_rfl) (fun _ _ _ h => h) (Or.inl ⟨by rfl, ?_⟩) (by assumption) ?_
      rotate_left 1
      · (intro w hSw; (try dsimp only at hSw); obtain ⟨y0, y1, y2, y3, y4, y5⟩ := HSK.out _ hSw; go_simp) <;> (with_reducible rfl)
      try simp only [Act.put, List.setIfInBounds_toArray, List.set_cons_zero, List.set_cons_succ]
      refine wpAnyH_take (i := 1) (oi := ⟨some 19, _, _, _, _, _⟩) (v := ?_) rfl (by kernel_rfl) (by kernel_rfl) (by kernel_rfl) (fun _ _ _ h => h) (Or.inl ⟨by rfl, ?_⟩) (by assumption) ?_
      rotate_left 1
      · (intro w hSw; (try dsimp only at hSw); obtain ⟨y0, y1, y2, y3, y4, y5⟩ := HSK.out _ hSw; go_simp) <;> (with_reducible rfl)
      try simp only [Act.put, List.setIfInBounds_toArray, List.set_cons_zero, List.set_cons_succ]
      refine wpAnyH_take (i := 2) (oi := ⟨some 20, _, _, _, _, _⟩) (v := ?_) rfl (by kernel_rfl) (by kernel_rfl) (by kernel_rfl) (fun _ _ _ h => h) (Or.inl ⟨by rfl, ?_⟩) (by assumption) ?_
      rotate_left 1
      · (intro w hSw; (try dsimp only at hSw); obtain ⟨y0, y1, y2, y3, y4, y5⟩ := HSK.out _ hSw; go_simp) <;> (with_reducible rfl)
      try simp only [Act.put, List.setIfInBounds_toArray, List.set_cons_zero, List.set_cons_succ]
      refine wpAnyH_take (i := 3) (oi := ⟨some 21, _, _, _, _, _⟩) (v := ?_) rfl (by kernel_rfl) (by kernel_rfl) (by kernel_rfl) (fun _ _ _ h => h) (Or.inl ⟨by rfl, ?_⟩) (by assumption) ?_
      rotate_left 1
      · (intro w hSw; (try dsimp only at hSw); obtain ⟨y0, y1, y2, y3, y4, y5⟩ := HSK.out _ hSw; go_simp) <;> (with_reducible rfl)
      try simp only [Act.put, List.setIfInBounds_toArray, List.set_cons_zero, List.set_cons_succ]
      refine wpAnyH_take (i := 4) (oi := ⟨some 22, _, _, _, _, _⟩) (v := ?_) rfl (by kernel_rfl) (by kernel_rfl) (by kernel_rfl) (fun _ _ _ h => h) (Or.inl ⟨by rfl, ?_⟩) (by assumption) ?_
      rotate_left 1
      · (intro w hSw; (try dsimp only at hSw); obtain ⟨y0, y1, y2, y3, y4, y5⟩ := HSK.out _ hSw; go_simp) <;> (with_reducible rfl)
      try simp only [Act.put, List.setIfInBounds_toArray, List.set_cons_zero, List.set_cons_succ]
      refine wpAnyH_take (i := 5) (oi := ⟨some 23, _, _, _, _, _⟩) (v := ?_) rfl (by kernel_rfl) (by kernel_rfl) (by kernel_rfl) (fun _ _ _ h => h) (Or.inl ⟨by rfl, ?_⟩) (by assumption) ?_
      rotate_left 1
      · (intro w hSw; (try dsimp only at hSw); obtain ⟨y0, y1, y2, y3, y4, y5⟩ := HSK.out _ hSw; go_simp) <;> (with_reducible rfl)
      try simp only [Act.put, List.setIfInBounds_toArray, List.set_cons_zero, List.set_cons_succ]
      refine wpAnyH_take (i := 6) (oi := ⟨some 24, _, _, _, _, _⟩) (v := ?_) rfl (by kernel_rfl) (by kernel_rfl) (by kernel_rfl) (fun _ _ _ h => h) (Or.inl ⟨by rfl, ?_⟩) (by assumption) ?_
      rotate_left 1
      · (intro w hSw; (try dsimp only at hSw); obtain ⟨y0, y1, y2, y3, y4, y5⟩ := HSK.out _ hSw; go_simp) <;> (with_reducible rfl)
      try simp only [Act.put, List.setIfInBounds_toArray, List.set_cons_zero, List.set_cons_succ]
      refine wpAnyH_take (i := 7) (oi := ⟨some 25, _, _, _, _, _⟩) (v := ?_) rfl (by kernel_rfl) (by kernel_rfl) (by kernel_rfl) (fun _ _ _ h => h) (Or.inl ⟨by rfl, ?_⟩) (by assumption) ?_
      rotate_left 1
      · (intro w hSw; (try dsimp only at hSw); obtain ⟨y0, y1, y2, y3, y4, y5⟩ := HSK.out _ hSw; go_simp) <;> (with_reducible rfl)
      try simp only [Act.put, List.setIfInBounds_toArray, List.set_cons_zero, List.set_cons_succ]
      refine wpAnyH_take (i := 8) (oi := ⟨some 26, _, _, _, _, _⟩) (v := ?_) rfl (by kernel_rfl) (by kernel_rfl) (by kernel_rfl) (fun _ _ _ h => h) (Or.inl ⟨by rfl, ?_⟩) (by assumption) ?_
      rotate_left 1
      · (intro w hSw; (try dsimp only at hSw); obtain ⟨y0, y1, y2, y3, y4, y5⟩ := HSK.out _ hSw; go_simp) <;> (with_reducible rfl)
      try simp only [Act.put, List.setIfInBounds_toArray, List.set_cons_zero, List.set_cons_succ]
      refine wpAnyH_take (i := 9) (oi := ⟨some 27, _, _, _, _, _⟩) (v := ?_) rfl (by kernel_rfl) (by kernel_rfl) (by kernel_rfl) (fun _ _ _ h => h) (Or.inl ⟨by rfl, ?_⟩) (by assumption) ?_
      rotate_left 1
      · (intro w hSw; (try dsimp only at hSw); obtain ⟨y0, y1, y2, y3, y4, y5⟩ := HSK.out _ hSw; go_simp) <;> (with_reducible rfl)
      try simp only [Act.put, List.setIfInBounds_toArray, List.set_cons_zero, List.set_cons_succ]
      refine wpAnyH_take (i := 10) (oi := ⟨some 28, _, _, _, _, _⟩) (v := ?_) rfl (by kernel_rfl) (by kernel_rfl) (by kernel_rfl) (fun _ _ _ h => h) (Or.inl ⟨by rfl, ?_⟩) (by assumption) ?_
      rotate_left 1
      · (intro w hSw; (try dsimp only at hSw); obtain ⟨y0, y1, y2, y3, y4, y5⟩ := HSK.out _ hSw; go_simp) <;> (with_reducible rfl)
      try simp only [Act.put, List.setIfInBounds_toArray, List.set_cons_zero, List.set_cons_succ]
      refine wpAnyH_take (i := 11) (oi := ⟨some 29, _, _, _, _, _⟩) (v := ?_) rfl (by kernel_rfl) (by kernel_rfl) (by kernel_rfl) (fun _ _ _ h => h) (Or.inl ⟨by rfl, ?_⟩) (by assumption) ?_
      rotate_left 1
      · (intro w hSw; (try dsimp only at hSw); obtain ⟨y0, y1, y2, y3, y4, y5⟩ := HSK.out _ hSw; go_simp) <;> (with_reducible rfl)
      try simp only [Act.put, List.setIfInBounds_toArray, List.set_cons_zero, List.set_cons_succ]
      refine wpAnyH_take (i := 12) (oi := ⟨some 30, _, _, _, _, _⟩) (v := ?_) rfl (by kernel_rfl) (by kernel_rfl) (by kernel_rfl) (fun _ _ _ h => h) (Or.inl ⟨by rfl, ?_⟩) (by assumption) ?_
      rotate_left 1
      · (intro w hSw; (try dsimp only at hSw); obtain ⟨y0, y1, y2, y3, y4, y5⟩ := HSK.out _ hSw; go_simp) <;> (with_reducible rfl)
      try simp only [Act.put, List.setIfInBounds_toArray, List.set_cons_zero, List.set_cons_succ]
      refine wpAnyH_ready (rs := [13]) (by kernel_rfl) (by simp) ?_
      refine AllReadyH.cons (o := ⟨some 31, _, _, _, _, _⟩) rfl (fun K hK => ?_) AllReadyH.nil
      have hSw := hHeld
      go_simp
      go_at_call 20
      refine (HDF.out _).mono ?_
      rintro e w2 ⟨rfl, rfl⟩
      refine hK.out _ _ ?_ (fun hHeld => ?_)
      · exact hSw
      clear hK K
      try simp only [Act.put, List.setIfInBounds_toArray, List.set_cons_zero, List.set_cons_succ]
      refine wpAnyH_take (i := 14) (oi := ⟨some 32, _, _, _, _, _⟩) (v := ?_) rfl (by kernel_rfl) (by kernel_rfl) (by kernel_rfl) (fun _ _ _ h => h) (Or.inl ⟨by rfl, ?_⟩) (by assumption) ?_
      rotate_left 1
      · (intro w hSw; (try dsimp only at hSw); obtain ⟨y0, y1, y2, y3, y4, y5⟩ := HSK.out _ hSw; go_simp) <;> (with_reducible rfl)
      try simp only [Act.put, List.setIfInBounds_toArray, List.set_cons_zero, List.set_cons_succ]
      refine wpAnyH_take (i := 15) (oi := ⟨some 33, _, _, _, _, _⟩) (v := ?_) rfl (by kernel_rfl) (by kernel_rfl) (by kernel_rfl) (fun _ _ _ h => h) (Or.inl ⟨by rfl, ?_⟩) (by assumption) ?_
      rotate_left 1
      · (intro w hSw; (try dsimp only at hSw); obtain ⟨y0, y1, y2, y3, y4, y5⟩ := HSK.out _ hSw; go_simp) <;> (with_reducible rfl)
      try simp only [Act.put, List.setIfInBounds_toArray, List.set_cons_zero, List.set_cons_succ]
      refine wpAnyH_take (i := 16) (oi := ⟨some 7, _, _, _, _, _⟩) (v := ?_) rfl (by kernel_rfl) (by kernel_rfl) (by kernel_rfl) (fun _ _ _ h => h) (Or.inl ⟨by rfl, ?_⟩) (by assumption) ?_
      rotate_left 1
      · (intro w hSw; (try dsimp only at hSw); obtain ⟨y0, y1, y2, y3, y4, y5⟩ := HSK.out _ hSw; go_simp) <;> (with_reducible rfl)
      try simp only [Act.put, List.setIfInBounds_toArray, List.set_cons_zero, List.set_cons_succ]
      refine wpAnyH_done (by kernel_rfl) ?_ _
      have HFH := Lib.hid hHeld
      have e0 : (w1.drew).cell? ⟨p + 2, 0, none⟩ = some (.bool true) := (HP1.out.2.2.fr HFH.out fun e => e).cell 0
      have e1 : (w1.drew).cell? ⟨p + 2, 1, none⟩ = some (.slice va vn vc) := (HP1.out.2.2.fr HFH.out fun e => e).cell 1
      have e2 : (w1.drew).cell? ⟨p + 2, 2, none⟩ = some (.int .i64 vm) := (HP1.out.2.2.fr HFH.out fun e => e).cell 2
      have e3 : (w1.drew).cell? ⟨p + 2, 3, none⟩ = some (.int .u64 (vt : Int)) := (HP1.out.2.2.fr HFH.out fun e => e).cell 3
      have HIW := Lib.hid (HI.out _ HFH.out)
      clear hHeld HI HDF HSK b0 b1 b2 b3
      go_wp2_with fail
      refine HIW.out.mono ?_
      clear HIW
      rintro e w3 ⟨rfl, hf3⟩
      have HFZ : Hid (Fr NoBlk w w3) := HF1.out.trans (HFH.out.trans hf3)
      clear hf3 e0 e1 e2 e3
      cases x6 <;> cases x7 <;>
      · go_wp2_with fail
        go_ret
        exact ⟨by rw [HCB.out]; rfl, HFZ.out⟩
    | true =>
      go_upto_region 3 with fail
      refine wp_region_held_drew (S := fun w' => Fr NoBlk w1 w') (by kernel_rfl) ((Fr.refl _ _).drew) (fun hHeld => ?_)
      refine wpAnyH_take (i := 0) (oi := ⟨some 18, _, _, _, _, _⟩) (v := ?_) rfl (by kernel_rfl) (by kernel_rfl) (by kernel_rfl) (fun _ _ _ h => h) (Or.inl ⟨by rfl, ?_⟩) (by assumption) ?_
      rotate_left 1
      · (intro w hSw; (try dsimp only at hSw); obtain ⟨y0, y1, y2, y3, y4, y5⟩ := HSK.out _ hSw; go_simp) <;> (with_reducible rfl)
      try simp only [Act.put, List.setIfInBounds_toArray, List.set_cons_zero, List.set_cons_succ]
      refine wpAnyH_take (i := 1) (oi := ⟨some 19, _, _, _, _, _⟩) (v := ?_) rfl (by kernel_rfl) (by kernel_rfl) (by kernel_rfl) (fun _ _ _ h => h) (Or.inl ⟨by rfl, ?_⟩) (by assumption) ?_
      rotate_left 1
      · (intro w hSw; (try dsimp only at hSw); obtain ⟨y0, y1, y2, y3, y4, y5⟩ := HSK.out _ hSw; go_simp) <;> (with_reducible rfl)
      try simp only [Act.put, List.setIfInBounds_toArray, List.set_cons_zero, List.set_cons_succ]
      refine wpAnyH_take (i := 2) (oi := ⟨some 20, _, _, _, _, _⟩) (v := ?_) rfl (by kernel_rfl) (by kernel_rfl) (by kernel_rfl) (fun _ _ _ h => h) (Or.inl ⟨by rfl, ?_⟩) (by assumption) ?_
      rotate_left 1
      · (intro w hSw; (try dsimp only at hSw); obtain ⟨y0, y1, y2, y3, y4, y5⟩ := HSK.out _ hSw; go_simp) <;> (with_reducible rfl)
      try simp only [Act.put, List.setIfInBounds_toArray, List.set_cons_zero, List.set_cons_succ]
      refine wpAnyH_take (i := 3) (oi := ⟨some 21, _, _, _, _, _⟩) (v := ?_) rfl (by kernel_rfl) (by kernel_rfl) (by kernel_rfl) (fun _ _ _ h => h) (Or.inl ⟨by rfl, ?_⟩) (by assumption) ?_
      rotate_left 1
      · (intro w hSw; (try dsimp only at hSw); obtain ⟨y0, y1, y2, y3, y4, y5⟩ := HSK.out _ hSw; go_simp) <;> (with_reducible rfl)
      try simp only [Act.put, List.setIfInBounds_toArray, List.set_cons_zero, List.set_cons_succ]
      refine wpAnyH_take (i := 4) (oi := ⟨some 22, _, _, _, _, _⟩) (v := undef) rfl (by kernel_rfl) (by kernel_rfl) (by kernel_rfl) (fun _ _ _ h => h) (Or.inr ⟨by rfl, rfl⟩) (by assumption) ?_
      try simp only [Act.put, List.setIfInBounds_toArray, List.set_cons_zero, List.set_cons_succ]
      refine wpAnyH_take (i := 5) (oi := ⟨some 23, _, _, _, _, _⟩) (v := undef) rfl (by kernel_rfl) (by kernel_rfl) (by kernel_rfl) (fun _ _ _ h => h) (Or.inr ⟨by rfl, rfl⟩) (by assumption) ?_
      try simp only [Act.put, List.setIfInBounds_toArray, List.set_cons_zero, List.set_cons_succ]
      refine wpAnyH_take (i := 6) (oi := ⟨some 24, _, _, _, _, _⟩) (v := undef) rfl (by kernel_rfl) (by kernel_rfl) (by kernel_rfl) (fun _ _ _ h => h) (Or.inr ⟨by rfl, rfl⟩) (by assumption) ?_
      try simp only [Act.put, List.setIfInBounds_toArray, List.set_cons_zero, List.set_cons_succ]
      refine wpAnyH_take (i := 7) (oi := ⟨some 25, _, _, _, _, _⟩) (v := undef) rfl (by kernel_rfl) (by kernel_rfl) (by kernel_rfl) (fun _ _ _ h => h) (Or.inr ⟨by rfl, rfl⟩) (by assumption) ?_
      try simp only [Act.put, List.setIfInBounds_toArray, List.set_cons_zero, List.set_cons_succ]
      refine wpAnyH_take (i := 8) (oi := ⟨some 26, _, _, _, _, _⟩) (v := undef) rfl (by kernel_rfl) (by kernel_rfl) (by kernel_rfl) (fun _ _ _ h => h) (Or.inr ⟨by rfl, rfl⟩) (by assumption) ?_
      try simp only [Act.put, List.setIfInBounds_toArray, List.set_cons_zero, List.set_cons_succ]
      refine wpAnyH_take (i := 9) (oi := ⟨some 27, _, _, _, _, _⟩) (v := undef) rfl (by kernel_rfl) (by kernel_rfl) (by kernel_rfl) (fun _ _ _ h => h) (Or.inr ⟨by rfl, rfl⟩) (by assumption) ?_
      try simp only [Act.put, List.setIfInBounds_toArray, List.set_cons_zero, List.set_cons_succ]
      refine wpAnyH_take (i := 10) (oi := ⟨some 28, _, _, _, _, _⟩) (v := undef) rfl (by kernel_rfl) (by kernel_rfl) (by kernel_rfl) (fun _ _ _ h => h) (Or.inr ⟨by rfl, rfl⟩) (by assumption) ?_
      try simp only [Act.put, List.setIfInBounds_toArray, List.set_cons_zero, List.set_cons_succ]
      refine wpAnyH_take (i := 11) (oi := ⟨some 29, _, _, _, _, _⟩) (v := undef) rfl (by kernel_rfl) (by kernel_rfl) (by kernel_rfl) (fun _ _ _ h => h) (Or.inr ⟨by rfl, rfl⟩) (by assumption) ?_
      try simp only [Act.put, List.setIfInBounds_toArray, List.set_cons_zero, List.set_cons_succ]
      refine wpAnyH_take (i := 12) (oi := ⟨some 30, _, _, _, _, _⟩) (v := undef) rfl (by kernel_rfl) (by kernel_rfl) (by kernel_rfl) (fun _ _ _ h => h) (Or.inr ⟨by rfl, rfl⟩) (by assumption) ?_
      try simp only [Act.put, List.setIfInBounds_toArray, List.set_cons_zero, List.set_cons_succ]
      refine wpAnyH_take (i := 13) (oi := ⟨some 31, _, _, _, _, _⟩) (v := undef) rfl (by kernel_rfl) (by kernel_rfl) (by kernel_rfl) (fun _ _ _ h => h) (Or.inr ⟨by rfl, rfl⟩) (by assumption) ?_
      try simp only [Act.put, List.setIfInBounds_toArray, List.set_cons_zero, List.set_cons_succ]
      refine wpAnyH_take (i := 14) (oi := ⟨some 32, _, _, _, _, _⟩) (v := undef) rfl (by kernel_rfl) (by kernel_rfl) (by kernel_rfl) (fun _ _ _ h => h) (Or.inr ⟨by rfl, rfl⟩) (by assumption) ?_
      try simp only [Act.put, List.setIfInBounds_toArray, List.set_cons_zero, List.set_cons_succ]
      refine wpAnyH_take (i := 15) (oi := ⟨some 33, _, _, _, _, _⟩) (v := ?_) rfl (by kernel_rfl) (by kernel_rfl) (by kernel_rfl) (fun _ _ _ h => h) (Or.inl ⟨by rfl, ?_⟩) (by assumption) ?_
      rotate_left 1
      · (intro w hSw; (try dsimp only at hSw); obtain ⟨y0, y1, y2, y3, y4, y5⟩ := HSK.out _ hSw; go_simp) <;> (with_reducible rfl)
      try simp only [Act.put, List.setIfInBounds_toArray, List.set_cons_zero, List.set_cons_succ]
      refine wpAnyH_take (i := 16) (oi := ⟨some 7, _, _, _, _, _⟩) (v := ?_) rfl (by kernel_rfl) (by kernel_rfl) (by kernel_rfl) (fun _ _ _ h => h) (Or.inl ⟨by rfl, ?_⟩) (by assumption) ?_
      rotate_left 1
      · (intro w hSw; (try dsimp only at hSw); obtain ⟨y0, y1, y2, y3, y4, y5⟩ := HSK.out _ hSw; go_simp) <;> (with_reducible rfl)
      try simp only [Act.put, List.setIfInBounds_toArray, List.set_cons_zero, List.set_cons_succ]
      refine wpAnyH_done (by kernel_rfl) ?_ _
      have HFH := Lib.hid hHeld
      have e0 : (w1.drew).cell? ⟨p + 2, 0, none⟩ = some (.bool true) := (HP1.out.2.2.fr HFH.out fun e => e).cell 0
      have e1 : (w1.drew).cell? ⟨p + 2, 1, none⟩ = some (.slice va vn vc) := (HP1.out.2.2.fr HFH.out fun e => e).cell 1
      have e2 : (w1.drew).cell? ⟨p + 2, 2, none⟩ = some (.int .i64 vm) := (HP1.out.2.2.fr HFH.out fun e => e).cell 2
      have e3 : (w1.drew).cell? ⟨p + 2, 3, none⟩ = some (.int .u64 (vt : Int)) := (HP1.out.2.2.fr HFH.out fun e => e).cell 3
      have HIW := Lib.hid (HI.out _ HFH.out)
      clear hHeld HI HDF HSK b0 b1 b2 b3
      go_wp2_with fail
      refine HIW.out.mono ?_
      clear HIW
      rintro e w3 ⟨rfl, hf3⟩
      have HFZ : Hid (Fr NoBlk w w3) := HF1.out.trans (HFH.out.trans hf3)
      clear hf3 e0 e1 e2 e3
      cases x6 <;> cases x7 <;>
      · go_wp2_with fail
        go_ret
        exact ⟨by rw [HCB.out]; rfl, HFZ.out⟩
end Go.Proofs.Ytkdcacajacndmaa

namespace Go.Proofs.Ytkdcacajacndmaa
open Go.RowKit
def RdPost (w : World) (ge : Nat) (A : Option Addr) (n : Nat) (l : Bs) (e : Ending) (w' : World) : Prop :=
  ∃ (key : Bs) (v : VaR) (b : Bool) (A' : Option Addr) (c' : Nat), e = .returned (.tuple #[.agg #[.string (bstr key), .bool v.has, .slice v.va v.vn v.vc, .int .i64 v.home, .int .u64 (v.count : Int)], .bool b]) ∧ b = rowOk n l ∧ Fr (fun k => k = ge) w w' ∧
    (b = true → Eye w' ge A' c' (r5 l) ∧ (∀ k, ablk A' k → ablk A k) ∧ key = rdKey l ∧ Fresh w.heap.size w' v (rdRec l))
set_option maxRecDepth 100000 in
set_option maxHeartbeats 2000000 in
theorem row_any (w : World) (ge gs n : Nat) (A : Option Addr) (c : Nat) (l : Bs) (he : Eye w ge A c l) (hl : l.length ≤ 190000) (cs : Array Value) (hb : Bk w gs 68 cs) (hcs : cs[0]? = some (.int .i64 (n : Int))) (hn : n ≤ 3) (har : ∀ k, ablk A k → k < w.heap.size) :
    Calls Try.prog 64 #[.agg #[.pointer (some ⟨ge, 0, none⟩), .pointer (some ⟨gs, 0, none⟩)]] w (RdPost w ge A n l) := by
  obtain ⟨p, hp⟩ : ∃ p, p = w.heap.size := ⟨_, rfl⟩
  obtain ⟨w1, hw1⟩ : ∃ W, W = (w.alloc (.cells #[.pointer (some ⟨ge, 0, none⟩), .pointer (some ⟨gs, 0, none⟩)] 86)).alloc (.cells #[.string { data := #[] }, .bool false, .slice none 0 0, .int .i64 0, .int .u64 0] 61) := ⟨_, rfl⟩
  have hf1 : Fr NoBlk w w1 := by rw [hw1]; exact ((Fr.refl _ _).alloc _).alloc _
  have HBX1 : Hid (Bk w1 p 86 #[.pointer (some ⟨ge, 0, none⟩), .pointer (some ⟨gs, 0, none⟩)]) := by show Bk _ _ _ _; rw [hw1, hp]; exact (Bk.new _ _ _).alloc _
  have HRW1 : Hid (Bk w1 (p + 1) 61 #[.string { data := #[] }, .bool false, .slice none 0 0, .int .i64 0, .int .u64 0]) := by
    show Bk _ _ _ _
    rw [hw1, hp]
    have h := Bk.new (w.alloc (.cells #[.pointer (some ⟨ge, 0, none⟩), .pointer (some ⟨gs, 0, none⟩)] 86)) 61 #[.string { data := #[] }, .bool false, .slice none 0 0, .int .i64 0, .int .u64 0]
    rw [World.size_alloc] at h
    exact h
  have HE1 : Hid (Eye w1 ge A c l) := he.keep hf1 (fun e => e) fun _ _ e => e
  have HGE : Hid (ge < p ∧ gs < p) := ⟨by rw [hp]; exact he.bk.lt, by rw [hp]; exact hb.lt⟩
  have HPP : Hid (p = w.heap.size) := hp
  have HAR : Hid (∀ k, ablk A k → k < p) := fun k hk => by rw [hp]; exact har k hk
  have HL := Lib.hid hl
  have HN3 : Hid (n ≤ 3) := hn
  have HBS0 : Hid (Bk w1 gs 68 cs ∧ cs[0]? = some (.int .i64 (n : Int)) ∧ n ≤ 3) := ⟨hb.fr hf1 fun e => e, hcs, hn⟩
  have HF1 := Lib.hid hf1
  have HW1 := Lib.hid hw1
  have HT1 := Lib.hid (eyeText_any w1 ge A c l HE1.out (by omega))
  clear he hl hb hcs hn har hp hw1 hf1
  go_enter Try.func64, Try.ntmps64
  go_upto_region 1 with fail
  rw [← HW1.out, ← HPP.out]
  clear HW1
  have d0 : w1.cell? ⟨p, 0, none⟩ = some (.pointer (some ⟨ge, 0, none⟩)) := HBX1.out.cell 0
  go_wp2_with fail
  refine HT1.out.mono ?_
  clear HT1 d0
  rintro e w2 ⟨v1, A2, c2, rfl, ho1, hz1⟩
  obtain ⟨K1, kc1, rfl, _, _⟩ := own_form ho1
  obtain ⟨key, hkey⟩ : ∃ k, k = rdKey l := ⟨_, rfl⟩
  have hky : (rdText l).1 = key := hkey.symm
  rw [hky] at ho1 ⊢
  obtain ⟨kn, hkn⟩ : ∃ m, m = key.length := ⟨_, rfl⟩
  rw [← hkn] at ho1 ⊢
  obtain ⟨e1, he1⟩ : ∃ z : Int, z = ((rdText l).2.2 : Int) := ⟨_, rfl⟩
  rw [← he1]
  have HKY : Hid (key = rdKey l) := hkey
  have HKN : Hid (kn = key.length) := hkn
  have HI1 : Hid (e1 = ((rdText l).2.2 : Int)) := he1
  have HE2 : Hid (Eye w2 ge A2 c2 (r1 l)) := hz1.eye
  have HA2 : Hid (∀ k, ablk A2 k → ablk A k) := hz1.row
  have HF2 : Hid (Fr (fun k => k = ge) w1 w2) := hz1.fr
  have HO1 := Lib.hid ho1
  have HBX2 : Hid (Bk w2 p 86 #[.pointer (some ⟨ge, 0, none⟩), .pointer (some ⟨gs, 0, none⟩)]) := HBX1.out.fr hz1.fr (by have := HGE.out; omega)
  have HT2 := Lib.hid (eyeByte_any w2 ge A2 c2 (r1 l) hz1.eye)
  have d0 : w2.cell? ⟨p, 0, none⟩ = some (.pointer (some ⟨ge, 0, none⟩)) := HBX2.out.cell 0
  clear hky hkey hkn he1 ho1 hz1
  go_wp2_with fail
  refine HT2.out.mono ?_
  clear HT2 d0
  rintro e w3 ⟨rfl, A3, c3, hz2⟩
  obtain ⟨mk, hmk⟩ : ∃ m, m = rdMark l := ⟨_, rfl⟩
  have hmk' : (r1 l).headD 0 = mk := hmk.symm
  rw [hmk']
  obtain ⟨e2, he2⟩ : ∃ z : Int, z = if r1 l = [] then 30 else 0 := ⟨_, rfl⟩
  rw [← he2]
  have HMKE : Hid (mk = rdMark l) := hmk
  have HI2 : Hid (e2 = if r1 l = [] then 30 else 0) := he2
  have HE3 : Hid (Eye w3 ge A3 c3 (r2 l)) := hz2.eye
  have HA3 : Hid (∀ k, ablk A3 k → ablk A k) := fun k hk => HA2.out k (hz2.row k hk)
  have HF3 : Hid (Fr (fun k => k = ge) w1 w3) := HF2.out.trans hz2.fr
  have HG3 : Hid (Fr (fun k => k = ge) w2 w3) := hz2.fr
  have HBX3 : Hid (Bk w3 p 86 #[.pointer (some ⟨ge, 0, none⟩), .pointer (some ⟨gs, 0, none⟩)]) := HBX2.out.fr hz2.fr (by have := HGE.out; omega)
  have HT3 := Lib.hid (eyeText_any w3 ge A3 c3 (r2 l) hz2.eye (by unfold r2 r1; rw [List.length_drop, List.length_drop]; have := HL.out; omega))
  have d0 : w3.cell? ⟨p, 0, none⟩ = some (.pointer (some ⟨ge, 0, none⟩)) := HBX3.out.cell 0
  clear hmk hmk' he2 hz2
  go_wp2_with fail
  refine HT3.out.mono ?_
  clear HT3 d0
  rintro e w4 ⟨v3, A4, c4, rfl, ho3, hz3⟩
  obtain ⟨K3, kc3, rfl, _, hk3⟩ := own_form ho3
  obtain ⟨val, hval⟩ : ∃ k, k = rdVal l := ⟨_, rfl⟩
  have hvl : (rdText (r2 l)).1 = val := hval.symm
  rw [hvl] at ho3 ⊢
  obtain ⟨vn, hvn⟩ : ∃ m, m = val.length := ⟨_, rfl⟩
  rw [← hvn] at ho3 ⊢
  obtain ⟨e3, he3⟩ : ∃ z : Int, z = ((rdText (r2 l)).2.2 : Int) := ⟨_, rfl⟩
  rw [← he3]
  have HVL : Hid (val = rdVal l ∧ vn = val.length) := ⟨hval, hvn⟩
  have HI3 : Hid (e3 = ((rdText (r2 l)).2.2 : Int)) := he3
  have HE4 : Hid (Eye w4 ge A4 c4 (r3 l)) := hz3.eye
  have HA4 : Hid (∀ k, ablk A4 k → ablk A k) := fun k hk => HA3.out k (hz3.row k hk)
  have HF4 : Hid (Fr (fun k => k = ge) w1 w4) := HF3.out.trans hz3.fr
  have HG4 : Hid (Fr (fun k => k = ge) w2 w4) := HG3.out.trans hz3.fr
  have HO3' := Lib.hid ho3
  have HBX4 : Hid (Bk w4 p 86 #[.pointer (some ⟨ge, 0, none⟩), .pointer (some ⟨gs, 0, none⟩)]) := HBX3.out.fr hz3.fr (by have := HGE.out; omega)
  have HT4 := Lib.hid (eyeNum_any w4 ge A4 c4 (r3 l) hz3.eye (by unfold r3 r2 r1; rw [List.length_drop, List.length_drop, List.length_drop]; have := HL.out; omega))
  have d0 : w4.cell? ⟨p, 0, none⟩ = some (.pointer (some ⟨ge, 0, none⟩)) := HBX4.out.cell 0
  clear hval hvl hvn he3 ho3 hz3
  go_wp2_with fail
  refine HT4.out.mono ?_
  clear HT4 d0
  rintro e w5 ⟨rfl, A5, c5, hz4⟩
  obtain ⟨hm, hhm⟩ : ∃ m, m = rdHome l := ⟨_, rfl⟩
  have hhm' : (rdNum (r3 l)).1 = hm := hhm.symm
  rw [hhm']
  obtain ⟨e4, he4⟩ : ∃ z : Int, z = ((rdNum (r3 l)).2.2 : Int) := ⟨_, rfl⟩
  rw [← he4]
  have HHME : Hid (hm = rdHome l) := hhm
  have HI4 : Hid (e4 = ((rdNum (r3 l)).2.2 : Int)) := he4
  have HA5 : Hid (∀ k, ablk A5 k → ablk A k) := fun k hk => HA4.out k (hz4.row k hk)
  have HF5 : Hid (Fr (fun k => k = ge) w1 w5) := HF4.out.trans hz4.fr
  have HG5 : Hid (Fr (fun k => k = ge) w2 w5 ∧ Fr (fun k => k = ge) w4 w5) := ⟨HG4.out.trans hz4.fr, hz4.fr⟩
  have HBX5 : Hid (Bk w5 p 86 #[.pointer (some ⟨ge, 0, none⟩), .pointer (some ⟨gs, 0, none⟩)]) := HBX4.out.fr hz4.fr (by have := HGE.out; omega)
  have HT5 := Lib.hid (eyeNum_any w5 ge A5 c5 (r4 l) hz4.eye (by unfold r4 r3 r2 r1; rw [List.length_drop, List.length_drop, List.length_drop, List.length_drop]; have := HL.out; omega))
  have d0 : w5.cell? ⟨p, 0, none⟩ = some (.pointer (some ⟨ge, 0, none⟩)) := HBX5.out.cell 0
  clear hhm hhm' he4 hz4
  go_wp2_with fail
  refine HT5.out.mono ?_
  clear HT5 d0
  rintro e w6 ⟨rfl, A6, c6, hz5⟩
  obtain ⟨ct, hct⟩ : ∃ m, m = rdCnt l := ⟨_, rfl⟩
  have hct' : (rdNum (r4 l)).1 = ct := hct.symm
  rw [hct']
  obtain ⟨e5, he5⟩ : ∃ z : Int, z = ((rdNum (r4 l)).2.2 : Int) := ⟨_, rfl⟩
  rw [← he5]
  obtain ⟨w7, hw7⟩ : ∃ W, W = w6.alloc (.cells #[.int .i64 e1, .int .i64 e2, .int .i64 e3, .int .i64 e4, .int .i64 e5] 26) := ⟨_, rfl⟩
  have hf67 : Fr NoBlk w6 w7 := by rw [hw7]; exact (Fr.refl _ _).alloc _
  have hf17 : Fr (fun k => k = ge) w1 w7 := (HF5.out.trans hz5.fr).step hf67 fun _ _ e => e.elim
  have HF7 : Hid (Fr (fun k => k = ge) w w7) := (HF1.out.mono fun _ _ e => e.elim).trans hf17
  have HBX : Hid (Bk w7 p 86 #[.pointer (some ⟨ge, 0, none⟩), .pointer (some ⟨gs, 0, none⟩)]) := HBX1.out.fr hf17 (by have := HGE.out; omega)
  have HRW : Hid (Bk w7 (p + 1) 61 #[.string { data := #[] }, .bool false, .slice none 0 0, .int .i64 0, .int .u64 0]) := HRW1.out.fr hf17 (by have := HGE.out; omega)
  have HBS : Hid (Bk w7 gs 68 cs ∧ cs[0]? = some (.int .i64 (n : Int))) := ⟨HBS0.out.1.fr hf17 (fun e => Bk.apart HBS0.out.1 HE1.out.bk (by decide) e), HBS0.out.2.1⟩
  have hf47 : Fr (fun k => k = ge) w4 w7 := (HG5.out.2.trans hz5.fr).step hf67 fun _ _ e => e.elim
  have hf27 : Fr (fun k => k = ge) w2 w7 := (HG5.out.1.trans hz5.fr).step hf67 fun _ _ e => e.elim
  have HO3 : Hid (w7.ownsRow w.heap.size 5 1 (.slice K3 vn kc3) val.length (cb val)) := by
    have h := own_fr HO3'.out hf47 fun k hk e => own_apart HO3'.out HE4.out.bk (by decide) (e ▸ hk)
    rw [HVL.out.2] at h ⊢
    exact own_base h (Nat.le_trans HF1.out.size HF3.out.size)
  have HR1 : Hid (Rd w7 K1 (cb key)) := by
    have h := own_fr HO1.out hf27 fun k hk e => own_apart HO1.out HE2.out.bk (by decide) (e ▸ hk)
    rw [HKN.out] at h
    exact Rd.of_own h
  have HE6 : Hid (Eye w7 ge A6 c6 (r5 l)) := hz5.eye.keep hf67 (fun e => e) fun _ _ e => e
  have HAB : Hid (∀ k, ablk A6 k → ablk A k) := fun k hk => HA5.out k (hz5.row k hk)
  obtain ⟨qs, hqs⟩ : ∃ q, q = w6.heap.size := ⟨_, rfl⟩
  have hbs : Bk w7 qs 26 #[.int .i64 e1, .int .i64 e2, .int .i64 e3, .int .i64 e4, .int .i64 e5] := by rw [hw7, hqs]; exact Bk.new _ _ _
  have HOR := Lib.hid (or5_any w7 qs (fun i => [e1, e2, e3, e4, e5].getD i 0) fun i hi => by
    rw [hbs.cell i]
    rcases (by omega : i = 0 ∨ i = 1 ∨ i = 2 ∨ i = 3 ∨ i = 4) with rfl | rfl | rfl | rfl | rfl <;> rfl)
  obtain ⟨ra, hra⟩ : ∃ b, rdAll l = b := ⟨_, rfl⟩
  have hall : (∀ i, i < 5 → (fun i => [e1, e2, e3, e4, e5].getD i 0) i = 0) ↔ ra = true := by
    rw [← hra]
    unfold rdAll
    simp only [Bool.and_eq_true, beq_iff_eq, Bool.not_eq_true', List.isEmpty_eq_false_iff]
    have h1 := HI1.out
    have h2 := HI2.out
    have h3 := HI3.out
    have h4 := HI4.out
    constructor
    · intro h
      have a1 : e1 = 0 := h 0 (by omega)
      have a2 : e2 = 0 := h 1 (by omega)
      have a3 : e3 = 0 := h 2 (by omega)
      have a4 : e4 = 0 := h 3 (by omega)
      have a5 : e5 = 0 := h 4 (by omega)
      refine ⟨⟨⟨⟨by omega, fun e => ?_⟩, by omega⟩, by omega⟩, by omega⟩
      rw [if_pos e] at h2
      omega
    · rintro ⟨⟨⟨⟨a1, a2⟩, a3⟩, a4⟩, a5⟩ i hi
      rw [if_neg a2] at h2
      rcases (by omega : i = 0 ∨ i = 1 ∨ i = 2 ∨ i = 3 ∨ i = 4) with rfl | rfl | rfl | rfl | rfl
      · show e1 = 0; omega
      · exact h2
      · show e3 = 0; omega
      · show e4 = 0; omega
      · show e5 = 0; omega
  have HALL := Lib.hid hall
  have HRA := Lib.hid hra
  have HCT : Hid (ct = rdCnt l) := hct
  have hcv : (convert 31 9 (.slice K1 kn kc1)).run Try.prog w7 = .ok (.string (bstr key)) w7 := strBs w7 K1 kn kc1 key HKN.out HR1.out
  have HW7 := Lib.hid (And.intro hw7 hqs)
  clear hct hct' he5 hz5 hf67 hf17 hf47 hf27 hbs hra hall hw7 hqs HE1 HE2 HE3 HE4 HBX1 HBX2 HBX3 HBX4 HBX5 HRW1 HBS0 HA2 HA3 HA4 HA5 HF1 HF2 HF3 HF4 HF5 HG3 HG4 HG5 HO1 HO3' HR1 HI1 HI2 HI3 HI4
  go_wp2_with fail
  rw [← HW7.out.1, ← HW7.out.2]
  clear HW7
  refine HOR.out.mono ?_
  clear HOR
  rintro e w7' ⟨⟨z, rfl, hz⟩, rfl⟩
  have HZ := Lib.hid (hz.trans HALL.out)
  clear hz HALL
  cases ra with
  | false =>
    have hne : (z != 0) = true := by rw [bne_iff_ne]; intro e; have := HZ.out.1 e; cases this
    have HNO : Hid (rowOk n l = false) := by show _ = _; unfold rowOk; rw [HRA.out]; rfl
    have z0 : w7.cell? ⟨p + 1, 0, none⟩ = some (.string { data := #[] }) := HRW.out.cell 0
    have z1 : w7.cell? ⟨p + 1, 1, none⟩ = some (.bool false) := HRW.out.cell 1
    have z2 : w7.cell? ⟨p + 1, 2, none⟩ = some (.slice none 0 0) := HRW.out.cell 2
    have z3 : w7.cell? ⟨p + 1, 3, none⟩ = some (.int .i64 0) := HRW.out.cell 3
    have z4 : w7.cell? ⟨p + 1, 4, none⟩ = some (.int .u64 0) := HRW.out.cell 4
    have y0 := HRW.out.free 0
    have y1 := HRW.out.free 1
    have y2 := HRW.out.free 2
    have y3 := HRW.out.free 3
    have y4 := HRW.out.free 4
    obtain ⟨W8, hW8⟩ : ∃ W, W = (((((w7.setCell ⟨p + 1, 0, none⟩ (.string { data := #[] })).setCell ⟨p + 1, 1, none⟩ (.bool false)).setCell ⟨p + 1, 2, none⟩ (.slice none 0 0)).setCell ⟨p + 1, 3, none⟩ (.int .i64 0)).setCell ⟨p + 1, 4, none⟩ (.int .u64 0)) := ⟨_, rfl⟩
    have hx8 : Fr (fun k => k = p + 1) w7 W8 := by rw [hW8]; exact ((((((Fr.refl (fun k => k = p + 1) w7).setCell (p := ⟨p + 1, 0, none⟩) (fun _ => rfl) _).setCell (p := ⟨p + 1, 1, none⟩) (fun _ => rfl) _).setCell (p := ⟨p + 1, 2, none⟩) (fun _ => rfl) _).setCell (p := ⟨p + 1, 3, none⟩) (fun _ => rfl) _).setCell (p := ⟨p + 1, 4, none⟩) (fun _ => rfl) _)
    have HBZ : Hid (Bk W8 (p + 1) 61 #[.string { data := #[] }, .bool false, .slice none 0 0, .int .i64 0, .int .u64 0]) := by
      show Bk _ _ _ _
      rw [hW8]
      refine Bk.cast (((((HRW.out.put 0 (.string { data := #[] })).put 1 (.bool false)).put 2 (.slice none 0 0)).put 3 (.int .i64 0)).put 4 (.int .u64 0)) ?_
      simp only [List.setIfInBounds_toArray, List.set_cons_zero, List.set_cons_succ]
    have HF8 : Hid (Fr (fun k => k = ge) w W8) := HF7.out.step hx8 fun i hi e => absurd e (by have := HPP.out; omega)
    have HW8 := Lib.hid hW8
    clear hx8 hW8
    go_wp2_with fail
    rw [← HW8.out]
    clear HW8 z0 z1 z2 z3 z4 y0 y1 y2 y3 y4
    have q0 : W8.cell? ⟨p + 1, 0, none⟩ = some (.string { data := #[] }) := HBZ.out.cell 0
    have q1 : W8.cell? ⟨p + 1, 1, none⟩ = some (.bool false) := HBZ.out.cell 1
    have q2 : W8.cell? ⟨p + 1, 2, none⟩ = some (.slice none 0 0) := HBZ.out.cell 2
    have q3 : W8.cell? ⟨p + 1, 3, none⟩ = some (.int .i64 0) := HBZ.out.cell 3
    have q4 : W8.cell? ⟨p + 1, 4, none⟩ = some (.int .u64 0) := HBZ.out.cell 4
    refine bodyPost_ret (v := .tuple #[.agg #[.string { data := #[] }, .bool false, .slice none 0 0, .int .i64 0, .int .u64 0], .bool false]) (by rw [results_cell_tmp rfl]; go_simp <;> rfl) rfl ?_
    exact ⟨[], ⟨false, none, 0, 0, 0, 0⟩, false, none, 0, rfl, HNO.out.symm, HF8.out, fun e => by cases e⟩
  | true =>
    have hne : (z != 0) = false := by rw [bne_eq_false_iff_eq]; exact HZ.out.2 rfl
    by_cases hmk : mk.toNat ≤ 1
    rotate_left
    · have hm1 : 1 < (mk.toNat : Int) := by omega
      have HNO : Hid (rowOk n l = false) := by
        show _ = _
        unfold rowOk
        rw [← HMKE.out, decide_eq_false hmk]
        simp
      have z0 : w7.cell? ⟨p + 1, 0, none⟩ = some (.string { data := #[] }) := HRW.out.cell 0
      have z1 : w7.cell? ⟨p + 1, 1, none⟩ = some (.bool false) := HRW.out.cell 1
      have z2 : w7.cell? ⟨p + 1, 2, none⟩ = some (.slice none 0 0) := HRW.out.cell 2
      have z3 : w7.cell? ⟨p + 1, 3, none⟩ = some (.int .i64 0) := HRW.out.cell 3
      have z4 : w7.cell? ⟨p + 1, 4, none⟩ = some (.int .u64 0) := HRW.out.cell 4
      have y0 := HRW.out.free 0
      have y1 := HRW.out.free 1
      have y2 := HRW.out.free 2
      have y3 := HRW.out.free 3
      have y4 := HRW.out.free 4
      obtain ⟨W8, hW8⟩ : ∃ W, W = (((((w7.setCell ⟨p + 1, 0, none⟩ (.string { data := #[] })).setCell ⟨p + 1, 1, none⟩ (.bool false)).setCell ⟨p + 1, 2, none⟩ (.slice none 0 0)).setCell ⟨p + 1, 3, none⟩ (.int .i64 0)).setCell ⟨p + 1, 4, none⟩ (.int .u64 0)) := ⟨_, rfl⟩
      have hx8 : Fr (fun k => k = p + 1) w7 W8 := by rw [hW8]; exact ((((((Fr.refl (fun k => k = p + 1) w7).setCell (p := ⟨p + 1, 0, none⟩) (fun _ => rfl) _).setCell (p := ⟨p + 1, 1, none⟩) (fun _ => rfl) _).setCell (p := ⟨p + 1, 2, none⟩) (fun _ => rfl) _).setCell (p := ⟨p + 1, 3, none⟩) (fun _ => rfl) _).setCell (p := ⟨p + 1, 4, none⟩) (fun _ => rfl) _)
      have HBZ : Hid (Bk W8 (p + 1) 61 #[.string { data := #[] }, .bool false, .slice none 0 0, .int .i64 0, .int .u64 0]) := by
        show Bk _ _ _ _
        rw [hW8]
        refine Bk.cast (((((HRW.out.put 0 (.string { data := #[] })).put 1 (.bool false)).put 2 (.slice none 0 0)).put 3 (.int .i64 0)).put 4 (.int .u64 0)) ?_
        simp only [List.setIfInBounds_toArray, List.set_cons_zero, List.set_cons_succ]
      have HF8 : Hid (Fr (fun k => k = ge) w W8) := HF7.out.step hx8 fun i hi e => absurd e (by have := HPP.out; omega)
      have HW8 := Lib.hid hW8
      clear hx8 hW8
      go_wp2_with fail
      rw [← HW8.out]
      clear HW8 z0 z1 z2 z3 z4 y0 y1 y2 y3 y4
      have q0 : W8.cell? ⟨p + 1, 0, none⟩ = some (.string { data := #[] }) := HBZ.out.cell 0
      have q1 : W8.cell? ⟨p + 1, 1, none⟩ = some (.bool false) := HBZ.out.cell 1
      have q2 : W8.cell? ⟨p + 1, 2, none⟩ = some (.slice none 0 0) := HBZ.out.cell 2
      have q3 : W8.cell? ⟨p + 1, 3, none⟩ = some (.int .i64 0) := HBZ.out.cell 3
      have q4 : W8.cell? ⟨p + 1, 4, none⟩ = some (.int .u64 0) := HBZ.out.cell 4
      refine bodyPost_ret (v := .tuple #[.agg #[.string { data := #[] }, .bool false, .slice none 0 0, .int .i64 0, .int .u64 0], .bool false]) (by rw [results_cell_tmp rfl]; go_simp <;> rfl) rfl ?_
      exact ⟨[], ⟨false, none, 0, 0, 0, 0⟩, false, none, 0, rfl, HNO.out.symm, HF8.out, fun e => by cases e⟩
    have hm1 : ¬ 1 < (mk.toNat : Int) := by omega
    have hwn : IntKind.u64.wrap (n : Int) = (n : Int) := by show (n : Int) % 18446744073709551616 = _; have := HN3.out; omega
    have d1 : w7.cell? ⟨p, 1, none⟩ = some (.pointer (some ⟨gs, 0, none⟩)) := HBX.out.cell 1
    have d2 : w7.cell? ⟨gs, 0, none⟩ = some (.int .i64 (n : Int)) := by rw [HBS.out.1.cell 0]; exact HBS.out.2
    by_cases hhm : hm < n
    rotate_left
    · have hgeh : (n : Int) ≤ (hm : Int) := by omega
      have HNO : Hid (rowOk n l = false) := by
        show _ = _
        unfold rowOk
        rw [← HHME.out, decide_eq_false hhm]
        simp
      have z0 : w7.cell? ⟨p + 1, 0, none⟩ = some (.string { data := #[] }) := HRW.out.cell 0
      have z1 : w7.cell? ⟨p + 1, 1, none⟩ = some (.bool false) := HRW.out.cell 1
      have z2 : w7.cell? ⟨p + 1, 2, none⟩ = some (.slice none 0 0) := HRW.out.cell 2
      have z3 : w7.cell? ⟨p + 1, 3, none⟩ = some (.int .i64 0) := HRW.out.cell 3
      have z4 : w7.cell? ⟨p + 1, 4, none⟩ = some (.int .u64 0) := HRW.out.cell 4
      have y0 := HRW.out.free 0
      have y1 := HRW.out.free 1
      have y2 := HRW.out.free 2
      have y3 := HRW.out.free 3
      have y4 := HRW.out.free 4
      obtain ⟨W8, hW8⟩ : ∃ W, W = (((((w7.setCell ⟨p + 1, 0, none⟩ (.string { data := #[] })).setCell ⟨p + 1, 1, none⟩ (.bool false)).setCell ⟨p + 1, 2, none⟩ (.slice none 0 0)).setCell ⟨p + 1, 3, none⟩ (.int .i64 0)).setCell ⟨p + 1, 4, none⟩ (.int .u64 0)) := ⟨_, rfl⟩
      have hx8 : Fr (fun k => k = p + 1) w7 W8 := by rw [hW8]; exact ((((((Fr.refl (fun k => k = p + 1) w7).setCell (p := ⟨p + 1, 0, none⟩) (fun _ => rfl) _).setCell (p := ⟨p + 1, 1, none⟩) (fun _ => rfl) _).setCell (p := ⟨p + 1, 2, none⟩) (fun _ => rfl) _).setCell (p := ⟨p + 1, 3, none⟩) (fun _ => rfl) _).setCell (p := ⟨p + 1, 4, none⟩) (fun _ => rfl) _)
      have HBZ : Hid (Bk W8 (p + 1) 61 #[.string { data := #[] }, .bool false, .slice none 0 0, .int .i64 0, .int .u64 0]) := by
        show Bk _ _ _ _
        rw [hW8]
        refine Bk.cast (((((HRW.out.put 0 (.string { data := #[] })).put 1 (.bool false)).put 2 (.slice none 0 0)).put 3 (.int .i64 0)).put 4 (.int .u64 0)) ?_
        simp only [List.setIfInBounds_toArray, List.set_cons_zero, List.set_cons_succ]
      have HF8 : Hid (Fr (fun k => k = ge) w W8) := HF7.out.step hx8 fun i hi e => absurd e (by have := HPP.out; omega)
      have HW8 := Lib.hid hW8
      clear hx8 hW8
      go_wp2_with fail
      rw [← HW8.out]
      clear HW8 z0 z1 z2 z3 z4 y0 y1 y2 y3 y4
      have q0 : W8.cell? ⟨p + 1, 0, none⟩ = some (.string { data := #[] }) := HBZ.out.cell 0
      have q1 : W8.cell? ⟨p + 1, 1, none⟩ = some (.bool false) := HBZ.out.cell 1
      have q2 : W8.cell? ⟨p + 1, 2, none⟩ = some (.slice none 0 0) := HBZ.out.cell 2
      have q3 : W8.cell? ⟨p + 1, 3, none⟩ = some (.int .i64 0) := HBZ.out.cell 3
      have q4 : W8.cell? ⟨p + 1, 4, none⟩ = some (.int .u64 0) := HBZ.out.cell 4
      refine bodyPost_ret (v := .tuple #[.agg #[.string { data := #[] }, .bool false, .slice none 0 0, .int .i64 0, .int .u64 0], .bool false]) (by rw [results_cell_tmp rfl]; go_simp <;> rfl) rfl ?_
      exact ⟨[], ⟨false, none, 0, 0, 0, 0⟩, false, none, 0, rfl, HNO.out.symm, HF8.out, fun e => by cases e⟩
    have hgeh : ¬ (n : Int) ≤ (hm : Int) := by omega
    have HMK : Hid ((rdMark l).toNat ≤ 1) := by rw [← HMKE.out]; exact hmk
    have HHM : Hid (rdHome l < n) := by rw [← HHME.out]; exact hhm
    have hwh : IntKind.i64.wrap (hm : Int) = (hm : Int) := IntWalk.i64_in _ (by have := HN3.out; omega)
    obtain ⟨hb, hhb⟩ : ∃ b, b = (mk == 1) := ⟨_, rfl⟩
    have hmk1 : ((mk.toNat : Int) == 1) = hb := by
      rw [hhb, Bool.eq_iff_iff, beq_iff_eq, beq_iff_eq]
      constructor
      · intro h
        have h2 : mk.toNat = 1 := by omega
        exact UInt8.toNat_inj.1 h2
      · intro h
        rw [h]
        rfl
    have HVV : Hid (hb = (rdRec l).has ∧ (hm : Int) = (rdRec l).home ∧ ct = (rdRec l).count ∧ vn = (rdRec l).val.length) := ⟨by rw [hhb, HMKE.out]; rfl, by rw [HHME.out]; rfl, HCT.out, by rw [HVL.out.2, HVL.out.1]; rfl⟩
    have HO3 : Hid (w7.ownsRow w.heap.size 5 1 (.slice K3 vn kc3) (rdRec l).val.length (cb (rdRec l).val)) := by have h := HO3.out; rw [HVL.out.1] at h; exact h
    have HKL : Hid (key.length ≤ 190000) := by
      have h := (rest_le l HRA.out).2.2
      rw [← HKY.out] at h
      have := HL.out
      show _ ≤ _
      omega
    clear hmk hhm hhb
    obtain ⟨q, hq⟩ : ∃ q, q = w7.heap.size := ⟨_, rfl⟩
    obtain ⟨w8, hw8⟩ : ∃ W, W = w7.alloc (.cells #[.string (bstr key), .bool hb, .slice K3 vn kc3, .int .i64 (hm : Int), .int .u64 (ct : Int)] 61) := ⟨_, rfl⟩
    have hf8 : Fr NoBlk w7 w8 := by rw [hw8]; exact (Fr.refl _ _).alloc _
    have hbq : Bk w8 q 61 #[.string (bstr key), .bool hb, .slice K3 vn kc3, .int .i64 (hm : Int), .int .u64 (ct : Int)] := by rw [hw8, hq]; exact Bk.new _ _ _
    have hpq : q ≠ p + 1 := by have := HRW.out.lt; omega
    have hpl : p + 1 < w7.heap.size := HRW.out.lt
    have HSK : Hid (∀ w', Fr (fun b => b = p + 1) w8 w' → w'.cell? ⟨q, 0, none⟩ = some (.string (bstr key)) ∧ w'.cell? ⟨q, 1, none⟩ = some (.bool hb) ∧ w'.cell? ⟨q, 2, none⟩ = some (.slice K3 vn kc3) ∧ w'.cell? ⟨q, 3, none⟩ = some (.int .i64 (hm : Int)) ∧ w'.cell? ⟨q, 4, none⟩ = some (.int .u64 (ct : Int)) ∧ w'.cell? ⟨p, 0, none⟩ = some (.pointer (some ⟨ge, 0, none⟩)) ∧ w'.cell? ⟨p, 1, none⟩ = some (.pointer (some ⟨gs, 0, none⟩))) := fun w' hf => ⟨(hbq.fr hf hpq).cell 0, (hbq.fr hf hpq).cell 1, (hbq.fr hf hpq).cell 2, (hbq.fr hf hpq).cell 3, (hbq.fr hf hpq).cell 4, ((HBX.out.fr hf8 fun e => e).fr hf (by omega)).cell 0, ((HBX.out.fr hf8 fun e => e).fr hf (by omega)).cell 1⟩
    obtain ⟨xb, hxb⟩ : ∃ x, x = canB n key (rdRec l) := ⟨_, rfl⟩
    have HCH : Hid (∀ w', Fr NoBlk w8 w' → Calls Try.prog 79 #[.agg #[.pointer (some ⟨ge, 0, none⟩), .pointer (some ⟨gs, 0, none⟩)], .agg #[.string (bstr key), .bool hb, .slice K3 vn kc3, .int .i64 (hm : Int), .int .u64 (ct : Int)]] w' fun e w'' => e = .returned (.bool xb) ∧ Fr NoBlk w' w'') := fun w' hf => by
      rw [hxb]
      exact canHave_any w' ge gs n cs (((HBS.out.1.fr hf8 fun e => e)).fr hf fun e => e) HBS.out.2 key (by have := HKL.out; omega) ⟨hb, K3, vn, kc3, hm, ct⟩ (rdRec l) HVV.out.1 HVV.out.2.1 HVV.out.2.2.1 HVV.out.2.2.2
    have HROK : Hid (rowOk n l = xb) := by
      show _ = _
      unfold rowOk
      rw [HRA.out, hxb, decide_eq_true HMK.out, decide_eq_true HHM.out, ← HKY.out]
      rfl
    have HRW8 : Hid (Bk w8 (p + 1) 61 #[.string { data := #[] }, .bool false, .slice none 0 0, .int .i64 0, .int .u64 0]) := HRW.out.fr hf8 fun e => e
    have HF8 : Hid (Fr NoBlk w7 w8) := hf8
    have HW8 := Lib.hid (And.intro hw8 hq)
    clear hw8 hq hf8 hbq hpq hpl hxb
    go_upto_region 9 with fail
    rw [← HW8.out.1, ← HW8.out.2]
    clear HW8 hcv hmk1 hwh hm1 hgeh hwn d1 d2
    refine wp_region_held_drew (S := fun w' => Fr (fun b => b = p + 1) w8 w') (by kernel_rfl) ((Fr.refl _ _).drew) (fun hHeld => ?_)
    refine wpAnyH_take (i := 0) (oi := ⟨some 78, _, _, _, _, _⟩) (v := ?_) rfl (by kernel_rfl) (by kernel_rfl) (by kernel_rfl) (fun _ _ _ h => h) (Or.inl ⟨by rfl, ?_⟩) (by assumption) ?_
    rotate_left 1
    · (intro w hSw; (try dsimp only at hSw); obtain ⟨y0, y1, y2, y3, y4, y5, y6⟩ := HSK.out _ hSw; go_simp) <;> (with_reducible rfl)
    try simp only [Act.put, List.setIfInBounds_toArray, List.set_cons_zero, List.set_cons_succ]
    refine wpAnyH_take (i := 1) (oi := ⟨some 79, _, _, _, _, _⟩) (v := ?_) rfl (by kernel_rfl) (by kernel_rfl) (by kernel_rfl) (fun _ _ _ h => h) (Or.inl ⟨by rfl, ?_⟩) (by assumption) ?_
    rotate_left 1
    · (intro w hSw; (try dsimp only at hSw); obtain ⟨y0, y1, y2, y3, y4, y5, y6⟩ := HSK.out _ hSw; go_simp) <;> (with_reducible rfl)
    try simp only [Act.put, List.setIfInBounds_toArray, List.set_cons_zero, List.set_cons_succ]
    refine wpAnyH_take (i := 2) (oi := ⟨some 80, _, _, _, _, _⟩) (v := ?_) rfl (by kernel_rfl) (by kernel_rfl) (by kernel_rfl) (fun _ _ _ h => h) (Or.inl ⟨by rfl, ?_⟩) (by assumption) ?_
    rotate_left 1
    · (intro w hSw; (try dsimp only at hSw); obtain ⟨y0, y1, y2, y3, y4, y5, y6⟩ := HSK.out _ hSw; go_simp) <;> (with_reducible rfl)
    try simp only [Act.put, List.setIfInBounds_toArray, List.set_cons_zero, List.set_cons_succ]
    refine wpAnyH_ready (rs := [3]) (by kernel_rfl) (by simp) ?_
    refine AllReadyH.cons (o := ⟨some 81, _, _, _, _, _⟩) rfl (fun K hK => ?_) AllReadyH.nil
    go_simp
    go_at_call 79
    refine (HCH.out _ (Fr.refl NoBlk w8).drew).mono ?_
    rintro e w9 ⟨rfl, hf9⟩
    have HF9 : Hid (Fr NoBlk w8 w9) := (Fr.refl NoBlk w8).drew.trans hf9
    have HRW9 : Hid (Bk w9 (p + 1) 61 #[.string { data := #[] }, .bool false, .slice none 0 0, .int .i64 0, .int .u64 0]) := HRW8.out.fr HF9.out fun e => e
    clear hf9 HRW8
    refine hK.out _ _ ?_ (fun hHeld => ?_)
    · exact HF9.out.mono fun _ _ e => e.elim
    clear hK K
    try simp only [Act.put, List.setIfInBounds_toArray, List.set_cons_zero, List.set_cons_succ]
    have z0 : w9.cell? ⟨p + 1, 0, none⟩ = some (.string { data := #[] }) := HRW9.out.cell 0
    have z1 : w9.cell? ⟨p + 1, 1, none⟩ = some (.bool false) := HRW9.out.cell 1
    have z2 : w9.cell? ⟨p + 1, 2, none⟩ = some (.slice none 0 0) := HRW9.out.cell 2
    have z3 : w9.cell? ⟨p + 1, 3, none⟩ = some (.int .i64 0) := HRW9.out.cell 3
    have z4 : w9.cell? ⟨p + 1, 4, none⟩ = some (.int .u64 0) := HRW9.out.cell 4
    have y0 := HRW9.out.free 0
    have y1 := HRW9.out.free 1
    have y2 := HRW9.out.free 2
    have y3 := HRW9.out.free 3
    have y4 := HRW9.out.free 4
    refine wpAnyH_ready (rs := [4]) (by kernel_rfl) (by simp) ?_
    refine AllReadyH.cons (o := ⟨none, _, _, _, _, _⟩) rfl (fun K hK => ?_) AllReadyH.nil
    go_simp
    refine hK.out _ _ ?_ (fun hHeld => ?_)
    · exact ((((((HF9.out.mono fun _ _ e => e.elim : Fr (fun b => b = p + 1) w8 w9).setCell (p := ⟨p + 1, 0, none⟩) (fun _ => rfl) _).setCell (p := ⟨p + 1, 1, none⟩) (fun _ => rfl) _).setCell (p := ⟨p + 1, 2, none⟩) (fun _ => rfl) _).setCell (p := ⟨p + 1, 3, none⟩) (fun _ => rfl) _).setCell (p := ⟨p + 1, 4, none⟩) (fun _ => rfl) _)
    clear hK K
    try simp only [Act.put, List.setIfInBounds_toArray, List.set_cons_zero, List.set_cons_succ]
    refine wpAnyH_take (i := 5) (oi := ⟨some 3, _, _, _, _, _⟩) (v := ?_) rfl (by kernel_rfl) (by kernel_rfl) (by kernel_rfl) (fun _ _ _ h => h) (Or.inl ⟨by rfl, ?_⟩) (by assumption) ?_
    rotate_left 1
    · (intro w hSw; (try dsimp only at hSw); obtain ⟨a0, a1, a2, a3, a4, a5, a6⟩ := HSK.out _ hSw; go_simp) <;> (with_reducible rfl)
    try simp only [Act.put, List.setIfInBounds_toArray, List.set_cons_zero, List.set_cons_succ]
    refine wpAnyH_done (by kernel_rfl) ?_ _
    obtain ⟨W8, hW8⟩ : ∃ W, W = (((((w9.setCell ⟨p + 1, 0, none⟩ (.string (bstr key))).setCell ⟨p + 1, 1, none⟩ (.bool hb)).setCell ⟨p + 1, 2, none⟩ (.slice K3 vn kc3)).setCell ⟨p + 1, 3, none⟩ (.int .i64 (hm : Int))).setCell ⟨p + 1, 4, none⟩ (.int .u64 (ct : Int))) := ⟨_, rfl⟩
    have hx8 : Fr (fun k => k = p + 1) w9 W8 := by rw [hW8]; exact ((((((Fr.refl (fun k => k = p + 1) w9).setCell (p := ⟨p + 1, 0, none⟩) (fun _ => rfl) _).setCell (p := ⟨p + 1, 1, none⟩) (fun _ => rfl) _).setCell (p := ⟨p + 1, 2, none⟩) (fun _ => rfl) _).setCell (p := ⟨p + 1, 3, none⟩) (fun _ => rfl) _).setCell (p := ⟨p + 1, 4, none⟩) (fun _ => rfl) _)
    have HBZ : Hid (Bk W8 (p + 1) 61 #[.string (bstr key), .bool hb, .slice K3 vn kc3, .int .i64 (hm : Int), .int .u64 (ct : Int)]) := by
      show Bk _ _ _ _
      rw [hW8]
      refine Bk.cast (((((HRW9.out.put 0 (.string (bstr key))).put 1 (.bool hb)).put 2 (.slice K3 vn kc3)).put 3 (.int .i64 (hm : Int))).put 4 (.int .u64 (ct : Int))) ?_
      simp only [List.setIfInBounds_toArray, List.set_cons_zero, List.set_cons_succ]
    have HX8 : Hid (Fr (fun k => k = p + 1) w7 W8) := ((HF8.out.trans HF9.out).mono fun _ _ e => e.elim).trans hx8
    rw [← hW8]
    clear hx8 hW8 z0 z1 z2 z3 z4 y0 y1 y2 y3 y4 hHeld
    have HFZ : Hid (Fr (fun k => k = ge) w W8) := HF7.out.step HX8.out fun i hi e => absurd e (by have := HPP.out; omega)
    go_wp2_with fail
    have q0 : W8.cell? ⟨p + 1, 0, none⟩ = some (.string (bstr key)) := HBZ.out.cell 0
    have q1 : W8.cell? ⟨p + 1, 1, none⟩ = some (.bool hb) := HBZ.out.cell 1
    have q2 : W8.cell? ⟨p + 1, 2, none⟩ = some (.slice K3 vn kc3) := HBZ.out.cell 2
    have q3 : W8.cell? ⟨p + 1, 3, none⟩ = some (.int .i64 (hm : Int)) := HBZ.out.cell 3
    have q4 : W8.cell? ⟨p + 1, 4, none⟩ = some (.int .u64 (ct : Int)) := HBZ.out.cell 4
    refine bodyPost_ret (v := .tuple #[.agg #[.string (bstr key), .bool hb, .slice K3 vn kc3, .int .i64 (hm : Int), .int .u64 (ct : Int)], .bool xb]) (by rw [results_cell_tmp rfl]; go_simp <;> rfl) rfl ?_
    refine ⟨key, ⟨hb, K3, vn, kc3, hm, ct⟩, xb, A6, c6, rfl, HROK.out.symm, HFZ.out, fun _ => ⟨?_, HAB.out, HKY.out, ?_⟩⟩
    · exact HE6.out.keep HX8.out (by have := HPP.out; have := HGE.out; omega) fun k hk e => by have := HAR.out k (HAB.out k hk); have := HPP.out; omega
    · exact ⟨HVV.out.1, HVV.out.2.1, HVV.out.2.2.1, HVV.out.2.2.2, by have h := own_fr HO3.out HX8.out fun k hk e => own_apart HO3.out HRW.out (by decide) (e ▸ hk); exact h⟩
end Go.Proofs.Ytkdcacajacndmaa

namespace Go.Proofs.Ytkdcacajacndmaa
open Go.RowKit
theorem gt_lessR (a b : Bs) : (!Op.bytesLess a b && !a == b) = Op.bytesLess b a := by
  cases h : Op.bytesLess b a
  · cases h2 : Op.bytesLess a b
    · have := less_total h2 h
      subst this
      simp
    · rfl
  · have h2 := linS.asymm h
    have h3 := linS.ne h
    rw [h2]
    have h4 : (a == b) = false := beq_eq_false_iff_ne.2 fun e => h3 e.symm
    rw [h4]
    rfl
section
variable [Ex]
/-- what is read: the eye before l', acc the rows so far, D what all tells. -/
structure WhI (W0 wr : World) (p ge gs e0 e1 n C L : Nat) (D : Option (List Rw)) (k : Nat) (acc : List Rw) (l' : Bs) : Prop where
  dec : decR n (C - k) l' acc = D
  eye : ∃ A' c', Eye wr ge A' c' l' ∧ ∀ j, ablk A' j → e0 ≤ j ∧ j < e1
  st : ∃ O', Store wr gs O' n acc ∧ (∀ b, O' b → b < e0 ∨ e1 ≤ b) ∧ ∀ b, O' b → W0.heap.size ≤ b ∧ b ≠ p
  len : acc.length * 2 + l'.length ≤ L
  cnt : acc.length = k
  sz : e1 ≤ wr.heap.size
  box : Bk wr p 86 #[.pointer (some ⟨ge, 0, none⟩), .pointer (some ⟨gs, 0, none⟩)]
  fr : Fr NoBlk W0 wr
def WholePost (W0 : World) (gs n : Nat) (D : Option (List Rw)) (e : Ending) (w' : World) : Prop :=
  (D = none ∧ e = .returned (.bool false) ∧ Fr NoBlk W0 w') ∨ ∃ rs O, D = some rs ∧ e = .returned (.bool true) ∧ Fr NoBlk W0 w' ∧ Store w' gs O n rs ∧ ∀ b, O b → W0.heap.size ≤ b
theorem WholePost.no {W0 w' : World} {gs n : Nat} {D : Option (List Rw)} (h : D = none) (hf : Fr NoBlk W0 w') : WholePost W0 gs n D (.returned (.bool false)) w' := .inl ⟨h, rfl, hf⟩
theorem WholePost.yes {W0 w' : World} {gs n : Nat} {D : Option (List Rw)} {rs : List Rw} (h : D = some rs) (hf : Fr NoBlk W0 w') (hs : ∃ O, Store w' gs O n rs ∧ ∀ b, O b → W0.heap.size ≤ b) : WholePost W0 gs n D (.returned (.bool true)) w' := by
  obtain ⟨O, h1, h2⟩ := hs
  exact .inr ⟨rs, O, h, rfl, hf, h1, h2⟩
end
set_option maxRecDepth 100000 in
set_option maxHeartbeats 2000000 in
theorem whole_any [Ex] (W0 w : World) (ge gs n : Nat) (A : Option Addr) (c : Nat) (l : Bs) (O : Nat → Prop) (e0 e1 : Nat) (hx : ExL W0.heap.size) (hf : Fr NoBlk W0 w) (hs : Store w gs O n []) (hO : ∀ b, O b → W0.heap.size ≤ b ∧ b < e0) (he : Eye w ge A c l) (hea : ∀ j, ablk A j → e0 ≤ j ∧ j < e1) (hge : e0 ≤ ge ∧ ge < e1) (he0 : W0.heap.size ≤ e0) (he1 : e1 ≤ w.heap.size) (hl : l.length ≤ 190000) :
    Calls Try.prog 50 #[.agg #[.pointer (some ⟨ge, 0, none⟩), .pointer (some ⟨gs, 0, none⟩)]] w (WholePost W0 gs n (dec n l)) := by
  obtain ⟨p, hp⟩ : ∃ p, p = w.heap.size := ⟨_, rfl⟩
  obtain ⟨w1, hw1⟩ : ∃ W, W = w.alloc (.cells #[.pointer (some ⟨ge, 0, none⟩), .pointer (some ⟨gs, 0, none⟩)] 86) := ⟨_, rfl⟩
  have hf1 : Fr NoBlk w w1 := by rw [hw1]; exact (Fr.refl _ _).alloc _
  have HBX1 : Hid (Bk w1 p 86 #[.pointer (some ⟨ge, 0, none⟩), .pointer (some ⟨gs, 0, none⟩)]) := by show Bk _ _ _ _; rw [hw1, hp]; exact Bk.new _ _ _
  have HE1 : Hid (Eye w1 ge A c l) := he.keep hf1 (fun e => e) fun _ _ e => e
  have HS1 : Hid (Store w1 gs O n []) := hs.nofr hf1
  have HO : Hid (∀ b, O b → W0.heap.size ≤ b ∧ b < e0) := hO
  have HGE : Hid (e0 ≤ ge ∧ ge < e1 ∧ ge < p ∧ e1 ≤ p ∧ W0.heap.size ≤ ge) := ⟨hge.1, hge.2, by omega, by omega, by omega⟩
  have HE : Hid (W0.heap.size ≤ e0 ∧ e0 ≤ e1) := ⟨he0, by omega⟩
  have HEA : Hid (∀ j, ablk A j → e0 ≤ j ∧ j < e1) := hea
  have HX := Lib.hid hx
  have HL := Lib.hid hl
  have HF1 : Hid (Fr NoBlk W0 w1) := hf.trans hf1
  have HW1 := Lib.hid (And.intro hw1 hp)
  have HN3 : Hid (1 ≤ n ∧ n ≤ 3) := hs.n3
  have HT1 := Lib.hid (eyeNum_any w1 ge A c l HE1.out (by omega))
  obtain ⟨D, hD⟩ : ∃ D, D = dec n l := ⟨_, rfl⟩
  have HD := Lib.hid hD
  rw [← hD]
  clear hx hf hs hO he hea hge he0 he1 hl hp hw1 hf1 hD
  go_enter Try.func50, Try.ntmps50
  go_upto_region 1 with fail
  rw [← HW1.out.1, ← HW1.out.2]
  clear HW1
  have d0 : w1.cell? ⟨p, 0, none⟩ = some (.pointer (some ⟨ge, 0, none⟩)) := HBX1.out.cell 0
  go_wp2_with fail
  refine HT1.out.mono ?_
  clear HT1 d0
  rintro e w2 ⟨rfl, A2, c2, hz1⟩
  obtain ⟨g1, hg1⟩ : ∃ m, m = (rdNum l).1 := ⟨_, rfl⟩
  obtain ⟨x1, hx1⟩ : ∃ m, m = (rdNum l).2.2 := ⟨_, rfl⟩
  rw [← hg1, ← hx1]
  have hnb : ∀ b, Byt w1 b → b ≠ ge := fun b hb e => Byt.no HE1.out.bk (by decide) (e ▸ hb)
  have hng : ∀ b, O b → b ≠ ge := fun b hb e => by have := HO.out b hb; have := HGE.out; omega
  have HS2 : Hid (Store w2 gs O n []) := HS1.out.fr hz1.fr hng hnb
  have HBX2 : Hid (Bk w2 p 86 #[.pointer (some ⟨ge, 0, none⟩), .pointer (some ⟨gs, 0, none⟩)]) := HBX1.out.fr hz1.fr (by have := HGE.out; omega)
  have HE2 : Hid (Eye w2 ge A2 c2 (s1 l)) := hz1.eye
  have HEA2 : Hid (∀ j, ablk A2 j → e0 ≤ j ∧ j < e1) := fun j hj => HEA.out j (hz1.row j hj)
  have HF2 : Hid (Fr NoBlk W0 w2) := HF1.out.step hz1.fr fun i hi e => by have := HGE.out; omega
  have HG1 : Hid (g1 = (rdNum l).1 ∧ x1 = (rdNum l).2.2) := ⟨hg1, hx1⟩
  have HSZ2 : Hid (w1.heap.size ≤ w2.heap.size) := hz1.fr.size
  have d0 : w2.cell? ⟨p, 0, none⟩ = some (.pointer (some ⟨ge, 0, none⟩)) := HBX2.out.cell 0
  have d1 : w2.cell? ⟨p, 1, none⟩ = some (.pointer (some ⟨gs, 0, none⟩)) := HBX2.out.cell 1
  have d2 : w2.cell? ⟨gs, 0, none⟩ = some (.int .i64 (n : Int)) := by
    obtain ⟨gt, OT, zs, hsi, _⟩ := HS2.out
    exact hsi.bk.cell 0
  have hwn : IntKind.u64.wrap (n : Int) = (n : Int) := by show (n : Int) % 18446744073709551616 = _; have := HN3.out; omega
  clear hg1 hx1 hz1 hnb hng
  by_cases hx0 : x1 = 0
  rotate_left
  · have hne : ((x1 : Int) != 0) = true := by rw [bne_iff_ne]; omega
    have HNO : Hid (D = none) := by
      show _ = _
      rw [HD.out]
      unfold dec
      rw [if_neg (by have := HG1.out; omega)]
    clear hx0
    go_wp2_with fail
    go_ret
    exact WholePost.no HNO.out HF2.out
  have hne : ((x1 : Int) != 0) = false := by rw [bne_eq_false_iff_eq]; omega
  by_cases hgn : g1 = n
  rotate_left
  · have hne2 : ((g1 : Int) != (n : Int)) = true := by rw [bne_iff_ne]; omega
    have HNO : Hid (D = none) := by
      show _ = _
      rw [HD.out]
      unfold dec
      rw [if_neg (by have := HG1.out; omega)]
    clear hx0 hgn
    go_wp2_with fail
    go_ret
    exact WholePost.no HNO.out HF2.out
  have hne2 : ((g1 : Int) != (n : Int)) = false := by rw [bne_eq_false_iff_eq]; omega
  have HGN : Hid (x1 = 0 ∧ g1 = n) := ⟨hx0, hgn⟩
  have HT2 := Lib.hid (eyeNum_any w2 ge A2 c2 (s1 l) HE2.out (by unfold s1; rw [List.length_drop]; have := HL.out; omega))
  clear hx0 hgn
  go_wp2_with fail
  refine HT2.out.mono ?_
  clear HT2 d0 d1 d2 hne hne2 hwn
  rintro e w3 ⟨rfl, A3, c3, hz2⟩
  obtain ⟨C, hC⟩ : ∃ m, m = (rdNum (s1 l)).1 := ⟨_, rfl⟩
  obtain ⟨x2, hx2⟩ : ∃ m, m = (rdNum (s1 l)).2.2 := ⟨_, rfl⟩
  rw [← hC, ← hx2]
  have hnb : ∀ b, Byt w2 b → b ≠ ge := fun b hb e => Byt.no HE2.out.bk (by decide) (e ▸ hb)
  have hng : ∀ b, O b → b ≠ ge := fun b hb e => by have := HO.out b hb; have := HGE.out; omega
  have HF3 : Hid (Fr NoBlk W0 w3) := HF2.out.step hz2.fr fun i hi e => by have := HGE.out; omega
  have hS3 : Store w3 gs O n [] := HS2.out.fr hz2.fr hng hnb
  have hB3 : Bk w3 p 86 #[.pointer (some ⟨ge, 0, none⟩), .pointer (some ⟨gs, 0, none⟩)] := HBX2.out.fr hz2.fr (by have := HGE.out; omega)
  obtain ⟨L, hLL⟩ : ∃ L, L = l.length := ⟨_, rfl⟩
  have HL : Hid (L ≤ 190000) := by rw [hLL]; exact HL.out
  have HC : Hid (C < 2 ^ 64) := by rw [hC]; exact rdNum_lt _
  by_cases hx0 : x2 = 0
  rotate_left
  · have hne : ((x2 : Int) != 0) = true := by rw [bne_iff_ne]; omega
    have HNO : Hid (D = none) := by
      show _ = _
      rw [HD.out]
      unfold dec
      rw [if_neg (by omega)]
    clear hx0 hC hx2 hz2 hnb hng hS3 hB3 hLL
    go_wp2_with fail
    go_ret
    exact WholePost.no HNO.out HF3.out
  have hne : ((x2 : Int) != 0) = false := by rw [bne_eq_false_iff_eq]; omega
  have HI0 : Hid (WhI W0 w3 p ge gs e0 e1 n C L D 0 [] (s2 l)) := by
    refine ⟨?_, ⟨A3, c3, hz2.eye, fun j hj => HEA2.out j (hz2.row j hj)⟩, ⟨O, hS3, fun b hb => .inl (HO.out b hb).2, fun b hb => ⟨(HO.out b hb).1, by have := HO.out b hb; have := HGE.out; omega⟩⟩, ?_, rfl, ?_, hB3, HF3.out⟩
    · rw [HD.out]
      unfold dec
      rw [if_pos ⟨by have := HG1.out; have := HGN.out; omega, by have := HG1.out; have := HGN.out; omega, by omega⟩, Nat.sub_zero, hC]
    · rw [hLL]
      unfold s2 s1
      rw [List.length_drop, List.length_drop]
      simp only [List.length_nil]
      omega
    · have := HGE.out; have := HBX2.out.lt; have := hz2.fr.size; omega
  clear hx0 hC hx2 hz2 hnb hng hS3 hB3 hLL HS1 HS2 HBX1 HBX2 HE1 HE2 HEA HEA2 HF1 HF2 HF3 HG1 HGN HO HSZ2 HD
  go_wp2_with fail
  go_loopw [6, 37] (fun s z wr => ∃ (k : Nat) (acc : List Rw) (l' : Bs), s = .string (bstr (lastK acc)) ∧ z = .int .u64 (k : Int) ∧ k ≤ C ∧ Hid (WhI W0 wr p ge gs e0 e1 n C L D k acc l')) (fun _ z _ => C - (intOf z).toNat)
  case atStart => exact ⟨0, [], _, rfl, rfl, Nat.zero_le _, HI0.out⟩
  case round =>
    obtain ⟨k, acc, l', rfl, rfl, hk, HI⟩ := hrel
    obtain ⟨A', c', hey, hea⟩ := HI.out.eye
    obtain ⟨O', hst, hoe, hop⟩ := HI.out.st
    have hbx := HI.out.box
    have HLEN : Hid (acc.length ≤ 95000 ∧ l'.length ≤ 190000) := by have h1 := HI.out.len; have h2 := HL.out; exact ⟨by omega, by omega⟩
    by_cases hlt : k < C
    · have hwk : IntKind.u64.wrap ((k : Int) + 1) = ((k + 1 : Nat) : Int) := by show ((k : Int) + 1) % 18446744073709551616 = _; have := HC.out; omega
      have hwk2 : ((k : Int) + 1) % 18446744073709551616 = ((k + 1 : Nat) : Int) := by have := HC.out; omega
      obtain ⟨gt, OT, zs, hsi, hrz⟩ := id hst
      have HRO := Lib.hid (row_any wr ge gs n A' c' l' hey HLEN.out.2 _ hsi.bk rfl (by have := hsi.n3; omega) fun j hj => by have h1 := (hea j hj).2; have h2 := HI.out.sz; omega)
      have HST : Hid (Store wr gs O' n acc) := hst
      have HOL : Hid (∀ b, O' b → b < wr.heap.size) := fun b hb => hst.lt hb
      have HOE : Hid ((∀ b, O' b → b < e0 ∨ e1 ≤ b) ∧ ∀ b, O' b → W0.heap.size ≤ b ∧ b ≠ p) := ⟨hoe, hop⟩
      have HBX := Lib.hid hbx
      have HEA : Hid (∀ j, ablk A' j → e0 ≤ j ∧ j < e1) := hea
      have HGB : Hid (¬ O' ge ∧ Bk wr ge 112 #[.slice A' l'.length c']) := ⟨fun e => by have := hoe ge e; have := HGE.out; omega, hey.bk⟩
      have d0 : wr.cell? ⟨p, 0, none⟩ = some (.pointer (some ⟨ge, 0, none⟩)) := hbx.cell 0
      have d1 : wr.cell? ⟨p, 1, none⟩ = some (.pointer (some ⟨gs, 0, none⟩)) := hbx.cell 1
      clear hsi hrz gt OT zs hey hst hoe hop hbx hea
      go_wp2_with fail
      refine HRO.out.mono ?_
      clear HRO d0 d1
      rintro e w5 ⟨key, v, ok, A2, c2, rfl, hok, hf5, hyes⟩
      obtain ⟨vh, va, vn, vc, vm, vt⟩ := v
      obtain ⟨q, hq⟩ : ∃ q, q = w5.heap.size := ⟨_, rfl⟩
      obtain ⟨w6, hw6⟩ : ∃ W, W = w5.alloc (.cells #[.string (bstr key), .bool vh, .slice va vn vc, .int .i64 vm, .int .u64 (vt : Int)] 61) := ⟨_, rfl⟩
      have hf6 : Fr NoBlk w5 w6 := by rw [hw6]; exact (Fr.refl _ _).alloc _
      have HBQ : Hid (Bk w6 q 61 #[.string (bstr key), .bool vh, .slice va vn vc, .int .i64 vm, .int .u64 (vt : Int)]) := by show Bk _ _ _ _; rw [hw6, hq]; exact Bk.new _ _ _
      have hf56 : Fr (fun b => b = ge) wr w6 := hf5.step hf6 fun _ _ e => e.elim
      have hnb : ∀ b, Byt wr b → b ≠ ge := fun b hb e => Byt.no HGB.out.2 (by decide) (e ▸ hb)
      have HST6 : Hid (Store w6 gs O' n acc) := HST.out.fr hf56 (fun b hb e => HGB.out.1 (e ▸ hb)) hnb
      have HBX6 : Hid (Bk w6 p 86 #[.pointer (some ⟨ge, 0, none⟩), .pointer (some ⟨gs, 0, none⟩)]) := HBX.out.fr hf56 (by have := HGE.out; omega)
      have HF6 : Hid (Fr NoBlk W0 w6) := HI.out.fr.step hf56 fun i hi e => by have := HGE.out; omega
      have HQ : Hid (wr.heap.size ≤ q ∧ q < w6.heap.size ∧ w5.heap.size ≤ w6.heap.size ∧ wr.heap.size ≤ w6.heap.size) := ⟨by rw [hq]; exact hf5.size, HBQ.out.lt, hf6.size, hf56.size⟩
      have HQO : Hid (¬ O' q) := fun e => by have := HOL.out q e; have := HQ.out; omega
      have HOK : Hid (ok = rowOk n l') := hok
      have HYES : Hid (ok = true → Eye w6 ge A2 c2 (r5 l') ∧ (∀ j, ablk A2 j → e0 ≤ j ∧ j < e1) ∧ key = rdKey l' ∧ Fresh wr.heap.size w6 ⟨vh, va, vn, vc, vm, vt⟩ (rdRec l')) := fun e => by
        obtain ⟨h1, h2, h3, h4⟩ := hyes e
        exact ⟨h1.keep hf6 (fun e => e) fun _ _ e => e, fun j hj => HEA.out j (h2 j hj), h3, h4.fr hf6 fun _ _ e => e⟩
      have HW6 := Lib.hid (And.intro hw6 hq)
      have HDEC : Hid (decR n (C - k) l' acc = D) := HI.out.dec
      have HIL : Hid (acc.length = k ∧ acc.length * 2 + l'.length ≤ L) := ⟨HI.out.cnt, HI.out.len⟩
      have HSZ : Hid (e1 ≤ wr.heap.size ∧ p < wr.heap.size) := ⟨HI.out.sz, HBX.out.lt⟩
      have hck : C - k = (C - (k + 1)) + 1 := by omega
      have HCK := Lib.hid hck
      clear hf5 hyes hok hf6 hf56 hnb hw6 hq HI hck HST HGB HBX
      go_upto_region 12 with fail
      rw [← HW6.out.1, ← HW6.out.2]
      clear HW6
      have q0 : w6.cell? ⟨q, 0, none⟩ = some (.string (bstr key)) := HBQ.out.cell 0
      cases ok with
      | false =>
        have HNO : Hid (D = none) := by
          show _ = _
          rw [← HDEC.out, HCK.out]
          unfold decR goesOn
          rw [← HOK.out]
          rfl
        have HFZ := HF6
        go_wp2_with fail
        go_ret
        exact WholePost.no HNO.out HFZ.out
      | true =>
        obtain ⟨hey, hea, hky, hfr⟩ := HYES.out rfl
        obtain ⟨last, hlast⟩ : ∃ x, x = lastK acc := ⟨_, rfl⟩
        rw [← hlast]
        have HEY : Hid (Eye w6 ge A2 c2 (r5 l') ∧ (∀ j, ablk A2 j → e0 ≤ j ∧ j < e1)) := ⟨hey, hea⟩
        have HKY : Hid (key = rdKey l' ∧ last = lastK acc) := ⟨hky, hlast⟩
        have HFR : Hid (Fresh wr.heap.size w6 ⟨vh, va, vn, vc, vm, vt⟩ (rdRec l')) := hfr
        clear hey hea hky hfr hlast HYES
        obtain ⟨x1, h1⟩ : ∃ x, Op.bytesLess (bstr key).toList (bstr last).toList = x := ⟨_, rfl⟩
        obtain ⟨x2, h2⟩ : ∃ x, ((bstr key).toList == (bstr last).toList) = x := ⟨_, rfl⟩
        obtain ⟨x3, h3⟩ : ∃ x, Op.bytesLess last key = x := ⟨_, rfl⟩
        have hx3 : x3 = (!x1 && !x2) := by
          rw [bstr_toList, bstr_toList] at h1 h2
          rw [← h1, ← h2, ← h3]
          exact (gt_lessR key last).symm
        have H3 := Lib.hid h3
        clear h3
        by_cases hk0 : 0 < k
        · have hk0' : 0 < (k : Int) := by omega
          have HNE : Hid (acc.isEmpty = false) := by
            show _ = _
            cases hac : acc with
            | nil => have := HIL.out.1; rw [hac] at this; simp at this; omega
            | cons a t => rfl
          have HGO : Hid (goesOn n l' acc = x3) := by
            show _ = _
            unfold goesOn
            rw [← HOK.out, HNE.out, ← HKY.out.1, ← HKY.out.2, H3.out]
            rfl
          cases x1 with
          | true =>
            have HNO : Hid (D = none) := by
              show _ = _
              rw [← HDEC.out, HCK.out]
              unfold decR
              rw [HGO.out, hx3]
              rfl
            clear hx3
            go_wp2_with fail
            go_ret
            exact WholePost.no HNO.out HF6.out
          | false =>
            cases x2 with
            | true =>
              have HNO : Hid (D = none) := by
                show _ = _
                rw [← HDEC.out, HCK.out]
                unfold decR
                rw [HGO.out, hx3]
                rfl
              clear hx3
              go_wp2_with fail
              go_ret
              exact WholePost.no HNO.out HF6.out
            | false =>
              have hgo : goesOn n l' acc = true := by rw [HGO.out, hx3]; rfl
              have HG := Lib.hid hgo
              clear hx3 hgo
              have HRK : Hid (rowOk n l' = true) := HOK.out.symm
              have hrall : rdAll l' = true := by
                have h := HRK.out
                unfold rowOk at h
                simp only [Bool.and_eq_true] at h
                exact h.1
              have hisr : ((rdRec l').has || (rdRec l').count != 0) = true := by
                have h := HRK.out
                unfold rowOk canB at h
                simp only [Bool.and_eq_true] at h
                rw [← HKY.out.1] at h
                exact h.2.2.2.1
              have hemp : acc.isEmpty = true ∨ Op.bytesLess (lastK acc) key = true := by
                have h := HG.out
                unfold goesOn at h
                rw [Bool.and_eq_true, Bool.or_eq_true, ← HKY.out.1] at h
                exact h.2
              have hset : rset acc key (rdRec l') = acc ++ [(key, rdRec l')] := rset_last HST6.out.up hisr hemp
              have HKP : Hid (Calls Try.prog 56 #[.pointer (some ⟨gs, 0, none⟩), .string (bstr key), .agg #[.bool vh, .slice va vn vc, .int .i64 vm, .int .u64 (vt : Int)]] w6 (KeepPost w6 gs O' n (acc ++ [(key, rdRec l')]))) := by
                have h := keep_any w6 gs O' n acc HST6.out (by have := HLEN.out.1; omega) key ⟨vh, va, vn, vc, vm, vt⟩ (rdRec l') (HFR.out.reads (HX.out.le (by have := HSZ.out; have := HE.out; omega))) (rdCnt_lt l')
                rw [hset] at h
                exact h
              have HRL : Hid ((r5 l').length + 2 ≤ l'.length) := (rest_le l' hrall).1
              have HD2 : Hid (decR n (C - (k + 1)) (r5 l') (acc ++ [(key, rdRec l')]) = D) := by
                show _ = _
                have h := HDEC.out
                rw [HCK.out] at h
                unfold decR at h
                rw [if_pos HG.out, ← HKY.out.1] at h
                exact h
              have q1 : w6.cell? ⟨q, 1, none⟩ = some (.bool vh) := HBQ.out.cell 1
              have q2 : w6.cell? ⟨q, 2, none⟩ = some (.slice va vn vc) := HBQ.out.cell 2
              have q3 : w6.cell? ⟨q, 3, none⟩ = some (.int .i64 vm) := HBQ.out.cell 3
              have q4 : w6.cell? ⟨q, 4, none⟩ = some (.int .u64 (vt : Int)) := HBQ.out.cell 4
              have d1 : w6.cell? ⟨p, 1, none⟩ = some (.pointer (some ⟨gs, 0, none⟩)) := HBX6.out.cell 1
              clear hrall hisr hemp hset
              go_wp2_with fail
              refine HKP.out.mono ?_
              clear HKP q0 q1 q2 q3 q4 d1
              rintro e w7 ⟨⟨z7, rfl⟩, O7, hs7, hp7⟩
              have hq' : ¬ O' q := fun e => HQO.out e
              have q0 : w7.cell? ⟨q, 0, none⟩ = some (.string (bstr key)) := (HBQ.out.fr hp7.fr hq').cell 0
              have HI7 : Hid (WhI W0 w7 p ge gs e0 e1 n C L D (k + 1) (acc ++ [(key, rdRec l')]) (r5 l')) := by
                have hnew : ∀ b, O7 b → O' b ∨ w6.heap.size ≤ b := hp7.new
                have hge : ¬ O' ge := fun e => by have := HOE.out.1 ge e; have := HGE.out; omega
                refine ⟨HD2.out, ⟨A2, c2, HEY.out.1.keep hp7.fr hge (fun j hj e => by have h1 := HEY.out.2 j hj; have h2 := HOE.out.1 j e; omega), HEY.out.2⟩, ⟨O7, hs7, fun b hb => ?_, fun b hb => ?_⟩, ?_, ?_, ?_, HBX6.out.fr hp7.fr (fun e => (HOE.out.2 p e).2 rfl), HF6.out.step hp7.fr fun i hi e => by have := (HOE.out.2 i e).1; omega⟩
                · rcases hnew b hb with h | h
                  · exact HOE.out.1 b h
                  · have := HSZ.out; have := HQ.out; omega
                · rcases hnew b hb with h | h
                  · exact HOE.out.2 b h
                  · have := HSZ.out; have := HQ.out; have := HE.out; have := HF6.out.size; exact ⟨by omega, by omega⟩
                · rw [List.length_append, List.length_singleton]; have := HIL.out.2; have := HRL.out; omega
                · rw [List.length_append, List.length_singleton, HIL.out.1]
                · have := HSZ.out; have := HQ.out; have := hp7.fr.size; omega
              have HLK : Hid (lastK (acc ++ [(key, rdRec l')]) = key) := lastK_snoc _ _
              clear hs7 hp7 hq'
              go_wp2_with fail
              go_roundw
              case rel => exact ⟨k + 1, acc ++ [(key, rdRec l')], r5 l', by rw [HLK.out], by go_num, by omega, HI7⟩
              case measure => simp [intOf]; omega
        · obtain rfl : k = 0 := by omega
          have hgo : goesOn n l' acc = true := by
            have hac : acc = [] := List.eq_nil_of_length_eq_zero HIL.out.1
            rw [hac]
            unfold goesOn
            rw [← HOK.out]
            rfl
          have HG := Lib.hid hgo
          clear hx3 hgo
          have HRK : Hid (rowOk n l' = true) := HOK.out.symm
          have hrall : rdAll l' = true := by
            have h := HRK.out
            unfold rowOk at h
            simp only [Bool.and_eq_true] at h
            exact h.1
          have hisr : ((rdRec l').has || (rdRec l').count != 0) = true := by
            have h := HRK.out
            unfold rowOk canB at h
            simp only [Bool.and_eq_true] at h
            rw [← HKY.out.1] at h
            exact h.2.2.2.1
          have hemp : acc.isEmpty = true ∨ Op.bytesLess (lastK acc) key = true := by
            have h := HG.out
            unfold goesOn at h
            rw [Bool.and_eq_true, Bool.or_eq_true, ← HKY.out.1] at h
            exact h.2
          have hset : rset acc key (rdRec l') = acc ++ [(key, rdRec l')] := rset_last HST6.out.up hisr hemp
          have HKP : Hid (Calls Try.prog 56 #[.pointer (some ⟨gs, 0, none⟩), .string (bstr key), .agg #[.bool vh, .slice va vn vc, .int .i64 vm, .int .u64 (vt : Int)]] w6 (KeepPost w6 gs O' n (acc ++ [(key, rdRec l')]))) := by
            have h := keep_any w6 gs O' n acc HST6.out (by have := HLEN.out.1; omega) key ⟨vh, va, vn, vc, vm, vt⟩ (rdRec l') (HFR.out.reads (HX.out.le (by have := HSZ.out; have := HE.out; omega))) (rdCnt_lt l')
            rw [hset] at h
            exact h
          have HRL : Hid ((r5 l').length + 2 ≤ l'.length) := (rest_le l' hrall).1
          have HD2 : Hid (decR n (C - (0 + 1)) (r5 l') (acc ++ [(key, rdRec l')]) = D) := by
            show _ = _
            have h := HDEC.out
            rw [HCK.out] at h
            unfold decR at h
            rw [if_pos HG.out, ← HKY.out.1] at h
            exact h
          have q1 : w6.cell? ⟨q, 1, none⟩ = some (.bool vh) := HBQ.out.cell 1
          have q2 : w6.cell? ⟨q, 2, none⟩ = some (.slice va vn vc) := HBQ.out.cell 2
          have q3 : w6.cell? ⟨q, 3, none⟩ = some (.int .i64 vm) := HBQ.out.cell 3
          have q4 : w6.cell? ⟨q, 4, none⟩ = some (.int .u64 (vt : Int)) := HBQ.out.cell 4
          have d1 : w6.cell? ⟨p, 1, none⟩ = some (.pointer (some ⟨gs, 0, none⟩)) := HBX6.out.cell 1
          clear hrall hisr hemp hset
          go_wp2_with fail
          refine HKP.out.mono ?_
          clear HKP q0 q1 q2 q3 q4 d1
          rintro e w7 ⟨⟨z7, rfl⟩, O7, hs7, hp7⟩
          have hq' : ¬ O' q := fun e => HQO.out e
          have q0 : w7.cell? ⟨q, 0, none⟩ = some (.string (bstr key)) := (HBQ.out.fr hp7.fr hq').cell 0
          have HI7 : Hid (WhI W0 w7 p ge gs e0 e1 n C L D (0 + 1) (acc ++ [(key, rdRec l')]) (r5 l')) := by
            have hnew : ∀ b, O7 b → O' b ∨ w6.heap.size ≤ b := hp7.new
            have hge : ¬ O' ge := fun e => by have := HOE.out.1 ge e; have := HGE.out; omega
            refine ⟨HD2.out, ⟨A2, c2, HEY.out.1.keep hp7.fr hge (fun j hj e => by have h1 := HEY.out.2 j hj; have h2 := HOE.out.1 j e; omega), HEY.out.2⟩, ⟨O7, hs7, fun b hb => ?_, fun b hb => ?_⟩, ?_, ?_, ?_, HBX6.out.fr hp7.fr (fun e => (HOE.out.2 p e).2 rfl), HF6.out.step hp7.fr fun i hi e => by have := (HOE.out.2 i e).1; omega⟩
            · rcases hnew b hb with h | h
              · exact HOE.out.1 b h
              · have := HSZ.out; have := HQ.out; omega
            · rcases hnew b hb with h | h
              · exact HOE.out.2 b h
              · have := HSZ.out; have := HQ.out; have := HE.out; have := HF6.out.size; exact ⟨by omega, by omega⟩
            · rw [List.length_append, List.length_singleton]; have := HIL.out.2; have := HRL.out; omega
            · rw [List.length_append, List.length_singleton, HIL.out.1]
            · have := HSZ.out; have := HQ.out; have := hp7.fr.size; omega
          have HLK : Hid (lastK (acc ++ [(key, rdRec l')]) = key) := lastK_snoc _ _
          clear hs7 hp7 hq'
          go_wp2_with fail
          go_roundw
          case rel => exact ⟨0 + 1, acc ++ [(key, rdRec l')], r5 l', by rw [HLK.out], by go_num, by omega, HI7⟩
          case measure => simp [intOf]; omega
    · have hkc : k = C := by omega
      have HFZ := Lib.hid HI.out.fr
      have HDEC : Hid ((if l' = [] then some acc else none) = D) := by
        have h := HI.out.dec
        rw [hkc, Nat.sub_self] at h
        exact h
      have HSTX : Hid (∃ O, Store wr gs O n acc ∧ ∀ b, O b → W0.heap.size ≤ b) := ⟨O', hst, fun b hb => (hop b hb).1⟩
      have HEN := Lib.hid (eyeEnd_any wr ge A' c' l' hey)
      have d0 : wr.cell? ⟨p, 0, none⟩ = some (.pointer (some ⟨ge, 0, none⟩)) := hbx.cell 0
      clear hey hea hst hoe hop hbx HI
      by_cases hnl : l' = []
      · rw [if_pos hnl] at HEN HDEC
        clear hnl
        go_wp2_with fail
        refine HEN.out.mono ?_
        rintro e w7 ⟨rfl, rfl⟩
        go_wp2_with fail
        go_ret
        exact WholePost.yes HDEC.out.symm HFZ.out HSTX.out
      · rw [if_neg hnl] at HEN HDEC
        clear hnl
        go_wp2_with fail
        refine HEN.out.mono ?_
        rintro e w7 ⟨rfl, rfl⟩
        go_wp2_with fail
        go_ret
        exact WholePost.no HDEC.out.symm HFZ.out
end Go.Proofs.Ytkdcacajacndmaa

namespace Go.Proofs.Ytkdcacajacndmaa
open Go.RowKit
def RestorePost [Ex] (W : World) (reg : Int) (l : Bs) (e : Ending) (w' : World) : Prop :=
  (∃ g O rs, 1 ≤ reg ∧ reg ≤ 3 ∧ dec reg.toNat l = some rs ∧ e = .returned (.tuple #[.pointer (some ⟨g, 0, none⟩), .int .i64 0]) ∧ Store w' g O reg.toNat rs ∧ (∀ b, O b → W.heap.size ≤ b) ∧ Fr NoBlk W w') ∨
  ((¬ (1 ≤ reg ∧ reg ≤ 3) ∨ dec reg.toNat l = none) ∧ e = .returned (.tuple #[.pointer none, .int .i64 31]) ∧ Fr NoBlk W w')
set_option maxRecDepth 100000 in
set_option maxHeartbeats 2000000 in
theorem restore_any [Ex] (W : World) (hx : ExL W.heap.size) (A : Option Addr) (m c : Nat) (l : Bs) (hm : m = l.length) (hr : Rd W A (cb l)) (hA : A = none → c = 0) (hl : l.length ≤ 190000) (reg : Int) :
    Calls Try.prog 26 #[.slice A m c, .int .i64 reg] W (RestorePost W reg l) := by
  have HN := Lib.hid (snew_any W hx reg)
  have HR : Hid (m = l.length ∧ Rd W A (cb l) ∧ (A = none → c = 0) ∧ l.length ≤ 190000) := ⟨hm, hr, hA, hl⟩
  have HX := Lib.hid hx
  clear hx hm hr hA hl
  go_enter Try.func26, Try.ntmps26
  go_wp2_with fail
  refine HN.out.mono ?_
  clear HN
  rintro e w1 (⟨h1, h3, g, O, rfl, hs, hO, hf1⟩ | ⟨h, rfl, rfl⟩)
  rotate_left
  · have HNO := Lib.hid h
    clear h
    go_wp2_with fail
    go_ret2
    exact .inr ⟨.inl HNO.out, rfl, Fr.refl _ _⟩
  have HRG : Hid (1 ≤ reg ∧ reg ≤ 3) := ⟨h1, h3⟩
  have HS : Hid (Store w1 g O reg.toNat []) := hs
  have HO : Hid (∀ b, O b → W.heap.size ≤ b ∧ b < w1.heap.size) := fun b hb => ⟨hO b hb, hs.lt hb⟩
  have HF1 := Lib.hid hf1
  have HNE := Lib.hid (newEye_any w1 A m c l HR.out.1 (HR.out.2.1.nofr hf1) HR.out.2.2.1 (by have := HR.out.2.2.2; omega))
  clear h1 h3 hs hO hf1
  go_wp2_with fail
  refine HNE.out.mono ?_
  clear HNE
  rintro e w2 ⟨ge, A2, c2, rfl, he, hf2, hge, hea⟩
  obtain ⟨w3, hw3⟩ : ∃ W, W = w2.alloc (.cells #[.pointer (some ⟨ge, 0, none⟩), .pointer (some ⟨g, 0, none⟩)] 86) := ⟨_, rfl⟩
  obtain ⟨q, hq⟩ : ∃ q, q = w2.heap.size := ⟨_, rfl⟩
  have hf3 : Fr NoBlk w2 w3 := by rw [hw3]; exact (Fr.refl _ _).alloc _
  have hbq : Bk w3 q 86 #[.pointer (some ⟨ge, 0, none⟩), .pointer (some ⟨g, 0, none⟩)] := by rw [hw3, hq]; exact Bk.new _ _ _
  have HWH := Lib.hid (whole_any W w3 ge g reg.toNat A2 c2 l O w1.heap.size w2.heap.size HX.out (HF1.out.trans (hf2.trans hf3)) (HS.out.nofr (hf2.trans hf3)) HO.out (he.keep hf3 (fun e => e) fun _ _ e => e) hea ⟨hge, he.bk.lt⟩ HF1.out.size hf3.size HR.out.2.2.2)
  have HW3 := Lib.hid (And.intro hw3 hq)
  have d0 : w3.cell? ⟨q, 0, none⟩ = some (.pointer (some ⟨ge, 0, none⟩)) := hbq.cell 0
  have d1 : w3.cell? ⟨q, 1, none⟩ = some (.pointer (some ⟨g, 0, none⟩)) := hbq.cell 1
  clear he hf2 hge hea hw3 hq hf3 hbq
  go_upto_region 5 with fail
  rw [← HW3.out.1, ← HW3.out.2]
  clear HW3
  go_wp2_with fail
  refine HWH.out.mono ?_
  clear HWH d0 d1
  rintro e w4 (⟨hD, rfl, hf4⟩ | ⟨rs, O4, hD, rfl, hf4, hs4, hO4⟩)
  · have HD := Lib.hid (And.intro hD hf4)
    clear hD hf4
    go_wp2_with fail
    go_ret2
    exact .inr ⟨.inr HD.out.1, rfl, HD.out.2⟩
  · have HD := Lib.hid (And.intro hD (And.intro hf4 (And.intro hs4 hO4)))
    clear hD hf4 hs4 hO4
    go_wp2_with fail
    go_ret2
    exact .inl ⟨g, O4, rs, HRG.out.1, HRG.out.2, HD.out.1, rfl, HD.out.2.2.1, HD.out.2.2.2, HD.out.2.1⟩
/-- what was written is read. -/
theorem rdText_app (t r : Bs) (h : t.length < 2 ^ 64) : rdText (num t.length ++ t ++ r) = (t, (num t.length).length + t.length, 0) := by
  unfold rdText
  rw [List.append_assoc, rdNum_app t.length _ h]
  dsimp only
  rw [if_pos rfl, if_neg (by rw [List.length_append, List.length_append]; omega), List.drop_left, List.take_left]
theorem row_back {n : Nat} {x : Rw} (h : canB n x.1 x.2 = true) (h1 : x.1.length < 2 ^ 64) (h2 : x.2.val.length < 2 ^ 64) (h3 : 0 ≤ x.2.home ∧ x.2.home < n) (hn : n ≤ 3) (h4 : x.2.count < 2 ^ 64) (r : Bs) :
    rowOk n (rowB x ++ r) = true ∧ (rdKey (rowB x ++ r), rdRec (rowB x ++ r)) = x ∧ r5 (rowB x ++ r) = r := by
  obtain ⟨k, ⟨a, v, m, c⟩⟩ := x
  dsimp only at h h1 h2 h3 h4
  obtain ⟨hm, rfl⟩ : ∃ q : Nat, m = (q : Int) := ⟨m.toNat, by omega⟩
  have hmm : hmN (hm : Int) = hm := by
    have e := hmN_eq (hm : Int)
    have f : IntKind.u64.wrap (hm : Int) = (hm : Int) % 18446744073709551616 := rfl
    rw [f] at e
    omega
  have e0 : rowB (k, ⟨a, v, (hm : Int), c⟩) ++ r = num k.length ++ k ++ (b1 a :: (num v.length ++ v ++ (num hm ++ (num c ++ r)))) := by
    unfold rowB
    dsimp only
    rw [hmm]
    simp
  rw [e0]
  have t1 := rdText_app k (b1 a :: (num v.length ++ v ++ (num hm ++ (num c ++ r)))) h1
  have d1 : r1 (num k.length ++ k ++ (b1 a :: (num v.length ++ v ++ (num hm ++ (num c ++ r))))) = b1 a :: (num v.length ++ v ++ (num hm ++ (num c ++ r))) := by
    unfold r1
    rw [t1, ← List.length_append, List.drop_left]
  have d2 : r2 (num k.length ++ k ++ (b1 a :: (num v.length ++ v ++ (num hm ++ (num c ++ r))))) = num v.length ++ v ++ (num hm ++ (num c ++ r)) := by
    unfold r2
    rw [d1]
    rfl
  have t2 := rdText_app v (num hm ++ (num c ++ r)) h2
  have d3 : r3 (num k.length ++ k ++ (b1 a :: (num v.length ++ v ++ (num hm ++ (num c ++ r))))) = num hm ++ (num c ++ r) := by
    unfold r3
    rw [d2, t2, ← List.length_append, List.drop_left]
  have t3 := rdNum_app hm (num c ++ r) (by omega)
  have d4 : r4 (num k.length ++ k ++ (b1 a :: (num v.length ++ v ++ (num hm ++ (num c ++ r))))) = num c ++ r := by
    unfold r4
    rw [d3, t3, List.drop_left]
  have t4 := rdNum_app c r h4
  have d5 : r5 (num k.length ++ k ++ (b1 a :: (num v.length ++ v ++ (num hm ++ (num c ++ r))))) = r := by
    unfold r5
    rw [d4, t4, List.drop_left]
  have hrec : rdRec (num k.length ++ k ++ (b1 a :: (num v.length ++ v ++ (num hm ++ (num c ++ r))))) = ⟨a, v, (hm : Int), c⟩ := by
    unfold rdRec rdMark rdVal rdHome rdCnt
    rw [d1, d2, d3, d4, t2, t3, t4]
    cases a <;> rfl
  have hkey : rdKey (num k.length ++ k ++ (b1 a :: (num v.length ++ v ++ (num hm ++ (num c ++ r))))) = k := by
    unfold rdKey
    rw [t1]
  refine ⟨?_, by rw [hkey, hrec], d5⟩
  unfold rowOk
  rw [hkey, hrec, h]
  have e1 : rdAll (num k.length ++ k ++ (b1 a :: (num v.length ++ v ++ (num hm ++ (num c ++ r))))) = true := by
    unfold rdAll
    rw [d1, d2, d3, d4, t1, t2, t3, t4]
    rfl
  have e2 : (rdMark (num k.length ++ k ++ (b1 a :: (num v.length ++ v ++ (num hm ++ (num c ++ r)))))).toNat ≤ 1 := by
    unfold rdMark
    rw [d1]
    show (b1 a).toNat ≤ 1
    cases a <;> decide
  have e3 : rdHome (num k.length ++ k ++ (b1 a :: (num v.length ++ v ++ (num hm ++ (num c ++ r))))) < n := by
    unfold rdHome
    rw [d3, t3]
    show hm < n
    omega
  rw [e1, decide_eq_true e2, decide_eq_true e3]
  rfl
/-- rows that a store's calls make. -/
def GoodRow (n : Nat) (x : Rw) : Prop := canB n x.1 x.2 = true ∧ x.1.length < 2 ^ 64 ∧ x.2.val.length < 2 ^ 64 ∧ (0 ≤ x.2.home ∧ x.2.home < n) ∧ x.2.count < 2 ^ 64
theorem rows_back {n : Nat} (hn : n ≤ 3) : ∀ (rs acc : List Rw), (∀ x ∈ rs, GoodRow n x) → UpI Op.bytesLess (acc ++ rs) → decR n rs.length (rs.flatMap rowB) acc = some (acc ++ rs)
  | [], acc, _, _ => by
    show (if ([] : Bs) = [] then some acc else none) = _
    rw [if_pos rfl, List.append_nil]
  | x :: rs, acc, h, hu => by
    have hx := h x List.mem_cons_self
    have hb := row_back hx.1 hx.2.1 hx.2.2.1 hx.2.2.2.1 hn hx.2.2.2.2 (rs.flatMap rowB)
    rw [List.flatMap_cons, List.length_cons]
    unfold decR
    have hg : goesOn n (rowB x ++ rs.flatMap rowB) acc = true := by
      unfold goesOn
      rw [hb.1, Bool.true_and]
      have hk : rdKey (rowB x ++ rs.flatMap rowB) = x.1 := congrArg (fun z : Rw => z.1) hb.2.1
      rw [hk]
      cases hac : acc.reverse with
      | nil =>
        have : acc = [] := by simpa using hac
        rw [this]
        rfl
      | cons y t =>
        have e : acc = t.reverse ++ [y] := by
          have := congrArg List.reverse hac
          simpa using this
        rw [e, lastK_snoc]
        have hl := (List.pairwise_append.1 hu).2.2 y (by rw [e]; simp) x List.mem_cons_self
        rw [hl]
        simp
    rw [if_pos hg, hb.2.1, hb.2.2, rows_back hn rs (acc ++ [x]) (fun z hz => h z (List.mem_cons_of_mem _ hz)) (by rw [List.append_assoc]; exact hu), List.append_assoc]
    rfl
theorem dec_snap {n : Nat} (hn : n ≤ 3) {rs : List Rw} (h : ∀ x ∈ rs, GoodRow n x) (hu : UpI Op.bytesLess rs) (hl : rs.length < 2 ^ 64) : dec n (snapB n rs) = some rs := by
  have t1 := rdNum_app n (num rs.length ++ rs.flatMap rowB) (by omega)
  have e : snapB n rs = num n ++ (num rs.length ++ rs.flatMap rowB) := by unfold snapB; rw [List.append_assoc]
  have d1 : s1 (snapB n rs) = num rs.length ++ rs.flatMap rowB := by
    unfold s1
    rw [e, t1, List.drop_left]
  have t2 := rdNum_app rs.length (rs.flatMap rowB) hl
  have d2 : s2 (snapB n rs) = rs.flatMap rowB := by
    unfold s2
    rw [d1, t2, List.drop_left]
  unfold dec
  rw [d1, d2, t2, e, t1, if_pos ⟨rfl, rfl, rfl⟩]
  exact rows_back hn rs [] h hu
end Go.Proofs.Ytkdcacajacndmaa
