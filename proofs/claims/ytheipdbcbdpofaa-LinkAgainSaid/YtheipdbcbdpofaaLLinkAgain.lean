/- LinkAgain is true: packets that come again bring nothing again, and in whatever order they come, all data come in order. No condition. -/
import Derived.Test.YtheipdbcbdpofaaOpenA
namespace Go.Proofs.Ytheipdbcbdpofaa.linkAgain
open Go.ChangeShapes Go.WideShapes Go.ChangeAt Go.RowKit Go.Maps Go.ChangeMaps Go.MapKept

/-- which packet comes in round i. -/
def idx (ks : List Int) (i : Nat) : Int := if i < ks.length then ks.getD i 0 else (i : Int) - (ks.length : Int)
/-- those that have come. -/
def cameK (ks : List Int) (m n : Nat) : Nat → Prop := fun k => k < m ∧ ∃ i, i < n ∧ idx ks i = (k : Int)
theorem came_all (ks : List Int) (m : Nat) : ∀ k, k < m → cameK ks m (ks.length + m) k := fun k hk => ⟨hk, ks.length + k, by omega, by unfold idx; rw [if_neg (by omega)]; omega⟩
theorem came_succ (ks : List Int) (m n : Nat) {j : Nat} (hj : idx ks n = (j : Int)) : ∀ k, cameK ks m (n + 1) k → cameK ks m n k ∨ k = j := fun k hk => by
  obtain ⟨h1, i, hi, he⟩ := hk
  by_cases hin : i < n
  · exact .inl ⟨h1, i, hin, he⟩
  · obtain rfl : i = n := by omega
    right
    rw [hj] at he
    omega
theorem came_no (ks : List Int) (m n : Nat) (hj : idx ks n < 0 ∨ (m : Int) ≤ idx ks n) : ∀ k, cameK ks m (n + 1) k → cameK ks m n k := fun k hk => by
  obtain ⟨h1, i, hi, he⟩ := hk
  by_cases hin : i < n
  · exact ⟨h1, i, hin, he⟩
  · obtain rfl : i = n := by omega
    omega
/-- the side that sends, as it is ahead of the first packet. -/
def la (sa : Option Addr) (sc : Nat) (ps : List Prt) (gm : Nat) : Lk := ⟨2, 0, 1, 1, sa, sc, ps, gm, 0, fun _ => none⟩
def lb (gm : Nat) : Lk := ⟨9, 0, 1, 1, none, 0, [], gm, 0, fun _ => none⟩
theorem sent_more (ls : List Prt) (k : Nat) {x : Prt} (hx : ls[k]? = some x) : (ls.take (k + 1)).take 16 = (ls.take k).take 16 ++ (if k < 16 then [x] else []) := by
  rw [List.take_take, List.take_take]
  split
  · rw [show min 16 (k + 1) = k + 1 by omega, show min 16 k = k by omega, List.take_add_one, hx]
    rfl
  · rw [show min 16 (k + 1) = 16 by omega, show min 16 k = 16 by omega, List.append_nil]

set_option maxRecDepth 100000 in
set_option maxHeartbeats 16000000 in
theorem walk (w : World) (A : Option Addr) (c : Nat) (ls : List Prt) (hr : Rd w A (ls.map sl)) (hx : ∀ x ∈ ls, PrIn w x) (B : Option Addr) (d : Nat) (ks : List Int) (hr2 : Rd w B (ks.map fun z => .int .i64 z)) :
    Calls Try.prog 6 #[.slice A ls.length c, .slice B ks.length d] w fun e w' => e = .returned (.bool true) ∧ Fr NoBlk w w' := by
  obtain ⟨i0, hi, hz0, hz1, hz2⟩ := info_parts sliceInfo
  have HR : Hid (Rd w A (ls.map sl)) := hr
  have HR2 : Hid (Rd w B (ks.map fun z => .int .i64 z)) := hr2
  have HXS : Hid (∀ x ∈ ls, PrIn w x) := hx
  clear hr hr2 hx
  go_enter Try.func6, Try.ntmps6
  go_wp2_with fail
  refine (speaks_any w).mono ?_
  rintro e w1 ⟨rfl, hf1⟩
  have HF1 := Lib.hid hf1
  clear hf1
  by_cases hb1 : 30 < ls.length
  · have hb1' : (30 : Int) < (ls.length : Int) := by omega
    go_wp2_with fail
    go_ret
    exact ⟨rfl, HF1.out⟩
  have hb1' : ¬ (30 : Int) < (ls.length : Int) := by omega
  by_cases hb2 : 100 < ks.length
  · have hb2' : (100 : Int) < (ks.length : Int) := by omega
    go_wp2_with fail
    go_ret
    exact ⟨rfl, HF1.out⟩
  have hb2' : ¬ (100 : Int) < (ks.length : Int) := by omega
  have hl30 : ls.length ≤ 30 := by omega
  have hk100 : ks.length ≤ 100 := by omega
  clear hb1 hb2
  go_wp2_with fail
  refine (new_any w1 2 (by omega)).mono ?_
  rintro e w2 ⟨ga, ma, rfl, hl1, hf2, ha1, hm1⟩
  go_wp2_with fail
  refine (new_any w2 9 (by omega)).mono ?_
  rintro e w3 ⟨gb, mb, rfl, hl2, hf3, ha2, hm2⟩
  have htw := two_new hl1 hf2 ha1 hm1 hl2 hf3 ha2 hm2
  have HT0 : Hid (T2 w w3 (fun _ => False) ga gb (la none 0 [] ma) (lb mb)) := ⟨⟨_, _, ⟨htw.a, htw.b, htw.dis, fun k hk => Nat.le_trans HF1.out.size (htw.na k hk), fun k hk => Nat.le_trans HF1.out.size (htw.nb k hk), HF1.out.trans htw.fr⟩, fun _ _ h => h⟩, fun _ h => h.elim⟩
  clear hl1 hf2 ha1 hm1 hl2 hf3 ha2 hm2 htw hb1' hb2' HF1
  obtain ⟨w4, hw4⟩ : ∃ w4, w4 = w3.alloc (.cells #[] 30) := ⟨_, rfl⟩
  have hs4 : w4.ownsRow w.heap.size 30 1 (.slice (some ⟨w3.heap.size, 0, none⟩) 0 0) 0 [] := by rw [hw4]; exact own_new rfl HT0.out.fr.size
  have hkr : ∀ k, Kr (some ⟨w3.heap.size, 0, none⟩) 0 0 k → False ∨ w3.heap.size ≤ k := fun k hk => by
    have e : w3.heap.size = k := by simpa [Kr, Value.ownBlock] using hk
    right
    omega
  have HT4 : Hid (T2 w w4 (Kr (some ⟨w3.heap.size, 0, none⟩) 0 0) ga gb (la none 0 [] ma) (lb mb)) := HT0.out.sub hkr (by rw [hw4]; exact (Fr.refl _ _).alloc _) (fun k hk => (own_blk hs4 hk).2)
  have HS4 := Lib.hid hs4
  clear hs4 HT0 hkr
  go_upto_region 9 with fail
  rw [← hw4]
  clear hw4
  go_wp2_with fail
  go_loopw [7, 41] (fun s t wr => ∃ (k : Nat) (As : Option Addr) (cs : Nat) (sa : Option Addr) (sc : Nat) (ps ds : List Prt), k ≤ ls.length ∧ s = .slice As ds.length cs ∧ t = .int .i64 (k : Int) ∧ Hid (ds = (ls.take k).take 16 ∧ ps.map (·.2.2) = ds.map (·.2.2)) ∧ Hid (wr.ownsRow w.heap.size 30 1 (.slice As ds.length cs) ds.length (ds.map sl)) ∧ Hid (T2 w wr (Kr As ds.length cs) ga gb (la sa sc ps ma) (lb mb)) ∧ Hid (∀ x ∈ ls.take k, x.2.2.length ≤ 500)) (fun _ t _ => ls.length - (intOf t).toNat)
  case atStart => exact ⟨0, _, 0, none, 0, [], [], by omega, rfl, rfl, ⟨by simp, rfl⟩, HS4, HT4, fun x h => by simp at h⟩
  case round =>
    obtain ⟨k, As, cs, sa, sc, ps, ds, hk, rfl, rfl, HDS, HRO, HT, HSM⟩ := hrel
    by_cases hlt : k < ls.length
    · obtain ⟨x, hx⟩ : ∃ x, ls[k]? = some x := ⟨_, List.getElem?_eq_getElem hlt⟩
      obtain ⟨b, o, hA, hc⟩ := (HR.out.nofr HT.out.fr).at_ (k := k) (v := .slice x.1 x.2.2.length x.2.1) (by rw [List.getElem?_map, hx]; rfl)
      have HXI := Lib.hid (HXS.out x (List.mem_of_getElem? hx))
      have HX := Lib.hid hx
      rw [hA]
      clear hA hx
      by_cases h500 : 500 < x.2.2.length
      · have h500' : (500 : Int) < (x.2.2.length : Int) := by omega
        go_wp2_with fail
        go_ret
        exact ⟨rfl, HT.out.fr⟩
      have h500' : ¬ (500 : Int) < (x.2.2.length : Int) := by omega
      have HSN := Lib.hid (HT.out.send x.1 x.2.1 x.2.2 (HXI.out.rd.nofr HT.out.fr) HXI.out.nil (by omega))
      have HSM2 : Hid (∀ y ∈ ls.take (k + 1), y.2.2.length ≤ 500) := fun y hy => by
        rw [List.take_add_one, HX.out] at hy
        rcases List.mem_append.1 hy with hy | hy
        · exact HSM.out y hy
        · have := List.mem_singleton.1 hy
          subst this
          omega
      have HSR := Lib.hid (sent_more ls k HX.out)
      have HLN : Hid (ps.length = ds.length ∧ ds.length = min k 16) := ⟨by rw [← List.length_map (f := fun p : Prt => p.2.2), HDS.out.2, List.length_map], by rw [HDS.out.1, List.length_take, List.length_take]; omega⟩
      clear h500
      go_wp2_with fail
      refine HSN.out.mono ?_
      rintro e w5 ⟨hf5, ⟨h16, rfl, ht5⟩ | ⟨h16, rfl, A', c', A2, c2, ht5⟩⟩
      · have hk16 : ¬ k < 16 := by
          have h16' : 16 ≤ ps.length := h16
          have := HLN.out
          omega
        have HDS2 : Hid (ds = (ls.take (k + 1)).take 16 ∧ ps.map (·.2.2) = ds.map (·.2.2)) := ⟨by rw [HSR.out, if_neg hk16, List.append_nil]; exact HDS.out.1, HDS.out.2⟩
        have HRO5 : Hid (w5.ownsRow w.heap.size 30 1 (.slice As ds.length cs) ds.length (ds.map sl)) := own_fr HRO.out hf5 fun j hj e => e.2 hj
        have HT5 := Lib.hid ht5
        clear h16 hk16 hf5 ht5 HSN hc h500'
        go_wp2_with fail
        go_roundw
        case rel => exact ⟨k + 1, As, cs, sa, sc, ps, ds, by omega, rfl, by go_num, HDS2, HRO5, HT5, HSM2⟩
        case measure => simp [intOf]; omega
      · have hk16 : k < 16 := by
          have h16' : ps.length < 16 := h16
          have := HLN.out
          omega
        have HDS2 : Hid (ds ++ [x] = (ls.take (k + 1)).take 16 ∧ (ps ++ [(A2, c2, x.2.2)]).map (·.2.2) = (ds ++ [x]).map (·.2.2)) := ⟨by rw [HSR.out, if_pos hk16, HDS.out.1], by rw [List.map_append, List.map_append, HDS.out.2]; rfl⟩
        have HRO5 : Hid (w5.ownsRow w.heap.size 30 1 (.slice As ds.length cs) ds.length (ds.map sl)) := own_fr HRO.out hf5 fun j hj e => e.2 hj
        have HT5 : Hid (T2 w w5 (Kr As ds.length cs) ga gb (la A' c' (ps ++ [(A2, c2, x.2.2)]) ma) (lb mb)) := ht5
        have hdl : ds.length ≤ 16 := by have := HLN.out; omega
        have HDL := Lib.hid hdl
        clear h16 hk16 hf5 ht5 HSN hc h500' hdl
        go_wp2_with (at_builtin; refine wpList_appO rfl _ _ 38 rfl w.heap.size 30 i0 _ 1 24 Try.underlying38 hi hz0 hz1 hz2 rfl (by decide) (.slice As ds.length cs) ds.length (ds.map sl) rfl (own_fr HRO5.out ((Fr.refl NoBlk w5).alloc _) (fun _ _ h => h)) ⟨w5.heap.size, 0, none⟩ 1 1 [sl x] rfl rfl (Rd.of_cells (Bk.new w5 _ #[sl x])) ?q1 ?q2 ?q3 ?q4 ?_)
        case q1 => intro y hy; rw [List.mem_singleton.1 hy]; rfl
        case q2 => have := HDL.out; unfold maxLen; omega
        case q3 => have := HDL.out; omega
        case q4 => exact (HT5.out.fr.alloc _).size
        intro v6 w6 ho6 hg6 hb6
        obtain ⟨A6, c6, rfl, _, _⟩ := own_form ho6
        have hfa : Fr NoBlk w5 (w5.alloc (.cells #[.slice x.1 x.2.2.length x.2.1] 30)) := (Fr.refl _ _).alloc _
        have hKb : ∀ j, (Value.slice A6 (ds.length + 1) c6).ownBlock = some j → Kr As ds.length cs j ∨ w5.heap.size ≤ j := fun j hj => by
          rcases hb6 with e | e
          · rw [e] at hj; exact .inl hj
          · rw [e] at hj
            injection hj with hj
            right
            rw [← hj]
            first | exact hfa.size | exact Nat.le_succ _
        have hfin : T2 w w6 (Kr A6 (ds ++ [x]).length c6) ga gb (la A' c' (ps ++ [(A2, c2, x.2.2)]) ma) (lb mb) := HT5.out.both ((hfa.mono fun _ _ e => e.elim).grown hg6 fun j hj _ => hj) ((HT5.out.fr.trans hfa).grown hg6 fun j hj hlt => by have := (own_blk HRO5.out hj).1; omega) (fun j hj => hKb j (by unfold Kr at hj; rw [List.length_append] at hj; exact hj)) (fun j hj => by unfold Kr at hj; rw [List.length_append] at hj; exact (own_blk ho6 hj).2)
        have HRO6 : Hid (w6.ownsRow w.heap.size 30 1 (.slice A6 (ds ++ [x]).length c6) (ds ++ [x]).length ((ds ++ [x]).map sl)) := by
          show World.ownsRow _ _ _ _ _ _ _
          rw [List.length_append, List.map_append]
          exact ho6
        have HT6 := Lib.hid hfin
        have hn6 : ds.length + 1 = (ds ++ [x]).length := by simp
        rw [hn6]
        clear ho6 hg6 hb6 hfa hKb hfin hn6 HRO5 HT5
        go_wp2_with fail
        go_roundw
        case rel => exact ⟨k + 1, A6, c6, A', c', ps ++ [(A2, c2, x.2.2)], ds ++ [x], by omega, rfl, by go_num, HDS2, HRO6, HT6, HSM2⟩
        case measure => simp [intOf]; omega
    · have HDS2 : Hid (ds = ls.take 16 ∧ ps.map (·.2.2) = ds.map (·.2.2)) := ⟨by rw [HDS.out.1, List.take_of_length_le (by omega : ls.length ≤ k)], HDS.out.2⟩
      have HSML : Hid (∀ x ∈ ls, x.2.2.length ≤ 500) := fun x hx => HSM.out x (by rw [List.take_of_length_le (by omega)]; exact hx)
      have HDL : Hid (ds.length ≤ 16) := by show _ ≤ _; rw [HDS2.out.1, List.length_take]; omega
      clear HDS HSM
      go_wp2_with fail
      refine (HT.out.recv ⟨9, 0, 0, 0, none, 0, []⟩ (by show (9 : Nat) < _; omega) (by show (0 : Nat) < _; omega) (by show (0 : Nat) < _; omega) rfl (by show (1 : Nat) < _; omega) (by show (0 : Nat) ≤ _; omega)).mono ?_
      rintro e w5 ⟨hf5, Aq, nq, cq, Bq, mq, cq', pq, xq, La5, rfl, hr5, ht5⟩
      unfold RecD metL la at hr5
      rw [if_neg (by simp), if_pos (by simp), if_pos (by show 0 < 9; omega)] at hr5
      obtain ⟨_, _, rfl⟩ := hr5
      have HT5 := Lib.hid ht5.swap
      have HRO5 : Hid (w5.ownsRow w.heap.size 30 1 (.slice As ds.length cs) ds.length (ds.map sl)) := own_fr HRO.out hf5 fun j hj e => e.2 hj
      clear hf5 ht5 HT HRO
      go_wp2_with fail
      refine (HT5.out.recv ⟨2, 0, 0, 0, none, 0, []⟩ (by show (2 : Nat) < _; omega) (by show (0 : Nat) < _; omega) (by show (0 : Nat) < _; omega) rfl (by show (1 : Nat) < _; omega) (by show (0 : Nat) ≤ _; omega)).mono ?_
      rintro e w6 ⟨hf6, Aq', nq', cq', Bq', mq', cq'', pq', xq', Lb6, rfl, hr6, ht6⟩
      obtain ⟨D, hD⟩ : ∃ D, D = ds.map (·.2.2) := ⟨_, rfl⟩
      have HAN := Lib.hid (ag_new (D := D) rfl rfl hr6).1
      have HT6 := Lib.hid ht6.swap
      have HRO6 : Hid (w6.ownsRow w.heap.size 30 1 (.slice As ds.length cs) ds.length (ds.map sl)) := own_fr HRO5.out hf6 fun j hj e => e.2 hj
      clear hf6 ht6 hr6 HT5 HRO5
      go_wp2_with fail
      refine (HT6.out.packets (fun p hp => by
        have h1 : p.2.2 ∈ ps.map (·.2.2) := List.mem_map.2 ⟨p, hp, rfl⟩
        rw [HDS2.out.2, HDS2.out.1] at h1
        obtain ⟨q, hq, e⟩ := List.mem_map.1 h1
        have := HSML.out q (List.mem_of_mem_take hq)
        rw [← e]
        omega)).mono ?_
      rintro e w7 ⟨Bp, cB, xs, rfl, hp7, hf7, hpa⟩
      have HPL : Hid (ps.length = ds.length) := by
        have h1 := congrArg List.length HDS2.out.2
        rw [List.length_map, List.length_map] at h1
        exact h1
      have HXK : Hid (xs.length = ds.length ∧ ∀ j x, xs[j]? = some x → x.ep = 2 ∧ x.pe = 9 ∧ x.sq = j + 1 ∧ x.ak = 0 ∧ D[j]? = some x.d.2.2) := by
        unfold PacketsAre at hpa
        by_cases hps0 : ps = []
        · rw [if_pos hps0] at hpa
          subst hpa
          refine ⟨?_, fun j x h => by cases h⟩
          rw [← HPL.out, hps0]
          rfl
        · rw [if_neg hps0, if_neg (by simp)] at hpa
          have hxl : xs.length = ds.length := hpa.1.trans HPL.out
          refine ⟨hxl, fun j x hx => ?_⟩
          have hjl := (List.getElem?_eq_some_iff.1 hx).1
          obtain ⟨a1, a2, a3, a4, p, hp, a5⟩ := hpa.2 j x hx
          have hp' : ps[j]? = some p := hp
          have hdl := HDL.out
          refine ⟨a1, a2, ?_, a4, ?_⟩
          · rw [a3]
            show (1 + j) % _ = _
            rw [Nat.mod_eq_of_lt (by omega)]
            omega
          · rw [hD, ← HDS2.out.2, List.getElem?_map, hp', a5]
            rfl
      have HP7 := Lib.hid hp7
      have HF7 := Lib.hid hf7
      obtain ⟨w8, hw8⟩ : ∃ w8, w8 = w7.alloc (.cells #[] 30) := ⟨_, rfl⟩
      obtain ⟨gG, hgG⟩ : ∃ gG, gG = w7.heap.size := ⟨_, rfl⟩
      have hf8 : Fr NoBlk w7 w8 := by rw [hw8]; exact (Fr.refl _ _).alloc _
      have hg8 : w8.ownsRow w.heap.size 30 1 (.slice (some ⟨gG, 0, none⟩) 0 0) 0 [] := by rw [hw8]; exact own_new hgG (Nat.le_trans HT6.out.fr.size hf7.size)
      have hs8 := own_fr HRO6.out (hf7.trans hf8) (fun _ _ h => h)
      have HD16 : Hid (D.length ≤ 16) := by show _ ≤ _; rw [hD, List.length_map]; exact HDL.out
      have HAG8 : Hid (AgAll w w8 gb D (cameK ks D.length 0) 0 [] (some ⟨gG, 0, none⟩) 0 [] Bp cB xs As cs ds) := by
        have hpb := (hp7.nofr hf8).base HT6.out.fr.size
        refine ⟨⟨_, HT6.out.ls.sub (fun j hj => ?_) (hf7.trans hf8) (fun j hj => ?_), ?_⟩, hg8, (fun _ h => by cases h), hpb, hs8, fun j hj e => ?_⟩
        · rcases hj with hj | hj | hj
          · right
            have e : gG = j := by simpa [Kr, Value.ownBlock] using hj
            have := hf7.size
            omega
          · right
            exact (own_blk hp7.own hj).1
          · exact .inl hj
        · rcases hj with hj | hj | hj
          · exact (own_blk hg8 hj).2
          · exact (own_blk hpb.own hj).2
          · exact (own_blk hs8 hj).2
        · exact ⟨HAN.out.ep, HAN.out.pe, HAN.out.ba, HAN.out.lo, HAN.out.hi, HAN.out.num, HAN.out.got, HAN.out.ear, fun k hk => by
            obtain ⟨_, i, hi, _⟩ := hk
            omega⟩
        · have e1 : gG = j := by simpa [Kr, Value.ownBlock] using hj
          have e2 := (own_blk (own_fr HRO6.out hf7 (fun _ _ h => h)) e).2
          omega
      have HXL : Hid (xs.length = D.length ∧ xs.length ≤ 9223372036854775807) := by
        have h1 := HXK.out.1
        have h2 := HDL.out
        refine ⟨by rw [h1, hD, List.length_map], by omega⟩
      have HPK : Hid (∀ j x, xs[j]? = some x → x.ep = 2 ∧ x.pe = 9 ∧ x.sq = j + 1 ∧ x.ak = 0 ∧ D[j]? = some x.d.2.2) := HXK.out.2
      have HPS : Hid (∀ x ∈ xs, x.d.2.2.length ≤ 1000000) := fun x hx => by
        obtain ⟨j, hj⟩ := List.getElem?_of_mem hx
        have h1 := (HPK.out j x hj).2.2.2.2
        rw [hD, HDS2.out.1] at h1
        have h2 := List.mem_of_getElem? h1
        obtain ⟨q, hq, e⟩ := List.mem_map.1 h2
        have := HSML.out q (List.mem_of_mem_take hq)
        rw [← e]
        omega
      have HDD := Lib.hid hD
      have hxn : ((xs.length : Int) != (ds.length : Int)) = false := by simp; have := HXK.out.1; omega
      have hx16 : xs.length ≤ 16 := by have := HXK.out.1; have := HDL.out; omega
      have hwk : IntKind.i64.wrap ((ks.length : Int) + (xs.length : Int)) = (ks.length : Int) + (xs.length : Int) := by rw [IntWalk.i64_in _ (by omega)]
      clear hpa hp7 hf7 hf8 hg8 hs8 hD HAN HXK HP7 HF7
      go_upto_region 20 with fail
      rw [← hw8, ← hgG]
      clear hw8 hgG
      go_wp2_with fail
      clear hxn
      go_loopw [11, 12] (fun s t wr => ∃ (n : Nat) (G : Option Addr) (cG : Nat) (gs : List Prt), n ≤ ks.length + xs.length ∧ s = .slice G gs.length cG ∧ t = .int .i64 (n : Int) ∧ Hid (AgAll w wr gb D (cameK ks D.length n) n (gs.map (·.2.2)) G cG gs Bp cB xs As cs ds)) (fun _ t _ => ks.length + xs.length - (intOf t).toNat)
      case atStart => exact ⟨0, _, 0, [], by omega, rfl, rfl, HAG8⟩
      case round =>
        obtain ⟨n, G, cG, gs, hn, rfl, rfl, HAG⟩ := hrel
        have HN : Hid (n ≤ 1000) := by show _ ≤ _; omega
        by_cases hlt2 : n < ks.length + xs.length
        · have hlt' : (n : Int) < (ks.length : Int) + (xs.length : Int) := by omega
          have hws : IntKind.i64.wrap ((n : Int) - (ks.length : Int)) = (n : Int) - (ks.length : Int) := by rw [IntWalk.i64_in _ (by omega)]
          by_cases hnk : n < ks.length
          · obtain ⟨z, hz⟩ : ∃ z, ks[n]? = some z := ⟨_, List.getElem?_eq_getElem hnk⟩
            have hix : idx ks n = z := by unfold idx; rw [if_pos hnk, List.getD_eq_getElem?_getD, hz]; rfl
            obtain ⟨b', o', hB', hcz⟩ := (HR2.out.nofr HAG.out.fr).at_ (k := n) (v := .int .i64 z) (by rw [List.getElem?_map, hz]; rfl)
            have hneg : (n : Int) - (ks.length : Int) < 0 := by omega
            rw [hB']
            clear hB' hz
            by_cases hz0' : z < 0
            · have HNO : Hid (idx ks n < 0 ∨ (D.length : Int) ≤ idx ks n) := .inl (by rw [hix]; exact hz0')
              clear hix
              have HAG6 := Lib.hid (HAG.out.weak (K' := cameK ks D.length (n + 1)) (came_no ks D.length n HNO.out))
              have HAG7 : Hid (AgAll w wr gb D (cameK ks D.length (n + 1)) (n + 1) (gs.map (·.2.2)) G cG gs Bp cB xs As cs ds) := by
                obtain ⟨L, h1, h2⟩ := HAG6.out.ls
                exact ⟨⟨L, h1, ⟨h2.ep, h2.pe, h2.ba, h2.lo, h2.hi, by have := h2.num; omega, h2.got, h2.ear, h2.cov⟩⟩, HAG6.out.got, HAG6.out.parts, HAG6.out.pks, HAG6.out.sent, HAG6.out.apart⟩
              clear HAG6
              go_wp2_with fail
              go_roundw
              case rel => exact ⟨n + 1, G, cG, gs, by omega, rfl, by go_num, HAG7⟩
              case measure => simp [intOf]; omega
            · by_cases hzl : (xs.length : Int) ≤ z
              · have HNO : Hid (idx ks n < 0 ∨ (D.length : Int) ≤ idx ks n) := .inr (by rw [hix, ← HXL.out.1]; exact hzl)
                clear hix
                have HAG6 := Lib.hid (HAG.out.weak (K' := cameK ks D.length (n + 1)) (came_no ks D.length n HNO.out))
                have HAG7 : Hid (AgAll w wr gb D (cameK ks D.length (n + 1)) (n + 1) (gs.map (·.2.2)) G cG gs Bp cB xs As cs ds) := by
                  obtain ⟨L, h1, h2⟩ := HAG6.out.ls
                  exact ⟨⟨L, h1, ⟨h2.ep, h2.pe, h2.ba, h2.lo, h2.hi, by have := h2.num; omega, h2.got, h2.ear, h2.cov⟩⟩, HAG6.out.got, HAG6.out.parts, HAG6.out.pks, HAG6.out.sent, HAG6.out.apart⟩
                clear HAG6
                go_wp2_with fail
                go_roundw
                case rel => exact ⟨n + 1, G, cG, gs, by omega, rfl, by go_num, HAG7⟩
                case measure => simp [intOf]; omega
              · obtain ⟨j, hj⟩ : ∃ j : Nat, z = (j : Int) := ⟨z.toNat, by omega⟩
                subst hj
                have hjx : j < xs.length := by omega
                have hjx' : (j : Int) < (xs.length : Int) := by omega
                have HIX : Hid (idx ks n = (j : Int)) := hix
                clear hix
                obtain ⟨x, hx⟩ : ∃ x, xs[j]? = some x := ⟨_, List.getElem?_eq_getElem hjx⟩
                obtain ⟨b, o, hB, hcc⟩ := (HAG.out.pks.rd HXL.out.2).at_ hx
                obtain ⟨c0, c1, c2, c3, c4, _⟩ := hcc wr (Fr.refl _ _)
                have HRC := Lib.hid (HAG.out.recv HD16.out HPK.out HPS.out HN.out hx)
                unfold pka at HRC
                clear hx hcc
                subst hB
                go_wp2_with fail
                refine HRC.out.mono ?_
                rintro e w5 ⟨E, c5, qs, F, m5, c6, rfl, hag, _, ho5, hps5⟩
                have HAG5 := Lib.hid hag
                have HO5 := Lib.hid ho5
                have HPS5 := Lib.hid hps5
                have HQL : Hid (gs.length + qs.length ≤ 16) := by
                  obtain ⟨L, _, h2⟩ := hag.ls
                  have h3 := congrArg List.length h2.got
                  rw [List.length_append, List.length_map, List.length_map, List.length_take] at h3
                  have := HD16.out
                  show _ ≤ _
                  omega
                clear hag ho5 hps5 HRC c0 c1 c2 c3 c4
                go_wp2_with (at_builtin; refine wpList_app rfl _ _ 38 rfl w.heap.size 30 i0 _ 24 Try.underlying38 hi hz0 hz1 hz2 rfl (.slice G gs.length cG) gs.length (gs.map sl) rfl HAG5.out.got E c5 qs.length (qs.map sl) rfl (List.length_map ..) (Rd.of_own HO5.out) (fun y hy => by obtain ⟨z, _, rfl⟩ := List.mem_map.1 hy; rfl) (own_lens HO5.out).2.2 ?q1 ?q2 HAG5.out.fr.size ?_)
                case q1 => have := HQL.out; unfold maxLen; omega
                case q2 => have := HQL.out; omega
                intro v6 w6 ho6 hg6 _ hb6
                obtain ⟨G6, cG6, rfl, _, _⟩ := own_form ho6
                have hap := HAG5.out.app ho6 hg6 hb6 HPS5.out
                have HAG6 : Hid (AgAll w w6 gb D (cameK ks D.length (n + 1)) (n + 1) ((gs ++ qs).map (·.2.2)) G6 cG6 (gs ++ qs) (some ⟨b, o, none⟩) cB xs As cs ds) := by
                  show AgAll _ _ _ _ _ _ _ _ _ _ _ _ _ _ _ _
                  rw [List.map_append]
                  exact hap.weak (came_succ ks D.length n HIX.out)
                have hn6 : gs.length + qs.length = (gs ++ qs).length := by simp
                rw [hn6]
                clear ho6 hg6 hb6 hap hn6 HAG5 HO5 HPS5
                go_wp2_with fail
                go_roundw
                case rel => exact ⟨n + 1, G6, cG6, gs ++ qs, by omega, rfl, by go_num, HAG6⟩
                case measure => simp [intOf]; omega
          · obtain ⟨j, hj⟩ : ∃ j : Nat, n = ks.length + j := ⟨n - ks.length, by omega⟩
            have hjx : j < xs.length := by omega
            have hjx' : (j : Int) < (xs.length : Int) := by omega
            have HIX : Hid (idx ks n = (j : Int)) := by show _ = _; unfold idx; rw [if_neg hnk]; omega
            have hje : (n : Int) - (ks.length : Int) = (j : Int) := by omega
            have hj0 : ¬ (j : Int) < 0 := by omega
            rw [hje] at hws
            clear hj
            obtain ⟨x, hx⟩ : ∃ x, xs[j]? = some x := ⟨_, List.getElem?_eq_getElem hjx⟩
            obtain ⟨b, o, hB, hcc⟩ := (HAG.out.pks.rd HXL.out.2).at_ hx
            obtain ⟨c0, c1, c2, c3, c4, _⟩ := hcc wr (Fr.refl _ _)
            have HRC := Lib.hid (HAG.out.recv HD16.out HPK.out HPS.out HN.out hx)
            unfold pka at HRC
            clear hx hcc
            subst hB
            go_wp2_with fail
            refine HRC.out.mono ?_
            rintro e w5 ⟨E, c5, qs, F, m5, c6, rfl, hag, _, ho5, hps5⟩
            have HAG5 := Lib.hid hag
            have HO5 := Lib.hid ho5
            have HPS5 := Lib.hid hps5
            have HQL : Hid (gs.length + qs.length ≤ 16) := by
              obtain ⟨L, _, h2⟩ := hag.ls
              have h3 := congrArg List.length h2.got
              rw [List.length_append, List.length_map, List.length_map, List.length_take] at h3
              have := HD16.out
              show _ ≤ _
              omega
            clear hag ho5 hps5 HRC c0 c1 c2 c3 c4
            go_wp2_with (at_builtin; refine wpList_app rfl _ _ 38 rfl w.heap.size 30 i0 _ 24 Try.underlying38 hi hz0 hz1 hz2 rfl (.slice G gs.length cG) gs.length (gs.map sl) rfl HAG5.out.got E c5 qs.length (qs.map sl) rfl (List.length_map ..) (Rd.of_own HO5.out) (fun y hy => by obtain ⟨z, _, rfl⟩ := List.mem_map.1 hy; rfl) (own_lens HO5.out).2.2 ?q1 ?q2 HAG5.out.fr.size ?_)
            case q1 => have := HQL.out; unfold maxLen; omega
            case q2 => have := HQL.out; omega
            intro v6 w6 ho6 hg6 _ hb6
            obtain ⟨G6, cG6, rfl, _, _⟩ := own_form ho6
            have hap := HAG5.out.app ho6 hg6 hb6 HPS5.out
            have HAG6 : Hid (AgAll w w6 gb D (cameK ks D.length (n + 1)) (n + 1) ((gs ++ qs).map (·.2.2)) G6 cG6 (gs ++ qs) (some ⟨b, o, none⟩) cB xs As cs ds) := by
              show AgAll _ _ _ _ _ _ _ _ _ _ _ _ _ _ _ _
              rw [List.map_append]
              exact hap.weak (came_succ ks D.length n HIX.out)
            have hn6 : gs.length + qs.length = (gs ++ qs).length := by simp
            rw [hn6]
            clear ho6 hg6 hb6 hap hn6 HAG5 HO5 HPS5
            go_wp2_with fail
            go_roundw
            case rel => exact ⟨n + 1, G6, cG6, gs ++ qs, by omega, rfl, by go_num, HAG6⟩
            case measure => simp [intOf]; omega
        · have HALL : Hid (AgAll w wr gb D (cameK ks D.length (ks.length + D.length)) n (gs.map (·.2.2)) G cG gs Bp cB xs As cs ds) := by
            have e : n = ks.length + D.length := by have := HXL.out.1; omega
            have h := HAG.out
            rw [e] at h
            rw [e]
            exact h
          have hlt' : ¬ (n : Int) < (ks.length : Int) + (xs.length : Int) := by omega
          clear HAG
          go_wp2_with fail
          go_loopw [112] (fun s wr => ∃ (i : Nat) (K : Nat → Prop), i ≤ xs.length ∧ s = .int .i64 (i : Int) ∧ Hid ((∀ k, k < D.length → K k) ∧ AgAll w wr gb D K (n + i) (gs.map (·.2.2)) G cG gs Bp cB xs As cs ds)) (fun s _ => xs.length - (intOf s).toNat)
          case atStart => exact ⟨0, _, by omega, rfl, came_all ks D.length, HALL.out⟩
          case round =>
            obtain ⟨i, K, hi', rfl, HKA⟩ := hrel
            by_cases hlt3 : i < xs.length
            · obtain ⟨x, hx⟩ : ∃ x, xs[i]? = some x := ⟨_, List.getElem?_eq_getElem hlt3⟩
              obtain ⟨b, o, hB, hcc⟩ := (HKA.out.2.pks.rd HXL.out.2).at_ hx
              obtain ⟨c0, c1, c2, c3, c4, _⟩ := hcc wr (Fr.refl _ _)
              have HRC := Lib.hid ((HKA.out.2.nofr ((Fr.refl NoBlk wr).alloc (.cells (pka x) 32))).recv HD16.out HPK.out HPS.out (by omega) hx)
              unfold pka at HRC
              subst hB
              clear hx hcc
              go_wp2_with fail
              refine HRC.out.mono ?_
              rintro e w5 ⟨E, c5, qs, F, m5, c6, rfl, hag, hnil, _, _⟩
              obtain rfl := hnil HKA.out.1
              have HKA5 : Hid ((∀ k, k < D.length → (fun k => K k ∨ k = i) k) ∧ AgAll w w5 gb D (fun k => K k ∨ k = i) (n + (i + 1)) (gs.map (·.2.2)) G cG gs (some ⟨b, o, none⟩) cB xs As cs ds) := ⟨fun k hk => .inl (HKA.out.1 k hk), by rw [← Nat.add_assoc]; simpa using hag⟩
              clear hag hnil HRC c0 c1 c2 c3 c4
              go_wp2_with fail
              go_roundw
              case rel => exact ⟨i + 1, _, by omega, by go_num, HKA5⟩
              case measure => simp [intOf]; omega
            · have HSD := Lib.hid (sameData_any wr G As cG cs gs ds ⟨Rd.of_own HKA.out.2.got, fun q hq => Rd.of_own (HKA.out.2.parts q hq), by
                obtain ⟨L, _, h2⟩ := HKA.out.2.ls
                have h3 := congrArg List.length h2.got
                rw [List.length_map, List.length_take] at h3
                have := HD16.out
                omega⟩ ⟨Rd.of_own HKA.out.2.sent, fun q hq => by
                  rw [HDS2.out.1] at hq
                  exact (HXS.out q (List.mem_of_mem_take hq)).rd.nofr HKA.out.2.fr, by have := HDL.out; omega⟩)
              have HEQ : Hid (gs.map (·.2.2) = ds.map (·.2.2)) := by
                obtain ⟨L, _, h2⟩ := HKA.out.2.ls
                show _ = _
                rw [(h2.all HKA.out.1).2, HDD.out]
              go_wp2_with fail
              refine HSD.out.mono ?_
              rintro e w5 ⟨⟨d5, rfl, hd5⟩, hf5⟩
              obtain rfl : d5 = true := hd5.2 HEQ.out
              have HFE : Hid (Fr NoBlk w w5) := HKA.out.2.fr.trans hf5
              clear hd5 hf5 HSD
              go_wp2_with fail
              go_ret
              exact ⟨rfl, HFE.out⟩

theorem paramsOk : ∀ t ∈ Try.f6.params.toList, Try.prog.readableRec t = true ∧ t < Try.prog.types.size := fun t ht => by
  have h := List.all_eq_true.1 (show (Try.f6.params.toList.all fun t => Try.prog.readableRec t && decide (t < Try.prog.types.size)) = true by kernel_rfl) t ht
  simpa using h

set_option maxRecDepth 100000 in
theorem lifted (os : Os) (started : os.Started) (H : Type) (enc : TypeId × Value → H) :
    ReturnsInHanded {} Try.checked os 6 .any (Rows.linkAgainSpec.pre6 enc Try.prog Try.f6 Rows.linkAgainRow.domain false) (Rows.linkAgainSpec.post enc Try.prog Try.f6 false true false false) := by
  refine returnsInHanded_of_change (C := Try.checked) own started (by kernel_rfl) Try.func6
    (ChangeSpec.witness6 (enc := enc) (C := Try.checked) false ⟨#[], #[.slice none 0 0, .slice none 0 0], []⟩ 8 (by kernel_rfl) (by kernel_rfl) (by kernel_rfl) (by kernel_rfl)) ?_
  intro W base args ds gs before hval0 hW _ _
  have hval : ∀ (j : Nat) t v, Try.f6.params[j]? = some t → args[j]? = some v → Value.okWide Try.prog W .any base t v := hval0
  have hW' := hW
  obtain ⟨p, q, hA0, hV, rfl, _, _⟩ := hW
  have hA : DataW.TrodAll enc Try.prog W 0 (fun _ => true) true Try.f6.params.toList args.toList ds p := hA0
  rw [Try.params6] at hA hval
  obtain ⟨v0, vs0, d0, ds0, p0, q0, hargs, rfl, rfl, h0, r0⟩ := trodAll_cons hA
  obtain ⟨v1, vs1, d1, ds1, p1, q1, rfl, rfl, rfl, h1, r1⟩ := trodAll_cons r0
  obtain ⟨rfl, rfl, rfl⟩ := trodAll_nil r1
  obtain rfl : args = #[v0, v1] := by cases args; simp_all
  obtain ⟨rfl, rfl⟩ := trodVars_none hV
  obtain ⟨A, c, ls, rfl, hr, hx, hc, hm⟩ := open_prts (hval 0 _ v0 rfl rfl) h0
  obtain ⟨B, d, ks, rfl, hr2, _, hc2, hm2⟩ := open_ints1 (hval 1 _ v1 rfl rfl) h1
  have walk := walk W A c ls hr hx B d ks hr2
  clear hA0 hval0
  refine walk.mono fun e W' ⟨he, hf⟩ => ?_
  subst he
  exact ⟨_, rfl, law_post laidOut paramsOk rfl rfl Try.underlying4 hW' rfl rfl rfl hf⟩

theorem said : Rows.LinkAgainSaid :=
  OpenClaim.holds_of_wide 6 Try.f6 rfl rfl rfl rfl rfl rfl rfl ⟨rfl, rfl, rfl, rfl, rfl⟩ rfl rfl rfl rfl rfl (by kernel_rfl) Try.func6 (by kernel_rfl)
    (of_decide_eq_true (by kernel_rfl)) (by unfold Func.isWrapper; first | (rw [if_pos (by decide +kernel)]; kernel_rfl) | (rw [if_neg (by decide +kernel)]; exact ⟨rfl, rfl⟩))
    (fun os started H enc _ => lifted os started H enc)
end Go.Proofs.Ytheipdbcbdpofaa.linkAgain
