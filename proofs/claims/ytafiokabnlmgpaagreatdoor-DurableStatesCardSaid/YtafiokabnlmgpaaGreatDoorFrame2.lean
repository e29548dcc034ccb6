/- The contracts of the program's frames. Conditions: lengths are short; the table holds its numbers. -/
import Derived.Test.YtafiokabnlmgpaaGreatDoorFrame
import Derived.Test.YtafiokabnlmgpaaGreatDoorFram
namespace Go.Proofs.YtafiokabnlmgpaaGreatDoor
open Go.RowKit

theorem cat_new (w : World) (ps : List Prt) (hp : ∀ p ∈ ps, Part w p) (hk : ps.length ≤ 1000) (hl : (allOf ps).length ≤ 1000000) :
    Calls Tryz.prog 178 #[.slice (some ⟨w.heap.size, 0, none⟩) ps.length ps.length] (w.alloc (.cells (ps.map sl).toArray 55)) fun e w' => ∃ v', e = .returned v' ∧ New w w' v' (allOf ps) := by
  have h := concat_any (w.alloc (.cells (ps.map sl).toArray 55)) (some ⟨w.heap.size, 0, none⟩) ps.length ps.length ps rfl (by simpa using Rd.of_cells (Bk.new w 55 (ps.map sl).toArray)) (fun p h => ⟨(hp p h).1.alloc _, (hp p h).2⟩) hk hl
  refine h.mono ?_
  rintro e w' ⟨v', rfl, hn⟩
  exact ⟨v', rfl, own_base hn.own (by simp), ((Fr.refl _ _).alloc _).trans hn.fr⟩

set_option maxRecDepth 100000 in
set_option maxHeartbeats 400000 in
theorem framed_any (w : World) (ht : Tab w) (A : Option Addr) (n c : Nat) (l : List UInt8) (hn : n = l.length) (hr : Rd w A (cb l)) (hA : A = none → c = 0) (hl : l.length ≤ 4096) :
    Calls Tryz.prog 153 #[.slice A n c] w fun e w' => ∃ v', e = .returned v' ∧ New w w' v' (frameOf l) := by
  subst hn
  have HT := Lib.hid ht
  have HR := Lib.hid hr
  have HA := Lib.hid hA
  obtain ⟨w1, hw1⟩ : ∃ w1, w1 = w.alloc (.cells #[.int .u8 ((l.length : Int) / 256), .int .u8 ((l.length : Int) % 256)] 5) := ⟨_, rfl⟩
  have hs1 : w1.heap.size = w.heap.size + 1 := by rw [hw1]; simp
  have hf1 : Fr NoBlk w w1 := by rw [hw1]; exact (Fr.refl _ _).alloc _
  have hh1 : Rd w1 (some ⟨w.heap.size, 0, none⟩) (cb (head l.length)) := by
    rw [hw1]
    have h := Rd.of_cells (Bk.new w 5 #[.int .u8 ((l.length : Int) / 256), .int .u8 ((l.length : Int) % 256)])
    have e : (#[.int .u8 ((l.length : Int) / 256), .int .u8 ((l.length : Int) % 256)] : Array Value).toList = cb (head l.length) := by
      unfold head cb
      simp only [List.map_cons, List.map_nil, UInt8.toNat_ofNat']
      rw [Nat.mod_eq_of_lt (show l.length / 256 < 2 ^ 8 by omega)]
      rfl
    rw [e] at h
    exact h
  have HF1 := Lib.hid hf1
  have HH1 := Lib.hid hh1
  have hk := cat_new w1 [(some ⟨w.heap.size, 0, none⟩, 2, head l.length), (A, c, l)] (by
    intro p hp
    simp only [List.mem_cons, List.not_mem_nil, or_false] at hp
    rcases hp with rfl | rfl
    · exact ⟨hh1, fun h => by cases h⟩
    · exact ⟨hr.nofr hf1, hA⟩) (by simp) (by simp [allOf, head]; omega)
  rw [hs1] at hk
  have HK := Lib.hid hk
  have HW := Lib.hid hw1
  rw [hw1] at HK
  clear ht hr hA hf1 hh1 hk hw1
  go_enter Tryz.func153, Tryz.ntmps153
  go_wp2_with fail
  refine HK.out.mono ?_
  clear HK
  rw [← HW.out]
  rintro e w2 ⟨v2, rfl, hn2⟩
  obtain ⟨d, hd⟩ : ∃ d, d = head l.length ++ l := ⟨_, rfl⟩
  have hdl : d.length ≤ 4098 := by rw [hd, List.length_append, head_len]; omega
  rw [show allOf [(some (⟨w.heap.size, 0, none⟩ : Addr), 2, head l.length), (A, c, l)] = d by rw [hd]; simp [allOf]] at hn2
  obtain ⟨A2, c2, rfl, _, _⟩ := own_form hn2.own
  have HN2 := Lib.hid hn2
  have HF2 : Hid (Fr NoBlk w w2) := HF1.out.trans hn2.fr
  clear hn2
  have hsum := sum_any w2 (HT.out.fr HF2.out (fun h => h)) d A2 _ c2 rfl (by omega) (Rd.of_own HN2.out.own)
  obtain ⟨s, hs⟩ : ∃ s, s = Crc.crc d := ⟨_, rfl⟩
  rw [← hs] at hsum
  have HK := Lib.hid hsum
  clear hsum
  have HD := Lib.hid hd
  rw [hd] at hs
  have HS := Lib.hid hs
  clear hs hd
  go_wp2_with fail
  refine HK.out.mono ?_
  clear HK
  rintro e w3 ⟨rfl, rfl⟩
  have hs4 : s.toNat < 4294967296 := by have := s.isLt; omega
  have HH1b := Lib.hid (HH1.out.nofr HN2.out.fr)
  have HFD : Hid (frameOf l = head l.length ++ (sum4 s ++ l)) := by show _ = _; rw [HS.out]; rfl
  obtain ⟨w3, hw3⟩ : ∃ w3, w3 = w2.alloc (.cells #[.int .u8 ((s.toNat : Int) % 256), .int .u8 ((s.toNat : Int) / 256 % 256), .int .u8 ((s.toNat : Int) / 65536 % 256), .int .u8 ((s.toNat : Int) / 16777216)] 5) := ⟨_, rfl⟩
  have hs3 : w3.heap.size = w2.heap.size + 1 := by rw [hw3]; simp
  have hf3 : Fr NoBlk w2 w3 := by rw [hw3]; exact (Fr.refl _ _).alloc _
  have hh3 : Rd w3 (some ⟨w2.heap.size, 0, none⟩) (cb (sum4 s)) := by
    rw [hw3]
    have h := Rd.of_cells (Bk.new w2 5 #[.int .u8 ((s.toNat : Int) % 256), .int .u8 ((s.toNat : Int) / 256 % 256), .int .u8 ((s.toNat : Int) / 65536 % 256), .int .u8 ((s.toNat : Int) / 16777216)])
    have e : (#[.int .u8 ((s.toNat : Int) % 256), .int .u8 ((s.toNat : Int) / 256 % 256), .int .u8 ((s.toNat : Int) / 65536 % 256), .int .u8 ((s.toNat : Int) / 16777216)] : Array Value).toList = cb (sum4 s) := by
      unfold sum4 cb
      simp only [List.map_cons, List.map_nil, UInt8.toNat_ofNat']
      rw [Nat.mod_eq_of_lt (show s.toNat / 16777216 < 2 ^ 8 by omega)]
      rfl
    rw [e] at h
    exact h
  have hk := cat_new w3 [(some ⟨w.heap.size, 0, none⟩, 2, head l.length), (some ⟨w2.heap.size, 0, none⟩, 4, sum4 s), (A, c, l)] (by
    intro p hp
    simp only [List.mem_cons, List.not_mem_nil, or_false] at hp
    rcases hp with rfl | rfl | rfl
    · exact ⟨HH1b.out.nofr hf3, fun h => by cases h⟩
    · exact ⟨hh3, fun h => by cases h⟩
    · exact ⟨(HR.out.nofr HF2.out).nofr hf3, HA.out⟩) (by simp) (by simp [allOf, head, sum4]; omega)
  rw [hs3] at hk
  have HF3 := Lib.hid (HF2.out.trans hf3)
  have HK := Lib.hid hk
  have HW3 := Lib.hid hw3
  rw [hw3] at HK
  clear hf3 hh3 hk hw3
  go_wp2_with fail
  refine HK.out.mono ?_
  clear HK
  rw [← HW3.out]
  rintro e w4 ⟨v4, rfl, hn4⟩
  rw [show allOf [(some (⟨w.heap.size, 0, none⟩ : Addr), 2, head l.length), (some (⟨w2.heap.size, 0, none⟩ : Addr), 4, sum4 s), (A, c, l)] = frameOf l by rw [HFD.out]; simp [allOf]] at hn4
  have HN4 : Hid (New w w4 v4 (frameOf l)) := ⟨own_base hn4.own HF3.out.size, HF3.out.trans hn4.fr⟩
  clear hn4
  go_wp2_with fail
  go_ret
  exact ⟨_, rfl, HN4.out⟩

theorem equal_any (w : World) (A B : Option Addr) (n m c d : Nat) (l k : List UInt8) (hn : n = l.length) (hm : m = k.length) (hr : Rd w A (cb l)) (hs : Rd w B (cb k)) :
    Calls Tryz.prog 138 #[.slice A n c, .slice B m d] w fun e w' => e = .returned (.bool (decide (l = k))) ∧ w' = w := by
  have q1 := run_str (P := Tryz.prog) w 55 9 5 Tryz.underlying55 Tryz.underlying5 Tryz.underlying9 A c l n hn hr
  have q2 := run_str (P := Tryz.prog) w 55 9 5 Tryz.underlying55 Tryz.underlying5 Tryz.underlying9 B d k m hm hs
  clear hn hm hr hs
  go_enter Tryz.func138, Tryz.ntmps138
  go_wp2
  go_ret
  refine ⟨?_, rfl⟩
  show Ending.returned (.bool (l == k)) = _
  rw [show (l == k) = decide (l = k) by by_cases h : l = k <;> simp [h]]
end Go.Proofs.YtafiokabnlmgpaaGreatDoor
