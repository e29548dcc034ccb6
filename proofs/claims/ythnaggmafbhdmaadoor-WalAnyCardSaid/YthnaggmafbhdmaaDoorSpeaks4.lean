/- The law's own example of a log. No condition but the table that is laid. -/
import Derived.Test.YthnaggmafbhdmaaDoorSpk4P
import Derived.Test.YthnaggmafbhdmaaDoorSame4
import Derived.Lib.SlBytesConst
namespace Go.Proofs.YthnaggmafbhdmaaDoor
open Go.RowKit Go.Maps

def NoS : Nat → Prop := fun _ => False
/-- a log, with a new block beside it. -/
theorem WL.beside {w wr : World} {gd gl : Nat} {p : PD} {L : PL} {S : Nat → Prop} (h : WL w wr gd p gl L S) (o : Obj) : WL w (wr.alloc o) gd p gl L fun k => k = wr.heap.size :=
  (h.less (S := NoS) fun _ h => h.elim).widen ((Fr.refl _ _).alloc _) (fun k hk => .inr (by omega)) fun k hk => by rw [World.size_alloc]; omega

set_option maxRecDepth 100000 in
set_option maxHeartbeats 4000000 in
theorem speaks_any (w : World) (ht : Tab w) :
    Calls Tryd.prog 7 #[] w fun e w' => e = .returned (.bool true) ∧ Fr NoBlk w w' := by
  have HT := Lib.hid ht
  clear ht
  go_enter Tryd.func7, Tryd.ntmps7
  go_wp2_with fail
  refine (new_at w w (Fr.refl _ _) 1000 (by omega) (by omega)).mono ?_
  rintro e w1 ⟨gd, rfl, h1, hf1⟩
  have ha1 : AtS w w1 gd (pNew 1000) NoS := h1.prot (Fr.refl NoBlk _) fun _ h => h.elim
  have hc := lopen_any w w1 gd (pNew 1000) NoS ha1 (fun _ h => h.elim) HT.out ⟨rfl, rfl⟩ [119] (by simp) (by simp) 100 (by omega) (by omega)
  rw [lopen_new] at hc
  have HC := Lib.hid hc
  clear h1 hf1 ha1 hc
  go_wp2_with fail
  refine HC.out.mono ?_
  clear HC
  rintro e w2 ⟨gl, rfl, hw2, _⟩
  have kc := fun (C : Array Value) (n c : Nat) => Lib.run_convert_bytes_const (P := Tryd.prog) w2 34 5 C n c Tryd.underlying34 Tryd.underlying5
  have hc := lappend_any w _ gd gl _ _ _ (hw2.beside (.cells #[.int .u8 111, .int .u8 110, .int .u8 101] 5 (3, 4))) HT.out (some ⟨w2.heap.size, 0, none⟩) 3 one (Rd.new_marked w2 (cb one) 5 (3, 4)) (fun h => by cases h) (by simp [one]) (fun _ k hk => by
    obtain ⟨_, e, rfl⟩ := hk
    injection e with e
    subst e
    exact .inr rfl) (Nat.zero_le _) (Nat.zero_le _)
  rw [spk1] at hc
  have HC := Lib.hid hc
  clear hw2 hc
  go_wp2_with fail
  refine HC.out.mono ?_
  clear HC kc
  rintro e w3 ⟨rfl, hw3, _⟩
  have hc := lsync_any w w3 gd gl _ _ _ hw3
  rw [spk2] at hc
  have HC := Lib.hid hc
  clear hw3 hc
  go_wp2_with fail
  refine HC.out.mono ?_
  clear HC
  rintro e w4 ⟨rfl, hw4, _⟩
  have kc := fun (C : Array Value) (n c : Nat) => Lib.run_convert_bytes_const (P := Tryd.prog) w4 34 5 C n c Tryd.underlying34 Tryd.underlying5
  have hc := lappend_any w _ gd gl _ _ _ (hw4.beside (.cells #[.int .u8 116, .int .u8 119, .int .u8 111] 5 (3, 4))) HT.out (some ⟨w4.heap.size, 0, none⟩) 3 two (Rd.new_marked w4 (cb two) 5 (3, 4)) (fun h => by cases h) (by simp [two]) (fun _ k hk => by
    obtain ⟨_, e, rfl⟩ := hk
    injection e with e
    subst e
    exact .inr rfl) (by show 1 ≤ _; omega) (by show 9 ≤ _; omega)
  rw [spk3] at hc
  have HC := Lib.hid hc
  clear hw4 hc
  go_wp2_with fail
  refine HC.out.mono ?_
  clear HC kc
  rintro e w5 ⟨rfl, hw5, _⟩
  obtain ⟨g5, _, _, ha5, _⟩ := hw5
  have hc := crashS (ha5.nofr ((Fr.refl NoBlk w5).alloc (.cells #[.int .i64 3] 3))) (some ⟨w5.heap.size, 0, none⟩) 1 1 [3] rfl (Rd.new_marked w5 (ics [3]) 3 (0, 0)) (by unfold maxLen; simp)
  have HC := Lib.hid hc
  clear ha5 hc
  go_wp2_with fail
  refine HC.out.mono ?_
  clear HC
  rintro e w6 ⟨gx, rfl, hx6, _⟩
  have ha6 := hx6 NoS fun _ h => h.elim
  have hc := lopen_any w w6 gx _ NoS ha6 (fun _ h => h.elim) HT.out ⟨rfl, rfl⟩ [119] (by simp) (by simp) 100 (by omega) (by omega)
  have HRC := Lib.hid spk4
  generalize lopen (pCrash (pOne (frames [one, two]) 9) [3]) [119] 100 = rr at *
  have HC := Lib.hid hc
  clear ha6 hx6 hc
  go_wp2_with fail
  refine HC.out.mono ?_
  clear HC
  rintro e w7 ⟨gm, rfl, hw7, _⟩
  have hc := lrecs_any w w7 gx gm _ _ _ hw7
  rw [HRC.out] at hc
  have HF7 := Lib.hid hw7.fr
  have HC := Lib.hid hc
  clear hw7 hc
  go_wp2_with fail
  refine HC.out.mono ?_
  clear HC
  rintro e w8 ⟨A8, c8, qs, rfl, h8⟩
  have kc := fun (C : Array Value) (n c : Nat) => Lib.run_convert_bytes_const (P := Tryd.prog) w8 34 5 C n c Tryd.underlying34 Tryd.underlying5
  have f1 : Fr NoBlk w8 (w8.alloc (.cells #[.int .u8 111, .int .u8 110, .int .u8 101] 5 (3, 4))) := (Fr.refl _ _).alloc _
  have f2 : Fr NoBlk (w8.alloc (.cells #[.int .u8 111, .int .u8 110, .int .u8 101] 5 (3, 4))) ((w8.alloc (.cells #[.int .u8 111, .int .u8 110, .int .u8 101] 5 (3, 4))).alloc (.cells #[.slice (some ⟨w8.heap.size, 0, none⟩) 3 3] 34)) := (Fr.refl _ _).alloc _
  have hq1 : qs.length = 1 := by have := congrArg List.length h8.eq; simpa using this
  have r2 : Rd ((w8.alloc (.cells #[.int .u8 111, .int .u8 110, .int .u8 101] 5 (3, 4))).alloc (.cells #[.slice (some ⟨w8.heap.size, 0, none⟩) 3 3] 34)) (some ⟨w8.heap.size + 1, 0, none⟩) [.slice (some ⟨w8.heap.size, 0, none⟩) 3 3] := by
    have h := Rd.new_marked (w8.alloc (.cells #[.int .u8 111, .int .u8 110, .int .u8 101] 5 (3, 4))) [.slice (some ⟨w8.heap.size, 0, none⟩) 3 3] 34 (0, 0)
    rw [World.size_alloc] at h
    exact h
  have hc := same_any _ A8 c8 qs (some ⟨w8.heap.size + 1, 0, none⟩) 1 [(some ⟨w8.heap.size, 0, none⟩, 3, one)] 1 hq1.symm rfl (h8.rd.nofr (f1.trans f2)) r2 (fun q hq => ⟨(h8.part q hq).1.1.nofr (f1.trans f2), (h8.part q hq).1.2⟩) (fun q hq => by
    rw [List.mem_singleton.1 hq]
    exact ⟨(Rd.new_marked w8 (cb one) 5 (3, 4)).nofr f2, fun h => by cases h⟩) h8.eq (by omega)
  have HC := Lib.hid hc
  have HF8 := Lib.hid ((HF7.out.trans h8.fr).trans (f1.trans f2))
  clear hc r2 f1 f2 hq1 h8
  go_wp2_with fail
  refine HC.out.mono ?_
  clear HC kc
  rintro e w9 ⟨rfl, hf9⟩
  have HF9 := Lib.hid (HF8.out.trans hf9)
  clear hf9
  go_wp2_with fail
  go_ret
  exact ⟨rfl, HF9.out⟩
end Go.Proofs.YthnaggmafbhdmaaDoor
