/- The document's example of layer 12. No condition. -/
import Derived.Test.YtlajhnplkfiiiaaLawp
import Derived.Test.YtlajhnplkfiiiaaLeWS
import Derived.Deep.Slices
import Derived.Lib.SmallJoins
namespace Go.Proofs.Ytlajhnplkfiiiaa
open Go.RowKit Go.Maps

def spA : LdrS := newS 3 0
def spB : LdrS := promS spA 0 []
def spC : LdrS := promS spB 2 [(0, 4, ⟨#[120]⟩)]
def spD : LdrS := (takenS spC 1 0).1
def spE : LdrS := (takenS spD 0 0).1
theorem sp_val : valOS spC = some ⟨#[120]⟩ ∧ (takenS spC 1 0).2 = none ∧ (takenS spD 0 0).2 = some ⟨#[120]⟩ ∧ valOS spE = none ∧ spE.slot = 1 := ⟨rfl, rfl, rfl, rfl, rfl⟩
theorem sp_num : spA.np = 0 ∧ spA.nv = 0 ∧ spB.np = 1 ∧ spB.nv = 0 ∧ spC.nt = 0 ∧ spD.nt = 1 := ⟨rfl, rfl, rfl, rfl, rfl, rfl⟩
set_option maxRecDepth 100000 in
set_option maxHeartbeats 2000000 in
theorem speaks_any (w : World) : Calls Try.prog 5 #[] w fun e w' => e = .returned (.bool true) ∧ Fr NoBlk w w' := by
  have K0 := Lib.hid (newLeS w 9 3 0 (by omega) (by omega))
  rw [show newS 3 0 = spA from rfl] at K0
  have K1 := Lib.hid fun W g bp bt bv (h : LeS w W g bp bt bv spA) => h.prom0 (by rw [sp_num.1]; decide) (by rw [sp_num.2.1]; decide) 0 (wf64_of (by omega))
  rw [show promS spA 0 [] = spB from rfl] at K1
  have K2 := Lib.hid fun W g bp bt bv A c (h : LeS w W g bp bt bv spB) hr hA => h.prom (by rw [sp_num.2.2.1]; decide) 2 (wf64_of (by omega)) A c 1 [(0, 4, ⟨#[120]⟩)] rfl (by rw [sp_num.2.2.2.1]; decide) hr (fun v hv => by rw [List.mem_singleton.1 hv]; exact wf64_of (by decide)) hA
  rw [show promS spB 2 [(0, 4, ⟨#[120]⟩)] = spC from rfl] at K2
  have K3 := Lib.hid fun W g bp bt bv (h : LeS w W g bp bt bv spC) => h.value
  rw [sp_val.1] at K3
  have K4 := Lib.hid fun W g bp bt bv (h : LeS w W g bp bt bv spC) => h.taken (by rw [sp_num.2.2.2.2.1]; decide) 1 0 (wf64_of (by omega))
  rw [sp_val.2.1, show (takenS spC 1 0).1 = spD from rfl] at K4
  have K5 := Lib.hid fun W g bp bt bv (h : LeS w W g bp bt bv spD) => h.taken (by rw [sp_num.2.2.2.2.2]; decide) 0 0 (wf64_of (by omega))
  rw [sp_val.2.2.1, show (takenS spD 0 0).1 = spE from rfl] at K5
  have K6 := Lib.hid fun W g bp bt bv (h : LeS w W g bp bt bv spE) => h.value
  rw [sp_val.2.2.2.1] at K6
  have K7 := Lib.hid fun W g bp bt bv (h : LeS w W g bp bt bv spE) => h.slot_
  rw [sp_val.2.2.2.2] at K7
  unfold tupS at K3 K4 K5 K6
  simp only [Option.map_some, Option.map_none, Option.getD_some, Option.getD_none, Option.isSome_some, Option.isSome_none] at K3 K4 K5 K6
  unfold evS at K3 K5
  have HZV := Lib.hid zeroVtS
  unfold zvS at HZV
  generalize spE = LE at *
  generalize spD = LD at *
  generalize spC = LC at *
  generalize spB = LB at *
  generalize spA = LA at *
  go_enter Try.func5, Try.ntmps5
  go_wp2_with fail
  refine K0.out.mono ?_
  clear K0
  rintro e w1 ⟨g, bp, bt, bv, rfl, h1⟩
  have H1 := Lib.hid h1
  clear h1
  go_wp2_with fail
  refine (K1.out _ _ _ _ _ H1.out).mono ?_
  clear K1
  rintro e w2 ⟨rfl, h2⟩
  have H2 := Lib.hid h2
  have hz := HZV.out w2
  have HA2 : Hid (LeS w (w2.alloc (.cells #[.int .i64 0, .int .u64 4, .string { data := #[120] }] 63)) g bp bt bv LB) := h2.nofr ((Fr.refl _ _).alloc _)
  have HS2 : Hid (Rd (w2.alloc (.cells #[.int .i64 0, .int .u64 4, .string { data := #[120] }] 63)) (some ⟨w2.heap.size, 0, none⟩) (vtsS [(0, 4, ⟨#[120]⟩)])) := Rd.of_cells (Bk.new w2 63 #[.int .i64 0, .int .u64 4, .string { data := #[120] }])
  have HN2 : Hid (∀ k, ablk (some ⟨w2.heap.size, 0, none⟩) k → k ≠ g ∧ k ≠ bp ∧ k ≠ bv) := fun k ⟨b, e, e2⟩ => by
    injection e with e
    subst e
    have := h2.ld.bk.lt
    have := h2.ld.kp.lt
    have := h2.ld.kv.lt
    dsimp only at e2
    omega
  clear h2
  go_wp2_with fail
  refine (K2.out _ _ _ _ _ _ _ HA2.out HS2.out HN2.out).mono ?_
  clear K2
  rintro e w3 ⟨rfl, h3, _⟩
  have H3 := Lib.hid h3
  clear h3 hz
  go_wp2_with fail
  refine (K3.out _ _ _ _ _ H3.out).mono ?_
  clear K3
  rintro e w4 ⟨rfl, h4⟩
  have H4 := Lib.hid h4
  clear h4
  go_wp2_with fail
  refine (K4.out _ _ _ _ _ H4.out).mono ?_
  clear K4
  rintro e w5 ⟨rfl, h5⟩
  have H5 := Lib.hid h5
  clear h5
  go_wp2_with fail
  refine (K5.out _ _ _ _ _ H5.out).mono ?_
  clear K5
  rintro e w6 ⟨rfl, h6⟩
  have H6 := Lib.hid h6
  clear h6
  go_wp2_with fail
  refine (K6.out _ _ _ _ _ H6.out).mono ?_
  clear K6
  rintro e w7 ⟨rfl, h7⟩
  have H7 := Lib.hid h7
  clear h7
  go_wp2_with fail
  refine (K7.out _ _ _ _ _ H7.out).mono ?_
  clear K7
  rintro e w8 ⟨rfl, h8⟩
  subst h8
  go_wp2_with fail
  go_ret
  exact ⟨rfl, H7.out.fr⟩
end Go.Proofs.Ytlajhnplkfiiiaa
