/- The program's reader: a number, a text, how many, a number unfolded. Conditions: the eye's bytes are kept, lengths are short. The reader's keys. Conditions: the eye's bytes are kept, lengths are short. What is kept while the reader reads a transaction. No condition. The reader's transaction. Conditions: the eye's bytes are kept, lengths are short. What is kept while the reader reads an order's marks. No condition. The reader's order. Conditions: the eye's bytes are kept, lengths are short. The program's Read: what was read, if its bytes are the bytes. Conditions: there are few bytes. Opening an argument that is a slice of bytes; what an order read of its own bytes is. No condition. -/
import Derived.Test.YtakbjjohfcgaoaaDec
import Derived.Test.YtakbjjohfcgaoaaEye3
import Derived.Test.YtakbjjohfcgaoaaConcat
import Derived.Test.YtakbjjohfcgaoaaPCopyL
import Derived.Test.YtakbjjohfcgaoaaDKeys
import Derived.Deep.RegionWith
import Derived.Deep.CutRange
import Derived.Test.YtakbjjohfcgaoaaKeys
import Derived.Test.YtakbjjohfcgaoaaEqualF
import Derived.Test.YtakbjjohfcgaoaaOpenO
namespace Go.Proofs.Ytakbjjohfcgaoaa
open Go.RowKit

/-- a reader's eye stands before the bytes l; it and its row lie below N. -/
structure RE (w : World) (N ge : Nat) (l : List UInt8) : Prop where
  lt : ge < N
  len : l.length ≤ 1000000
  size : N ≤ w.heap.size
  ex : ∃ A c, Eye w ge A c l ∧ ∀ k, ablk A k → k < N
theorem RE.fr {C : Nat → Prop} {w w' : World} {N ge : Nat} {l : List UInt8} (h : RE w N ge l) (hf : Fr C w w') (hC : ∀ k, k < N → ¬ C k) : RE w' N ge l := by
  obtain ⟨A, c, he, hk⟩ := h.ex
  exact ⟨h.lt, h.len, by have := h.size; have := hf.size; omega, A, c, he.keep hf (hC _ h.lt) (fun k q => hC k (hk k q)), hk⟩
theorem RE.eyed {w w' : World} {N ge : Nat} {l l' : List UInt8} {A A' : Option Addr} {c' : Nat} (h : RE w N ge l) (hk : ∀ k, ablk A k → k < N) (hy : Eyed w w' ge A A' c' l') (hl : l'.length ≤ l.length) : RE w' N ge l' :=
  ⟨h.lt, by have := h.len; omega, by have := h.size; have := hy.fr.size; omega, A', c', hy.eye, fun k q => hk k (hy.row k q)⟩
def rv (ge : Nat) : Value := .agg #[.pointer (some ⟨ge, 0, none⟩)]
theorem rN_lt (l : List UInt8) : (rN l).1 < 2 ^ 64 := rdNum_lt l
def sm (n : Nat) : Int := wrap64 (n : Int)
def unf (z : Nat) : Int := if z % 2 = 1 then -1 - ((z / 2 : Nat) : Int) else ((z / 2 : Nat) : Int)
theorem unf_bnd {z : Nat} (h : z < 2 ^ 64) : nB (unf z) := by
  unfold nB unf
  split <;> omega
theorem sm_low {n : Nat} (h : n < 2 ^ 63) : sm n = (n : Int) := by unfold sm wrap64; omega

set_option maxRecDepth 100000 in
theorem rnum_any (w : World) (N ge : Nat) (l : List UInt8) (he : RE w N ge l) :
    Calls Try.prog 58 #[rv ge] w fun e w' => e = .returned (.int .u64 ((rN l).1 : Int)) ∧ RE w' N ge (rN l).2 ∧ Fr (fun k => k = ge) w w' := by
  obtain ⟨w0, hw0⟩ : ∃ w0, w0 = w.alloc (.cells #[.pointer (some ⟨ge, 0, none⟩)] 79) := ⟨_, rfl⟩
  have HF : Hid (Fr (fun k => k = ge) w w0) := by
    show Fr _ _ _
    rw [hw0]
    exact (Fr.refl _ _).alloc _
  have HE0 : Hid (RE w0 N ge l) := by
    show RE _ _ _ _
    rw [hw0]
    exact he.fr ((Fr.refl NoBlk _).alloc _) (fun _ _ h => h)
  obtain ⟨A, c, hy, hk⟩ := HE0.out.ex
  have HK := Lib.hid hk
  have K := Lib.hid (eyeNum_any w0 ge A c l hy (by have := he.len; omega))
  have c0 : w0.cell? ⟨w.heap.size, 0, none⟩ = some (.pointer (some ⟨ge, 0, none⟩)) := by rw [hw0]; exact (Bk.new w _ _).cell 0
  clear he hy hk
  unfold rv
  go_enter Try.func58, Try.ntmps58
  go_wp2_with fail
  rw [← hw0]
  clear hw0
  go_wp2_with fail
  refine K.out.mono ?_
  rintro e w1 ⟨rfl, A', c', hd⟩
  have HD := Lib.hid hd
  clear hd K c0
  go_wp2_with fail
  go_ret
  refine ⟨rfl, HE0.out.eyed HK.out HD.out (by show (l.drop _).length ≤ _; rw [List.length_drop]; omega), HF.out.trans HD.out.fr⟩

def RTxt (w : World) (N ge : Nat) (l : List UInt8) (e : Ending) (w' : World) : Prop :=
  ∃ v', e = .returned v' ∧ w'.ownsRow w.heap.size 5 1 v' (rT l).1.length (cb (rT l).1) ∧ RE w' N ge (rT l).2 ∧ Fr (fun k => k = ge) w w'

set_option maxRecDepth 100000 in
theorem rtext_any (w : World) (N ge : Nat) (l : List UInt8) (he : RE w N ge l) :
    Calls Try.prog 88 #[rv ge] w (RTxt w N ge l) := by
  obtain ⟨w0, hw0⟩ : ∃ w0, w0 = w.alloc (.cells #[.pointer (some ⟨ge, 0, none⟩)] 79) := ⟨_, rfl⟩
  have HF : Hid (Fr (fun k => k = ge) w w0) := by
    show Fr _ _ _
    rw [hw0]
    exact (Fr.refl _ _).alloc _
  have HE0 : Hid (RE w0 N ge l) := by
    show RE _ _ _ _
    rw [hw0]
    exact he.fr ((Fr.refl NoBlk _).alloc _) (fun _ _ h => h)
  obtain ⟨A, c, hy, hk⟩ := HE0.out.ex
  have HK := Lib.hid hk
  have K := Lib.hid (eyeText_any w0 ge A c l hy (by have := he.len; omega))
  have c0 : w0.cell? ⟨w.heap.size, 0, none⟩ = some (.pointer (some ⟨ge, 0, none⟩)) := by rw [hw0]; exact (Bk.new w _ _).cell 0
  have HS : Hid (w.heap.size ≤ w0.heap.size) := HF.out.size
  clear he hy hk
  unfold rv
  go_enter Try.func88, Try.ntmps88
  go_wp2_with fail
  rw [← hw0]
  clear hw0
  go_wp2_with fail
  refine K.out.mono ?_
  rintro e w1 ⟨v', A', c', rfl, ho, hd⟩
  have HD := Lib.hid hd
  have HO := Lib.hid ho
  clear hd ho K c0
  go_wp2_with fail
  go_ret
  refine ⟨v', rfl, own_base HO.out HS.out, HE0.out.eyed HK.out HD.out (by show (l.drop _).length ≤ _; rw [List.length_drop]; omega), HF.out.trans HD.out.fr⟩

set_option maxRecDepth 100000 in
theorem rsmall_any (w : World) (N ge : Nat) (l : List UInt8) (he : RE w N ge l) :
    Calls Try.prog 57 #[rv ge] w fun e w' => e = .returned (.int .i64 (sm (rN l).1)) ∧ RE w' N ge (rN l).2 ∧ Fr (fun k => k = ge) w w' := by
  obtain ⟨w0, hw0⟩ : ∃ w0, w0 = w.alloc (.cells #[.pointer (some ⟨ge, 0, none⟩)] 79) := ⟨_, rfl⟩
  have HF : Hid (Fr (fun k => k = ge) w w0) := by
    show Fr _ _ _
    rw [hw0]
    exact (Fr.refl _ _).alloc _
  have HE0 : Hid (RE w0 N ge l) := by
    show RE _ _ _ _
    rw [hw0]
    exact he.fr ((Fr.refl NoBlk _).alloc _) (fun _ _ h => h)
  have K := Lib.hid (rnum_any w0 N ge l HE0.out)
  have c0 : w0.cell? ⟨w.heap.size, 0, none⟩ = some (.pointer (some ⟨ge, 0, none⟩)) := by rw [hw0]; exact (Bk.new w _ _).cell 0
  clear he
  unfold rv at K ⊢
  go_enter Try.func57, Try.ntmps57
  go_wp2_with fail
  rw [← hw0]
  clear hw0
  go_wp2_with fail
  refine K.out.mono ?_
  rintro e w1 ⟨rfl, hre, hf⟩
  have HR := Lib.hid hre
  have HFF := Lib.hid hf
  clear hre hf K c0
  go_wp2_with fail
  go_ret
  refine ⟨rfl, HR.out, HF.out.trans HFF.out⟩

set_option maxRecDepth 100000 in
theorem rcount_any (w : World) (N ge most : Nat) (l : List UInt8) (he : RE w N ge l) :
    Calls Try.prog 87 #[rv ge, .int .u64 (most : Int)] w fun e w' => e = .returned (.int .u64 (rC most l : Int)) ∧ RE w' N ge (rN l).2 ∧ Fr (fun k => k = ge) w w' := by
  obtain ⟨w0, hw0⟩ : ∃ w0, w0 = w.alloc (.cells #[.pointer (some ⟨ge, 0, none⟩)] 79) := ⟨_, rfl⟩
  have HF : Hid (Fr (fun k => k = ge) w w0) := by
    show Fr _ _ _
    rw [hw0]
    exact (Fr.refl _ _).alloc _
  have HE0 : Hid (RE w0 N ge l) := by
    show RE _ _ _ _
    rw [hw0]
    exact he.fr ((Fr.refl NoBlk _).alloc _) (fun _ _ h => h)
  have K := Lib.hid (rnum_any w0 N ge l HE0.out)
  have c0 : w0.cell? ⟨w.heap.size, 0, none⟩ = some (.pointer (some ⟨ge, 0, none⟩)) := by rw [hw0]; exact (Bk.new w _ _).cell 0
  have hm : min ((rN l).1 : Int) (most : Int) = (rC most l : Int) := by
    unfold rC
    omega
  clear he
  unfold rv at K ⊢
  go_enter Try.func87, Try.ntmps87
  go_wp2_with fail
  rw [← hw0]
  clear hw0
  go_wp2_with fail
  refine K.out.mono ?_
  rintro e w1 ⟨rfl, hre, hf⟩
  have HR := Lib.hid hre
  have HFF := Lib.hid hf
  clear hre hf K c0
  go_wp2_with fail
  go_ret
  refine ⟨rfl, HR.out, HF.out.trans HFF.out⟩

set_option maxRecDepth 100000 in
theorem unfold_any (w : World) (z : Nat) (hz : z < 2 ^ 64) :
    Calls Try.prog 89 #[.int .u64 (z : Int)] w fun e w' => e = .returned (.int .i64 (unf z)) ∧ w = w' := by
  have e1 : (z : Int).tdiv 2 = ((z / 2 : Nat) : Int) := by rw [Int.tdiv_eq_ediv_of_nonneg (by omega)]; omega
  have e2 : (z : Int).tmod 2 = ((z % 2 : Nat) : Int) := by rw [Int.tmod_eq_emod_of_nonneg (by omega)]; omega
  have e3 : IntKind.u64.wrap ((z / 2 : Nat) : Int) = ((z / 2 : Nat) : Int) := IntWalk.u64_in _ (by omega)
  have e4 : IntKind.u64.wrap ((z % 2 : Nat) : Int) = ((z % 2 : Nat) : Int) := IntWalk.u64_in _ (by omega)
  have e5 : IntKind.i64.wrap ((z / 2 : Nat) : Int) = ((z / 2 : Nat) : Int) := IntWalk.i64_in _ (by omega)
  have e6 : IntKind.i64.wrap (-1 - ((z / 2 : Nat) : Int)) = -1 - ((z / 2 : Nat) : Int) := IntWalk.i64_in _ (by omega)
  by_cases h : z % 2 = 1
  · have hu : unf z = -1 - ((z / 2 : Nat) : Int) := by unfold unf; rw [if_pos h]
    rw [hu]
    rw [h] at e2 e4
    generalize ((z / 2 : Nat) : Int) = y at *
    go_enter Try.func89, Try.ntmps89
    go_wp2_with fail
    go_ret
    exact ⟨rfl, rfl⟩
  · have hu : unf z = ((z / 2 : Nat) : Int) := by unfold unf; rw [if_neg h]
    have h0 : z % 2 = 0 := by omega
    rw [hu]
    rw [h0] at e2 e4
    generalize ((z / 2 : Nat) : Int) = y at *
    go_enter Try.func89, Try.ntmps89
    go_wp2_with fail
    go_ret
    exact ⟨rfl, rfl⟩
end Go.Proofs.Ytakbjjohfcgaoaa

namespace Go.Proofs.Ytakbjjohfcgaoaa
open Go.RowKit

theorem rep_snoc {α : Type} (f : List UInt8 → α × List UInt8) : ∀ (k : Nat) (l : List UInt8), rep f (k + 1) l = ((rep f k l).1 ++ [(f (rep f k l).2).1], (f (rep f k l).2).2)
  | 0, l => rfl
  | k + 1, l => by
    have ih := rep_snoc f k (f l).2
    rw [rep, ih]
    simp only [rep, List.cons_append]
theorem rN_len (l : List UInt8) : (rN l).2.length ≤ l.length := by unfold rN; simp only [List.length_drop]; omega
theorem rT_len (l : List UInt8) : (rT l).2.length ≤ l.length ∧ (rT l).1.length ≤ l.length := by
  unfold rT rdText
  simp only [List.length_drop]
  refine ⟨by omega, ?_⟩
  split
  · split
    · simp
    · simp only [List.length_take, List.length_drop]; omega
  · simp
theorem rep_rT_len (k : Nat) : ∀ l : List UInt8, (rep rT k l).2.length ≤ l.length ∧ ∀ x ∈ (rep rT k l).1, x.length ≤ l.length := by
  induction k with
  | zero => intro l; exact ⟨Nat.le_refl _, fun x hx => by cases hx⟩
  | succ k ih =>
    intro l
    have h1 := rT_len l
    have h2 := ih (rT l).2
    simp only [rep]
    refine ⟨by omega, fun x hx => ?_⟩
    rcases List.mem_cons.1 hx with rfl | hx
    · exact h1.2
    · have := h2.2 x hx; omega
theorem RE.grown {w w' : World} {N ge base n : Nat} {e : TypeId} {size : Nat} {v : Value} {l : List UInt8} {xs : List Value} (h : RE w N ge l) (ho : w.ownsRow base e size v n xs) (hN : N ≤ base) (hg : w.grownBy w' v.ownBlock) : RE w' N ge l :=
  h.fr (Fr.ofGrown hg) (fun k hk e => by have := (own_blk ho e.symm).1; omega)

def RKeysPost (w : World) (N ge : Nat) (l : List UInt8) (e : Ending) (w' : World) : Prop :=
  ∃ A c, e = .returned (.slice A (rKeys l).1.length c) ∧ w'.ownsRow w.heap.size 9 1 (.slice A (rKeys l).1.length c) (rKeys l).1.length (sts (rKeys l).1) ∧ RE w' N ge (rKeys l).2 ∧ Fr (fun k => k = ge) w w'

set_option maxRecDepth 100000 in
set_option maxHeartbeats 1000000 in
theorem rkeys_any (w : World) (N ge : Nat) (l : List UInt8) (he : RE w N ge l) :
    Calls Try.prog 86 #[rv ge] w (RKeysPost w N ge l) := by
  obtain ⟨i0, hi, hz0, hz1, hz2⟩ := info_parts strInfo
  obtain ⟨w0, hw0⟩ : ∃ w0, w0 = w.alloc (.cells #[.pointer (some ⟨ge, 0, none⟩)] 79) := ⟨_, rfl⟩
  have HF : Hid (Fr (fun k => k = ge) w w0) := by
    show Fr _ _ _
    rw [hw0]
    exact (Fr.refl _ _).alloc _
  have HE0 : Hid (RE w0 N ge l) := by
    show RE _ _ _ _
    rw [hw0]
    exact he.fr ((Fr.refl NoBlk _).alloc _) (fun _ _ h => h)
  have HN : Hid (ge < N ∧ N ≤ w.heap.size) := ⟨he.lt, he.size⟩
  have HB : Hid (Bk w0 w.heap.size 79 #[.pointer (some ⟨ge, 0, none⟩)]) := by
    show Bk _ _ _ _
    rw [hw0]
    exact Bk.new w _ _
  have K := Lib.hid (rcount_any w0 N ge 8 l HE0.out)
  have KT := Lib.hid fun W L (h : RE W N ge L) => rtext_any W N ge L h
  have c0 : w0.cell? ⟨w.heap.size, 0, none⟩ = some (.pointer (some ⟨ge, 0, none⟩)) := HB.out.cell 0
  have hn8 : rC 8 l ≤ 8 := by unfold rC; omega
  have HKL : Hid (rKeys l = rep rT (rC 8 l) (rN l).2) := rfl
  have HLE := Lib.hid he.len
  clear he HE0
  generalize hn : rC 8 l = n at *
  unfold rv at K KT ⊢
  go_enter Try.func86, Try.ntmps86
  go_wp2_with fail
  rw [← hw0]
  clear hw0
  go_wp2_with fail
  refine K.out.mono ?_
  rintro e w1 ⟨rfl, hre, hf⟩
  have HR1 := Lib.hid hre
  have HF1 := Lib.hid (HF.out.trans hf)
  have HB1 := Lib.hid (HB.out.fr hf (fun e => by have := HN.out; omega))
  clear hre hf K c0 HB HF hn
  go_wp2_with fail
  go_loopw [3, 6] (fun v z wr => ∃ k : Nat, k ≤ n ∧ z = .int .u64 (k : Int) ∧ Hid (wr.ownsRow w.heap.size 9 1 v k (sts (rep rT k (rN l).2).1)) ∧ Hid (RE wr N ge (rep rT k (rN l).2).2) ∧ Hid (Fr (fun k => k = ge) w wr) ∧ Hid (Bk wr w.heap.size 79 #[.pointer (some ⟨ge, 0, none⟩)])) (fun _ z _ => n - (intOf z).toNat)
  case atStart => exact ⟨0, by omega, rfl, World.ownsRow_nil _ _ _ _, HR1, HF1, HB1⟩
  case round =>
    clear HR1 HF1 HB1
    obtain ⟨k, hk, rfl, HO, HR, HFR, HB⟩ := hrel
    obtain ⟨Av, cv, rfl, _, _⟩ := own_form HO.out
    by_cases hlt : k < n
    · have hlt' : (k : Int) < (n : Int) := by omega
      have c0 : wr.cell? ⟨w.heap.size, 0, none⟩ = some (.pointer (some ⟨ge, 0, none⟩)) := HB.out.cell 0
      obtain ⟨ls, hls⟩ : ∃ ls, ls = (rep rT k (rN l).2).2 := ⟨_, rfl⟩
      obtain ⟨ks, hks⟩ : ∃ ks, ks = (rep rT k (rN l).2).1 := ⟨_, rfl⟩
      have HSN : Hid (rep rT (k + 1) (rN l).2 = (ks ++ [(rT ls).1], (rT ls).2)) := by
        show _ = _
        rw [rep_snoc, ← hls, ← hks]
      rw [← hls] at HR
      rw [← hks] at HO
      have HKN : Hid (ks.length = k) := by show _ = _; rw [hks, rep_len]
      clear hls hks
      go_wp2_with fail
      refine (KT.out _ _ HR.out).mono ?_
      rintro e w2 ⟨v2, rfl, hown, hre, hf⟩
      obtain ⟨A2, c2, rfl, _, _⟩ := own_form hown
      have q2 := strOf w2 A2 _ c2 (rT ls).1 rfl (Rd.of_own hown)
      have HR2 := Lib.hid hre
      have HF2 := Lib.hid (HFR.out.trans hf)
      have HB2 := Lib.hid (HB.out.fr hf (fun e => by have := HN.out; omega))
      have HO2 : Hid (w2.ownsRow w.heap.size 9 1 (.slice Av k cv) k (sts ks)) := own_fr HO.out hf (fun q hq e => by have := (own_blk HO.out hq).1; have := HN.out; omega)
      clear hown hre hf HO HR HFR HB c0
      obtain ⟨X, hX⟩ : ∃ X, X = (rT ls).1 := ⟨_, rfl⟩
      rw [← hX] at q2 HSN ⊢
      clear hX
      have HO3 : Hid ((w2.alloc (.cells #[.string (bstr X)] 9)).ownsRow w.heap.size 9 1 (.slice Av k cv) k (sts ks)) := own_fr HO2.out ((Fr.refl _ _).alloc _) (fun _ _ h => h)
      have HR3 : Hid (Rd (w2.alloc (.cells #[.string (bstr X)] 9)) (some ⟨w2.heap.size, 0, none⟩) [.string (bstr X)]) := Rd.of_cells (Bk.new w2 9 #[.string (bstr X)])
      have HS3 : Hid (w.heap.size ≤ (w2.alloc (.cells #[.string (bstr X)] 9)).heap.size) := Nat.le_trans HF2.out.size (by simp)
      go_wp2_with (at_builtin; refine wpList_app rfl _ _ 27 rfl w.heap.size 9 i0 (.string ByteArray.empty) 16 Try.underlying27 hi hz0 hz1 hz2 rfl _ _ _ rfl HO3.out (some ⟨w2.heap.size, 0, none⟩) 1 1 [.string (bstr X)] rfl rfl HR3.out ?q1 (fun h => by cases h) ?q3 ?q4 HS3.out ?_)
      case q1 => intro u hu; rw [List.mem_singleton.1 hu]; rfl
      case q3 => unfold maxLen; omega
      case q4 => omega
      intro v4 w4 hown4 hgr4 _ _
      have HX : Hid (w4.ownsRow w.heap.size 9 1 v4 (k + 1) (sts (rep rT (k + 1) (rN l).2).1)) := by
        show World.ownsRow _ _ _ _ _ _ _
        rw [HSN.out, sts_append]
        exact hown4
      have HY : Hid (RE w4 N ge (rep rT (k + 1) (rN l).2).2) := by
        show RE _ _ _ _
        rw [HSN.out]
        exact (HR2.out.fr ((Fr.refl NoBlk _).alloc _) (fun _ _ h => h)).grown HO3.out HN.out.2 hgr4
      have HZ : Hid (Fr (fun k => k = ge) w w4) := (HF2.out.alloc _).grown hgr4 (fun q hq hlt => absurd (own_blk HO3.out hq).1 (by omega))
      have HBZ : Hid (Bk w4 w.heap.size 79 #[.pointer (some ⟨ge, 0, none⟩)]) := (HB2.out.alloc _).fr (Fr.ofGrown hgr4) (fun e => own_apart HO3.out (HB2.out.alloc _) (by decide) e.symm)
      clear hown4 hgr4 q2 HO2 HO3 HR3 HR2 HF2 HB2
      go_wp2_with fail
      go_roundw
      case rel => exact ⟨k + 1, by omega, by go_num, HX, HY, HZ, HBZ⟩
      case measure => simp [intOf]; omega
    · obtain rfl : k = n := by omega
      go_wp2_with fail
      go_ret
      have hl : (rKeys l).1.length = k := by rw [HKL.out, rep_len]
      unfold RKeysPost
      rw [hl, HKL.out]
      exact ⟨_, _, rfl, HO.out, HR.out, HFR.out⟩
end Go.Proofs.Ytakbjjohfcgaoaa

namespace Go.Proofs.Ytakbjjohfcgaoaa
open Go.RowKit

theorem wpAnyH_more {P : Program} {md : Region.Mode} {ops : Array Oper} {Q : Exit → Act → World → Prop} {S S' : World → Prop} (hS : ∀ w, S' w → S w) :
    ∀ (fuel : Nat) (listed : Array Bool) (a : Act) (w : World), wpAnyH P md ops Q S' fuel listed a w → wpAnyH P md ops Q S fuel listed a w
  | 0, _, _, _, h => h
  | fuel + 1, _, _, _, h => ⟨h.1, fun i hi => wpOp_mono (fun a' w' h' => ⟨hS w' h'.1, wpAnyH_more hS fuel _ a' w' h'.2⟩) (h.2 i hi)⟩
theorem own_ne {w : World} {base base' : Nat} {e e' : TypeId} {size size' n n' : Nat} {v v' : Value} {xs xs' : List Value} (h : w.ownsRow base e size v n xs) (h' : w.ownsRow base' e' size' v' n' xs') (hne : e ≠ e') {k : Nat} (hk : v'.ownBlock = some k) : v.ownBlock ≠ some k := by
  rcases h'.2 with ⟨rfl, _⟩ | ⟨g, cap, cur, rfl, _, hh, _⟩
  · simp [Value.ownBlock] at hk
  · have e1 : g = k := by simpa [Value.ownBlock] using hk
    subst e1
    exact own_apart h (show Bk w g e' cur from hh) hne

/-- a transaction that is being read: its block gt, the reader's box, the rows, all of the call's own. -/
structure RX (w wr : World) (N ge gt : Nat) (u : Tx) (ls : List UInt8) : Prop where
  re : RE wr N ge ls
  nw : N ≤ w.heap.size
  box : Bk wr w.heap.size 79 #[.pointer (some ⟨ge, 0, none⟩)]
  res : Bk wr (w.heap.size + 1) 30 #[.int .i64 0, .slice none 0 0, .slice none 0 0, .slice none 0 0, .int .i64 0]
  bt : Bk wr gt 30 (txa u)
  lt : w.heap.size + 1 < gt
  ro : wr.ownsRow w.heap.size 9 1 (.slice u.ra u.reads.length u.rc) u.reads.length (sts u.reads)
  wo : wr.ownsRow w.heap.size 9 1 (.slice u.wa u.writes.length u.wc) u.writes.length (sts u.writes)
  oo : wr.ownsRow w.heap.size 47 4 (.slice u.oa u.ops.length u.oc) u.ops.length (opsc u.ops)
  vo : ∀ x ∈ u.ops, wr.ownsRow w.heap.size 5 1 (sl x.val) x.val.2.2.length (cb x.val.2.2)
  fr : Fr (fun k => k = ge) w wr

theorem RX.gl {w wr : World} {N ge gt : Nat} {u : Tx} {ls : List UInt8} (h : RX w wr N ge gt u ls) : ge < N ∧ N ≤ w.heap.size ∧ w.heap.size ≤ wr.heap.size := ⟨h.re.lt, h.nw, h.fr.size⟩
theorem RX.step {w wr w' : World} {N ge gt : Nat} {u : Tx} {ls ls' : List UInt8} (h : RX w wr N ge gt u ls) (hf : Fr (fun k => k = ge) wr w') (hre : RE w' N ge ls') : RX w w' N ge gt u ls' := by
  obtain ⟨g1, g2, g3⟩ := h.gl
  have hl := h.lt
  refine ⟨hre, h.nw, h.box.fr hf (by omega), h.res.fr hf (by omega), h.bt.fr hf (by omega), h.lt, own_fr h.ro hf ?_, own_fr h.wo hf ?_, own_fr h.oo hf ?_, fun x hx => own_fr (h.vo x hx) hf ?_, h.fr.trans hf⟩
  · intro k hk e; have := (own_blk h.ro hk).1; omega
  · intro k hk e; have := (own_blk h.wo hk).1; omega
  · intro k hk e; have := (own_blk h.oo hk).1; omega
  · intro k hk e; have := (own_blk (h.vo x hx) hk).1; omega
theorem RX.nofr {w wr w' : World} {N ge gt : Nat} {u : Tx} {ls : List UInt8} (h : RX w wr N ge gt u ls) (hf : Fr NoBlk wr w') : RX w w' N ge gt u ls :=
  h.step (hf.mono fun _ _ h => h.elim) (h.re.fr hf fun _ _ h => h)
/-- a store into the transaction's block. -/
theorem RX.put {w wr : World} {N ge gt : Nat} {u u' : Tx} {ls : List UInt8} (h : RX w wr N ge gt u ls) (i : Nat) (v : Value) (hu : (txa u).setIfInBounds i v = txa u')
    (hr : (wr.setCell ⟨gt, i, none⟩ v).ownsRow w.heap.size 9 1 (.slice u'.ra u'.reads.length u'.rc) u'.reads.length (sts u'.reads))
    (hw : (wr.setCell ⟨gt, i, none⟩ v).ownsRow w.heap.size 9 1 (.slice u'.wa u'.writes.length u'.wc) u'.writes.length (sts u'.writes))
    (ho : (wr.setCell ⟨gt, i, none⟩ v).ownsRow w.heap.size 47 4 (.slice u'.oa u'.ops.length u'.oc) u'.ops.length (opsc u'.ops))
    (hv : ∀ x ∈ u'.ops, (wr.setCell ⟨gt, i, none⟩ v).ownsRow w.heap.size 5 1 (sl x.val) x.val.2.2.length (cb x.val.2.2)) :
    RX w (wr.setCell ⟨gt, i, none⟩ v) N ge gt u' ls := by
  obtain ⟨g1, g2, g3⟩ := h.gl
  have hl := h.lt
  have hf : Fr (fun k => k = gt) wr (wr.setCell ⟨gt, i, none⟩ v) := (Fr.refl (fun k => k = gt) wr).setCell (p := ⟨gt, i, none⟩) (fun _ => rfl) v
  exact ⟨h.re.fr hf (fun k hk e => by omega), h.nw, h.box.fr hf (by omega), h.res.fr hf (by omega), hu ▸ h.bt.put i v, h.lt, hr, hw, ho, hv, h.fr.step hf (fun k hk e => by omega)⟩
theorem own_set {w : World} {base : Nat} {e T : TypeId} {size n gt i : Nat} {v u : Value} {xs : List Value} {cs : Array Value} (h : w.ownsRow base e size v n xs) (hb : Bk w gt T cs) (hne : e ≠ T) : (w.setCell ⟨gt, i, none⟩ u).ownsRow base e size v n xs :=
  own_fr h ((Fr.refl (fun k => k = gt) w).setCell (p := ⟨gt, i, none⟩) (fun _ => rfl) u) fun _ hk e => own_apart h hb hne (e ▸ hk)
theorem RX.putR {w wr : World} {N ge gt : Nat} {u : Tx} {ls : List UInt8} (h : RX w wr N ge gt u ls) {A : Option Addr} {c : Nat} {ks : List Bs} (ho : wr.ownsRow w.heap.size 9 1 (.slice A ks.length c) ks.length (sts ks)) :
    RX w (wr.setCell ⟨gt, 1, none⟩ (.slice A ks.length c)) N ge gt ⟨u.kind, A, c, ks, u.wa, u.wc, u.writes, u.oa, u.oc, u.ops, u.to⟩ ls :=
  h.put 1 _ (by unfold txa; simp only [List.setIfInBounds_toArray, List.set_cons_zero, List.set_cons_succ]) (own_set ho h.bt (by decide)) (own_set h.wo h.bt (by decide)) (own_set h.oo h.bt (by decide)) (fun x hx => own_set (h.vo x hx) h.bt (by decide))
theorem RX.putW {w wr : World} {N ge gt : Nat} {u : Tx} {ls : List UInt8} (h : RX w wr N ge gt u ls) {A : Option Addr} {c : Nat} {ks : List Bs} (ho : wr.ownsRow w.heap.size 9 1 (.slice A ks.length c) ks.length (sts ks)) :
    RX w (wr.setCell ⟨gt, 2, none⟩ (.slice A ks.length c)) N ge gt ⟨u.kind, u.ra, u.rc, u.reads, A, c, ks, u.oa, u.oc, u.ops, u.to⟩ ls :=
  h.put 2 _ (by unfold txa; simp only [List.setIfInBounds_toArray, List.set_cons_zero, List.set_cons_succ]) (own_set h.ro h.bt (by decide)) (own_set ho h.bt (by decide)) (own_set h.oo h.bt (by decide)) (fun x hx => own_set (h.vo x hx) h.bt (by decide))
/-- behind the append of an operation. -/
theorem RX.grown {w wr w' : World} {N ge gt : Nat} {u : Tx} {ls : List UInt8} (h : RX w wr N ge gt u ls) (hg : wr.grownBy w' (Value.slice u.oa u.ops.length u.oc).ownBlock) :
    RE w' N ge ls ∧ Bk w' gt 30 (txa u) ∧ Bk w' w.heap.size 79 #[.pointer (some ⟨ge, 0, none⟩)] :=
  ⟨h.re.grown h.oo h.nw hg, h.bt.fr (Fr.ofGrown hg) (fun e => own_apart h.oo h.bt (by decide) e.symm), h.box.fr (Fr.ofGrown hg) (fun e => own_apart h.oo h.box (by decide) e.symm)⟩
theorem RX.push {w wr w' : World} {N ge gt : Nat} {u : Tx} {ls : List UInt8} (h : RX w wr N ge gt u ls) (hg : wr.grownBy w' (Value.slice u.oa u.ops.length u.oc).ownBlock) {A : Option Addr} {c : Nat} {x : Opn}
    (ho : w'.ownsRow w.heap.size 47 4 (.slice A (u.ops.length + 1) c) (u.ops.length + 1) (opsc u.ops ++ opc x)) (hx : wr.ownsRow w.heap.size 5 1 (sl x.val) x.val.2.2.length (cb x.val.2.2)) :
    RX w (w'.setCell ⟨gt, 3, none⟩ (.slice A (u.ops.length + 1) c)) N ge gt ⟨u.kind, u.ra, u.rc, u.reads, u.wa, u.wc, u.writes, A, c, u.ops ++ [x], u.to⟩ ls := by
  obtain ⟨g1, g2, g3⟩ := h.gl
  have hl := h.lt
  obtain ⟨k1, k2, k3⟩ := h.grown hg
  have hfg := Fr.ofGrown hg
  have hk : ∀ {e : TypeId} {size n : Nat} {v : Value} {xs : List Value}, wr.ownsRow w.heap.size e size v n xs → e ≠ 47 → w'.ownsRow w.heap.size e size v n xs := fun hh hne =>
    own_fr hh hfg fun _ hk e => own_ne h.oo hh hne.symm hk e.symm
  have hf2 : Fr (fun k => k = gt) w' (w'.setCell ⟨gt, 3, none⟩ (.slice A (u.ops.length + 1) c)) := (Fr.refl (fun k => k = gt) w').setCell (p := ⟨gt, 3, none⟩) (fun _ => rfl) _
  have hlen : (u.ops ++ [x]).length = u.ops.length + 1 := by simp
  have hcs : opsc (u.ops ++ [x]) = opsc u.ops ++ opc x := by rw [opsc_append]; simp [opsc]
  refine ⟨k1.fr hf2 (fun k hk e => by omega), h.nw, k3.fr hf2 (by omega), (h.res.fr hfg (fun e => own_apart h.oo h.res (by decide) e.symm)).fr hf2 (by omega), ?_, h.lt,
    own_set (hk h.ro (by decide)) k2 (by decide), own_set (hk h.wo (by decide)) k2 (by decide), ?_, ?_, ?_⟩
  · refine Bk.cast (k2.put 3 (.slice A (u.ops.length + 1) c)) ?_
    unfold txa
    simp only [List.setIfInBounds_toArray, List.set_cons_zero, List.set_cons_succ, hlen]
  · show World.ownsRow _ _ _ _ (.slice A (u.ops ++ [x]).length c) (u.ops ++ [x]).length (opsc (u.ops ++ [x]))
    rw [hlen, hcs]
    exact own_set ho k2 (by decide)
  · intro y hy
    rcases List.mem_append.1 hy with hy | hy
    · exact own_set (hk (h.vo y hy) (by decide)) k2 (by decide)
    · rw [List.mem_singleton.1 hy]
      exact own_set (hk hx (by decide)) k2 (by decide)
  · exact (h.fr.grown hg (fun k hk hlt => absurd (own_blk h.oo hk).1 (by omega))).step hf2 (fun k hk e => by omega)
def Opn.flat (x : Opn) : Int × Bs × Bs × Int := (x.kind, x.key, x.val.2.2, x.n)
def POp.flat (p : POp) : Int × Bs × Bs × Int := (sm p.kind, p.key, p.val, unf p.z)
end Go.Proofs.Ytakbjjohfcgaoaa

namespace Go.Proofs.Ytakbjjohfcgaoaa
open Go.RowKit

theorem step_appO {P : Program} {w : World} {ops : Array Oper} {o : Oper} {a : Act} {K : Act → World → Prop} {Q : Exit → Act → World → Prop} {E : Prop} (hgd : o.guard = none) (s x : Operand) (t : TypeId)
    (ho : o.op = .call { callee := .builtin .append, args := #[s, x], argTypes := #[t, t] })
    (base : Nat) (e : TypeId) (i : TypeInfo) (z : Value) (size bytes : Nat) (ht : P.underlying t = some (.slice e)) (hi : P.info? e = some i) (hz : i.zero = some z)
    (hsize : i.size = size) (hby : i.bytes = bytes) (hzs : z.cells.size = size) (hpos : 0 < size)
    (v : Value) (n : Nat) (xs : List Value) (hs : a.eval s = v) (hown : w.ownsRow base e size v n xs)
    (ad : Addr) (c m : Nat) (news : List Value) (hx : a.eval x = .slice (some ad) m c) (hm : news.length = m * size) (hr : Rd w (some ad) news) (h1 : ∀ u ∈ news, u.oneCell' = true)
    (h63 : n + m ≤ maxLen) (hbytes : (n + m) * bytes ≤ 140737488355328) (hbase : base ≤ w.heap.size)
    (h : ∀ v' w', w'.ownsRow base e size v' (n + m) (xs ++ news) → w.grownBy w' v.ownBlock → (v'.ownBlock = v.ownBlock ∨ v'.ownBlock = some w.heap.size) → K (a.put o.dst v') w') :
    if Region.wanted o (yielded ops a.tmps) = true then Oper.wp P o a w K Q else E := by
  have hw : Region.wanted o (yielded ops a.tmps) = true := by simp [Region.wanted, hgd]
  rw [if_pos hw]
  obtain ⟨v', w', hrun, h2, h3, _, h5⟩ := run_append_own_at (P := P) w base t o.type e i z size bytes ht hi hz hsize hby hzs hpos v n xs hown ad m c news hm
    (fun j u hu => by
      obtain ⟨b, o, e', hc⟩ := hr (by have := (List.getElem?_eq_some_iff.1 hu).1; omega)
      injection e' with e'
      subst e'
      have := hc j u hu
      unfold Addr.add
      split
      · subst j; simpa using this
      · exact this) h1 h63 hbytes hbase
  unfold Oper.wp execOp
  simp only [ho, resolve, invoke, builtin, Sem.run_bind, Sem.run_pure, Result.andThen_ok, List.map_toArray, List.map_cons, List.map_nil, hs, hx, hrun]
  exact h v' w' h2 h3 h5

/-- a transaction in memory of the call's own. -/
structure ROwn (w w' : World) (u : Tx) : Prop where
  ro : w'.ownsRow w.heap.size 9 1 (.slice u.ra u.reads.length u.rc) u.reads.length (sts u.reads)
  wo : w'.ownsRow w.heap.size 9 1 (.slice u.wa u.writes.length u.wc) u.writes.length (sts u.writes)
  oo : w'.ownsRow w.heap.size 47 4 (.slice u.oa u.ops.length u.oc) u.ops.length (opsc u.ops)
  vo : ∀ x ∈ u.ops, w'.ownsRow w.heap.size 5 1 (sl x.val) x.val.2.2.length (cb x.val.2.2)
/-- it is what the bytes say. -/
structure TxOf (u : Tx) (p : PT) : Prop where
  kind : u.kind = sm p.kind
  to_ : u.to = sm p.to_
  reads : u.reads = p.reads
  writes : u.writes = p.writes
  ops : u.ops.map Opn.flat = p.ops.map POp.flat
def RTxnPost (w : World) (N ge : Nat) (l : List UInt8) (e : Ending) (w' : World) : Prop :=
  ∃ u, e = .returned (txv u) ∧ ROwn w w' u ∧ TxOf u (rTxn l).1 ∧ RE w' N ge (rTxn l).2 ∧ Fr (fun k => k = ge) w w'

set_option maxRecDepth 100000 in
set_option maxHeartbeats 16000000 in
theorem rtxn_any (w : World) (N ge : Nat) (l : List UInt8) (he : RE w N ge l) :
    Calls Try.prog 59 #[rv ge] w (RTxnPost w N ge l) := by
  obtain ⟨i0, hi, hz0, hz1, hz2⟩ := info_parts opInfo
  obtain ⟨w0, hw0⟩ : ∃ w0, w0 = (w.alloc (.cells #[.pointer (some ⟨ge, 0, none⟩)] 79)).alloc (.cells #[.int .i64 0, .slice none 0 0, .slice none 0 0, .slice none 0 0, .int .i64 0] 30) := ⟨_, rfl⟩
  have HF : Hid (Fr (fun k => k = ge) w w0) := by
    show Fr _ _ _
    rw [hw0]
    exact ((Fr.refl _ _).alloc _).alloc _
  have HE : Hid (RE w0 N ge l) := by
    show RE _ _ _ _
    rw [hw0]
    exact he.fr (((Fr.refl NoBlk _).alloc _).alloc _) (fun _ _ h => h)
  have HB : Hid (Bk w0 w.heap.size 79 #[.pointer (some ⟨ge, 0, none⟩)]) := by
    show Bk _ _ _ _
    rw [hw0]
    exact (Bk.new w _ _).alloc _
  have HB2 : Hid (Bk w0 (w.heap.size + 1) 30 #[.int .i64 0, .slice none 0 0, .slice none 0 0, .slice none 0 0, .int .i64 0]) := by
    show Bk _ _ _ _
    rw [hw0]
    exact Bk.new2 w _ _ _
  have HSZ : Hid (w0.heap.size = w.heap.size + 2) := by
    show _ = _
    rw [hw0]; simp
  have HN : Hid (ge < N ∧ N ≤ w.heap.size) := ⟨he.lt, he.size⟩
  have KS := Lib.hid fun W L (h : RE W N ge L) => rsmall_any W N ge L h
  have KN := Lib.hid fun W L (h : RE W N ge L) => rnum_any W N ge L h
  have KT := Lib.hid fun W L (h : RE W N ge L) => rtext_any W N ge L h
  have KK := Lib.hid fun W L (h : RE W N ge L) => rkeys_any W N ge L h
  have KC := Lib.hid fun W L (h : RE W N ge L) => rcount_any W N ge 16 L h
  have KU := Lib.hid fun W z (h : z < 2 ^ 64) => unfold_any W z h
  clear he
  unfold rv at KS KN KT KK KC ⊢
  go_enter Try.func59, Try.ntmps59
  go_upto_region 1 with fail
  rw [← hw0]
  clear hw0
  go_cut [3] from 4 to 8 (fun s3 wx => ∃ gt : Nat, s3 = .pointer (some ⟨gt, 0, none⟩) ∧ RX w wx N ge gt ⟨sm (rN l).1, none, 0, [], none, 0, [], none, 0, [], sm (rN (rN l).2).1⟩ (rN (rN l).2).2)
  case first =>
    refine wp_region_held_drew (S := fun w' => w'.cell? ⟨w.heap.size, 0, none⟩ = some (.pointer (some ⟨ge, 0, none⟩))) (by kernel_rfl) ((HB.out.fr ((Fr.refl (fun k => k = ge) w0).drew) (by have := HN.out; omega)).cell 0) (fun hHeld => ?_)
    refine wpAnyH_take (i := 0) (oi := ⟨some 4, _, _, _, _, _⟩) (v := ?_) rfl (by kernel_rfl) (by kernel_rfl) (by kernel_rfl) (fun _ _ _ h => h) (Or.inl ⟨by rfl, ?_⟩) (by assumption) ?_
    rotate_left 1
    · (intro w hSw; (try dsimp only at hSw); go_simp) <;> (with_reducible rfl)
    try simp only [Act.put, List.setIfInBounds_toArray, List.set_cons_zero, List.set_cons_succ]
    refine wpAnyH_take (i := 2) (oi := ⟨some 6, _, _, _, _, _⟩) (v := ?_) rfl (by kernel_rfl) (by kernel_rfl) (by kernel_rfl) (fun _ _ _ h => h) (Or.inl ⟨by rfl, ?_⟩) (by assumption) ?_
    rotate_left 1
    · (intro w hSw; (try dsimp only at hSw); go_simp) <;> (with_reducible rfl)
    try simp only [Act.put, List.setIfInBounds_toArray, List.set_cons_zero, List.set_cons_succ]
    refine wpAnyH_ready (rs := [1, 5]) (by kernel_rfl) (by simp) ?_
    refine AllReadyH.cons (o := ⟨some 5, _, _, _, _, _⟩) rfl (fun K hK => ?_) (AllReadyH.cons (o := ⟨some 3, _, _, _, _, _⟩) rfl (fun K hK => ?_) AllReadyH.nil)
    · go_simp
      go_at_call 57
      refine (KS.out _ _ (HE.out.fr ((Fr.refl NoBlk w0).drew) (fun _ _ h => h))).mono ?_
      rintro e wa ⟨rfl, hre, hf⟩
      have HREwa := Lib.hid hre
      have HFwa : Hid (Fr (fun k => k = ge) w0 wa) := (((Fr.refl (fun k => k = ge) w0).drew)).trans hf
      have HHwa := Lib.hid hf
      clear hre hf
      clear hHeld
      refine hK.out _ _ ?_ (fun hHeld => ?_)
      · exact (HB.out.fr (HFwa.out) (by have := HN.out; omega)).cell 0
      clear hK K
      try simp only [Act.put, List.setIfInBounds_toArray, List.set_cons_zero, List.set_cons_succ]
      refine wpAnyH_ready (rs := [3, 5]) (by kernel_rfl) (by simp) ?_
      refine AllReadyH.cons (o := ⟨some 7, _, _, _, _, _⟩) rfl (fun K hK => ?_) (AllReadyH.cons (o := ⟨some 3, _, _, _, _, _⟩) rfl (fun K hK => ?_) AllReadyH.nil)
      · go_simp
        go_at_call 57
        refine (KS.out _ _ HREwa.out).mono ?_
        rintro e wb ⟨rfl, hre, hf⟩
        have HREwb := Lib.hid hre
        have HFwb : Hid (Fr (fun k => k = ge) w0 wb) := (HFwa.out).trans hf
        have HHwb := Lib.hid hf
        clear hre hf
        clear hHeld
        refine hK.out _ _ ?_ (fun hHeld => ?_)
        · exact (HB.out.fr (HFwb.out) (by have := HN.out; omega)).cell 0
        clear hK K
        try simp only [Act.put, List.setIfInBounds_toArray, List.set_cons_zero, List.set_cons_succ]
        refine wpAnyH_take (i := 4) (oi := ⟨some 8, _, _, _, _, _⟩) (v := ?_) rfl (by kernel_rfl) (by kernel_rfl) (by kernel_rfl) (fun _ _ _ h => h) (Or.inl ⟨by rfl, ?_⟩) (by assumption) ?_
        rotate_left 1
        · (intro w hSw; (try dsimp only at hSw); go_simp) <;> (with_reducible rfl)
        try simp only [Act.put, List.setIfInBounds_toArray, List.set_cons_zero, List.set_cons_succ]
        refine wpAnyH_ready (rs := [5]) (by kernel_rfl) (by simp) ?_
        refine AllReadyH.cons (o := ⟨some 3, _, _, _, _, _⟩) rfl (fun K hK => ?_) AllReadyH.nil
        go_simp
        clear hHeld
        refine hK.out _ _ ?_ (fun hHeld => ?_)
        · exact (HB.out.fr (HFwb.out.alloc _) (by have := HN.out; omega)).cell 0
        clear hK K
        try simp only [Act.put, List.setIfInBounds_toArray, List.set_cons_zero, List.set_cons_succ]
        obtain ⟨gt, hgt⟩ : ∃ gt, gt = wb.heap.size := ⟨_, rfl⟩
        have hbt : Bk (wb.alloc (.cells #[.int .i64 0, .slice none 0 0, .slice none 0 0, .slice none 0 0, .int .i64 0] 30)) gt 30 #[.int .i64 0, .slice none 0 0, .slice none 0 0, .slice none 0 0, .int .i64 0] := by rw [hgt]; exact Bk.new wb _ _
        have q0 : (wb.alloc (.cells #[.int .i64 0, .slice none 0 0, .slice none 0 0, .slice none 0 0, .int .i64 0] 30)).cell? ⟨gt, 0, none⟩ = some (.int .i64 0) := hbt.cell 0
        have g0 := hbt.free 0
        have q1 : (wb.alloc (.cells #[.int .i64 0, .slice none 0 0, .slice none 0 0, .slice none 0 0, .int .i64 0] 30)).cell? ⟨gt, 1, none⟩ = some (.slice none 0 0) := hbt.cell 1
        have g1 := hbt.free 1
        have q2 : (wb.alloc (.cells #[.int .i64 0, .slice none 0 0, .slice none 0 0, .slice none 0 0, .int .i64 0] 30)).cell? ⟨gt, 2, none⟩ = some (.slice none 0 0) := hbt.cell 2
        have g2 := hbt.free 2
        have q3 : (wb.alloc (.cells #[.int .i64 0, .slice none 0 0, .slice none 0 0, .slice none 0 0, .int .i64 0] 30)).cell? ⟨gt, 3, none⟩ = some (.slice none 0 0) := hbt.cell 3
        have g3 := hbt.free 3
        have q4 : (wb.alloc (.cells #[.int .i64 0, .slice none 0 0, .slice none 0 0, .slice none 0 0, .int .i64 0] 30)).cell? ⟨gt, 4, none⟩ = some (.int .i64 0) := hbt.cell 4
        have g4 := hbt.free 4
        have HGL : Hid (w.heap.size + 1 < gt) := by
          show _ < _
          rw [hgt]
          have := HFwb.out.size; have := HSZ.out; omega
        have hry : RE (wb.alloc (.cells #[.int .i64 0, .slice none 0 0, .slice none 0 0, .slice none 0 0, .int .i64 0] 30)) N ge (rN (rN l).2).2 := HREwb.out.fr ((Fr.refl NoBlk wb).alloc _) (fun _ _ h => h)
        have hfy : Fr (fun k => k = ge) w0 (wb.alloc (.cells #[.int .i64 0, .slice none 0 0, .slice none 0 0, .slice none 0 0, .int .i64 0] 30)) := HFwb.out.alloc _
        obtain ⟨wz, hwz⟩ : ∃ wz, wz = ((((((wb.alloc (.cells #[.int .i64 0, .slice none 0 0, .slice none 0 0, .slice none 0 0, .int .i64 0] 30)).setCell ⟨gt, 0, none⟩ (.int .i64 (sm (rN l).1))).setCell ⟨gt, 1, none⟩ (.slice none 0 0)).setCell ⟨gt, 2, none⟩ (.slice none 0 0)).setCell ⟨gt, 3, none⟩ (.slice none 0 0)).setCell ⟨gt, 4, none⟩ (.int .i64 (sm (rN (rN l).2).1))) := ⟨_, rfl⟩
        have hfz : Fr (fun k => k = gt) (wb.alloc (.cells #[.int .i64 0, .slice none 0 0, .slice none 0 0, .slice none 0 0, .int .i64 0] 30)) wz := by
          rw [hwz]
          exact ((((((Fr.refl (fun k => k = gt) (wb.alloc (.cells #[.int .i64 0, .slice none 0 0, .slice none 0 0, .slice none 0 0, .int .i64 0] 30))).setCell (p := ⟨gt, 0, none⟩) (fun _ => rfl) _).setCell (p := ⟨gt, 1, none⟩) (fun _ => rfl) _).setCell (p := ⟨gt, 2, none⟩) (fun _ => rfl) _).setCell (p := ⟨gt, 3, none⟩) (fun _ => rfl) _).setCell (p := ⟨gt, 4, none⟩) (fun _ => rfl) _)
        have hbz : Bk wz gt 30 (txa ⟨sm (rN l).1, none, 0, [], none, 0, [], none, 0, [], sm (rN (rN l).2).1⟩) := by
          rw [hwz]
          refine Bk.cast (((((hbt.put 0 (.int .i64 (sm (rN l).1))).put 1 (.slice none 0 0)).put 2 (.slice none 0 0)).put 3 (.slice none 0 0)).put 4 (.int .i64 (sm (rN (rN l).2).1))) ?_
          unfold txa
          simp only [List.setIfInBounds_toArray, List.set_cons_zero, List.set_cons_succ, List.length_nil]
        have HXZ : Hid (RX w wz N ge gt ⟨sm (rN l).1, none, 0, [], none, 0, [], none, 0, [], sm (rN (rN l).2).1⟩ (rN (rN l).2).2) :=
          have g1 := HN.out
          have g2 := HGL.out
          ⟨hry.fr hfz (fun k hk e => by omega), g1.2, (HB.out.fr hfy (by omega)).fr hfz (by omega), (HB2.out.fr hfy (by omega)).fr hfz (by omega), hbz, g2, World.ownsRow_nil _ _ _ _, World.ownsRow_nil _ _ _ _, World.ownsRow_nil _ _ _ _, (fun x hx => by cases hx), (HF.out.trans hfy).step hfz (fun k hk e => by omega)⟩
        have HWZ := Lib.hid hwz
        clear hbt hry hfy hfz hbz hwz
        rw [← hgt]
        clear hgt
        refine wpAnyH_ready (rs := [6]) (by kernel_rfl) (by simp) ?_
        refine AllReadyH.cons (o := ⟨none, _, _, _, _, _⟩) rfl (fun K hK => ?_) AllReadyH.nil
        go_simp
        rw [← HWZ.out]
        clear hHeld
        refine hK.out _ _ ?_ (fun hHeld => ?_)
        · exact HXZ.out.box.cell 0
        clear hK K
        try simp only [Act.put, List.setIfInBounds_toArray, List.set_cons_zero, List.set_cons_succ]
        refine wpAnyH_done (by kernel_rfl) ?_ _
        go_wp2_with fail
        go_meet
        exact ⟨gt, rfl, HXZ.out⟩
      · go_simp
        clear hHeld
        refine hK.out _ _ ?_ (fun hHeld => ?_)
        · exact (HB.out.fr (HFwa.out.alloc _) (by have := HN.out; omega)).cell 0
        clear hK K
        try simp only [Act.put, List.setIfInBounds_toArray, List.set_cons_zero, List.set_cons_succ]
        refine wpAnyH_ready (rs := [3]) (by kernel_rfl) (by simp) ?_
        refine AllReadyH.cons (o := ⟨some 7, _, _, _, _, _⟩) rfl (fun K hK => ?_) AllReadyH.nil
        go_simp
        go_at_call 57
        refine (KS.out _ _ (HREwa.out.fr ((Fr.refl NoBlk wa).alloc _) (fun _ _ h => h))).mono ?_
        rintro e wb ⟨rfl, hre, hf⟩
        have HREwb := Lib.hid hre
        have HFwb : Hid (Fr (fun k => k = ge) w0 wb) := ((HFwa.out.alloc _)).trans hf
        have HHwb := Lib.hid hf
        clear hre hf
        clear hHeld
        refine hK.out _ _ ?_ (fun hHeld => ?_)
        · exact (HB.out.fr (HFwb.out) (by have := HN.out; omega)).cell 0
        clear hK K
        try simp only [Act.put, List.setIfInBounds_toArray, List.set_cons_zero, List.set_cons_succ]
        refine wpAnyH_take (i := 4) (oi := ⟨some 8, _, _, _, _, _⟩) (v := ?_) rfl (by kernel_rfl) (by kernel_rfl) (by kernel_rfl) (fun _ _ _ h => h) (Or.inl ⟨by rfl, ?_⟩) (by assumption) ?_
        rotate_left 1
        · (intro w hSw; (try dsimp only at hSw); go_simp) <;> (with_reducible rfl)
        try simp only [Act.put, List.setIfInBounds_toArray, List.set_cons_zero, List.set_cons_succ]
        obtain ⟨gt, hgt⟩ : ∃ gt, gt = wa.heap.size := ⟨_, rfl⟩
        have hbt : Bk (wb) gt 30 #[.int .i64 0, .slice none 0 0, .slice none 0 0, .slice none 0 0, .int .i64 0] := by rw [hgt]; exact (Bk.new wa _ _).fr HHwb.out (by have := HN.out; have := HFwa.out.size; have := HSZ.out; omega)
        have q0 : (wb).cell? ⟨gt, 0, none⟩ = some (.int .i64 0) := hbt.cell 0
        have g0 := hbt.free 0
        have q1 : (wb).cell? ⟨gt, 1, none⟩ = some (.slice none 0 0) := hbt.cell 1
        have g1 := hbt.free 1
        have q2 : (wb).cell? ⟨gt, 2, none⟩ = some (.slice none 0 0) := hbt.cell 2
        have g2 := hbt.free 2
        have q3 : (wb).cell? ⟨gt, 3, none⟩ = some (.slice none 0 0) := hbt.cell 3
        have g3 := hbt.free 3
        have q4 : (wb).cell? ⟨gt, 4, none⟩ = some (.int .i64 0) := hbt.cell 4
        have g4 := hbt.free 4
        have HGL : Hid (w.heap.size + 1 < gt) := by
          show _ < _
          rw [hgt]
          have := HFwa.out.size; have := HSZ.out; omega
        have hry : RE (wb) N ge (rN (rN l).2).2 := HREwb.out
        have hfy : Fr (fun k => k = ge) w0 (wb) := HFwb.out
        obtain ⟨wz, hwz⟩ : ∃ wz, wz = ((((((wb).setCell ⟨gt, 0, none⟩ (.int .i64 (sm (rN l).1))).setCell ⟨gt, 1, none⟩ (.slice none 0 0)).setCell ⟨gt, 2, none⟩ (.slice none 0 0)).setCell ⟨gt, 3, none⟩ (.slice none 0 0)).setCell ⟨gt, 4, none⟩ (.int .i64 (sm (rN (rN l).2).1))) := ⟨_, rfl⟩
        have hfz : Fr (fun k => k = gt) (wb) wz := by
          rw [hwz]
          exact ((((((Fr.refl (fun k => k = gt) (wb)).setCell (p := ⟨gt, 0, none⟩) (fun _ => rfl) _).setCell (p := ⟨gt, 1, none⟩) (fun _ => rfl) _).setCell (p := ⟨gt, 2, none⟩) (fun _ => rfl) _).setCell (p := ⟨gt, 3, none⟩) (fun _ => rfl) _).setCell (p := ⟨gt, 4, none⟩) (fun _ => rfl) _)
        have hbz : Bk wz gt 30 (txa ⟨sm (rN l).1, none, 0, [], none, 0, [], none, 0, [], sm (rN (rN l).2).1⟩) := by
          rw [hwz]
          refine Bk.cast (((((hbt.put 0 (.int .i64 (sm (rN l).1))).put 1 (.slice none 0 0)).put 2 (.slice none 0 0)).put 3 (.slice none 0 0)).put 4 (.int .i64 (sm (rN (rN l).2).1))) ?_
          unfold txa
          simp only [List.setIfInBounds_toArray, List.set_cons_zero, List.set_cons_succ, List.length_nil]
        have HXZ : Hid (RX w wz N ge gt ⟨sm (rN l).1, none, 0, [], none, 0, [], none, 0, [], sm (rN (rN l).2).1⟩ (rN (rN l).2).2) :=
          have g1 := HN.out
          have g2 := HGL.out
          ⟨hry.fr hfz (fun k hk e => by omega), g1.2, (HB.out.fr hfy (by omega)).fr hfz (by omega), (HB2.out.fr hfy (by omega)).fr hfz (by omega), hbz, g2, World.ownsRow_nil _ _ _ _, World.ownsRow_nil _ _ _ _, World.ownsRow_nil _ _ _ _, (fun x hx => by cases hx), (HF.out.trans hfy).step hfz (fun k hk e => by omega)⟩
        have HWZ := Lib.hid hwz
        clear hbt hry hfy hfz hbz hwz
        rw [← hgt]
        clear hgt
        refine wpAnyH_ready (rs := [6]) (by kernel_rfl) (by simp) ?_
        refine AllReadyH.cons (o := ⟨none, _, _, _, _, _⟩) rfl (fun K hK => ?_) AllReadyH.nil
        go_simp
        rw [← HWZ.out]
        clear hHeld
        refine hK.out _ _ ?_ (fun hHeld => ?_)
        · exact HXZ.out.box.cell 0
        clear hK K
        try simp only [Act.put, List.setIfInBounds_toArray, List.set_cons_zero, List.set_cons_succ]
        refine wpAnyH_done (by kernel_rfl) ?_ _
        go_wp2_with fail
        go_meet
        exact ⟨gt, rfl, HXZ.out⟩
    · go_simp
      clear hHeld
      refine hK.out _ _ ?_ (fun hHeld => ?_)
      · exact (HB.out.fr (((Fr.refl (fun k => k = ge) w0).drew).alloc _) (by have := HN.out; omega)).cell 0
      clear hK K
      try simp only [Act.put, List.setIfInBounds_toArray, List.set_cons_zero, List.set_cons_succ]
      refine wpAnyH_ready (rs := [1]) (by kernel_rfl) (by simp) ?_
      refine AllReadyH.cons (o := ⟨some 5, _, _, _, _, _⟩) rfl (fun K hK => ?_) AllReadyH.nil
      go_simp
      go_at_call 57
      refine (KS.out _ _ (HE.out.fr (((Fr.refl NoBlk w0).drew).alloc _) (fun _ _ h => h))).mono ?_
      rintro e wa ⟨rfl, hre, hf⟩
      have HREwa := Lib.hid hre
      have HFwa : Hid (Fr (fun k => k = ge) w0 wa) := ((((Fr.refl (fun k => k = ge) w0).drew).alloc _)).trans hf
      have HHwa := Lib.hid hf
      clear hre hf
      clear hHeld
      refine hK.out _ _ ?_ (fun hHeld => ?_)
      · exact (HB.out.fr (HFwa.out) (by have := HN.out; omega)).cell 0
      clear hK K
      try simp only [Act.put, List.setIfInBounds_toArray, List.set_cons_zero, List.set_cons_succ]
      refine wpAnyH_ready (rs := [3]) (by kernel_rfl) (by simp) ?_
      refine AllReadyH.cons (o := ⟨some 7, _, _, _, _, _⟩) rfl (fun K hK => ?_) AllReadyH.nil
      go_simp
      go_at_call 57
      refine (KS.out _ _ HREwa.out).mono ?_
      rintro e wb ⟨rfl, hre, hf⟩
      have HREwb := Lib.hid hre
      have HFwb : Hid (Fr (fun k => k = ge) w0 wb) := (HFwa.out).trans hf
      have HHwb := Lib.hid hf
      clear hre hf
      clear hHeld
      refine hK.out _ _ ?_ (fun hHeld => ?_)
      · exact (HB.out.fr (HFwb.out) (by have := HN.out; omega)).cell 0
      clear hK K
      try simp only [Act.put, List.setIfInBounds_toArray, List.set_cons_zero, List.set_cons_succ]
      refine wpAnyH_take (i := 4) (oi := ⟨some 8, _, _, _, _, _⟩) (v := ?_) rfl (by kernel_rfl) (by kernel_rfl) (by kernel_rfl) (fun _ _ _ h => h) (Or.inl ⟨by rfl, ?_⟩) (by assumption) ?_
      rotate_left 1
      · (intro w hSw; (try dsimp only at hSw); go_simp) <;> (with_reducible rfl)
      try simp only [Act.put, List.setIfInBounds_toArray, List.set_cons_zero, List.set_cons_succ]
      obtain ⟨gt, hgt⟩ : ∃ gt, gt = w0.heap.size := ⟨_, rfl⟩
      have hbt : Bk (wb) gt 30 #[.int .i64 0, .slice none 0 0, .slice none 0 0, .slice none 0 0, .int .i64 0] := by rw [hgt]; exact ((Bk.new w0.drew _ _).fr HHwa.out (by have := HN.out; have := HSZ.out; show w0.heap.size ≠ ge; omega)).fr HHwb.out (by have := HN.out; have := HSZ.out; show w0.heap.size ≠ ge; omega)
      have q0 : (wb).cell? ⟨gt, 0, none⟩ = some (.int .i64 0) := hbt.cell 0
      have g0 := hbt.free 0
      have q1 : (wb).cell? ⟨gt, 1, none⟩ = some (.slice none 0 0) := hbt.cell 1
      have g1 := hbt.free 1
      have q2 : (wb).cell? ⟨gt, 2, none⟩ = some (.slice none 0 0) := hbt.cell 2
      have g2 := hbt.free 2
      have q3 : (wb).cell? ⟨gt, 3, none⟩ = some (.slice none 0 0) := hbt.cell 3
      have g3 := hbt.free 3
      have q4 : (wb).cell? ⟨gt, 4, none⟩ = some (.int .i64 0) := hbt.cell 4
      have g4 := hbt.free 4
      have HGL : Hid (w.heap.size + 1 < gt) := by
        show _ < _
        rw [hgt]
        have := HSZ.out; omega
      have hry : RE (wb) N ge (rN (rN l).2).2 := HREwb.out
      have hfy : Fr (fun k => k = ge) w0 (wb) := HFwb.out
      obtain ⟨wz, hwz⟩ : ∃ wz, wz = ((((((wb).setCell ⟨gt, 0, none⟩ (.int .i64 (sm (rN l).1))).setCell ⟨gt, 1, none⟩ (.slice none 0 0)).setCell ⟨gt, 2, none⟩ (.slice none 0 0)).setCell ⟨gt, 3, none⟩ (.slice none 0 0)).setCell ⟨gt, 4, none⟩ (.int .i64 (sm (rN (rN l).2).1))) := ⟨_, rfl⟩
      have hfz : Fr (fun k => k = gt) (wb) wz := by
        rw [hwz]
        exact ((((((Fr.refl (fun k => k = gt) (wb)).setCell (p := ⟨gt, 0, none⟩) (fun _ => rfl) _).setCell (p := ⟨gt, 1, none⟩) (fun _ => rfl) _).setCell (p := ⟨gt, 2, none⟩) (fun _ => rfl) _).setCell (p := ⟨gt, 3, none⟩) (fun _ => rfl) _).setCell (p := ⟨gt, 4, none⟩) (fun _ => rfl) _)
      have hbz : Bk wz gt 30 (txa ⟨sm (rN l).1, none, 0, [], none, 0, [], none, 0, [], sm (rN (rN l).2).1⟩) := by
        rw [hwz]
        refine Bk.cast (((((hbt.put 0 (.int .i64 (sm (rN l).1))).put 1 (.slice none 0 0)).put 2 (.slice none 0 0)).put 3 (.slice none 0 0)).put 4 (.int .i64 (sm (rN (rN l).2).1))) ?_
        unfold txa
        simp only [List.setIfInBounds_toArray, List.set_cons_zero, List.set_cons_succ, List.length_nil]
      have HXZ : Hid (RX w wz N ge gt ⟨sm (rN l).1, none, 0, [], none, 0, [], none, 0, [], sm (rN (rN l).2).1⟩ (rN (rN l).2).2) :=
        have g1 := HN.out
        have g2 := HGL.out
        ⟨hry.fr hfz (fun k hk e => by omega), g1.2, (HB.out.fr hfy (by omega)).fr hfz (by omega), (HB2.out.fr hfy (by omega)).fr hfz (by omega), hbz, g2, World.ownsRow_nil _ _ _ _, World.ownsRow_nil _ _ _ _, World.ownsRow_nil _ _ _ _, (fun x hx => by cases hx), (HF.out.trans hfy).step hfz (fun k hk e => by omega)⟩
      have HWZ := Lib.hid hwz
      clear hbt hry hfy hfz hbz hwz
      rw [← hgt]
      clear hgt
      refine wpAnyH_ready (rs := [6]) (by kernel_rfl) (by simp) ?_
      refine AllReadyH.cons (o := ⟨none, _, _, _, _, _⟩) rfl (fun K hK => ?_) AllReadyH.nil
      go_simp
      rw [← HWZ.out]
      clear hHeld
      refine hK.out _ _ ?_ (fun hHeld => ?_)
      · exact HXZ.out.box.cell 0
      clear hK K
      try simp only [Act.put, List.setIfInBounds_toArray, List.set_cons_zero, List.set_cons_succ]
      refine wpAnyH_done (by kernel_rfl) ?_ _
      go_wp2_with fail
      go_meet
      exact ⟨gt, rfl, HXZ.out⟩
  case rest =>
    obtain ⟨gt, rfl, hx⟩ := hcut
    have HX := Lib.hid hx
    clear hx HB HB2 HE HF HSZ
    obtain ⟨l2, hl2⟩ : ∃ l2, l2 = (rN (rN l).2).2 := ⟨_, rfl⟩
    obtain ⟨a1, ha1⟩ : ∃ a1, a1 = sm (rN l).1 := ⟨_, rfl⟩
    obtain ⟨a2, ha2⟩ : ∃ a2, a2 = sm (rN (rN l).2).1 := ⟨_, rfl⟩
    rw [← hl2, ← ha1, ← ha2] at HX
    have HL2 := Lib.hid hl2
    have HA1 := Lib.hid ha1
    have HA2 := Lib.hid ha2
    clear hl2 ha1 ha2
    have b0 : wc.cell? ⟨w.heap.size, 0, none⟩ = some (.pointer (some ⟨ge, 0, none⟩)) := HX.out.box.cell 0
    go_wp2_with fail
    refine (KK.out _ _ HX.out.re).mono ?_
    rintro e w1 ⟨A1, c1, rfl, ho1, hre1, hf1⟩
    have HX1 := Lib.hid (HX.out.step hf1 hre1)
    have HO1 := Lib.hid (own_base ho1 HX.out.gl.2.2)
    clear hre1 hf1 ho1 b0 HX
    obtain ⟨k1, hk1⟩ : ∃ k1, k1 = (rKeys l2).1 := ⟨_, rfl⟩
    obtain ⟨l3, hl3⟩ : ∃ l3, l3 = (rKeys l2).2 := ⟨_, rfl⟩
    rw [← hk1] at HO1 ⊢
    rw [← hl3] at HX1
    have HK1 := Lib.hid hk1
    have HL3 := Lib.hid hl3
    clear hk1 hl3
    have t1 : w1.cell? ⟨gt, 1, none⟩ = some (.slice none 0 0) := HX1.out.bt.cell 1
    have e1 := HX1.out.bt.free 1
    have HX2 := Lib.hid (HX1.out.putR HO1.out)
    obtain ⟨w2, hw2⟩ : ∃ w2, w2 = w1.setCell ⟨gt, 1, none⟩ (.slice A1 k1.length c1) := ⟨_, rfl⟩
    rw [← hw2] at HX2
    go_upto_region 3 with fail
    rw [← hw2]
    clear hw2 t1 e1 HX1 HO1
    have b0 : w2.cell? ⟨w.heap.size, 0, none⟩ = some (.pointer (some ⟨ge, 0, none⟩)) := HX2.out.box.cell 0
    go_wp2_with fail
    refine (KK.out _ _ HX2.out.re).mono ?_
    rintro e w3 ⟨A3, c3, rfl, ho3, hre3, hf3⟩
    have HX3 := Lib.hid (HX2.out.step hf3 hre3)
    have HO3 := Lib.hid (own_base ho3 HX2.out.gl.2.2)
    clear hre3 hf3 ho3 b0 HX2
    obtain ⟨k3, hk3⟩ : ∃ k3, k3 = (rKeys l3).1 := ⟨_, rfl⟩
    obtain ⟨l4, hl4⟩ : ∃ l4, l4 = (rKeys l3).2 := ⟨_, rfl⟩
    rw [← hk3] at HO3 ⊢
    rw [← hl4] at HX3
    have HK3 := Lib.hid hk3
    have HL4 := Lib.hid hl4
    clear hk3 hl4
    have t2 : w3.cell? ⟨gt, 2, none⟩ = some (.slice none 0 0) := HX3.out.bt.cell 2
    have e2 := HX3.out.bt.free 2
    have HX4 := Lib.hid (HX3.out.putW HO3.out)
    obtain ⟨w4, hw4⟩ : ∃ w4, w4 = w3.setCell ⟨gt, 2, none⟩ (.slice A3 k3.length c3) := ⟨_, rfl⟩
    rw [← hw4] at HX4
    go_upto_region 4 with fail
    rw [← hw4]
    clear hw4 t2 e2 HX3 HO3
    have b0 : w4.cell? ⟨w.heap.size, 0, none⟩ = some (.pointer (some ⟨ge, 0, none⟩)) := HX4.out.box.cell 0
    go_wp2_with fail
    refine (KC.out _ _ HX4.out.re).mono ?_
    rintro e w5 ⟨rfl, hre5, hf5⟩
    have HX5' := Lib.hid (HX4.out.step hf5 hre5)
    clear hre5 hf5 b0 HX4
    obtain ⟨n, hn⟩ : ∃ n, n = rC 16 l4 := ⟨_, rfl⟩
    obtain ⟨l5, hl5⟩ : ∃ l5, l5 = (rN l4).2 := ⟨_, rfl⟩
    have hn16 : n ≤ 16 := by rw [hn]; unfold rC; omega
    rw [← hl5] at HX5'
    rw [← hn]
    have HNN := Lib.hid hn
    have HL5 := Lib.hid hl5
    clear hn hl5
    go_wp2_with fail
    go_loopw [17] (fun z wr => ∃ (k : Nat) (A : Option Addr) (c : Nat) (os : List Opn), k ≤ n ∧ z = .int .u64 (k : Int) ∧ Hid (os.map Opn.flat = (rep rOpn k l5).1.map POp.flat) ∧ Hid (RX w wr N ge gt ⟨a1, A1, c1, k1, A3, c3, k3, A, c, os, a2⟩ (rep rOpn k l5).2)) (fun z _ => n - (intOf z).toNat)
    case atStart => exact ⟨0, none, 0, [], by omega, rfl, rfl, HX5'⟩
    case round =>
      clear HX5'
      obtain ⟨k, A, c, os, hk, rfl, HM, HX⟩ := hrel
      have HLN : Hid (os.length = k) := by
        have h := congrArg List.length HM.out
        rw [List.length_map, List.length_map, rep_len] at h
        exact h
      by_cases hlt : k < n
      · have hlt' : (k : Int) < (n : Int) := by omega
        obtain ⟨ls, hls⟩ : ∃ ls, ls = (rep rOpn k l5).2 := ⟨_, rfl⟩
        obtain ⟨u, hu⟩ : ∃ u : Tx, u = ⟨a1, A1, c1, k1, A3, c3, k3, A, c, os, a2⟩ := ⟨_, rfl⟩
        rw [← hls, ← hu] at HX
        have HX0 : Hid (RX w wr.drew N ge gt u ls) := HX.out.nofr (Fr.refl _ _).drew
        have HOL : Hid (u.ops.length ≤ 16) := by
          show _ ≤ _
          rw [hu]
          show os.length ≤ 16
          have := HLN.out
          omega
        have NEXT : Hid (∀ (W : World) (A' : Option Addr) (c' : Nat) (p : Option Addr × Nat) (X5 X8 : Bs), X5 = (rT (rN ls).2).1 → X8 = (rT (rT (rN ls).2).2).1 →
            RX w W N ge gt ⟨u.kind, u.ra, u.rc, u.reads, u.wa, u.wc, u.writes, A', c', u.ops ++ [⟨sm (rN ls).1, X5, (p.1, p.2, X8), unf (rN (rT (rT (rN ls).2).2).2).1⟩], u.to⟩ (rN (rT (rT (rN ls).2).2).2).2 →
            ∃ (k' : Nat) (A : Option Addr) (c : Nat) (os : List Opn), k' ≤ n ∧ IntKind.u64.wrap ((k : Int) + 1) = (k' : Int) ∧ k' = k + 1 ∧ Hid (os.map Opn.flat = (rep rOpn k' l5).1.map POp.flat) ∧ Hid (RX w W N ge gt ⟨a1, A1, c1, k1, A3, c3, k3, A, c, os, a2⟩ (rep rOpn k' l5).2)) := by
          rintro W A' c' p X5 X8 rfl rfl hx
          have hs := rep_snoc rOpn k l5
          refine ⟨k + 1, A', c', os ++ [⟨sm (rN ls).1, (rT (rN ls).2).1, (p.1, p.2, (rT (rT (rN ls).2).2).1), unf (rN (rT (rT (rN ls).2).2).2).1⟩], by omega, IntWalk.u64_in _ (by omega), rfl, ?_, ?_⟩
          rotate_left
          · show RX _ _ _ _ _ _ _
            rw [hs, ← hls]
            rw [hu] at hx
            exact hx
          · show List.map _ _ = _
            rw [hs, ← hls, List.map_append, List.map_append, HM.out]
            rfl
        have HLS := Lib.hid hls
        have HU := Lib.hid hu
        clear HX HM hls hu HLN
        go_wp2_with fail
        refine wp_region_held_drew (S := fun w' => w'.cell? ⟨w.heap.size, 0, none⟩ = some (.pointer (some ⟨ge, 0, none⟩))) (by kernel_rfl) (HX0.out.box.cell 0) (fun hHeld => ?_)
        refine wpAnyH_take (i := 0) (oi := ⟨some 19, _, _, _, _, _⟩) (v := ?_) rfl (by kernel_rfl) (by kernel_rfl) (by kernel_rfl) (fun _ _ _ h => h) (Or.inl ⟨by rfl, ?_⟩) (by assumption) ?_
        rotate_left 1
        · (intro w hSw; (try dsimp only at hSw); go_simp) <;> (with_reducible rfl)
        try simp only [Act.put, List.setIfInBounds_toArray, List.set_cons_zero, List.set_cons_succ]
        refine wpAnyH_take (i := 2) (oi := ⟨some 21, _, _, _, _, _⟩) (v := ?_) rfl (by kernel_rfl) (by kernel_rfl) (by kernel_rfl) (fun _ _ _ h => h) (Or.inl ⟨by rfl, ?_⟩) (by assumption) ?_
        rotate_left 1
        · (intro w hSw; (try dsimp only at hSw); go_simp) <;> (with_reducible rfl)
        try simp only [Act.put, List.setIfInBounds_toArray, List.set_cons_zero, List.set_cons_succ]
        refine wpAnyH_take (i := 4) (oi := ⟨some 23, _, _, _, _, _⟩) (v := ?_) rfl (by kernel_rfl) (by kernel_rfl) (by kernel_rfl) (fun _ _ _ h => h) (Or.inl ⟨by rfl, ?_⟩) (by assumption) ?_
        rotate_left 1
        · (intro w hSw; (try dsimp only at hSw); go_simp) <;> (with_reducible rfl)
        try simp only [Act.put, List.setIfInBounds_toArray, List.set_cons_zero, List.set_cons_succ]
        refine wpAnyH_take (i := 7) (oi := ⟨some 26, _, _, _, _, _⟩) (v := ?_) rfl (by kernel_rfl) (by kernel_rfl) (by kernel_rfl) (fun _ _ _ h => h) (Or.inl ⟨by rfl, ?_⟩) (by assumption) ?_
        rotate_left 1
        · (intro w hSw; (try dsimp only at hSw); go_simp) <;> (with_reducible rfl)
        try simp only [Act.put, List.setIfInBounds_toArray, List.set_cons_zero, List.set_cons_succ]
        refine wpAnyH_take (i := 9) (oi := ⟨some 28, _, _, _, _, _⟩) (v := ?_) rfl (by kernel_rfl) (by kernel_rfl) (by kernel_rfl) (fun _ _ _ h => h) (Or.inl ⟨by rfl, ?_⟩) (by assumption) ?_
        rotate_left 1
        · (intro w hSw; (try dsimp only at hSw); go_simp) <;> (with_reducible rfl)
        try simp only [Act.put, List.setIfInBounds_toArray, List.set_cons_zero, List.set_cons_succ]
        refine wpAnyH_ready (rs := [1, 3]) (by kernel_rfl) (by simp) ?_
        refine AllReadyH.cons (o := ⟨some 20, _, _, _, _, _⟩) rfl (fun K hK => ?_) (AllReadyH.cons (o := ⟨some 22, _, _, _, _, _⟩) rfl (fun K hK => ?_) AllReadyH.nil)
        · have o3 : (wr.drew).cell? ⟨gt, 3, none⟩ = some (.slice u.oa u.ops.length u.oc) := HX0.out.bt.cell 3
          go_simp
          clear hHeld
          refine hK.out _ _ ?_ (fun hHeld => ?_)
          · exact HX0.out.box.cell 0
          clear hK K
          try simp only [Act.put, List.setIfInBounds_toArray, List.set_cons_zero, List.set_cons_succ]
          clear o3
          refine wpAnyH_ready (rs := [3]) (by kernel_rfl) (by simp) ?_
          refine AllReadyH.cons (o := ⟨some 22, _, _, _, _, _⟩) rfl (fun K hK => ?_) AllReadyH.nil
          go_simp
          go_at_call 57
          refine (KS.out _ _ HX0.out.re).mono ?_
          rintro e wa ⟨rfl, hre, hf⟩
          have HXa := Lib.hid (HX0.out.step hf hre)
          clear hre hf
          clear hHeld
          refine hK.out _ _ ?_ (fun hHeld => ?_)
          · exact HXa.out.box.cell 0
          clear hK K
          try simp only [Act.put, List.setIfInBounds_toArray, List.set_cons_zero, List.set_cons_succ]
          refine wpAnyH_ready (rs := [5]) (by kernel_rfl) (by simp) ?_
          refine AllReadyH.cons (o := ⟨some 24, _, _, _, _, _⟩) rfl (fun K hK => ?_) AllReadyH.nil
          go_simp
          go_at_call 88
          refine (KT.out _ _ HXa.out.re).mono ?_
          rintro e wb ⟨v5, rfl, ho5, hre, hf⟩
          obtain ⟨A5, c5, rfl, _, _⟩ := own_form ho5
          have HXb := Lib.hid (HXa.out.step hf hre)
          obtain ⟨X5, hX5⟩ : ∃ X5, X5 = (rT (rN ls).2).1 := ⟨_, rfl⟩
          rw [← hX5] at ho5 ⊢
          obtain ⟨n5, hn5⟩ : ∃ n5, n5 = X5.length := ⟨_, rfl⟩
          have SF : Hid (∀ W, Fr (fun k => k = ge ∨ (Value.slice u.oa u.ops.length u.oc).ownBlock = some k ∨ k = gt) wb W → W.cell? ⟨w.heap.size, 0, none⟩ = some (.pointer (some ⟨ge, 0, none⟩)) ∧ (convert 45 9 (.slice A5 n5 c5)).run Try.prog W = .ok (.string (bstr X5)) W) := fun W hW => by
            have g1 := HXa.out.gl
            have g2 := HXa.out.bt.lt
            refine ⟨(HXb.out.box.fr hW ?_).cell 0, strOf W A5 _ c5 X5 hn5 (Rd.of_own (own_fr ho5 hW ?_))⟩
            · rintro (e | e | e)
              · omega
              · exact own_apart HXb.out.oo HXb.out.box (by decide) e
              · have := HXb.out.lt; omega
            · rintro k hk (e | e | e)
              · have := (own_blk ho5 hk).1; omega
              · have := (own_blk ho5 hk).1; have := (own_blk HXa.out.oo e).2; omega
              · have := (own_blk ho5 hk).1; omega
          have HX5 := Lib.hid hX5
          rw [← hn5]
          have HN5 := Lib.hid hn5
          clear hre hf ho5 hX5 hn5
          clear hHeld
          refine hK.out _ _ ?_ (fun hHeld => ?_)
          · exact HXb.out.box.cell 0
          clear hK K
          try simp only [Act.put, List.setIfInBounds_toArray, List.set_cons_zero, List.set_cons_succ]
          refine wpAnyH_more (S' := fun w' => w'.cell? ⟨w.heap.size, 0, none⟩ = some (.pointer (some ⟨ge, 0, none⟩)) ∧ (convert 45 9 (.slice A5 n5 c5)).run Try.prog w' = .ok (.string (bstr X5)) w') (fun _ h => h.1) _ _ _ _ ?_
          clear hHeld
          have hHeld : (fun w' => w'.cell? ⟨w.heap.size, 0, none⟩ = some (.pointer (some ⟨ge, 0, none⟩)) ∧ (convert 45 9 (.slice A5 n5 c5)).run Try.prog w' = .ok (.string (bstr X5)) w') wb := SF.out wb (Fr.refl _ _)
          refine wpAnyH_take (i := 6) (oi := ⟨some 25, _, _, _, _, _⟩) (v := ?_) rfl (by kernel_rfl) (by kernel_rfl) (by kernel_rfl) (fun _ _ _ h => h) (Or.inl ⟨by rfl, ?_⟩) (by assumption) ?_
          rotate_left 1
          · (intro w hSw; (try dsimp only at hSw); obtain ⟨hs1, hs2⟩ := hSw; go_simp) <;> (with_reducible rfl)
          try simp only [Act.put, List.setIfInBounds_toArray, List.set_cons_zero, List.set_cons_succ]
          refine wpAnyH_ready (rs := [8]) (by kernel_rfl) (by simp) ?_
          refine AllReadyH.cons (o := ⟨some 27, _, _, _, _, _⟩) rfl (fun K hK => ?_) AllReadyH.nil
          go_simp
          go_at_call 88
          refine (KT.out _ _ HXb.out.re).mono ?_
          rintro e wc ⟨v8, rfl, ho8, hre, hf⟩
          obtain ⟨A8, c8, rfl, hc8, hA8⟩ := own_form ho8
          have HXc := Lib.hid (HXb.out.step hf hre)
          have HFc : Hid (Fr (fun k => k = ge ∨ (Value.slice u.oa u.ops.length u.oc).ownBlock = some k ∨ k = gt) wb wc) := hf.mono fun _ _ e => Or.inl e
          obtain ⟨X8, hX8⟩ : ∃ X8, X8 = (rT (rT (rN ls).2).2).1 := ⟨_, rfl⟩
          rw [← hX8] at ho8 ⊢
          have HO8 := Lib.hid ho8
          have HX8 := Lib.hid hX8
          clear hre hf ho8 hX8 hc8 hA8
          clear hHeld
          refine hK.out _ _ ?_ (fun hHeld => ?_)
          · exact SF.out _ HFc.out
          clear hK K
          try simp only [Act.put, List.setIfInBounds_toArray, List.set_cons_zero, List.set_cons_succ]
          refine wpAnyH_ready (rs := [10]) (by kernel_rfl) (by simp) ?_
          refine AllReadyH.cons (o := ⟨some 29, _, _, _, _, _⟩) rfl (fun K hK => ?_) AllReadyH.nil
          go_simp
          go_at_call 58
          refine (KN.out _ _ HXc.out.re).mono ?_
          rintro e wd ⟨rfl, hre, hf⟩
          have HXd := Lib.hid (HXc.out.step hf hre)
          have HFd : Hid (Fr (fun k => k = ge ∨ (Value.slice u.oa u.ops.length u.oc).ownBlock = some k ∨ k = gt) wb wd) := HFc.out.trans (hf.mono fun _ _ e => Or.inl e)
          have HO8d : Hid (wd.ownsRow w.heap.size 5 1 (.slice A8 X8.length c8) X8.length (cb X8)) := own_base (own_fr HO8.out hf (fun k hk e => by have := (own_blk HO8.out hk).1; have := HXb.out.gl; omega)) HXb.out.gl.2.2
          have hz := rN_lt (rT (rT (rN ls).2).2).2
          clear hre hf
          clear hHeld
          refine hK.out _ _ ?_ (fun hHeld => ?_)
          · exact SF.out _ HFd.out
          clear hK K
          try simp only [Act.put, List.setIfInBounds_toArray, List.set_cons_zero, List.set_cons_succ]
          refine wpAnyH_ready (rs := [11]) (by kernel_rfl) (by simp) ?_
          refine AllReadyH.cons (o := ⟨some 30, _, _, _, _, _⟩) rfl (fun K hK => ?_) AllReadyH.nil
          go_simp
          go_at_call 89
          refine (KU.out _ _ hz).mono ?_
          rintro e _ ⟨rfl, rfl⟩
          clear hz
          clear hHeld
          refine hK.out _ _ ?_ (fun hHeld => ?_)
          · exact SF.out _ HFd.out
          clear hK K
          try simp only [Act.put, List.setIfInBounds_toArray, List.set_cons_zero, List.set_cons_succ]
          refine wpAnyH_take (i := 12) (oi := ⟨some 31, _, _, _, _, _⟩) (v := ?_) rfl (by kernel_rfl) (by kernel_rfl) (by kernel_rfl) (fun _ _ _ h => h) (Or.inl ⟨by rfl, ?_⟩) (by assumption) ?_
          rotate_left 1
          · (intro w hSw; (try dsimp only at hSw); obtain ⟨hs1, hs2⟩ := hSw; go_simp) <;> (with_reducible rfl)
          try simp only [Act.put, List.setIfInBounds_toArray, List.set_cons_zero, List.set_cons_succ]
          refine wpAnyH_ready (rs := [13]) (by kernel_rfl) (by simp) ?_
          refine AllReadyH.cons (o := ⟨some 32, _, _, _, _, _⟩) rfl (fun K hK => ?_) AllReadyH.nil
          go_simp
          clear hHeld
          refine hK.out _ _ ?_ (fun hHeld => ?_)
          · exact SF.out _ (HFd.out.alloc _)
          clear hK K
          try simp only [Act.put, List.setIfInBounds_toArray, List.set_cons_zero, List.set_cons_succ]
          refine wpAnyH_ready (rs := [14]) (by kernel_rfl) (by simp) ?_
          refine AllReadyH.cons (o := ⟨some 33, _, _, _, _, _⟩) rfl (fun K hK => ?_) AllReadyH.nil
          have HXe := Lib.hid (HXd.out.nofr ((Fr.refl NoBlk wd).alloc (.cells #[.int .i64 (sm (rN ls).1), .string (bstr X5), .slice A8 X8.length c8, .int .i64 (unf (rN (rT (rT (rN ls).2).2).2).1)] 47)))
          have HR13 : Hid (Rd (wd.alloc (.cells #[.int .i64 (sm (rN ls).1), .string (bstr X5), .slice A8 X8.length c8, .int .i64 (unf (rN (rT (rT (rN ls).2).2).2).1)] 47)) (some ⟨wd.heap.size, 0, none⟩) (opc (⟨sm (rN ls).1, X5, (A8, c8, X8), unf (rN (rT (rT (rN ls).2).2).2).1⟩ : Opn))) := Rd.of_cells (Bk.new wd _ _)
          have HO8e := Lib.hid (own_fr HO8d.out ((Fr.refl NoBlk wd).alloc (.cells #[.int .i64 (sm (rN ls).1), .string (bstr X5), .slice A8 X8.length c8, .int .i64 (unf (rN (rT (rT (rN ls).2).2).2).1)] 47)) (fun _ _ h => h))
          have HFe := Lib.hid (HFd.out.alloc (.cells #[.int .i64 (sm (rN ls).1), .string (bstr X5), .slice A8 X8.length c8, .int .i64 (unf (rN (rT (rT (rN ls).2).2).2).1)] 47))
          refine step_appO rfl _ _ 28 rfl w.heap.size 47 i0 _ 4 56 Try.underlying28 hi hz0 hz1 hz2 rfl (by decide) (.slice u.oa u.ops.length u.oc) u.ops.length (opsc u.ops) rfl HXe.out.oo ⟨wd.heap.size, 0, none⟩ 1 1 (opc (⟨sm (rN ls).1, X5, (A8, c8, X8), unf (rN (rT (rT (rN ls).2).2).2).1⟩ : Opn)) rfl rfl HR13.out ?q1 ?q2 ?q3 HXe.out.fr.size ?_
          case q1 => intro y hy; simp only [opc, List.mem_cons, List.not_mem_nil, or_false] at hy; rcases hy with rfl | rfl | rfl | rfl <;> rfl
          case q2 => have := HOL.out; unfold maxLen; omega
          case q3 => have := HOL.out; omega
          intro v14 w14 ho14 hg14 _
          obtain ⟨A14, c14, rfl, _, _⟩ := own_form ho14
          obtain ⟨k1, k2, k3⟩ := HXe.out.grown hg14
          have o14 : w14.cell? ⟨gt, 3, none⟩ = some (.slice u.oa u.ops.length u.oc) := k2.cell 3
          have f14 := k2.free 3
          have HF14 : Hid (Fr (fun k => k = ge ∨ (Value.slice u.oa u.ops.length u.oc).ownBlock = some k ∨ k = gt) wb w14) := HFe.out.grown hg14 (fun k hk _ => Or.inr (Or.inl hk))
          have HXF := Lib.hid (HXe.out.push hg14 ho14 HO8e.out)
          have HS14 := Lib.hid (SF.out _ (HF14.out.setCell (p := ⟨gt, 3, none⟩) (fun _ => Or.inr (Or.inr rfl)) (.slice A14 (u.ops.length + 1) c14)))
          clear ho14 hg14 k1 k2 k3
          clear hHeld
          refine hK.out _ _ ?_ (fun hHeld => ?_)
          · exact SF.out _ HF14.out
          clear hK K
          try simp only [Act.put, List.setIfInBounds_toArray, List.set_cons_zero, List.set_cons_succ]
          refine wpAnyH_take (i := 15) (oi := ⟨some 34, _, _, _, _, _⟩) (v := ?_) rfl (by kernel_rfl) (by kernel_rfl) (by kernel_rfl) (fun _ _ _ h => h) (Or.inl ⟨by rfl, ?_⟩) (by assumption) ?_
          rotate_left 1
          · (intro w hSw; (try dsimp only at hSw); go_simp) <;> (with_reducible rfl)
          try simp only [Act.put, List.setIfInBounds_toArray, List.set_cons_zero, List.set_cons_succ]
          refine wpAnyH_ready (rs := [16]) (by kernel_rfl) (by simp) ?_
          refine AllReadyH.cons (o := ⟨none, _, _, _, _, _⟩) rfl (fun K hK => ?_) AllReadyH.nil
          go_simp
          clear hHeld
          refine hK.out _ _ ?_ (fun hHeld => ?_)
          · exact HS14.out
          clear hK K
          try simp only [Act.put, List.setIfInBounds_toArray, List.set_cons_zero, List.set_cons_succ]
          refine wpAnyH_done (by kernel_rfl) ?_ _
          have HNX := Lib.hid (NEXT.out _ _ _ (A8, c8) _ _ HX5.out HX8.out HXF.out)
          clear HXF HXe HXd HXc HXb HXa HX0 SF HS14 HF14 HFe HFd HFc HO8 HO8d HO8e HR13
          go_wp2_with fail
          go_roundw
          case rel =>
            obtain ⟨k', A', c', os', h1, h2, rfl, h4, h5⟩ := HNX.out
            exact ⟨_, A', c', os', h1, by go_num, h4, h5⟩
          case measure => simp [intOf]; omega
        · go_simp
          go_at_call 57
          refine (KS.out _ _ HX0.out.re).mono ?_
          rintro e wa ⟨rfl, hre, hf⟩
          have HXa := Lib.hid (HX0.out.step hf hre)
          clear hre hf
          clear hHeld
          refine hK.out _ _ ?_ (fun hHeld => ?_)
          · exact HXa.out.box.cell 0
          clear hK K
          try simp only [Act.put, List.setIfInBounds_toArray, List.set_cons_zero, List.set_cons_succ]
          refine wpAnyH_ready (rs := [1, 5]) (by kernel_rfl) (by simp) ?_
          refine AllReadyH.cons (o := ⟨some 20, _, _, _, _, _⟩) rfl (fun K hK => ?_) (AllReadyH.cons (o := ⟨some 24, _, _, _, _, _⟩) rfl (fun K hK => ?_) AllReadyH.nil)
          · have o3 : (wa).cell? ⟨gt, 3, none⟩ = some (.slice u.oa u.ops.length u.oc) := HXa.out.bt.cell 3
            go_simp
            clear hHeld
            refine hK.out _ _ ?_ (fun hHeld => ?_)
            · exact HXa.out.box.cell 0
            clear hK K
            try simp only [Act.put, List.setIfInBounds_toArray, List.set_cons_zero, List.set_cons_succ]
            clear o3
            refine wpAnyH_ready (rs := [5]) (by kernel_rfl) (by simp) ?_
            refine AllReadyH.cons (o := ⟨some 24, _, _, _, _, _⟩) rfl (fun K hK => ?_) AllReadyH.nil
            go_simp
            go_at_call 88
            refine (KT.out _ _ HXa.out.re).mono ?_
            rintro e wb ⟨v5, rfl, ho5, hre, hf⟩
            obtain ⟨A5, c5, rfl, _, _⟩ := own_form ho5
            have HXb := Lib.hid (HXa.out.step hf hre)
            obtain ⟨X5, hX5⟩ : ∃ X5, X5 = (rT (rN ls).2).1 := ⟨_, rfl⟩
            rw [← hX5] at ho5 ⊢
            obtain ⟨n5, hn5⟩ : ∃ n5, n5 = X5.length := ⟨_, rfl⟩
            have SF : Hid (∀ W, Fr (fun k => k = ge ∨ (Value.slice u.oa u.ops.length u.oc).ownBlock = some k ∨ k = gt) wb W → W.cell? ⟨w.heap.size, 0, none⟩ = some (.pointer (some ⟨ge, 0, none⟩)) ∧ (convert 45 9 (.slice A5 n5 c5)).run Try.prog W = .ok (.string (bstr X5)) W) := fun W hW => by
              have g1 := HXa.out.gl
              have g2 := HXa.out.bt.lt
              refine ⟨(HXb.out.box.fr hW ?_).cell 0, strOf W A5 _ c5 X5 hn5 (Rd.of_own (own_fr ho5 hW ?_))⟩
              · rintro (e | e | e)
                · omega
                · exact own_apart HXb.out.oo HXb.out.box (by decide) e
                · have := HXb.out.lt; omega
              · rintro k hk (e | e | e)
                · have := (own_blk ho5 hk).1; omega
                · have := (own_blk ho5 hk).1; have := (own_blk HXa.out.oo e).2; omega
                · have := (own_blk ho5 hk).1; omega
            have HX5 := Lib.hid hX5
            rw [← hn5]
            have HN5 := Lib.hid hn5
            clear hre hf ho5 hX5 hn5
            clear hHeld
            refine hK.out _ _ ?_ (fun hHeld => ?_)
            · exact HXb.out.box.cell 0
            clear hK K
            try simp only [Act.put, List.setIfInBounds_toArray, List.set_cons_zero, List.set_cons_succ]
            refine wpAnyH_more (S' := fun w' => w'.cell? ⟨w.heap.size, 0, none⟩ = some (.pointer (some ⟨ge, 0, none⟩)) ∧ (convert 45 9 (.slice A5 n5 c5)).run Try.prog w' = .ok (.string (bstr X5)) w') (fun _ h => h.1) _ _ _ _ ?_
            clear hHeld
            have hHeld : (fun w' => w'.cell? ⟨w.heap.size, 0, none⟩ = some (.pointer (some ⟨ge, 0, none⟩)) ∧ (convert 45 9 (.slice A5 n5 c5)).run Try.prog w' = .ok (.string (bstr X5)) w') wb := SF.out wb (Fr.refl _ _)
            refine wpAnyH_take (i := 6) (oi := ⟨some 25, _, _, _, _, _⟩) (v := ?_) rfl (by kernel_rfl) (by kernel_rfl) (by kernel_rfl) (fun _ _ _ h => h) (Or.inl ⟨by rfl, ?_⟩) (by assumption) ?_
            rotate_left 1
            · (intro w hSw; (try dsimp only at hSw); obtain ⟨hs1, hs2⟩ := hSw; go_simp) <;> (with_reducible rfl)
            try simp only [Act.put, List.setIfInBounds_toArray, List.set_cons_zero, List.set_cons_succ]
            refine wpAnyH_ready (rs := [8]) (by kernel_rfl) (by simp) ?_
            refine AllReadyH.cons (o := ⟨some 27, _, _, _, _, _⟩) rfl (fun K hK => ?_) AllReadyH.nil
            go_simp
            go_at_call 88
            refine (KT.out _ _ HXb.out.re).mono ?_
            rintro e wc ⟨v8, rfl, ho8, hre, hf⟩
            obtain ⟨A8, c8, rfl, hc8, hA8⟩ := own_form ho8
            have HXc := Lib.hid (HXb.out.step hf hre)
            have HFc : Hid (Fr (fun k => k = ge ∨ (Value.slice u.oa u.ops.length u.oc).ownBlock = some k ∨ k = gt) wb wc) := hf.mono fun _ _ e => Or.inl e
            obtain ⟨X8, hX8⟩ : ∃ X8, X8 = (rT (rT (rN ls).2).2).1 := ⟨_, rfl⟩
            rw [← hX8] at ho8 ⊢
            have HO8 := Lib.hid ho8
            have HX8 := Lib.hid hX8
            clear hre hf ho8 hX8 hc8 hA8
            clear hHeld
            refine hK.out _ _ ?_ (fun hHeld => ?_)
            · exact SF.out _ HFc.out
            clear hK K
            try simp only [Act.put, List.setIfInBounds_toArray, List.set_cons_zero, List.set_cons_succ]
            refine wpAnyH_ready (rs := [10]) (by kernel_rfl) (by simp) ?_
            refine AllReadyH.cons (o := ⟨some 29, _, _, _, _, _⟩) rfl (fun K hK => ?_) AllReadyH.nil
            go_simp
            go_at_call 58
            refine (KN.out _ _ HXc.out.re).mono ?_
            rintro e wd ⟨rfl, hre, hf⟩
            have HXd := Lib.hid (HXc.out.step hf hre)
            have HFd : Hid (Fr (fun k => k = ge ∨ (Value.slice u.oa u.ops.length u.oc).ownBlock = some k ∨ k = gt) wb wd) := HFc.out.trans (hf.mono fun _ _ e => Or.inl e)
            have HO8d : Hid (wd.ownsRow w.heap.size 5 1 (.slice A8 X8.length c8) X8.length (cb X8)) := own_base (own_fr HO8.out hf (fun k hk e => by have := (own_blk HO8.out hk).1; have := HXb.out.gl; omega)) HXb.out.gl.2.2
            have hz := rN_lt (rT (rT (rN ls).2).2).2
            clear hre hf
            clear hHeld
            refine hK.out _ _ ?_ (fun hHeld => ?_)
            · exact SF.out _ HFd.out
            clear hK K
            try simp only [Act.put, List.setIfInBounds_toArray, List.set_cons_zero, List.set_cons_succ]
            refine wpAnyH_ready (rs := [11]) (by kernel_rfl) (by simp) ?_
            refine AllReadyH.cons (o := ⟨some 30, _, _, _, _, _⟩) rfl (fun K hK => ?_) AllReadyH.nil
            go_simp
            go_at_call 89
            refine (KU.out _ _ hz).mono ?_
            rintro e _ ⟨rfl, rfl⟩
            clear hz
            clear hHeld
            refine hK.out _ _ ?_ (fun hHeld => ?_)
            · exact SF.out _ HFd.out
            clear hK K
            try simp only [Act.put, List.setIfInBounds_toArray, List.set_cons_zero, List.set_cons_succ]
            refine wpAnyH_take (i := 12) (oi := ⟨some 31, _, _, _, _, _⟩) (v := ?_) rfl (by kernel_rfl) (by kernel_rfl) (by kernel_rfl) (fun _ _ _ h => h) (Or.inl ⟨by rfl, ?_⟩) (by assumption) ?_
            rotate_left 1
            · (intro w hSw; (try dsimp only at hSw); obtain ⟨hs1, hs2⟩ := hSw; go_simp) <;> (with_reducible rfl)
            try simp only [Act.put, List.setIfInBounds_toArray, List.set_cons_zero, List.set_cons_succ]
            refine wpAnyH_ready (rs := [13]) (by kernel_rfl) (by simp) ?_
            refine AllReadyH.cons (o := ⟨some 32, _, _, _, _, _⟩) rfl (fun K hK => ?_) AllReadyH.nil
            go_simp
            clear hHeld
            refine hK.out _ _ ?_ (fun hHeld => ?_)
            · exact SF.out _ (HFd.out.alloc _)
            clear hK K
            try simp only [Act.put, List.setIfInBounds_toArray, List.set_cons_zero, List.set_cons_succ]
            refine wpAnyH_ready (rs := [14]) (by kernel_rfl) (by simp) ?_
            refine AllReadyH.cons (o := ⟨some 33, _, _, _, _, _⟩) rfl (fun K hK => ?_) AllReadyH.nil
            have HXe := Lib.hid (HXd.out.nofr ((Fr.refl NoBlk wd).alloc (.cells #[.int .i64 (sm (rN ls).1), .string (bstr X5), .slice A8 X8.length c8, .int .i64 (unf (rN (rT (rT (rN ls).2).2).2).1)] 47)))
            have HR13 : Hid (Rd (wd.alloc (.cells #[.int .i64 (sm (rN ls).1), .string (bstr X5), .slice A8 X8.length c8, .int .i64 (unf (rN (rT (rT (rN ls).2).2).2).1)] 47)) (some ⟨wd.heap.size, 0, none⟩) (opc (⟨sm (rN ls).1, X5, (A8, c8, X8), unf (rN (rT (rT (rN ls).2).2).2).1⟩ : Opn))) := Rd.of_cells (Bk.new wd _ _)
            have HO8e := Lib.hid (own_fr HO8d.out ((Fr.refl NoBlk wd).alloc (.cells #[.int .i64 (sm (rN ls).1), .string (bstr X5), .slice A8 X8.length c8, .int .i64 (unf (rN (rT (rT (rN ls).2).2).2).1)] 47)) (fun _ _ h => h))
            have HFe := Lib.hid (HFd.out.alloc (.cells #[.int .i64 (sm (rN ls).1), .string (bstr X5), .slice A8 X8.length c8, .int .i64 (unf (rN (rT (rT (rN ls).2).2).2).1)] 47))
            refine step_appO rfl _ _ 28 rfl w.heap.size 47 i0 _ 4 56 Try.underlying28 hi hz0 hz1 hz2 rfl (by decide) (.slice u.oa u.ops.length u.oc) u.ops.length (opsc u.ops) rfl HXe.out.oo ⟨wd.heap.size, 0, none⟩ 1 1 (opc (⟨sm (rN ls).1, X5, (A8, c8, X8), unf (rN (rT (rT (rN ls).2).2).2).1⟩ : Opn)) rfl rfl HR13.out ?q1 ?q2 ?q3 HXe.out.fr.size ?_
            case q1 => intro y hy; simp only [opc, List.mem_cons, List.not_mem_nil, or_false] at hy; rcases hy with rfl | rfl | rfl | rfl <;> rfl
            case q2 => have := HOL.out; unfold maxLen; omega
            case q3 => have := HOL.out; omega
            intro v14 w14 ho14 hg14 _
            obtain ⟨A14, c14, rfl, _, _⟩ := own_form ho14
            obtain ⟨k1, k2, k3⟩ := HXe.out.grown hg14
            have o14 : w14.cell? ⟨gt, 3, none⟩ = some (.slice u.oa u.ops.length u.oc) := k2.cell 3
            have f14 := k2.free 3
            have HF14 : Hid (Fr (fun k => k = ge ∨ (Value.slice u.oa u.ops.length u.oc).ownBlock = some k ∨ k = gt) wb w14) := HFe.out.grown hg14 (fun k hk _ => Or.inr (Or.inl hk))
            have HXF := Lib.hid (HXe.out.push hg14 ho14 HO8e.out)
            have HS14 := Lib.hid (SF.out _ (HF14.out.setCell (p := ⟨gt, 3, none⟩) (fun _ => Or.inr (Or.inr rfl)) (.slice A14 (u.ops.length + 1) c14)))
            clear ho14 hg14 k1 k2 k3
            clear hHeld
            refine hK.out _ _ ?_ (fun hHeld => ?_)
            · exact SF.out _ HF14.out
            clear hK K
            try simp only [Act.put, List.setIfInBounds_toArray, List.set_cons_zero, List.set_cons_succ]
            refine wpAnyH_take (i := 15) (oi := ⟨some 34, _, _, _, _, _⟩) (v := ?_) rfl (by kernel_rfl) (by kernel_rfl) (by kernel_rfl) (fun _ _ _ h => h) (Or.inl ⟨by rfl, ?_⟩) (by assumption) ?_
            rotate_left 1
            · (intro w hSw; (try dsimp only at hSw); go_simp) <;> (with_reducible rfl)
            try simp only [Act.put, List.setIfInBounds_toArray, List.set_cons_zero, List.set_cons_succ]
            refine wpAnyH_ready (rs := [16]) (by kernel_rfl) (by simp) ?_
            refine AllReadyH.cons (o := ⟨none, _, _, _, _, _⟩) rfl (fun K hK => ?_) AllReadyH.nil
            go_simp
            clear hHeld
            refine hK.out _ _ ?_ (fun hHeld => ?_)
            · exact HS14.out
            clear hK K
            try simp only [Act.put, List.setIfInBounds_toArray, List.set_cons_zero, List.set_cons_succ]
            refine wpAnyH_done (by kernel_rfl) ?_ _
            have HNX := Lib.hid (NEXT.out _ _ _ (A8, c8) _ _ HX5.out HX8.out HXF.out)
            clear HXF HXe HXd HXc HXb HXa HX0 SF HS14 HF14 HFe HFd HFc HO8 HO8d HO8e HR13
            go_wp2_with fail
            go_roundw
            case rel =>
              obtain ⟨k', A', c', os', h1, h2, rfl, h4, h5⟩ := HNX.out
              exact ⟨_, A', c', os', h1, by go_num, h4, h5⟩
            case measure => simp [intOf]; omega
          · go_simp
            go_at_call 88
            refine (KT.out _ _ HXa.out.re).mono ?_
            rintro e wb ⟨v5, rfl, ho5, hre, hf⟩
            obtain ⟨A5, c5, rfl, _, _⟩ := own_form ho5
            have HXb := Lib.hid (HXa.out.step hf hre)
            obtain ⟨X5, hX5⟩ : ∃ X5, X5 = (rT (rN ls).2).1 := ⟨_, rfl⟩
            rw [← hX5] at ho5 ⊢
            obtain ⟨n5, hn5⟩ : ∃ n5, n5 = X5.length := ⟨_, rfl⟩
            have SF : Hid (∀ W, Fr (fun k => k = ge ∨ (Value.slice u.oa u.ops.length u.oc).ownBlock = some k ∨ k = gt) wb W → W.cell? ⟨w.heap.size, 0, none⟩ = some (.pointer (some ⟨ge, 0, none⟩)) ∧ (convert 45 9 (.slice A5 n5 c5)).run Try.prog W = .ok (.string (bstr X5)) W) := fun W hW => by
              have g1 := HXa.out.gl
              have g2 := HXa.out.bt.lt
              refine ⟨(HXb.out.box.fr hW ?_).cell 0, strOf W A5 _ c5 X5 hn5 (Rd.of_own (own_fr ho5 hW ?_))⟩
              · rintro (e | e | e)
                · omega
                · exact own_apart HXb.out.oo HXb.out.box (by decide) e
                · have := HXb.out.lt; omega
              · rintro k hk (e | e | e)
                · have := (own_blk ho5 hk).1; omega
                · have := (own_blk ho5 hk).1; have := (own_blk HXa.out.oo e).2; omega
                · have := (own_blk ho5 hk).1; omega
            have HX5 := Lib.hid hX5
            rw [← hn5]
            have HN5 := Lib.hid hn5
            clear hre hf ho5 hX5 hn5
            clear hHeld
            refine hK.out _ _ ?_ (fun hHeld => ?_)
            · exact HXb.out.box.cell 0
            clear hK K
            try simp only [Act.put, List.setIfInBounds_toArray, List.set_cons_zero, List.set_cons_succ]
            refine wpAnyH_more (S' := fun w' => w'.cell? ⟨w.heap.size, 0, none⟩ = some (.pointer (some ⟨ge, 0, none⟩)) ∧ (convert 45 9 (.slice A5 n5 c5)).run Try.prog w' = .ok (.string (bstr X5)) w') (fun _ h => h.1) _ _ _ _ ?_
            clear hHeld
            have hHeld : (fun w' => w'.cell? ⟨w.heap.size, 0, none⟩ = some (.pointer (some ⟨ge, 0, none⟩)) ∧ (convert 45 9 (.slice A5 n5 c5)).run Try.prog w' = .ok (.string (bstr X5)) w') wb := SF.out wb (Fr.refl _ _)
            refine wpAnyH_take (i := 6) (oi := ⟨some 25, _, _, _, _, _⟩) (v := ?_) rfl (by kernel_rfl) (by kernel_rfl) (by kernel_rfl) (fun _ _ _ h => h) (Or.inl ⟨by rfl, ?_⟩) (by assumption) ?_
            rotate_left 1
            · (intro w hSw; (try dsimp only at hSw); obtain ⟨hs1, hs2⟩ := hSw; go_simp) <;> (with_reducible rfl)
            try simp only [Act.put, List.setIfInBounds_toArray, List.set_cons_zero, List.set_cons_succ]
            refine wpAnyH_ready (rs := [1, 8]) (by kernel_rfl) (by simp) ?_
            refine AllReadyH.cons (o := ⟨some 20, _, _, _, _, _⟩) rfl (fun K hK => ?_) (AllReadyH.cons (o := ⟨some 27, _, _, _, _, _⟩) rfl (fun K hK => ?_) AllReadyH.nil)
            · have o3 : (wb).cell? ⟨gt, 3, none⟩ = some (.slice u.oa u.ops.length u.oc) := HXb.out.bt.cell 3
              go_simp
              clear hHeld
              refine hK.out _ _ ?_ (fun hHeld => ?_)
              · exact SF.out _ (Fr.refl _ _)
              clear hK K
              try simp only [Act.put, List.setIfInBounds_toArray, List.set_cons_zero, List.set_cons_succ]
              clear o3
              refine wpAnyH_ready (rs := [8]) (by kernel_rfl) (by simp) ?_
              refine AllReadyH.cons (o := ⟨some 27, _, _, _, _, _⟩) rfl (fun K hK => ?_) AllReadyH.nil
              go_simp
              go_at_call 88
              refine (KT.out _ _ HXb.out.re).mono ?_
              rintro e wc ⟨v8, rfl, ho8, hre, hf⟩
              obtain ⟨A8, c8, rfl, hc8, hA8⟩ := own_form ho8
              have HXc := Lib.hid (HXb.out.step hf hre)
              have HFc : Hid (Fr (fun k => k = ge ∨ (Value.slice u.oa u.ops.length u.oc).ownBlock = some k ∨ k = gt) wb wc) := hf.mono fun _ _ e => Or.inl e
              obtain ⟨X8, hX8⟩ : ∃ X8, X8 = (rT (rT (rN ls).2).2).1 := ⟨_, rfl⟩
              rw [← hX8] at ho8 ⊢
              have HO8 := Lib.hid ho8
              have HX8 := Lib.hid hX8
              clear hre hf ho8 hX8 hc8 hA8
              clear hHeld
              refine hK.out _ _ ?_ (fun hHeld => ?_)
              · exact SF.out _ HFc.out
              clear hK K
              try simp only [Act.put, List.setIfInBounds_toArray, List.set_cons_zero, List.set_cons_succ]
              refine wpAnyH_ready (rs := [10]) (by kernel_rfl) (by simp) ?_
              refine AllReadyH.cons (o := ⟨some 29, _, _, _, _, _⟩) rfl (fun K hK => ?_) AllReadyH.nil
              go_simp
              go_at_call 58
              refine (KN.out _ _ HXc.out.re).mono ?_
              rintro e wd ⟨rfl, hre, hf⟩
              have HXd := Lib.hid (HXc.out.step hf hre)
              have HFd : Hid (Fr (fun k => k = ge ∨ (Value.slice u.oa u.ops.length u.oc).ownBlock = some k ∨ k = gt) wb wd) := HFc.out.trans (hf.mono fun _ _ e => Or.inl e)
              have HO8d : Hid (wd.ownsRow w.heap.size 5 1 (.slice A8 X8.length c8) X8.length (cb X8)) := own_base (own_fr HO8.out hf (fun k hk e => by have := (own_blk HO8.out hk).1; have := HXb.out.gl; omega)) HXb.out.gl.2.2
              have hz := rN_lt (rT (rT (rN ls).2).2).2
              clear hre hf
              clear hHeld
              refine hK.out _ _ ?_ (fun hHeld => ?_)
              · exact SF.out _ HFd.out
              clear hK K
              try simp only [Act.put, List.setIfInBounds_toArray, List.set_cons_zero, List.set_cons_succ]
              refine wpAnyH_ready (rs := [11]) (by kernel_rfl) (by simp) ?_
              refine AllReadyH.cons (o := ⟨some 30, _, _, _, _, _⟩) rfl (fun K hK => ?_) AllReadyH.nil
              go_simp
              go_at_call 89
              refine (KU.out _ _ hz).mono ?_
              rintro e _ ⟨rfl, rfl⟩
              clear hz
              clear hHeld
              refine hK.out _ _ ?_ (fun hHeld => ?_)
              · exact SF.out _ HFd.out
              clear hK K
              try simp only [Act.put, List.setIfInBounds_toArray, List.set_cons_zero, List.set_cons_succ]
              refine wpAnyH_take (i := 12) (oi := ⟨some 31, _, _, _, _, _⟩) (v := ?_) rfl (by kernel_rfl) (by kernel_rfl) (by kernel_rfl) (fun _ _ _ h => h) (Or.inl ⟨by rfl, ?_⟩) (by assumption) ?_
              rotate_left 1
              · (intro w hSw; (try dsimp only at hSw); obtain ⟨hs1, hs2⟩ := hSw; go_simp) <;> (with_reducible rfl)
              try simp only [Act.put, List.setIfInBounds_toArray, List.set_cons_zero, List.set_cons_succ]
              refine wpAnyH_ready (rs := [13]) (by kernel_rfl) (by simp) ?_
              refine AllReadyH.cons (o := ⟨some 32, _, _, _, _, _⟩) rfl (fun K hK => ?_) AllReadyH.nil
              go_simp
              clear hHeld
              refine hK.out _ _ ?_ (fun hHeld => ?_)
              · exact SF.out _ (HFd.out.alloc _)
              clear hK K
              try simp only [Act.put, List.setIfInBounds_toArray, List.set_cons_zero, List.set_cons_succ]
              refine wpAnyH_ready (rs := [14]) (by kernel_rfl) (by simp) ?_
              refine AllReadyH.cons (o := ⟨some 33, _, _, _, _, _⟩) rfl (fun K hK => ?_) AllReadyH.nil
              have HXe := Lib.hid (HXd.out.nofr ((Fr.refl NoBlk wd).alloc (.cells #[.int .i64 (sm (rN ls).1), .string (bstr X5), .slice A8 X8.length c8, .int .i64 (unf (rN (rT (rT (rN ls).2).2).2).1)] 47)))
              have HR13 : Hid (Rd (wd.alloc (.cells #[.int .i64 (sm (rN ls).1), .string (bstr X5), .slice A8 X8.length c8, .int .i64 (unf (rN (rT (rT (rN ls).2).2).2).1)] 47)) (some ⟨wd.heap.size, 0, none⟩) (opc (⟨sm (rN ls).1, X5, (A8, c8, X8), unf (rN (rT (rT (rN ls).2).2).2).1⟩ : Opn))) := Rd.of_cells (Bk.new wd _ _)
              have HO8e := Lib.hid (own_fr HO8d.out ((Fr.refl NoBlk wd).alloc (.cells #[.int .i64 (sm (rN ls).1), .string (bstr X5), .slice A8 X8.length c8, .int .i64 (unf (rN (rT (rT (rN ls).2).2).2).1)] 47)) (fun _ _ h => h))
              have HFe := Lib.hid (HFd.out.alloc (.cells #[.int .i64 (sm (rN ls).1), .string (bstr X5), .slice A8 X8.length c8, .int .i64 (unf (rN (rT (rT (rN ls).2).2).2).1)] 47))
              refine step_appO rfl _ _ 28 rfl w.heap.size 47 i0 _ 4 56 Try.underlying28 hi hz0 hz1 hz2 rfl (by decide) (.slice u.oa u.ops.length u.oc) u.ops.length (opsc u.ops) rfl HXe.out.oo ⟨wd.heap.size, 0, none⟩ 1 1 (opc (⟨sm (rN ls).1, X5, (A8, c8, X8), unf (rN (rT (rT (rN ls).2).2).2).1⟩ : Opn)) rfl rfl HR13.out ?q1 ?q2 ?q3 HXe.out.fr.size ?_
              case q1 => intro y hy; simp only [opc, List.mem_cons, List.not_mem_nil, or_false] at hy; rcases hy with rfl | rfl | rfl | rfl <;> rfl
              case q2 => have := HOL.out; unfold maxLen; omega
              case q3 => have := HOL.out; omega
              intro v14 w14 ho14 hg14 _
              obtain ⟨A14, c14, rfl, _, _⟩ := own_form ho14
              obtain ⟨k1, k2, k3⟩ := HXe.out.grown hg14
              have o14 : w14.cell? ⟨gt, 3, none⟩ = some (.slice u.oa u.ops.length u.oc) := k2.cell 3
              have f14 := k2.free 3
              have HF14 : Hid (Fr (fun k => k = ge ∨ (Value.slice u.oa u.ops.length u.oc).ownBlock = some k ∨ k = gt) wb w14) := HFe.out.grown hg14 (fun k hk _ => Or.inr (Or.inl hk))
              have HXF := Lib.hid (HXe.out.push hg14 ho14 HO8e.out)
              have HS14 := Lib.hid (SF.out _ (HF14.out.setCell (p := ⟨gt, 3, none⟩) (fun _ => Or.inr (Or.inr rfl)) (.slice A14 (u.ops.length + 1) c14)))
              clear ho14 hg14 k1 k2 k3
              clear hHeld
              refine hK.out _ _ ?_ (fun hHeld => ?_)
              · exact SF.out _ HF14.out
              clear hK K
              try simp only [Act.put, List.setIfInBounds_toArray, List.set_cons_zero, List.set_cons_succ]
              refine wpAnyH_take (i := 15) (oi := ⟨some 34, _, _, _, _, _⟩) (v := ?_) rfl (by kernel_rfl) (by kernel_rfl) (by kernel_rfl) (fun _ _ _ h => h) (Or.inl ⟨by rfl, ?_⟩) (by assumption) ?_
              rotate_left 1
              · (intro w hSw; (try dsimp only at hSw); go_simp) <;> (with_reducible rfl)
              try simp only [Act.put, List.setIfInBounds_toArray, List.set_cons_zero, List.set_cons_succ]
              refine wpAnyH_ready (rs := [16]) (by kernel_rfl) (by simp) ?_
              refine AllReadyH.cons (o := ⟨none, _, _, _, _, _⟩) rfl (fun K hK => ?_) AllReadyH.nil
              go_simp
              clear hHeld
              refine hK.out _ _ ?_ (fun hHeld => ?_)
              · exact HS14.out
              clear hK K
              try simp only [Act.put, List.setIfInBounds_toArray, List.set_cons_zero, List.set_cons_succ]
              refine wpAnyH_done (by kernel_rfl) ?_ _
              have HNX := Lib.hid (NEXT.out _ _ _ (A8, c8) _ _ HX5.out HX8.out HXF.out)
              clear HXF HXe HXd HXc HXb HXa HX0 SF HS14 HF14 HFe HFd HFc HO8 HO8d HO8e HR13
              go_wp2_with fail
              go_roundw
              case rel =>
                obtain ⟨k', A', c', os', h1, h2, rfl, h4, h5⟩ := HNX.out
                exact ⟨_, A', c', os', h1, by go_num, h4, h5⟩
              case measure => simp [intOf]; omega
            · go_simp
              go_at_call 88
              refine (KT.out _ _ HXb.out.re).mono ?_
              rintro e wc ⟨v8, rfl, ho8, hre, hf⟩
              obtain ⟨A8, c8, rfl, hc8, hA8⟩ := own_form ho8
              have HXc := Lib.hid (HXb.out.step hf hre)
              have HFc : Hid (Fr (fun k => k = ge ∨ (Value.slice u.oa u.ops.length u.oc).ownBlock = some k ∨ k = gt) wb wc) := hf.mono fun _ _ e => Or.inl e
              obtain ⟨X8, hX8⟩ : ∃ X8, X8 = (rT (rT (rN ls).2).2).1 := ⟨_, rfl⟩
              rw [← hX8] at ho8 ⊢
              have HO8 := Lib.hid ho8
              have HX8 := Lib.hid hX8
              clear hre hf ho8 hX8 hc8 hA8
              clear hHeld
              refine hK.out _ _ ?_ (fun hHeld => ?_)
              · exact SF.out _ HFc.out
              clear hK K
              try simp only [Act.put, List.setIfInBounds_toArray, List.set_cons_zero, List.set_cons_succ]
              refine wpAnyH_ready (rs := [1, 10]) (by kernel_rfl) (by simp) ?_
              refine AllReadyH.cons (o := ⟨some 20, _, _, _, _, _⟩) rfl (fun K hK => ?_) (AllReadyH.cons (o := ⟨some 29, _, _, _, _, _⟩) rfl (fun K hK => ?_) AllReadyH.nil)
              · have o3 : (wc).cell? ⟨gt, 3, none⟩ = some (.slice u.oa u.ops.length u.oc) := HXc.out.bt.cell 3
                go_simp
                clear hHeld
                refine hK.out _ _ ?_ (fun hHeld => ?_)
                · exact SF.out _ HFc.out
                clear hK K
                try simp only [Act.put, List.setIfInBounds_toArray, List.set_cons_zero, List.set_cons_succ]
                clear o3
                refine wpAnyH_ready (rs := [10]) (by kernel_rfl) (by simp) ?_
                refine AllReadyH.cons (o := ⟨some 29, _, _, _, _, _⟩) rfl (fun K hK => ?_) AllReadyH.nil
                go_simp
                go_at_call 58
                refine (KN.out _ _ HXc.out.re).mono ?_
                rintro e wd ⟨rfl, hre, hf⟩
                have HXd := Lib.hid (HXc.out.step hf hre)
                have HFd : Hid (Fr (fun k => k = ge ∨ (Value.slice u.oa u.ops.length u.oc).ownBlock = some k ∨ k = gt) wb wd) := HFc.out.trans (hf.mono fun _ _ e => Or.inl e)
                have HO8d : Hid (wd.ownsRow w.heap.size 5 1 (.slice A8 X8.length c8) X8.length (cb X8)) := own_base (own_fr HO8.out hf (fun k hk e => by have := (own_blk HO8.out hk).1; have := HXb.out.gl; omega)) HXb.out.gl.2.2
                have hz := rN_lt (rT (rT (rN ls).2).2).2
                clear hre hf
                clear hHeld
                refine hK.out _ _ ?_ (fun hHeld => ?_)
                · exact SF.out _ HFd.out
                clear hK K
                try simp only [Act.put, List.setIfInBounds_toArray, List.set_cons_zero, List.set_cons_succ]
                refine wpAnyH_ready (rs := [11]) (by kernel_rfl) (by simp) ?_
                refine AllReadyH.cons (o := ⟨some 30, _, _, _, _, _⟩) rfl (fun K hK => ?_) AllReadyH.nil
                go_simp
                go_at_call 89
                refine (KU.out _ _ hz).mono ?_
                rintro e _ ⟨rfl, rfl⟩
                clear hz
                clear hHeld
                refine hK.out _ _ ?_ (fun hHeld => ?_)
                · exact SF.out _ HFd.out
                clear hK K
                try simp only [Act.put, List.setIfInBounds_toArray, List.set_cons_zero, List.set_cons_succ]
                refine wpAnyH_take (i := 12) (oi := ⟨some 31, _, _, _, _, _⟩) (v := ?_) rfl (by kernel_rfl) (by kernel_rfl) (by kernel_rfl) (fun _ _ _ h => h) (Or.inl ⟨by rfl, ?_⟩) (by assumption) ?_
                rotate_left 1
                · (intro w hSw; (try dsimp only at hSw); obtain ⟨hs1, hs2⟩ := hSw; go_simp) <;> (with_reducible rfl)
                try simp only [Act.put, List.setIfInBounds_toArray, List.set_cons_zero, List.set_cons_succ]
                refine wpAnyH_ready (rs := [13]) (by kernel_rfl) (by simp) ?_
                refine AllReadyH.cons (o := ⟨some 32, _, _, _, _, _⟩) rfl (fun K hK => ?_) AllReadyH.nil
                go_simp
                clear hHeld
                refine hK.out _ _ ?_ (fun hHeld => ?_)
                · exact SF.out _ (HFd.out.alloc _)
                clear hK K
                try simp only [Act.put, List.setIfInBounds_toArray, List.set_cons_zero, List.set_cons_succ]
                refine wpAnyH_ready (rs := [14]) (by kernel_rfl) (by simp) ?_
                refine AllReadyH.cons (o := ⟨some 33, _, _, _, _, _⟩) rfl (fun K hK => ?_) AllReadyH.nil
                have HXe := Lib.hid (HXd.out.nofr ((Fr.refl NoBlk wd).alloc (.cells #[.int .i64 (sm (rN ls).1), .string (bstr X5), .slice A8 X8.length c8, .int .i64 (unf (rN (rT (rT (rN ls).2).2).2).1)] 47)))
                have HR13 : Hid (Rd (wd.alloc (.cells #[.int .i64 (sm (rN ls).1), .string (bstr X5), .slice A8 X8.length c8, .int .i64 (unf (rN (rT (rT (rN ls).2).2).2).1)] 47)) (some ⟨wd.heap.size, 0, none⟩) (opc (⟨sm (rN ls).1, X5, (A8, c8, X8), unf (rN (rT (rT (rN ls).2).2).2).1⟩ : Opn))) := Rd.of_cells (Bk.new wd _ _)
                have HO8e := Lib.hid (own_fr HO8d.out ((Fr.refl NoBlk wd).alloc (.cells #[.int .i64 (sm (rN ls).1), .string (bstr X5), .slice A8 X8.length c8, .int .i64 (unf (rN (rT (rT (rN ls).2).2).2).1)] 47)) (fun _ _ h => h))
                have HFe := Lib.hid (HFd.out.alloc (.cells #[.int .i64 (sm (rN ls).1), .string (bstr X5), .slice A8 X8.length c8, .int .i64 (unf (rN (rT (rT (rN ls).2).2).2).1)] 47))
                refine step_appO rfl _ _ 28 rfl w.heap.size 47 i0 _ 4 56 Try.underlying28 hi hz0 hz1 hz2 rfl (by decide) (.slice u.oa u.ops.length u.oc) u.ops.length (opsc u.ops) rfl HXe.out.oo ⟨wd.heap.size, 0, none⟩ 1 1 (opc (⟨sm (rN ls).1, X5, (A8, c8, X8), unf (rN (rT (rT (rN ls).2).2).2).1⟩ : Opn)) rfl rfl HR13.out ?q1 ?q2 ?q3 HXe.out.fr.size ?_
                case q1 => intro y hy; simp only [opc, List.mem_cons, List.not_mem_nil, or_false] at hy; rcases hy with rfl | rfl | rfl | rfl <;> rfl
                case q2 => have := HOL.out; unfold maxLen; omega
                case q3 => have := HOL.out; omega
                intro v14 w14 ho14 hg14 _
                obtain ⟨A14, c14, rfl, _, _⟩ := own_form ho14
                obtain ⟨k1, k2, k3⟩ := HXe.out.grown hg14
                have o14 : w14.cell? ⟨gt, 3, none⟩ = some (.slice u.oa u.ops.length u.oc) := k2.cell 3
                have f14 := k2.free 3
                have HF14 : Hid (Fr (fun k => k = ge ∨ (Value.slice u.oa u.ops.length u.oc).ownBlock = some k ∨ k = gt) wb w14) := HFe.out.grown hg14 (fun k hk _ => Or.inr (Or.inl hk))
                have HXF := Lib.hid (HXe.out.push hg14 ho14 HO8e.out)
                have HS14 := Lib.hid (SF.out _ (HF14.out.setCell (p := ⟨gt, 3, none⟩) (fun _ => Or.inr (Or.inr rfl)) (.slice A14 (u.ops.length + 1) c14)))
                clear ho14 hg14 k1 k2 k3
                clear hHeld
                refine hK.out _ _ ?_ (fun hHeld => ?_)
                · exact SF.out _ HF14.out
                clear hK K
                try simp only [Act.put, List.setIfInBounds_toArray, List.set_cons_zero, List.set_cons_succ]
                refine wpAnyH_take (i := 15) (oi := ⟨some 34, _, _, _, _, _⟩) (v := ?_) rfl (by kernel_rfl) (by kernel_rfl) (by kernel_rfl) (fun _ _ _ h => h) (Or.inl ⟨by rfl, ?_⟩) (by assumption) ?_
                rotate_left 1
                · (intro w hSw; (try dsimp only at hSw); go_simp) <;> (with_reducible rfl)
                try simp only [Act.put, List.setIfInBounds_toArray, List.set_cons_zero, List.set_cons_succ]
                refine wpAnyH_ready (rs := [16]) (by kernel_rfl) (by simp) ?_
                refine AllReadyH.cons (o := ⟨none, _, _, _, _, _⟩) rfl (fun K hK => ?_) AllReadyH.nil
                go_simp
                clear hHeld
                refine hK.out _ _ ?_ (fun hHeld => ?_)
                · exact HS14.out
                clear hK K
                try simp only [Act.put, List.setIfInBounds_toArray, List.set_cons_zero, List.set_cons_succ]
                refine wpAnyH_done (by kernel_rfl) ?_ _
                have HNX := Lib.hid (NEXT.out _ _ _ (A8, c8) _ _ HX5.out HX8.out HXF.out)
                clear HXF HXe HXd HXc HXb HXa HX0 SF HS14 HF14 HFe HFd HFc HO8 HO8d HO8e HR13
                go_wp2_with fail
                go_roundw
                case rel =>
                  obtain ⟨k', A', c', os', h1, h2, rfl, h4, h5⟩ := HNX.out
                  exact ⟨_, A', c', os', h1, by go_num, h4, h5⟩
                case measure => simp [intOf]; omega
              · go_simp
                go_at_call 58
                refine (KN.out _ _ HXc.out.re).mono ?_
                rintro e wd ⟨rfl, hre, hf⟩
                have HXd := Lib.hid (HXc.out.step hf hre)
                have HFd : Hid (Fr (fun k => k = ge ∨ (Value.slice u.oa u.ops.length u.oc).ownBlock = some k ∨ k = gt) wb wd) := HFc.out.trans (hf.mono fun _ _ e => Or.inl e)
                have HO8d : Hid (wd.ownsRow w.heap.size 5 1 (.slice A8 X8.length c8) X8.length (cb X8)) := own_base (own_fr HO8.out hf (fun k hk e => by have := (own_blk HO8.out hk).1; have := HXb.out.gl; omega)) HXb.out.gl.2.2
                have hz := rN_lt (rT (rT (rN ls).2).2).2
                clear hre hf
                clear hHeld
                refine hK.out _ _ ?_ (fun hHeld => ?_)
                · exact SF.out _ HFd.out
                clear hK K
                try simp only [Act.put, List.setIfInBounds_toArray, List.set_cons_zero, List.set_cons_succ]
                refine wpAnyH_ready (rs := [1, 11]) (by kernel_rfl) (by simp) ?_
                refine AllReadyH.cons (o := ⟨some 20, _, _, _, _, _⟩) rfl (fun K hK => ?_) (AllReadyH.cons (o := ⟨some 30, _, _, _, _, _⟩) rfl (fun K hK => ?_) AllReadyH.nil)
                · have o3 : (wd).cell? ⟨gt, 3, none⟩ = some (.slice u.oa u.ops.length u.oc) := HXd.out.bt.cell 3
                  go_simp
                  clear hHeld
                  refine hK.out _ _ ?_ (fun hHeld => ?_)
                  · exact SF.out _ HFd.out
                  clear hK K
                  try simp only [Act.put, List.setIfInBounds_toArray, List.set_cons_zero, List.set_cons_succ]
                  clear o3
                  refine wpAnyH_ready (rs := [11]) (by kernel_rfl) (by simp) ?_
                  refine AllReadyH.cons (o := ⟨some 30, _, _, _, _, _⟩) rfl (fun K hK => ?_) AllReadyH.nil
                  go_simp
                  go_at_call 89
                  refine (KU.out _ _ hz).mono ?_
                  rintro e _ ⟨rfl, rfl⟩
                  clear hz
                  clear hHeld
                  refine hK.out _ _ ?_ (fun hHeld => ?_)
                  · exact SF.out _ HFd.out
                  clear hK K
                  try simp only [Act.put, List.setIfInBounds_toArray, List.set_cons_zero, List.set_cons_succ]
                  refine wpAnyH_take (i := 12) (oi := ⟨some 31, _, _, _, _, _⟩) (v := ?_) rfl (by kernel_rfl) (by kernel_rfl) (by kernel_rfl) (fun _ _ _ h => h) (Or.inl ⟨by rfl, ?_⟩) (by assumption) ?_
                  rotate_left 1
                  · (intro w hSw; (try dsimp only at hSw); obtain ⟨hs1, hs2⟩ := hSw; go_simp) <;> (with_reducible rfl)
                  try simp only [Act.put, List.setIfInBounds_toArray, List.set_cons_zero, List.set_cons_succ]
                  refine wpAnyH_ready (rs := [13]) (by kernel_rfl) (by simp) ?_
                  refine AllReadyH.cons (o := ⟨some 32, _, _, _, _, _⟩) rfl (fun K hK => ?_) AllReadyH.nil
                  go_simp
                  clear hHeld
                  refine hK.out _ _ ?_ (fun hHeld => ?_)
                  · exact SF.out _ (HFd.out.alloc _)
                  clear hK K
                  try simp only [Act.put, List.setIfInBounds_toArray, List.set_cons_zero, List.set_cons_succ]
                  refine wpAnyH_ready (rs := [14]) (by kernel_rfl) (by simp) ?_
                  refine AllReadyH.cons (o := ⟨some 33, _, _, _, _, _⟩) rfl (fun K hK => ?_) AllReadyH.nil
                  have HXe := Lib.hid (HXd.out.nofr ((Fr.refl NoBlk wd).alloc (.cells #[.int .i64 (sm (rN ls).1), .string (bstr X5), .slice A8 X8.length c8, .int .i64 (unf (rN (rT (rT (rN ls).2).2).2).1)] 47)))
                  have HR13 : Hid (Rd (wd.alloc (.cells #[.int .i64 (sm (rN ls).1), .string (bstr X5), .slice A8 X8.length c8, .int .i64 (unf (rN (rT (rT (rN ls).2).2).2).1)] 47)) (some ⟨wd.heap.size, 0, none⟩) (opc (⟨sm (rN ls).1, X5, (A8, c8, X8), unf (rN (rT (rT (rN ls).2).2).2).1⟩ : Opn))) := Rd.of_cells (Bk.new wd _ _)
                  have HO8e := Lib.hid (own_fr HO8d.out ((Fr.refl NoBlk wd).alloc (.cells #[.int .i64 (sm (rN ls).1), .string (bstr X5), .slice A8 X8.length c8, .int .i64 (unf (rN (rT (rT (rN ls).2).2).2).1)] 47)) (fun _ _ h => h))
                  have HFe := Lib.hid (HFd.out.alloc (.cells #[.int .i64 (sm (rN ls).1), .string (bstr X5), .slice A8 X8.length c8, .int .i64 (unf (rN (rT (rT (rN ls).2).2).2).1)] 47))
                  refine step_appO rfl _ _ 28 rfl w.heap.size 47 i0 _ 4 56 Try.underlying28 hi hz0 hz1 hz2 rfl (by decide) (.slice u.oa u.ops.length u.oc) u.ops.length (opsc u.ops) rfl HXe.out.oo ⟨wd.heap.size, 0, none⟩ 1 1 (opc (⟨sm (rN ls).1, X5, (A8, c8, X8), unf (rN (rT (rT (rN ls).2).2).2).1⟩ : Opn)) rfl rfl HR13.out ?q1 ?q2 ?q3 HXe.out.fr.size ?_
                  case q1 => intro y hy; simp only [opc, List.mem_cons, List.not_mem_nil, or_false] at hy; rcases hy with rfl | rfl | rfl | rfl <;> rfl
                  case q2 => have := HOL.out; unfold maxLen; omega
                  case q3 => have := HOL.out; omega
                  intro v14 w14 ho14 hg14 _
                  obtain ⟨A14, c14, rfl, _, _⟩ := own_form ho14
                  obtain ⟨k1, k2, k3⟩ := HXe.out.grown hg14
                  have o14 : w14.cell? ⟨gt, 3, none⟩ = some (.slice u.oa u.ops.length u.oc) := k2.cell 3
                  have f14 := k2.free 3
                  have HF14 : Hid (Fr (fun k => k = ge ∨ (Value.slice u.oa u.ops.length u.oc).ownBlock = some k ∨ k = gt) wb w14) := HFe.out.grown hg14 (fun k hk _ => Or.inr (Or.inl hk))
                  have HXF := Lib.hid (HXe.out.push hg14 ho14 HO8e.out)
                  have HS14 := Lib.hid (SF.out _ (HF14.out.setCell (p := ⟨gt, 3, none⟩) (fun _ => Or.inr (Or.inr rfl)) (.slice A14 (u.ops.length + 1) c14)))
                  clear ho14 hg14 k1 k2 k3
                  clear hHeld
                  refine hK.out _ _ ?_ (fun hHeld => ?_)
                  · exact SF.out _ HF14.out
                  clear hK K
                  try simp only [Act.put, List.setIfInBounds_toArray, List.set_cons_zero, List.set_cons_succ]
                  refine wpAnyH_take (i := 15) (oi := ⟨some 34, _, _, _, _, _⟩) (v := ?_) rfl (by kernel_rfl) (by kernel_rfl) (by kernel_rfl) (fun _ _ _ h => h) (Or.inl ⟨by rfl, ?_⟩) (by assumption) ?_
                  rotate_left 1
                  · (intro w hSw; (try dsimp only at hSw); go_simp) <;> (with_reducible rfl)
                  try simp only [Act.put, List.setIfInBounds_toArray, List.set_cons_zero, List.set_cons_succ]
                  refine wpAnyH_ready (rs := [16]) (by kernel_rfl) (by simp) ?_
                  refine AllReadyH.cons (o := ⟨none, _, _, _, _, _⟩) rfl (fun K hK => ?_) AllReadyH.nil
                  go_simp
                  clear hHeld
                  refine hK.out _ _ ?_ (fun hHeld => ?_)
                  · exact HS14.out
                  clear hK K
                  try simp only [Act.put, List.setIfInBounds_toArray, List.set_cons_zero, List.set_cons_succ]
                  refine wpAnyH_done (by kernel_rfl) ?_ _
                  have HNX := Lib.hid (NEXT.out _ _ _ (A8, c8) _ _ HX5.out HX8.out HXF.out)
                  clear HXF HXe HXd HXc HXb HXa HX0 SF HS14 HF14 HFe HFd HFc HO8 HO8d HO8e HR13
                  go_wp2_with fail
                  go_roundw
                  case rel =>
                    obtain ⟨k', A', c', os', h1, h2, rfl, h4, h5⟩ := HNX.out
                    exact ⟨_, A', c', os', h1, by go_num, h4, h5⟩
                  case measure => simp [intOf]; omega
                · go_simp
                  go_at_call 89
                  refine (KU.out _ _ hz).mono ?_
                  rintro e _ ⟨rfl, rfl⟩
                  clear hz
                  clear hHeld
                  refine hK.out _ _ ?_ (fun hHeld => ?_)
                  · exact SF.out _ HFd.out
                  clear hK K
                  try simp only [Act.put, List.setIfInBounds_toArray, List.set_cons_zero, List.set_cons_succ]
                  refine wpAnyH_take (i := 12) (oi := ⟨some 31, _, _, _, _, _⟩) (v := ?_) rfl (by kernel_rfl) (by kernel_rfl) (by kernel_rfl) (fun _ _ _ h => h) (Or.inl ⟨by rfl, ?_⟩) (by assumption) ?_
                  rotate_left 1
                  · (intro w hSw; (try dsimp only at hSw); obtain ⟨hs1, hs2⟩ := hSw; go_simp) <;> (with_reducible rfl)
                  try simp only [Act.put, List.setIfInBounds_toArray, List.set_cons_zero, List.set_cons_succ]
                  refine wpAnyH_ready (rs := [1, 13]) (by kernel_rfl) (by simp) ?_
                  refine AllReadyH.cons (o := ⟨some 20, _, _, _, _, _⟩) rfl (fun K hK => ?_) (AllReadyH.cons (o := ⟨some 32, _, _, _, _, _⟩) rfl (fun K hK => ?_) AllReadyH.nil)
                  · have o3 : (wd).cell? ⟨gt, 3, none⟩ = some (.slice u.oa u.ops.length u.oc) := HXd.out.bt.cell 3
                    go_simp
                    clear hHeld
                    refine hK.out _ _ ?_ (fun hHeld => ?_)
                    · exact SF.out _ HFd.out
                    clear hK K
                    try simp only [Act.put, List.setIfInBounds_toArray, List.set_cons_zero, List.set_cons_succ]
                    clear o3
                    refine wpAnyH_ready (rs := [13]) (by kernel_rfl) (by simp) ?_
                    refine AllReadyH.cons (o := ⟨some 32, _, _, _, _, _⟩) rfl (fun K hK => ?_) AllReadyH.nil
                    go_simp
                    clear hHeld
                    refine hK.out _ _ ?_ (fun hHeld => ?_)
                    · exact SF.out _ (HFd.out.alloc _)
                    clear hK K
                    try simp only [Act.put, List.setIfInBounds_toArray, List.set_cons_zero, List.set_cons_succ]
                    refine wpAnyH_ready (rs := [14]) (by kernel_rfl) (by simp) ?_
                    refine AllReadyH.cons (o := ⟨some 33, _, _, _, _, _⟩) rfl (fun K hK => ?_) AllReadyH.nil
                    have HXe := Lib.hid (HXd.out.nofr ((Fr.refl NoBlk wd).alloc (.cells #[.int .i64 (sm (rN ls).1), .string (bstr X5), .slice A8 X8.length c8, .int .i64 (unf (rN (rT (rT (rN ls).2).2).2).1)] 47)))
                    have HR13 : Hid (Rd (wd.alloc (.cells #[.int .i64 (sm (rN ls).1), .string (bstr X5), .slice A8 X8.length c8, .int .i64 (unf (rN (rT (rT (rN ls).2).2).2).1)] 47)) (some ⟨wd.heap.size, 0, none⟩) (opc (⟨sm (rN ls).1, X5, (A8, c8, X8), unf (rN (rT (rT (rN ls).2).2).2).1⟩ : Opn))) := Rd.of_cells (Bk.new wd _ _)
                    have HO8e := Lib.hid (own_fr HO8d.out ((Fr.refl NoBlk wd).alloc (.cells #[.int .i64 (sm (rN ls).1), .string (bstr X5), .slice A8 X8.length c8, .int .i64 (unf (rN (rT (rT (rN ls).2).2).2).1)] 47)) (fun _ _ h => h))
                    have HFe := Lib.hid (HFd.out.alloc (.cells #[.int .i64 (sm (rN ls).1), .string (bstr X5), .slice A8 X8.length c8, .int .i64 (unf (rN (rT (rT (rN ls).2).2).2).1)] 47))
                    refine step_appO rfl _ _ 28 rfl w.heap.size 47 i0 _ 4 56 Try.underlying28 hi hz0 hz1 hz2 rfl (by decide) (.slice u.oa u.ops.length u.oc) u.ops.length (opsc u.ops) rfl HXe.out.oo ⟨wd.heap.size, 0, none⟩ 1 1 (opc (⟨sm (rN ls).1, X5, (A8, c8, X8), unf (rN (rT (rT (rN ls).2).2).2).1⟩ : Opn)) rfl rfl HR13.out ?q1 ?q2 ?q3 HXe.out.fr.size ?_
                    case q1 => intro y hy; simp only [opc, List.mem_cons, List.not_mem_nil, or_false] at hy; rcases hy with rfl | rfl | rfl | rfl <;> rfl
                    case q2 => have := HOL.out; unfold maxLen; omega
                    case q3 => have := HOL.out; omega
                    intro v14 w14 ho14 hg14 _
                    obtain ⟨A14, c14, rfl, _, _⟩ := own_form ho14
                    obtain ⟨k1, k2, k3⟩ := HXe.out.grown hg14
                    have o14 : w14.cell? ⟨gt, 3, none⟩ = some (.slice u.oa u.ops.length u.oc) := k2.cell 3
                    have f14 := k2.free 3
                    have HF14 : Hid (Fr (fun k => k = ge ∨ (Value.slice u.oa u.ops.length u.oc).ownBlock = some k ∨ k = gt) wb w14) := HFe.out.grown hg14 (fun k hk _ => Or.inr (Or.inl hk))
                    have HXF := Lib.hid (HXe.out.push hg14 ho14 HO8e.out)
                    have HS14 := Lib.hid (SF.out _ (HF14.out.setCell (p := ⟨gt, 3, none⟩) (fun _ => Or.inr (Or.inr rfl)) (.slice A14 (u.ops.length + 1) c14)))
                    clear ho14 hg14 k1 k2 k3
                    clear hHeld
                    refine hK.out _ _ ?_ (fun hHeld => ?_)
                    · exact SF.out _ HF14.out
                    clear hK K
                    try simp only [Act.put, List.setIfInBounds_toArray, List.set_cons_zero, List.set_cons_succ]
                    refine wpAnyH_take (i := 15) (oi := ⟨some 34, _, _, _, _, _⟩) (v := ?_) rfl (by kernel_rfl) (by kernel_rfl) (by kernel_rfl) (fun _ _ _ h => h) (Or.inl ⟨by rfl, ?_⟩) (by assumption) ?_
                    rotate_left 1
                    · (intro w hSw; (try dsimp only at hSw); go_simp) <;> (with_reducible rfl)
                    try simp only [Act.put, List.setIfInBounds_toArray, List.set_cons_zero, List.set_cons_succ]
                    refine wpAnyH_ready (rs := [16]) (by kernel_rfl) (by simp) ?_
                    refine AllReadyH.cons (o := ⟨none, _, _, _, _, _⟩) rfl (fun K hK => ?_) AllReadyH.nil
                    go_simp
                    clear hHeld
                    refine hK.out _ _ ?_ (fun hHeld => ?_)
                    · exact HS14.out
                    clear hK K
                    try simp only [Act.put, List.setIfInBounds_toArray, List.set_cons_zero, List.set_cons_succ]
                    refine wpAnyH_done (by kernel_rfl) ?_ _
                    have HNX := Lib.hid (NEXT.out _ _ _ (A8, c8) _ _ HX5.out HX8.out HXF.out)
                    clear HXF HXe HXd HXc HXb HXa HX0 SF HS14 HF14 HFe HFd HFc HO8 HO8d HO8e HR13
                    go_wp2_with fail
                    go_roundw
                    case rel =>
                      obtain ⟨k', A', c', os', h1, h2, rfl, h4, h5⟩ := HNX.out
                      exact ⟨_, A', c', os', h1, by go_num, h4, h5⟩
                    case measure => simp [intOf]; omega
                  · go_simp
                    clear hHeld
                    refine hK.out _ _ ?_ (fun hHeld => ?_)
                    · exact SF.out _ (HFd.out.alloc _)
                    clear hK K
                    try simp only [Act.put, List.setIfInBounds_toArray, List.set_cons_zero, List.set_cons_succ]
                    refine wpAnyH_ready (rs := [1]) (by kernel_rfl) (by simp) ?_
                    refine AllReadyH.cons (o := ⟨some 20, _, _, _, _, _⟩) rfl (fun K hK => ?_) AllReadyH.nil
                    have o3 : (wd.alloc (.cells #[.int .i64 (sm (rN ls).1), .string (bstr X5), .slice A8 X8.length c8, .int .i64 (unf (rN (rT (rT (rN ls).2).2).2).1)] 47)).cell? ⟨gt, 3, none⟩ = some (.slice u.oa u.ops.length u.oc) := (HXd.out.nofr ((Fr.refl NoBlk wd).alloc _)).bt.cell 3
                    go_simp
                    clear hHeld
                    refine hK.out _ _ ?_ (fun hHeld => ?_)
                    · exact SF.out _ (HFd.out.alloc _)
                    clear hK K
                    try simp only [Act.put, List.setIfInBounds_toArray, List.set_cons_zero, List.set_cons_succ]
                    refine wpAnyH_ready (rs := [14]) (by kernel_rfl) (by simp) ?_
                    refine AllReadyH.cons (o := ⟨some 33, _, _, _, _, _⟩) rfl (fun K hK => ?_) AllReadyH.nil
                    have HXe := Lib.hid (HXd.out.nofr ((Fr.refl NoBlk wd).alloc (.cells #[.int .i64 (sm (rN ls).1), .string (bstr X5), .slice A8 X8.length c8, .int .i64 (unf (rN (rT (rT (rN ls).2).2).2).1)] 47)))
                    have HR13 : Hid (Rd (wd.alloc (.cells #[.int .i64 (sm (rN ls).1), .string (bstr X5), .slice A8 X8.length c8, .int .i64 (unf (rN (rT (rT (rN ls).2).2).2).1)] 47)) (some ⟨wd.heap.size, 0, none⟩) (opc (⟨sm (rN ls).1, X5, (A8, c8, X8), unf (rN (rT (rT (rN ls).2).2).2).1⟩ : Opn))) := Rd.of_cells (Bk.new wd _ _)
                    have HO8e := Lib.hid (own_fr HO8d.out ((Fr.refl NoBlk wd).alloc (.cells #[.int .i64 (sm (rN ls).1), .string (bstr X5), .slice A8 X8.length c8, .int .i64 (unf (rN (rT (rT (rN ls).2).2).2).1)] 47)) (fun _ _ h => h))
                    have HFe := Lib.hid (HFd.out.alloc (.cells #[.int .i64 (sm (rN ls).1), .string (bstr X5), .slice A8 X8.length c8, .int .i64 (unf (rN (rT (rT (rN ls).2).2).2).1)] 47))
                    refine step_appO rfl _ _ 28 rfl w.heap.size 47 i0 _ 4 56 Try.underlying28 hi hz0 hz1 hz2 rfl (by decide) (.slice u.oa u.ops.length u.oc) u.ops.length (opsc u.ops) rfl HXe.out.oo ⟨wd.heap.size, 0, none⟩ 1 1 (opc (⟨sm (rN ls).1, X5, (A8, c8, X8), unf (rN (rT (rT (rN ls).2).2).2).1⟩ : Opn)) rfl rfl HR13.out ?q1 ?q2 ?q3 HXe.out.fr.size ?_
                    case q1 => intro y hy; simp only [opc, List.mem_cons, List.not_mem_nil, or_false] at hy; rcases hy with rfl | rfl | rfl | rfl <;> rfl
                    case q2 => have := HOL.out; unfold maxLen; omega
                    case q3 => have := HOL.out; omega
                    intro v14 w14 ho14 hg14 _
                    obtain ⟨A14, c14, rfl, _, _⟩ := own_form ho14
                    obtain ⟨k1, k2, k3⟩ := HXe.out.grown hg14
                    have o14 : w14.cell? ⟨gt, 3, none⟩ = some (.slice u.oa u.ops.length u.oc) := k2.cell 3
                    have f14 := k2.free 3
                    have HF14 : Hid (Fr (fun k => k = ge ∨ (Value.slice u.oa u.ops.length u.oc).ownBlock = some k ∨ k = gt) wb w14) := HFe.out.grown hg14 (fun k hk _ => Or.inr (Or.inl hk))
                    have HXF := Lib.hid (HXe.out.push hg14 ho14 HO8e.out)
                    have HS14 := Lib.hid (SF.out _ (HF14.out.setCell (p := ⟨gt, 3, none⟩) (fun _ => Or.inr (Or.inr rfl)) (.slice A14 (u.ops.length + 1) c14)))
                    clear ho14 hg14 k1 k2 k3
                    clear hHeld
                    refine hK.out _ _ ?_ (fun hHeld => ?_)
                    · exact SF.out _ HF14.out
                    clear hK K
                    try simp only [Act.put, List.setIfInBounds_toArray, List.set_cons_zero, List.set_cons_succ]
                    refine wpAnyH_take (i := 15) (oi := ⟨some 34, _, _, _, _, _⟩) (v := ?_) rfl (by kernel_rfl) (by kernel_rfl) (by kernel_rfl) (fun _ _ _ h => h) (Or.inl ⟨by rfl, ?_⟩) (by assumption) ?_
                    rotate_left 1
                    · (intro w hSw; (try dsimp only at hSw); go_simp) <;> (with_reducible rfl)
                    try simp only [Act.put, List.setIfInBounds_toArray, List.set_cons_zero, List.set_cons_succ]
                    refine wpAnyH_ready (rs := [16]) (by kernel_rfl) (by simp) ?_
                    refine AllReadyH.cons (o := ⟨none, _, _, _, _, _⟩) rfl (fun K hK => ?_) AllReadyH.nil
                    go_simp
                    clear hHeld
                    refine hK.out _ _ ?_ (fun hHeld => ?_)
                    · exact HS14.out
                    clear hK K
                    try simp only [Act.put, List.setIfInBounds_toArray, List.set_cons_zero, List.set_cons_succ]
                    refine wpAnyH_done (by kernel_rfl) ?_ _
                    have HNX := Lib.hid (NEXT.out _ _ _ (A8, c8) _ _ HX5.out HX8.out HXF.out)
                    clear HXF HXe HXd HXc HXb HXa HX0 SF HS14 HF14 HFe HFd HFc HO8 HO8d HO8e HR13
                    go_wp2_with fail
                    go_roundw
                    case rel =>
                      obtain ⟨k', A', c', os', h1, h2, rfl, h4, h5⟩ := HNX.out
                      exact ⟨_, A', c', os', h1, by go_num, h4, h5⟩
                    case measure => simp [intOf]; omega
      · obtain rfl : k = n := by omega
        have HXB := Lib.hid HX.out.bt
        have HXR := Lib.hid HX.out.res
        have p0 : wr.cell? ⟨gt, 0, none⟩ = some (.int .i64 a1) := HXB.out.cell 0
        have p1 : wr.cell? ⟨gt, 1, none⟩ = some (.slice A1 k1.length c1) := HXB.out.cell 1
        have p2 : wr.cell? ⟨gt, 2, none⟩ = some (.slice A3 k3.length c3) := HXB.out.cell 2
        have p3 : wr.cell? ⟨gt, 3, none⟩ = some (.slice A os.length c) := HXB.out.cell 3
        have p4 : wr.cell? ⟨gt, 4, none⟩ = some (.int .i64 a2) := HXB.out.cell 4
        have r0 : wr.cell? ⟨w.heap.size + 1, 0, none⟩ = some (.int .i64 0) := HXR.out.cell 0
        have r1 : wr.cell? ⟨w.heap.size + 1, 1, none⟩ = some (.slice none 0 0) := HXR.out.cell 1
        have r2 : wr.cell? ⟨w.heap.size + 1, 2, none⟩ = some (.slice none 0 0) := HXR.out.cell 2
        have r3 : wr.cell? ⟨w.heap.size + 1, 3, none⟩ = some (.slice none 0 0) := HXR.out.cell 3
        have r4 : wr.cell? ⟨w.heap.size + 1, 4, none⟩ = some (.int .i64 0) := HXR.out.cell 4
        have s0 := HXR.out.free 0
        have s1 := HXR.out.free 1
        have s2 := HXR.out.free 2
        have s3 := HXR.out.free 3
        have s4 := HXR.out.free 4
        obtain ⟨wz, hwz⟩ : ∃ wz, wz = (((((wr.setCell ⟨w.heap.size + 1, 0, none⟩ (.int .i64 a1)).setCell ⟨w.heap.size + 1, 1, none⟩ (.slice A1 k1.length c1)).setCell ⟨w.heap.size + 1, 2, none⟩ (.slice A3 k3.length c3)).setCell ⟨w.heap.size + 1, 3, none⟩ (.slice A os.length c)).setCell ⟨w.heap.size + 1, 4, none⟩ (.int .i64 a2)) := ⟨_, rfl⟩
        have hfz : Fr (fun k => k = w.heap.size + 1) wr wz := by
          rw [hwz]
          exact ((((((Fr.refl (fun k => k = w.heap.size + 1) wr).setCell (p := ⟨w.heap.size + 1, 0, none⟩) (fun _ => rfl) _).setCell (p := ⟨w.heap.size + 1, 1, none⟩) (fun _ => rfl) _).setCell (p := ⟨w.heap.size + 1, 2, none⟩) (fun _ => rfl) _).setCell (p := ⟨w.heap.size + 1, 3, none⟩) (fun _ => rfl) _).setCell (p := ⟨w.heap.size + 1, 4, none⟩) (fun _ => rfl) _)
        have HBZ : Hid (Bk wz (w.heap.size + 1) 30 #[.int .i64 a1, .slice A1 k1.length c1, .slice A3 k3.length c3, .slice A os.length c, .int .i64 a2]) := by
          show Bk _ _ _ _
          rw [hwz]
          refine Bk.cast (((((HXR.out.put 0 (.int .i64 a1)).put 1 (.slice A1 k1.length c1)).put 2 (.slice A3 k3.length c3)).put 3 (.slice A os.length c)).put 4 (.int .i64 a2)) ?_
          simp only [List.setIfInBounds_toArray, List.set_cons_zero, List.set_cons_succ]
        have HFIN : Hid (RTxnPost w N ge l (.returned (txv ⟨a1, A1, c1, k1, A3, c3, k3, A, c, os, a2⟩)) wz) := by
          have hres := HX.out.res
          have hne : ∀ {e : TypeId} {size n : Nat} {v : Value} {xs : List Value}, wr.ownsRow w.heap.size e size v n xs → e ≠ 30 → wz.ownsRow w.heap.size e size v n xs := fun hh hne =>
            own_fr hh hfz fun _ hk e => own_apart hh hres hne (e ▸ hk)
          refine ⟨_, rfl, ⟨hne HX.out.ro (by decide), hne HX.out.wo (by decide), hne HX.out.oo (by decide), fun x hx => hne (HX.out.vo x hx) (by decide)⟩, ?_, ?_, HX.out.fr.step hfz (fun k hk e => by omega)⟩
          · have hr : rTxn l = (⟨(rN l).1, (rN (rN l).2).1, k1, k3, (rep rOpn k l5).1⟩, (rep rOpn k l5).2) := by
              unfold rTxn rOps
              rw [← HL2.out, ← HL3.out, ← HL4.out, ← HK1.out, ← HK3.out, ← HNN.out, ← HL5.out]
            rw [hr]
            exact ⟨HA1.out, HA2.out, rfl, rfl, HM.out⟩
          · have hr : (rTxn l).2 = (rep rOpn k l5).2 := by
              unfold rTxn rOps
              rw [← HL2.out, ← HL3.out, ← HL4.out, ← HNN.out, ← HL5.out]
            rw [hr]
            exact HX.out.re.fr hfz (fun k hk e => by have := HN.out; omega)
        have HWZ := Lib.hid hwz
        clear hwz hfz HX HM HXB HXR
        go_wp2_with fail
        rw [← HWZ.out]
        clear HWZ
        have z0 : wz.cell? ⟨w.heap.size + 1, 0, none⟩ = some (.int .i64 a1) := HBZ.out.cell 0
        have z1 : wz.cell? ⟨w.heap.size + 1, 1, none⟩ = some (.slice A1 k1.length c1) := HBZ.out.cell 1
        have z2 : wz.cell? ⟨w.heap.size + 1, 2, none⟩ = some (.slice A3 k3.length c3) := HBZ.out.cell 2
        have z3 : wz.cell? ⟨w.heap.size + 1, 3, none⟩ = some (.slice A os.length c) := HBZ.out.cell 3
        have z4 : wz.cell? ⟨w.heap.size + 1, 4, none⟩ = some (.int .i64 a2) := HBZ.out.cell 4
        refine bodyPost_ret (v := txv ⟨a1, A1, c1, k1, A3, c3, k3, A, c, os, a2⟩) ?_ rfl HFIN.out
        unfold txv txa
        simp [results, Try.results59, go_sem, z0, z1, z2, z3, z4]
end Go.Proofs.Ytakbjjohfcgaoaa


namespace Go.Proofs.Ytakbjjohfcgaoaa
open Go.RowKit

theorem ROwn.fr {w w1 w2 : World} {u : Tx} {C : Nat → Prop} (h : ROwn w w1 u) (hf : Fr C w1 w2) (hC : ∀ k, w.heap.size ≤ k → k < w1.heap.size → ¬ C k) : ROwn w w2 u :=
  ⟨own_fr h.ro hf fun k hk => hC k (own_blk h.ro hk).1 (own_blk h.ro hk).2, own_fr h.wo hf fun k hk => hC k (own_blk h.wo hk).1 (own_blk h.wo hk).2, own_fr h.oo hf fun k hk => hC k (own_blk h.oo hk).1 (own_blk h.oo hk).2,
    fun x hx => own_fr (h.vo x hx) hf fun k hk => hC k (own_blk (h.vo x hx) hk).1 (own_blk (h.vo x hx) hk).2⟩
theorem ROwn.frB {w w1 w2 : World} {u : Tx} {g : Nat} {T : TypeId} {cs : Array Value} (h : ROwn w w1 u) (hf : Fr (fun k => k = g) w1 w2) (hb : Bk w1 g T cs) (h1 : 9 ≠ T) (h2 : 47 ≠ T) (h3 : 5 ≠ T) : ROwn w w2 u :=
  ⟨own_fr h.ro hf fun _ hk e => own_apart h.ro hb h1 (e ▸ hk), own_fr h.wo hf fun _ hk e => own_apart h.wo hb h1 (e ▸ hk), own_fr h.oo hf fun _ hk e => own_apart h.oo hb h2 (e ▸ hk),
    fun x hx => own_fr (h.vo x hx) hf fun _ hk e => own_apart (h.vo x hx) hb h3 (e ▸ hk)⟩
theorem ROwn.base {w0 w w1 : World} {u : Tx} (h : ROwn w w1 u) (hb : w0.heap.size ≤ w.heap.size) : ROwn w0 w1 u :=
  ⟨own_base h.ro hb, own_base h.wo hb, own_base h.oo hb, fun x hx => own_base (h.vo x hx) hb⟩
theorem own_lens {w : World} {base : Nat} {e : TypeId} {size n c : Nat} {A : Option Addr} {xs : List Value} (h : w.ownsRow base e size (.slice A n c) n xs) : n ≤ c ∧ c ≤ maxLen ∧ (A = none → c = 0) := by
  obtain ⟨A', c', e1, h1, h2⟩ := own_form h
  injection e1 with e1 _ e3
  subst e1 e3
  exact ⟨h1, own_cap h, h2⟩
theorem ROwn.inn {w w1 : World} {u : Tx} (h : ROwn w w1 u) (ht : (∀ k ∈ u.reads, k.length ≤ maxLen) ∧ ∀ k ∈ u.writes, k.length ≤ maxLen) (ho : ∀ x ∈ u.ops, x.key.length ≤ maxLen) : TxIn w1 u :=
  ⟨Rd.of_own h.ro, Rd.of_own h.wo, Rd.of_ownN h.oo, fun x hx => ⟨⟨Rd.of_own (h.vo x hx), (own_lens (h.vo x hx)).2.2⟩, (own_lens (h.vo x hx)).1, (own_lens (h.vo x hx)).2.1, ho x hx⟩, ht, own_lens h.ro, own_lens h.wo, own_lens h.oo⟩

def Mk.flat (m : Mk) : Bs × Int × Nat := (m.key, m.home, m.count)
def mkOf (k : Bs) (p : Nat × Nat) : Bs × Int × Nat := (k, sm p.1, p.2)

/-- an order whose marks are being read: wk: the world behind the keys. -/
structure RO (w wk wr : World) (N ge go : Nat) (Ak : Option Addr) (ks : List Bs) (o : Od) (ls : List UInt8) : Prop where
  re : RE wr N ge ls
  nw : N ≤ w.heap.size
  box : Bk wr w.heap.size 79 #[.pointer (some ⟨ge, 0, none⟩)]
  res : Bk wr (w.heap.size + 1) 33 ozero
  bo : Bk wr go 33 (oda o)
  lt : w.heap.size + 1 < go ∧ go < wk.heap.size
  tx : ROwn w wr o.t
  mo : wr.ownsRow wk.heap.size 44 3 (.slice o.ma o.marks.length o.mc) o.marks.length (mksc o.marks)
  kr : Rd wr Ak (sts ks)
  kl : 0 < ks.length → ∀ k, ablk Ak k → go < k ∧ k < wk.heap.size
  fr : Fr (fun k => k = ge) w wr
  sz : wk.heap.size ≤ wr.heap.size

theorem RO.step {w wk wr w' : World} {N ge go : Nat} {Ak : Option Addr} {ks : List Bs} {o : Od} {ls ls' : List UInt8} (h : RO w wk wr N ge go Ak ks o ls) (hf : Fr (fun k => k = ge) wr w') (hre : RE w' N ge ls') : RO w wk w' N ge go Ak ks o ls' := by
  have g1 := h.re.lt
  have g2 := h.nw
  have g3 := h.lt
  refine ⟨hre, h.nw, h.box.fr hf (by omega), h.res.fr hf (by omega), h.bo.fr hf (by omega), h.lt, h.tx.fr hf (fun k h1 _ e => by omega), own_fr h.mo hf (fun k hk e => by have := (own_blk h.mo hk).1; omega), h.kr.fr' hf (fun hp k hk e => ?_), h.kl, h.fr.trans hf, Nat.le_trans h.sz hf.size⟩
  rw [sts_len] at hp
  have := (h.kl hp k hk).1
  omega
theorem RO.nofr {w wk wr w' : World} {N ge go : Nat} {Ak : Option Addr} {ks : List Bs} {o : Od} {ls : List UInt8} (h : RO w wk wr N ge go Ak ks o ls) (hf : Fr NoBlk wr w') : RO w wk w' N ge go Ak ks o ls :=
  h.step (hf.mono fun _ _ h => h.elim) (h.re.fr hf fun _ _ h => h)
theorem RO.grown {w wk wr w' : World} {N ge go : Nat} {Ak : Option Addr} {ks : List Bs} {o : Od} {ls : List UInt8} (h : RO w wk wr N ge go Ak ks o ls) (hg : wr.grownBy w' (Value.slice o.ma o.marks.length o.mc).ownBlock) :
    Bk w' go 33 (oda o) ∧ Bk w' w.heap.size 79 #[.pointer (some ⟨ge, 0, none⟩)] :=
  ⟨h.bo.fr (Fr.ofGrown hg) (fun e => own_apart h.mo h.bo (by decide) e.symm), h.box.fr (Fr.ofGrown hg) (fun e => own_apart h.mo h.box (by decide) e.symm)⟩
theorem RO.push {w wk wr w' : World} {N ge go : Nat} {Ak : Option Addr} {ks : List Bs} {o : Od} {ls : List UInt8} (h : RO w wk wr N ge go Ak ks o ls) (hg : wr.grownBy w' (Value.slice o.ma o.marks.length o.mc).ownBlock) {A : Option Addr} {c : Nat} {m : Mk}
    (hm : w'.ownsRow wk.heap.size 44 3 (.slice A (o.marks.length + 1) c) (o.marks.length + 1) (mksc o.marks ++ mkc m)) :
    RO w wk (w'.setCell ⟨go, 9, none⟩ (.slice A (o.marks.length + 1) c)) N ge go Ak ks ⟨o.node, o.epoch, o.seq, o.tr, o.t, A, c, o.marks ++ [m]⟩ ls := by
  have g1 := h.re.lt
  have g2 := h.nw
  have g3 := h.lt
  have hfg := Fr.ofGrown hg
  have hf2 : Fr (fun k => k = go) w' (w'.setCell ⟨go, 9, none⟩ (.slice A (o.marks.length + 1) c)) := (Fr.refl (fun k => k = go) w').setCell (p := ⟨go, 9, none⟩) (fun _ => rfl) _
  have hmb : ∀ k, some k = (Value.slice o.ma o.marks.length o.mc).ownBlock → wk.heap.size ≤ k ∧ k < wr.heap.size := fun k hk => own_blk h.mo hk.symm
  obtain ⟨k2, k3⟩ := h.grown hg
  have hlen : (o.marks ++ [m]).length = o.marks.length + 1 := by simp
  have hcs : mksc (o.marks ++ [m]) = mksc o.marks ++ mkc m := by rw [mksc_append]; simp [mksc]
  have htx : ROwn w w' o.t := ⟨own_fr h.tx.ro hfg fun _ hk e => own_ne h.mo h.tx.ro (by decide) hk e.symm, own_fr h.tx.wo hfg fun _ hk e => own_ne h.mo h.tx.wo (by decide) hk e.symm, own_fr h.tx.oo hfg fun _ hk e => own_ne h.mo h.tx.oo (by decide) hk e.symm,
    fun x hx => own_fr (h.tx.vo x hx) hfg fun _ hk e => own_ne h.mo (h.tx.vo x hx) (by decide) hk e.symm⟩
  refine ⟨(h.re.fr hfg (fun k hk e => by have := (hmb k e).1; have := h.fr.size; omega)).fr hf2 (fun k hk e => by omega), h.nw, k3.fr hf2 (by omega), (h.res.fr hfg (fun e => own_apart h.mo h.res (by decide) e.symm)).fr hf2 (by omega), ?_, h.lt,
    htx.frB hf2 k2 (by decide) (by decide) (by decide), ?_, ?_, h.kl, ?_, ?_⟩
  · refine Bk.cast (k2.put 9 (.slice A (o.marks.length + 1) c)) ?_
    unfold oda
    simp only [List.setIfInBounds_toArray, List.set_cons_zero, List.set_cons_succ, hlen]
  · show World.ownsRow _ _ _ _ (.slice A (o.marks ++ [m]).length c) (o.marks ++ [m]).length (mksc (o.marks ++ [m]))
    rw [hlen, hcs]
    exact own_set hm k2 (by decide)
  · refine (h.kr.fr' hfg (fun hp k hk e => ?_)).fr' hf2 (fun hp k hk e => ?_)
    · rw [sts_len] at hp
      have := (h.kl hp k hk).2
      have := (hmb k e).1
      omega
    · rw [sts_len] at hp
      have := (h.kl hp k hk).1
      omega
  · exact (h.fr.grown hg (fun k hk hlt => absurd (hmb k hk.symm).1 (by omega))).step hf2 (fun k hk e => by omega)
  · have := h.sz
    have := hfg.size
    have := hf2.size
    omega
end Go.Proofs.Ytakbjjohfcgaoaa

namespace Go.Proofs.Ytakbjjohfcgaoaa
open Go.RowKit

theorem rep_all {α : Type} (f : List UInt8 → α × List UInt8) (P : α → Prop) (L : Nat) (h : ∀ l, l.length ≤ L → P (f l).1 ∧ (f l).2.length ≤ L) : ∀ (k : Nat) (l : List UInt8), l.length ≤ L → (∀ x ∈ (rep f k l).1, P x) ∧ (rep f k l).2.length ≤ L
  | 0, _, hl => ⟨fun x hx => (by cases hx), hl⟩
  | k + 1, l, hl => by
    have h1 := h l hl
    have h2 := rep_all f P L h k (f l).2 h1.2
    simp only [rep]
    refine ⟨fun x hx => ?_, h2.2⟩
    rcases List.mem_cons.1 hx with rfl | hx
    · exact h1.1
    · exact h2.1 x hx
theorem rT_all (L : Nat) (l : List UInt8) (h : l.length ≤ L) : (rT l).1.length ≤ L ∧ (rT l).2.length ≤ L := by have := rT_len l; omega
theorem rN_all (L : Nat) (l : List UInt8) (h : l.length ≤ L) : (rN l).2.length ≤ L := by have := rN_len l; omega
theorem rOpn_all (L : Nat) (l : List UInt8) (h : l.length ≤ L) : ((rOpn l).1.key.length ≤ L ∧ (rOpn l).1.z < 2 ^ 64) ∧ (rOpn l).2.length ≤ L := by
  have h1 := rN_all L l h
  have h2 := rT_all L _ h1
  have h3 := rT_all L _ h2.2
  exact ⟨⟨h2.1, rN_lt _⟩, rN_all L _ h3.2⟩
theorem rMk_all (L : Nat) (l : List UInt8) (h : l.length ≤ L) : (rMk l).1.2 < 2 ^ 64 ∧ (rMk l).2.length ≤ L := ⟨rN_lt _, rN_all L _ (rN_all L l h)⟩
theorem rKeys_all (L : Nat) (l : List UInt8) (h : l.length ≤ L) : ((∀ k ∈ (rKeys l).1, k.length ≤ L) ∧ (rKeys l).1.length ≤ 8) ∧ (rKeys l).2.length ≤ L := by
  have h1 := rep_all rT (fun k => k.length ≤ L) L (fun l h => rT_all L l h) (rC 8 l) (rN l).2 (rN_all L l h)
  exact ⟨⟨h1.1, by unfold rKeys; rw [rep_len]; unfold rC; omega⟩, h1.2⟩
structure PTn (L : Nat) (p : PT) : Prop where
  r : ∀ k ∈ p.reads, k.length ≤ L
  w : ∀ k ∈ p.writes, k.length ≤ L
  rl : p.reads.length ≤ 8
  wl : p.writes.length ≤ 8
  o : ∀ x ∈ p.ops, x.key.length ≤ L ∧ x.z < 2 ^ 64
theorem rOps_all (L : Nat) (l : List UInt8) (h : l.length ≤ L) : (∀ x ∈ (rOps l).1, x.key.length ≤ L ∧ x.z < 2 ^ 64) ∧ (rOps l).2.length ≤ L :=
  rep_all rOpn (fun x => x.key.length ≤ L ∧ x.z < 2 ^ 64) L (fun l h => rOpn_all L l h) (rC 16 l) (rN l).2 (rN_all L l h)
theorem rTxn_all (L : Nat) (l : List UInt8) (h : l.length ≤ L) : PTn L (rTxn l).1 ∧ (rTxn l).2.length ≤ L := by
  have h1 := rN_all L _ (rN_all L l h)
  unfold rTxn
  generalize (rN (rN l).2).2 = l2 at *
  generalize (rN l).1 = x1
  generalize (rN (rN l).2).1 = x2
  have h2 := rKeys_all L l2 h1
  generalize rKeys l2 = k2 at *
  have h3 := rKeys_all L k2.2 h2.2
  generalize rKeys k2.2 = k3 at *
  have h4 := rOps_all L k3.2 h3.2
  generalize rOps k3.2 = k4 at *
  exact ⟨⟨h2.1.1, h3.1.1, h2.1.2, h3.1.2, h4.1⟩, h4.2⟩

/-- it is what the bytes say. -/
structure OdOf (o : Od) (p : PO) : Prop where
  node : o.node = sm p.node
  epoch : o.epoch = p.epoch
  seq : o.seq = p.seq
  tr : o.tr = sm p.tr
  t : TxOf o.t p.t
  marks : o.marks.map Mk.flat = List.zipWith mkOf (keysOf p.t.reads p.t.writes) p.marks
structure OdOwn (w w' : World) (o : Od) : Prop where
  t : ROwn w w' o.t
  m : w'.ownsRow w.heap.size 44 3 (.slice o.ma o.marks.length o.mc) o.marks.length (mksc o.marks)
  inn : OdIn w' o
theorem OdOwn.frB {w w1 w2 : World} {o : Od} {g : Nat} {T : TypeId} {cs : Array Value} (h : OdOwn w w1 o) (hf : Fr (fun k => k = g) w1 w2) (hb : Bk w1 g T cs) (h1 : 9 ≠ T) (h2 : 47 ≠ T) (h3 : 5 ≠ T) (h4 : 44 ≠ T) : OdIn w2 o :=
  ⟨(h.t.frB hf hb h1 h2 h3).inn h.inn.txn.texts (fun x hx => (h.inn.txn.vals x hx).2.2.2), Rd.of_ownN (own_fr h.m hf fun _ hk e => own_apart h.m hb h4 (e ▸ hk)), h.inn.ml, h.inn.keys, h.inn.nums⟩
theorem OdOwn.nofr {w w1 w2 : World} {o : Od} (h : OdOwn w w1 o) (hf : Fr NoBlk w1 w2) : OdOwn w w2 o := ⟨h.t.fr hf fun _ _ _ h => h, own_fr h.m hf fun _ _ h => h, h.inn.nofr hf⟩
def ROrdPost (w : World) (ge : Nat) (l : List UInt8) (e : Ending) (w' : World) : Prop :=
  ∃ o, e = .returned (odv o) ∧ OdOwn w w' o ∧ Bnd o ∧ OdOf o (rOrder l).1 ∧ Fr (fun k => k = ge) w w'

theorem TxOf.txts {u : Tx} {p : PT} {L : Nat} (h : TxOf u p) (hp : PTn L p) : ((∀ k ∈ u.reads, k.length ≤ L) ∧ ∀ k ∈ u.writes, k.length ≤ L) ∧ ∀ x ∈ u.ops, x.key.length ≤ L ∧ nB x.n := by
  refine ⟨⟨by rw [h.reads]; exact hp.r, by rw [h.writes]; exact hp.w⟩, fun x hx => ?_⟩
  have hm : x.flat ∈ p.ops.map POp.flat := by rw [← h.ops]; exact List.mem_map_of_mem hx
  obtain ⟨q, hq, e⟩ := List.mem_map.1 hm
  have e1 : q.key = x.key := congrArg (fun y => y.2.1) e
  have e2 : unf q.z = x.n := congrArg (fun y => y.2.2.2) e
  rw [← e1, ← e2]
  exact ⟨(hp.o q hq).1, unf_bnd (hp.o q hq).2⟩
theorem zip_mem {ks : List Bs} {ps : List (Nat × Nat)} {ms : List Mk} (h : ms.map Mk.flat = List.zipWith mkOf ks ps) {m : Mk} (hm : m ∈ ms) : m.key ∈ ks ∧ ∃ p ∈ ps, m.count = p.2 := by
  have h1 : m.flat ∈ List.zipWith mkOf ks ps := by rw [← h]; exact List.mem_map_of_mem hm
  rw [← List.map_uncurry_zip_eq_zipWith] at h1
  obtain ⟨q, hq, e⟩ := List.mem_map.1 h1
  have e1 : q.1 = m.key := congrArg (fun y => y.1) e
  have e2 : q.2.2 = m.count := congrArg (fun y => y.2.2) e
  exact ⟨by rw [← e1]; exact (List.of_mem_zip hq).1, q.2, (List.of_mem_zip hq).2, e2.symm⟩

set_option maxRecDepth 100000 in
set_option maxHeartbeats 16000000 in
theorem rorder_any (w : World) (N ge : Nat) (l : List UInt8) (he : RE w N ge l) :
    Calls Try.prog 39 #[rv ge] w (ROrdPost w ge l) := by
  obtain ⟨i0, hi, hz0, hz1, hz2⟩ := info_parts markInfo
  obtain ⟨w0, hw0⟩ : ∃ w0, w0 = ((w.alloc (.cells #[.pointer (some ⟨ge, 0, none⟩)] 79)).alloc (.cells ozero 33)).alloc (.cells ozero 33) := ⟨_, rfl⟩
  have HF : Hid (Fr (fun k => k = ge) w w0) := by
    show Fr _ _ _
    rw [hw0]
    exact (((Fr.refl _ _).alloc _).alloc _).alloc _
  have HE : Hid (RE w0 N ge l) := by
    show RE _ _ _ _
    rw [hw0]
    exact he.fr ((((Fr.refl NoBlk _).alloc _).alloc _).alloc _) (fun _ _ h => h)
  have HB : Hid (Bk w0 w.heap.size 79 #[.pointer (some ⟨ge, 0, none⟩)]) := by
    show Bk _ _ _ _
    rw [hw0]
    exact ((Bk.new w _ _).alloc _).alloc _
  have HB2 : Hid (Bk w0 (w.heap.size + 1) 33 ozero) := by
    show Bk _ _ _ _
    rw [hw0]
    exact (Bk.new2 w _ _ _).alloc _
  have HB3 : Hid (Bk w0 (w.heap.size + 2) 33 ozero) := by
    show Bk _ _ _ _
    rw [hw0]
    exact Bk.new' _ _ _ (by simp)
  have HN : Hid (ge < N ∧ N ≤ w.heap.size) := ⟨he.lt, he.size⟩
  have HLE : Hid (l.length ≤ 1000000) := he.len
  have KS := Lib.hid fun W L (h : RE W N ge L) => rsmall_any W N ge L h
  have KN := Lib.hid fun W L (h : RE W N ge L) => rnum_any W N ge L h
  have KX := Lib.hid fun W L (h : RE W N ge L) => rtxn_any W N ge L h
  clear he
  unfold rv at KS KN KX ⊢
  unfold ozero at hw0
  go_enter Try.func39, Try.ntmps39
  go_upto_region 2 with fail
  rw [← hw0]
  clear hw0
  refine wp_region_held_drew (S := fun w' => w'.cell? ⟨w.heap.size, 0, none⟩ = some (.pointer (some ⟨ge, 0, none⟩))) (by kernel_rfl) ((HB.out.fr ((Fr.refl (fun k => k = ge) w0).drew) (by have := HN.out; omega)).cell 0) (fun hHeld => ?_)
  refine wpAnyH_take (i := 0) (oi := ⟨some 6, _, _, _, _, _⟩) (v := ?_) rfl (by kernel_rfl) (by kernel_rfl) (by kernel_rfl) (fun _ _ _ h => h) (Or.inl ⟨by rfl, ?_⟩) (by assumption) ?_
  rotate_left 1
  · (intro w hSw; (try dsimp only at hSw); go_simp) <;> (with_reducible rfl)
  try simp only [Act.put, List.setIfInBounds_toArray, List.set_cons_zero, List.set_cons_succ]
  refine wpAnyH_take (i := 2) (oi := ⟨some 8, _, _, _, _, _⟩) (v := ?_) rfl (by kernel_rfl) (by kernel_rfl) (by kernel_rfl) (fun _ _ _ h => h) (Or.inl ⟨by rfl, ?_⟩) (by assumption) ?_
  rotate_left 1
  · (intro w hSw; (try dsimp only at hSw); go_simp) <;> (with_reducible rfl)
  try simp only [Act.put, List.setIfInBounds_toArray, List.set_cons_zero, List.set_cons_succ]
  refine wpAnyH_take (i := 4) (oi := ⟨some 10, _, _, _, _, _⟩) (v := ?_) rfl (by kernel_rfl) (by kernel_rfl) (by kernel_rfl) (fun _ _ _ h => h) (Or.inl ⟨by rfl, ?_⟩) (by assumption) ?_
  rotate_left 1
  · (intro w hSw; (try dsimp only at hSw); go_simp) <;> (with_reducible rfl)
  try simp only [Act.put, List.setIfInBounds_toArray, List.set_cons_zero, List.set_cons_succ]
  refine wpAnyH_ready (rs := [1]) (by kernel_rfl) (by simp) ?_
  refine AllReadyH.cons (o := ⟨some 7, _, _, _, _, _⟩) rfl (fun K hK => ?_) AllReadyH.nil
  go_simp
  go_at_call 57
  refine (KS.out _ _ (HE.out.fr ((Fr.refl NoBlk w0).drew) (fun _ _ h => h))).mono ?_
  rintro e wa ⟨rfl, hre, hf⟩
  have HREwa := Lib.hid hre
  have HFwa : Hid (Fr (fun k => k = ge) w0 wa) := ((Fr.refl (fun k => k = ge) w0).drew).trans hf
  clear hre hf
  clear hHeld
  refine hK.out _ _ ?_ (fun hHeld => ?_)
  · exact (HB.out.fr (HFwa.out) (by have := HN.out; omega)).cell 0
  clear hK K
  try simp only [Act.put, List.setIfInBounds_toArray, List.set_cons_zero, List.set_cons_succ]
  refine wpAnyH_ready (rs := [3]) (by kernel_rfl) (by simp) ?_
  refine AllReadyH.cons (o := ⟨some 9, _, _, _, _, _⟩) rfl (fun K hK => ?_) AllReadyH.nil
  go_simp
  go_at_call 58
  refine (KN.out _ _ HREwa.out).mono ?_
  rintro e wb ⟨rfl, hre, hf⟩
  have HREwb := Lib.hid hre
  have HFwb : Hid (Fr (fun k => k = ge) w0 wb) := (HFwa.out).trans hf
  clear hre hf
  clear hHeld
  refine hK.out _ _ ?_ (fun hHeld => ?_)
  · exact (HB.out.fr (HFwb.out) (by have := HN.out; omega)).cell 0
  clear hK K
  try simp only [Act.put, List.setIfInBounds_toArray, List.set_cons_zero, List.set_cons_succ]
  refine wpAnyH_ready (rs := [5]) (by kernel_rfl) (by simp) ?_
  refine AllReadyH.cons (o := ⟨some 11, _, _, _, _, _⟩) rfl (fun K hK => ?_) AllReadyH.nil
  go_simp
  go_at_call 58
  refine (KN.out _ _ HREwb.out).mono ?_
  rintro e wd ⟨rfl, hre, hf⟩
  have HREwd := Lib.hid hre
  have HFwd : Hid (Fr (fun k => k = ge) w0 wd) := (HFwb.out).trans hf
  clear hre hf
  clear hHeld
  refine hK.out _ _ ?_ (fun hHeld => ?_)
  · exact (HB.out.fr (HFwd.out) (by have := HN.out; omega)).cell 0
  clear hK K
  try simp only [Act.put, List.setIfInBounds_toArray, List.set_cons_zero, List.set_cons_succ]
  refine wpAnyH_take (i := 6) (oi := ⟨some 12, _, _, _, _, _⟩) (v := ?_) rfl (by kernel_rfl) (by kernel_rfl) (by kernel_rfl) (fun _ _ _ h => h) (Or.inl ⟨by rfl, ?_⟩) (by assumption) ?_
  rotate_left 1
  · (intro w hSw; (try dsimp only at hSw); go_simp) <;> (with_reducible rfl)
  try simp only [Act.put, List.setIfInBounds_toArray, List.set_cons_zero, List.set_cons_succ]
  refine wpAnyH_take (i := 7) (oi := ⟨some 13, _, _, _, _, _⟩) (v := ?_) rfl (by kernel_rfl) (by kernel_rfl) (by kernel_rfl) (fun _ _ _ h => h) (Or.inl ⟨by rfl, ?_⟩) (by assumption) ?_
  rotate_left 1
  · (intro w hSw; (try dsimp only at hSw); go_simp) <;> (with_reducible rfl)
  try simp only [Act.put, List.setIfInBounds_toArray, List.set_cons_zero, List.set_cons_succ]
  refine wpAnyH_take (i := 8) (oi := ⟨some 14, _, _, _, _, _⟩) (v := ?_) rfl (by kernel_rfl) (by kernel_rfl) (by kernel_rfl) (fun _ _ _ h => h) (Or.inl ⟨by rfl, ?_⟩) (by assumption) ?_
  rotate_left 1
  · (intro w hSw; (try dsimp only at hSw); go_simp) <;> (with_reducible rfl)
  try simp only [Act.put, List.setIfInBounds_toArray, List.set_cons_zero, List.set_cons_succ]
  obtain ⟨go, hgo⟩ : ∃ go, go = w.heap.size + 2 := ⟨_, rfl⟩
  have hbo : Bk wd go 33 ozero := by rw [hgo]; exact HB3.out.fr HFwd.out (by have := HN.out; omega)
  have q0 : wd.cell? ⟨go, 0, none⟩ = some (.int .i64 0) := hbo.cell 0
  have q1 : wd.cell? ⟨go, 1, none⟩ = some (.int .u64 0) := hbo.cell 1
  have q2 : wd.cell? ⟨go, 2, none⟩ = some (.int .u64 0) := hbo.cell 2
  have g0 := hbo.free 0
  have g1 := hbo.free 1
  have g2 := hbo.free 2
  obtain ⟨a1, ha1⟩ : ∃ a1, a1 = sm (rN l).1 := ⟨_, rfl⟩
  obtain ⟨a2, ha2⟩ : ∃ a2, a2 = (rN (rN l).2).1 := ⟨_, rfl⟩
  obtain ⟨a3, ha3⟩ : ∃ a3, a3 = (rN (rN (rN l).2).2).1 := ⟨_, rfl⟩
  obtain ⟨l3, hl3⟩ : ∃ l3, l3 = (rN (rN (rN l).2).2).2 := ⟨_, rfl⟩
  rw [← ha1, ← ha2, ← ha3, ← hgo]
  have HRE : Hid (RE wd N ge l3) := by
    show RE _ _ _ _
    rw [hl3]
    exact HREwd.out
  have HA1 := Lib.hid ha1
  have HA2 := Lib.hid ha2
  have HA3 := Lib.hid ha3
  have HL3 := Lib.hid hl3
  have HGO := Lib.hid hgo
  clear ha1 ha2 ha3 hl3 hgo HREwa HREwb HREwd
  obtain ⟨wz, hwz⟩ : ∃ wz, wz = ((wd.setCell ⟨go, 0, none⟩ (.int .i64 a1)).setCell ⟨go, 1, none⟩ (.int .u64 (a2 : Int))).setCell ⟨go, 2, none⟩ (.int .u64 (a3 : Int)) := ⟨_, rfl⟩
  have hfz : Fr (fun k => k = go) wd wz := by
    rw [hwz]
    exact (((Fr.refl (fun k => k = go) wd).setCell (p := ⟨go, 0, none⟩) (fun _ => rfl) _).setCell (p := ⟨go, 1, none⟩) (fun _ => rfl) _).setCell (p := ⟨go, 2, none⟩) (fun _ => rfl) _
  have HBO : Hid (Bk wz go 33 #[.int .i64 a1, .int .u64 (a2 : Int), .int .u64 (a3 : Int), .int .i64 0, .int .i64 0, .slice none 0 0, .slice none 0 0, .slice none 0 0, .int .i64 0, .slice none 0 0]) := by
    show Bk _ _ _ _
    rw [hwz]
    refine Bk.cast (((hbo.put 0 (.int .i64 a1)).put 1 (.int .u64 (a2 : Int))).put 2 (.int .u64 (a3 : Int))) ?_
    unfold ozero
    simp only [List.setIfInBounds_toArray, List.set_cons_zero, List.set_cons_succ]
  have HREz := Lib.hid (HRE.out.fr hfz (fun k hk e => by have := HN.out; have := HGO.out; omega))
  have HFz : Hid (Fr (fun k => k = ge) w wz) := (HF.out.trans HFwd.out).step hfz (fun k hk e => by have := HGO.out; omega)
  have HBz := Lib.hid ((HB.out.fr HFwd.out (by have := HN.out; omega)).fr hfz (by have := HGO.out; omega))
  have HRz := Lib.hid ((HB2.out.fr HFwd.out (by have := HN.out; omega)).fr hfz (by have := HGO.out; omega))
  have HWZ := Lib.hid hwz
  clear hbo hfz hwz HRE HFwa HFwb HFwd
  refine wpAnyH_ready (rs := [9]) (by kernel_rfl) (by simp) ?_
  refine AllReadyH.cons (o := ⟨none, _, _, _, _, _⟩) rfl (fun K hK => ?_) AllReadyH.nil
  go_simp
  rw [← HWZ.out]
  clear hHeld
  refine hK.out _ _ ?_ (fun hHeld => ?_)
  · exact HBz.out.cell 0
  clear hK K
  try simp only [Act.put, List.setIfInBounds_toArray, List.set_cons_zero, List.set_cons_succ]
  refine wpAnyH_done (by kernel_rfl) ?_ _
  clear HWZ hHeld HB HB2 HB3 HE HF q0 q1 q2 g0 g1 g2
  have b0 : wz.cell? ⟨w.heap.size, 0, none⟩ = some (.pointer (some ⟨ge, 0, none⟩)) := HBz.out.cell 0
  go_wp2_with fail
  refine (KS.out _ _ HREz.out).mono ?_
  rintro e w1 ⟨rfl, hre, hf⟩
  have HBO1 := Lib.hid (HBO.out.fr hf (by have := HN.out; have := HGO.out; omega))
  obtain ⟨a4, ha4⟩ : ∃ a4, a4 = sm (rN l3).1 := ⟨_, rfl⟩
  obtain ⟨l4, hl4⟩ : ∃ l4, l4 = (rN l3).2 := ⟨_, rfl⟩
  rw [← ha4]
  rw [← hl4] at hre
  have t3 : w1.cell? ⟨go, 3, none⟩ = some (.int .i64 0) := HBO1.out.cell 3
  have e3 := HBO1.out.free 3
  obtain ⟨w2, hw2⟩ : ∃ w2, w2 = w1.setCell ⟨go, 3, none⟩ (.int .i64 a4) := ⟨_, rfl⟩
  have hf2 : Fr (fun k => k = go) w1 w2 := by
    rw [hw2]
    exact (Fr.refl (fun k => k = go) w1).setCell (p := ⟨go, 3, none⟩) (fun _ => rfl) _
  have HBO2 : Hid (Bk w2 go 33 #[.int .i64 a1, .int .u64 (a2 : Int), .int .u64 (a3 : Int), .int .i64 a4, .int .i64 0, .slice none 0 0, .slice none 0 0, .slice none 0 0, .int .i64 0, .slice none 0 0]) := by
    show Bk _ _ _ _
    rw [hw2]
    refine Bk.cast (HBO1.out.put 3 (.int .i64 a4)) ?_
    simp only [List.setIfInBounds_toArray, List.set_cons_zero, List.set_cons_succ]
  have HRE2 := Lib.hid (hre.fr hf2 (fun k hk e => by have := HN.out; have := HGO.out; omega))
  have HF2 : Hid (Fr (fun k => k = ge) w w2) := (HFz.out.trans hf).step hf2 (fun k hk e => by have := HGO.out; omega)
  have HB2' := Lib.hid ((HBz.out.fr hf (by have := HN.out; omega)).fr hf2 (by have := HGO.out; omega))
  have HR2' := Lib.hid ((HRz.out.fr hf (by have := HN.out; omega)).fr hf2 (by have := HGO.out; omega))
  have HA4 := Lib.hid ha4
  have HL4 := Lib.hid hl4
  have HW2 := Lib.hid hw2
  clear ha4 hl4 hw2 hf2 hre hf HBO HBO1 HBz HRz HFz HREz b0
  go_upto_region 4 with fail
  rw [← HW2.out]
  clear HW2 t3 e3
  have b0 : w2.cell? ⟨w.heap.size, 0, none⟩ = some (.pointer (some ⟨ge, 0, none⟩)) := HB2'.out.cell 0
  go_wp2_with fail
  refine (KX.out _ _ HRE2.out).mono ?_
  rintro e w3 ⟨u, rfl, hown, hof, hre, hf⟩
  have HBO3 := Lib.hid (HBO2.out.fr hf (by have := HN.out; have := HGO.out; omega))
  obtain ⟨p4, hp4⟩ : ∃ p4, p4 = (rTxn l4).1 := ⟨_, rfl⟩
  obtain ⟨l5, hl5⟩ : ∃ l5, l5 = (rTxn l4).2 := ⟨_, rfl⟩
  have hpn : PTn 1000000 p4 := by rw [hp4]; exact (rTxn_all 1000000 l4 HRE2.out.len).1
  rw [← hp4] at hof
  rw [← hl5] at hre
  have HPN := Lib.hid hpn
  have HOF := Lib.hid hof
  have HP4 := Lib.hid hp4
  have HL5 := Lib.hid hl5
  have t4 : w3.cell? ⟨go, 4, none⟩ = some (.int .i64 0) := HBO3.out.cell 4
  have t5 : w3.cell? ⟨go, 5, none⟩ = some (.slice none 0 0) := HBO3.out.cell 5
  have t6 : w3.cell? ⟨go, 6, none⟩ = some (.slice none 0 0) := HBO3.out.cell 6
  have t7 : w3.cell? ⟨go, 7, none⟩ = some (.slice none 0 0) := HBO3.out.cell 7
  have t8 : w3.cell? ⟨go, 8, none⟩ = some (.int .i64 0) := HBO3.out.cell 8
  have e4 := HBO3.out.free 4
  have e5 := HBO3.out.free 5
  have e6 := HBO3.out.free 6
  have e7 := HBO3.out.free 7
  have e8 := HBO3.out.free 8
  obtain ⟨w4, hw4⟩ : ∃ w4, w4 = (((((w3.setCell ⟨go, 4, none⟩ (.int .i64 u.kind)).setCell ⟨go, 5, none⟩ (.slice u.ra u.reads.length u.rc)).setCell ⟨go, 6, none⟩ (.slice u.wa u.writes.length u.wc)).setCell ⟨go, 7, none⟩ (.slice u.oa u.ops.length u.oc)).setCell ⟨go, 8, none⟩ (.int .i64 u.to)) := ⟨_, rfl⟩
  have hf4 : Fr (fun k => k = go) w3 w4 := by
    rw [hw4]
    exact ((((((Fr.refl (fun k => k = go) w3).setCell (p := ⟨go, 4, none⟩) (fun _ => rfl) _).setCell (p := ⟨go, 5, none⟩) (fun _ => rfl) _).setCell (p := ⟨go, 6, none⟩) (fun _ => rfl) _).setCell (p := ⟨go, 7, none⟩) (fun _ => rfl) _).setCell (p := ⟨go, 8, none⟩) (fun _ => rfl) _)
  have HBO4 : Hid (Bk w4 go 33 (oda ⟨a1, a2, a3, a4, u, none, 0, []⟩)) := by
    show Bk _ _ _ _
    rw [hw4]
    refine Bk.cast (((((HBO3.out.put 4 (.int .i64 u.kind)).put 5 (.slice u.ra u.reads.length u.rc)).put 6 (.slice u.wa u.writes.length u.wc)).put 7 (.slice u.oa u.ops.length u.oc)).put 8 (.int .i64 u.to)) ?_
    unfold oda
    simp only [List.setIfInBounds_toArray, List.set_cons_zero, List.set_cons_succ, List.length_nil]
  have HRE4 := Lib.hid (hre.fr hf4 (fun k hk e => by have := HN.out; have := HGO.out; omega))
  have HF4 : Hid (Fr (fun k => k = ge) w w4) := (HF2.out.trans hf).step hf4 (fun k hk e => by have := HGO.out; omega)
  have HB4 := Lib.hid ((HB2'.out.fr hf (by have := HN.out; omega)).fr hf4 (by have := HGO.out; omega))
  have HR4 := Lib.hid ((HR2'.out.fr hf (by have := HN.out; omega)).fr hf4 (by have := HGO.out; omega))
  have HOW : Hid (ROwn w w4 u) := (hown.base HF2.out.size).frB hf4 HBO3.out (by decide) (by decide) (by decide)
  have HTI : Hid (TxIn w4 u) := HOW.out.inn (by have h := (hof.txts hpn).1; exact ⟨fun k hk => Nat.le_trans (h.1 k hk) (by decide), fun k hk => Nat.le_trans (h.2 k hk) (by decide)⟩) (fun x hx => Nat.le_trans ((hof.txts hpn).2 x hx).1 (by decide))
  have hr8 : u.reads.length ≤ 8 := by rw [hof.reads]; exact hpn.rl
  have hw8 : u.writes.length ≤ 8 := by rw [hof.writes]; exact hpn.wl
  have KP := Lib.hid (keys_any w4 u HTI.out (by omega) (by omega))
  unfold txv txa at KP ⊢
  have HW4 := Lib.hid hw4
  clear hp4 hl5 hw4 hf4 hre hf hown hof hpn HBO2 HBO3 HB2' HR2' HF2 HRE2 b0 KX
  go_upto_region 5 with fail
  rw [← HW4.out]
  clear HW4 t4 t5 t6 t7 t8 e4 e5 e6 e7 e8
  obtain ⟨d0, d1, d2, d3, d4, d5, d6, d7, d8, d9⟩ := HBO4.out.ord
  go_wp2_with fail
  refine KP.out.mono ?_
  rintro e wk ⟨Ak, ck, ks, rfl, hks, hat⟩
  have HKE : Hid (ks = keysOf u.reads u.writes) := hks.of
  have hk16 : ks.length ≤ 16 := by
    have := keysOf_len u.reads u.writes
    rw [HKE.out]
    omega
  have HX : Hid (RO w wk wk N ge go Ak ks ⟨a1, a2, a3, a4, u, none, 0, []⟩ l5) := by
    have g1 := HN.out
    have g2 := HGO.out
    have g3 := HBO4.out.lt
    have g4 := hat.fr.size
    refine ⟨HRE4.out.fr hat.fr (fun _ _ h => h), g1.2, HB4.out.fr hat.fr (fun h => h), HR4.out.fr hat.fr (fun h => h), HBO4.out.fr hat.fr (fun h => h), by omega, HOW.out.fr hat.fr (fun _ _ _ h => h), World.ownsRow_nil _ _ _ _, hat.rd, fun hp k hk => ?_, HF4.out.trans (hat.fr.mono fun _ _ h => h.elim), Nat.le_refl _⟩
    have := hat.own k hk
    have := hat.rd.lt (by rw [sts_len]; exact hp) hk
    omega
  have HFI : Hid (∀ (wr wz : World) (A : Option Addr) (c : Nat) (ms : List Mk), ms.map Mk.flat = List.zipWith mkOf ks (rep rMk ks.length l5).1 → RO w wk wr N ge go Ak ks ⟨a1, a2, a3, a4, u, A, c, ms⟩ (rep rMk ks.length l5).2 →
      Fr (fun k => k = w.heap.size + 1) wr wz → ROrdPost w ge l (.returned (odv ⟨a1, a2, a3, a4, u, A, c, ms⟩)) wz) := by
    intro wr wz A c ms hm hx hf
    have hto : rTag l = ((((rN l).1, a2, a3, (rN l3).1) : Nat × Nat × Nat × Nat), l4) := by
      unfold rTag
      rw [← HA2.out, ← HA3.out, ← HL3.out, ← HL4.out]
    have hro : rOrder l = (⟨(rN l).1, a2, a3, (rN l3).1, p4, (rep rMk ks.length l5).1⟩, (rep rMk ks.length l5).2) := by
      unfold rOrder
      rw [hto]
      simp only
      rw [← HP4.out, ← HL5.out, ← HOF.out.reads, ← HOF.out.writes, ← HKE.out]
    have hal := rep_all rMk (fun p => p.2 < 2 ^ 64) 1000000 (fun l h => rMk_all 1000000 l h) ks.length l5 HRE4.out.len
    have htx : ROwn w wz u := hx.tx.frB hf hx.res (by decide) (by decide) (by decide)
    have htt := HOF.out.txts HPN.out
    have hmo := own_fr hx.mo hf fun k hk e => own_apart hx.mo hx.res (by decide) (e ▸ hk)
    refine ⟨_, rfl, ⟨htx, own_base hmo (by have := hx.lt; omega), htx.inn ⟨fun k hk => Nat.le_trans (htt.1.1 k hk) (by decide), fun k hk => Nat.le_trans (htt.1.2 k hk) (by decide)⟩ (fun x hx => Nat.le_trans (htt.2 x hx).1 (by decide)), Rd.of_ownN hmo, own_lens hmo, ?_, ?_⟩, fun x hx => (htt.2 x hx).2, ?_, hx.fr.step hf (fun k hk e => by omega)⟩
    · intro m hmm
      have h1 := (zip_mem hm hmm).1
      rw [HKE.out] at h1
      refine Nat.le_trans ?_ (by decide : 1000000 ≤ maxLen)
      rcases keysOf_mem h1 with h | h
      · exact htt.1.1 _ h
      · exact htt.1.2 _ h
    · refine ⟨by show a2 < _; rw [HA2.out]; exact rN_lt _, by show a3 < _; rw [HA3.out]; exact rN_lt _, fun m hmm => ?_⟩
      obtain ⟨p, hp, e⟩ := (zip_mem hm hmm).2
      rw [e]
      exact hal.1 p hp
    · rw [hro]
      exact ⟨HA1.out, rfl, rfl, HA4.out, HOF.out, by rw [← HOF.out.reads, ← HOF.out.writes, ← HKE.out]; exact hm⟩
  clear hks hat HKE HTI KP HRE4 HF4 HB4 HR4 HOW HBO4 HOF HPN HP4 HL3 HL4 HL5 HA1 HA2 HA3 HA4 d0 d1 d2 d3 d4 d5 d6 d7 d8 d9
  go_wp2_with fail
  go_loopw [26] (fun z wr => ∃ (i : Nat) (A : Option Addr) (c : Nat) (ms : List Mk), i ≤ ks.length ∧ z = .int .i64 i ∧ Hid (ms.map Mk.flat = List.zipWith mkOf (ks.take i) (rep rMk i l5).1) ∧ Hid (RO w wk wr N ge go Ak ks ⟨a1, a2, a3, a4, u, A, c, ms⟩ (rep rMk i l5).2)) (fun z _ => ks.length - (intOf z).toNat)
  case atStart => exact ⟨0, none, 0, [], by omega, rfl, rfl, HX⟩
  case round =>
    clear HX
    obtain ⟨i, A, c, ms, hi', rfl, HM, HX⟩ := hrel
    have HLN : Hid (ms.length = i) := by
      have h := congrArg List.length HM.out
      rw [List.length_map, List.length_zipWith, rep_len, List.length_take] at h
      show _ = _
      omega
    by_cases hlt : i < ks.length
    · obtain ⟨b, off, hA, hcell⟩ := HX.out.kr.text (k := i) hlt
      obtain ⟨x, hx⟩ : ∃ x, ks[i]? = some x := ⟨_, List.getElem?_eq_getElem hlt⟩
      rw [List.getD_eq_getElem?_getD, hx, Option.getD_some] at hcell
      have HXX := Lib.hid hx
      subst hA
      have i1' : (i : Int) < (ks.length : Int) := by omega
      obtain ⟨ls, hls⟩ : ∃ ls, ls = (rep rMk i l5).2 := ⟨_, rfl⟩
      obtain ⟨o, ho⟩ : ∃ o : Od, o = ⟨a1, a2, a3, a4, u, A, c, ms⟩ := ⟨_, rfl⟩
      rw [← hls, ← ho] at HX
      have HX0 : Hid (RO w wk wr.drew N ge go (some ⟨b, off, none⟩) ks o ls) := HX.out.nofr (Fr.refl _ _).drew
      have HOL : Hid (o.marks.length ≤ 16) := by
        show _ ≤ _
        rw [ho]
        show ms.length ≤ 16
        have := HLN.out
        omega
      have NEXT : Hid (∀ (W : World) (A' : Option Addr) (c' : Nat), RO w wk W N ge go (some ⟨b, off, none⟩) ks ⟨o.node, o.epoch, o.seq, o.tr, o.t, A', c', o.marks ++ [⟨x, sm (rN ls).1, (rN (rN ls).2).1⟩]⟩ (rN (rN ls).2).2 →
          ∃ (i' : Nat) (A : Option Addr) (c : Nat) (ms : List Mk), i' ≤ ks.length ∧ i' = i + 1 ∧ Hid (ms.map Mk.flat = List.zipWith mkOf (ks.take i') (rep rMk i' l5).1) ∧ Hid (RO w wk W N ge go (some ⟨b, off, none⟩) ks ⟨a1, a2, a3, a4, u, A, c, ms⟩ (rep rMk i' l5).2)) := by
        intro W A' c' hx'
        have hs := rep_snoc rMk i l5
        refine ⟨i + 1, A', c', ms ++ [⟨x, sm (rN ls).1, (rN (rN ls).2).1⟩], by omega, rfl, ?_, ?_⟩
        rotate_left
        · show RO _ _ _ _ _ _ _ _ _ _
          rw [hs, ← hls]
          rw [ho] at hx'
          exact hx'
        · show List.map _ _ = _
          obtain ⟨hil, hxe⟩ := List.getElem?_eq_some_iff.1 HXX.out
          rw [hs, ← hls, List.map_append, List.take_succ_eq_append_getElem hil, hxe, List.zipWith_append (by rw [rep_len, List.length_take]; omega), HM.out]
          rfl
      have HLS := Lib.hid hls
      have HOO := Lib.hid ho
      clear HX HM hls ho HLN hx
      go_wp2_with fail
      refine wp_region_held_drew (S := fun w' => w'.cell? ⟨w.heap.size, 0, none⟩ = some (.pointer (some ⟨ge, 0, none⟩))) (by kernel_rfl) (HX0.out.box.cell 0) (fun hHeld => ?_)
      refine wpAnyH_take (i := 0) (oi := ⟨some 30, _, _, _, _, _⟩) (v := ?_) rfl (by kernel_rfl) (by kernel_rfl) (by kernel_rfl) (fun _ _ _ h => h) (Or.inl ⟨by rfl, ?_⟩) (by assumption) ?_
      rotate_left 1
      · (intro w hSw; (try dsimp only at hSw); go_simp) <;> (with_reducible rfl)
      try simp only [Act.put, List.setIfInBounds_toArray, List.set_cons_zero, List.set_cons_succ]
      refine wpAnyH_take (i := 2) (oi := ⟨some 32, _, _, _, _, _⟩) (v := ?_) rfl (by kernel_rfl) (by kernel_rfl) (by kernel_rfl) (fun _ _ _ h => h) (Or.inl ⟨by rfl, ?_⟩) (by assumption) ?_
      rotate_left 1
      · (intro w hSw; (try dsimp only at hSw); go_simp) <;> (with_reducible rfl)
      try simp only [Act.put, List.setIfInBounds_toArray, List.set_cons_zero, List.set_cons_succ]
      refine wpAnyH_take (i := 3) (oi := ⟨some 33, _, _, _, _, _⟩) (v := ?_) rfl (by kernel_rfl) (by kernel_rfl) (by kernel_rfl) (fun _ _ _ h => h) (Or.inl ⟨by rfl, ?_⟩) (by assumption) ?_
      rotate_left 1
      · (intro w hSw; (try dsimp only at hSw); go_simp) <;> (with_reducible rfl)
      try simp only [Act.put, List.setIfInBounds_toArray, List.set_cons_zero, List.set_cons_succ]
      refine wpAnyH_take (i := 5) (oi := ⟨some 35, _, _, _, _, _⟩) (v := ?_) rfl (by kernel_rfl) (by kernel_rfl) (by kernel_rfl) (fun _ _ _ h => h) (Or.inl ⟨by rfl, ?_⟩) (by assumption) ?_
      rotate_left 1
      · (intro w hSw; (try dsimp only at hSw); go_simp) <;> (with_reducible rfl)
      try simp only [Act.put, List.setIfInBounds_toArray, List.set_cons_zero, List.set_cons_succ]
      refine wpAnyH_ready (rs := [1, 4]) (by kernel_rfl) (by simp) ?_
      refine AllReadyH.cons (o := ⟨some 31, _, _, _, _, _⟩) rfl (fun K hK => ?_) (AllReadyH.cons (o := ⟨some 34, _, _, _, _, _⟩) rfl (fun K hK => ?_) AllReadyH.nil)
      · have o3 : (wr.drew).cell? ⟨go, 9, none⟩ = some (.slice o.ma o.marks.length o.mc) := HX0.out.bo.cell 9
        go_simp
        clear hHeld
        refine hK.out _ _ ?_ (fun hHeld => ?_)
        · exact HX0.out.box.cell 0
        clear hK K
        try simp only [Act.put, List.setIfInBounds_toArray, List.set_cons_zero, List.set_cons_succ]
        clear o3
        refine wpAnyH_ready (rs := [4]) (by kernel_rfl) (by simp) ?_
        refine AllReadyH.cons (o := ⟨some 34, _, _, _, _, _⟩) rfl (fun K hK => ?_) AllReadyH.nil
        go_simp
        go_at_call 57
        refine (KS.out _ _ HX0.out.re).mono ?_
        rintro e wa ⟨rfl, hre, hf⟩
        have HXa := Lib.hid (HX0.out.step hf hre)
        clear hre hf
        clear hHeld
        refine hK.out _ _ ?_ (fun hHeld => ?_)
        · exact HXa.out.box.cell 0
        clear hK K
        try simp only [Act.put, List.setIfInBounds_toArray, List.set_cons_zero, List.set_cons_succ]
        refine wpAnyH_ready (rs := [6]) (by kernel_rfl) (by simp) ?_
        refine AllReadyH.cons (o := ⟨some 36, _, _, _, _, _⟩) rfl (fun K hK => ?_) AllReadyH.nil
        go_simp
        go_at_call 58
        refine (KN.out _ _ HXa.out.re).mono ?_
        rintro e wb ⟨rfl, hre, hf⟩
        have HXb := Lib.hid (HXa.out.step hf hre)
        clear hre hf
        clear hHeld
        refine hK.out _ _ ?_ (fun hHeld => ?_)
        · exact HXb.out.box.cell 0
        clear hK K
        try simp only [Act.put, List.setIfInBounds_toArray, List.set_cons_zero, List.set_cons_succ]
        refine wpAnyH_take (i := 7) (oi := ⟨some 37, _, _, _, _, _⟩) (v := ?_) rfl (by kernel_rfl) (by kernel_rfl) (by kernel_rfl) (fun _ _ _ h => h) (Or.inl ⟨by rfl, ?_⟩) (by assumption) ?_
        rotate_left 1
        · (intro w hSw; (try dsimp only at hSw); go_simp) <;> (with_reducible rfl)
        try simp only [Act.put, List.setIfInBounds_toArray, List.set_cons_zero, List.set_cons_succ]
        refine wpAnyH_ready (rs := [8]) (by kernel_rfl) (by simp) ?_
        refine AllReadyH.cons (o := ⟨some 38, _, _, _, _, _⟩) rfl (fun K hK => ?_) AllReadyH.nil
        go_simp
        clear hHeld
        refine hK.out _ _ ?_ (fun hHeld => ?_)
        · exact (HXb.out.nofr ((Fr.refl NoBlk wb).alloc (.cells #[.string (bstr x), .int .i64 (sm (rN ls).1), .int .u64 ((rN (rN ls).2).1 : Int)] 44))).box.cell 0
        clear hK K
        try simp only [Act.put, List.setIfInBounds_toArray, List.set_cons_zero, List.set_cons_succ]
        refine wpAnyH_ready (rs := [9]) (by kernel_rfl) (by simp) ?_
        refine AllReadyH.cons (o := ⟨some 39, _, _, _, _, _⟩) rfl (fun K hK => ?_) AllReadyH.nil
        have HXe := Lib.hid (HXb.out.nofr ((Fr.refl NoBlk wb).alloc (.cells #[.string (bstr x), .int .i64 (sm (rN ls).1), .int .u64 ((rN (rN ls).2).1 : Int)] 44)))
        have HR8 : Hid (Rd (wb.alloc (.cells #[.string (bstr x), .int .i64 (sm (rN ls).1), .int .u64 ((rN (rN ls).2).1 : Int)] 44)) (some ⟨wb.heap.size, 0, none⟩) (mkc (⟨x, sm (rN ls).1, (rN (rN ls).2).1⟩ : Mk))) := Rd.of_cells (Bk.new wb _ _)
        refine step_appO rfl _ _ 31 rfl wk.heap.size 44 i0 _ 3 32 Try.underlying31 hi hz0 hz1 hz2 rfl (by decide) (.slice o.ma o.marks.length o.mc) o.marks.length (mksc o.marks) rfl HXe.out.mo ⟨wb.heap.size, 0, none⟩ 1 1 (mkc (⟨x, sm (rN ls).1, (rN (rN ls).2).1⟩ : Mk)) rfl rfl HR8.out ?q1 ?q2 ?q3 HXe.out.sz ?_
        case q1 => intro y hy; simp only [mkc, List.mem_cons, List.not_mem_nil, or_false] at hy; rcases hy with rfl | rfl | rfl <;> rfl
        case q2 => have := HOL.out; unfold maxLen; omega
        case q3 => have := HOL.out; omega
        intro v9 w9 ho9 hg9 _
        obtain ⟨A9, c9, rfl, _, _⟩ := own_form ho9
        obtain ⟨k2, k3⟩ := HXe.out.grown hg9
        have o9 : w9.cell? ⟨go, 9, none⟩ = some (.slice o.ma o.marks.length o.mc) := k2.cell 9
        have f9 := k2.free 9
        have h9 := k3.cell 0
        have HXF := Lib.hid (HXe.out.push hg9 (m := (⟨x, sm (rN ls).1, (rN (rN ls).2).1⟩ : Mk)) ho9)
        clear ho9 hg9 k2 k3
        clear hHeld
        refine hK.out _ _ ?_ (fun hHeld => ?_)
        · exact h9
        clear hK K
        try simp only [Act.put, List.setIfInBounds_toArray, List.set_cons_zero, List.set_cons_succ]
        refine wpAnyH_take (i := 10) (oi := ⟨some 40, _, _, _, _, _⟩) (v := ?_) rfl (by kernel_rfl) (by kernel_rfl) (by kernel_rfl) (fun _ _ _ h => h) (Or.inl ⟨by rfl, ?_⟩) (by assumption) ?_
        rotate_left 1
        · (intro w hSw; (try dsimp only at hSw); go_simp) <;> (with_reducible rfl)
        try simp only [Act.put, List.setIfInBounds_toArray, List.set_cons_zero, List.set_cons_succ]
        refine wpAnyH_ready (rs := [11]) (by kernel_rfl) (by simp) ?_
        refine AllReadyH.cons (o := ⟨none, _, _, _, _, _⟩) rfl (fun K hK => ?_) AllReadyH.nil
        go_simp
        clear hHeld
        refine hK.out _ _ ?_ (fun hHeld => ?_)
        · exact HXF.out.box.cell 0
        clear hK K
        try simp only [Act.put, List.setIfInBounds_toArray, List.set_cons_zero, List.set_cons_succ]
        refine wpAnyH_done (by kernel_rfl) ?_ _
        have HNX := Lib.hid (NEXT.out _ _ _ HXF.out)
        clear HXF HXe HXb HXa HX0 HR8 NEXT
        go_wp2_with fail
        go_roundw
        case rel =>
          obtain ⟨i', A', c', ms', h1, rfl, h4, h5⟩ := HNX.out
          exact ⟨_, A', c', ms', h1, by go_num, h4, h5⟩
        case measure => simp [intOf]; omega
      · go_simp
        go_at_call 57
        refine (KS.out _ _ HX0.out.re).mono ?_
        rintro e wa ⟨rfl, hre, hf⟩
        have HXa := Lib.hid (HX0.out.step hf hre)
        clear hre hf
        clear hHeld
        refine hK.out _ _ ?_ (fun hHeld => ?_)
        · exact HXa.out.box.cell 0
        clear hK K
        try simp only [Act.put, List.setIfInBounds_toArray, List.set_cons_zero, List.set_cons_succ]
        refine wpAnyH_ready (rs := [1, 6]) (by kernel_rfl) (by simp) ?_
        refine AllReadyH.cons (o := ⟨some 31, _, _, _, _, _⟩) rfl (fun K hK => ?_) (AllReadyH.cons (o := ⟨some 36, _, _, _, _, _⟩) rfl (fun K hK => ?_) AllReadyH.nil)
        · have o3 : (wa).cell? ⟨go, 9, none⟩ = some (.slice o.ma o.marks.length o.mc) := HXa.out.bo.cell 9
          go_simp
          clear hHeld
          refine hK.out _ _ ?_ (fun hHeld => ?_)
          · exact HXa.out.box.cell 0
          clear hK K
          try simp only [Act.put, List.setIfInBounds_toArray, List.set_cons_zero, List.set_cons_succ]
          clear o3
          refine wpAnyH_ready (rs := [6]) (by kernel_rfl) (by simp) ?_
          refine AllReadyH.cons (o := ⟨some 36, _, _, _, _, _⟩) rfl (fun K hK => ?_) AllReadyH.nil
          go_simp
          go_at_call 58
          refine (KN.out _ _ HXa.out.re).mono ?_
          rintro e wb ⟨rfl, hre, hf⟩
          have HXb := Lib.hid (HXa.out.step hf hre)
          clear hre hf
          clear hHeld
          refine hK.out _ _ ?_ (fun hHeld => ?_)
          · exact HXb.out.box.cell 0
          clear hK K
          try simp only [Act.put, List.setIfInBounds_toArray, List.set_cons_zero, List.set_cons_succ]
          refine wpAnyH_take (i := 7) (oi := ⟨some 37, _, _, _, _, _⟩) (v := ?_) rfl (by kernel_rfl) (by kernel_rfl) (by kernel_rfl) (fun _ _ _ h => h) (Or.inl ⟨by rfl, ?_⟩) (by assumption) ?_
          rotate_left 1
          · (intro w hSw; (try dsimp only at hSw); go_simp) <;> (with_reducible rfl)
          try simp only [Act.put, List.setIfInBounds_toArray, List.set_cons_zero, List.set_cons_succ]
          refine wpAnyH_ready (rs := [8]) (by kernel_rfl) (by simp) ?_
          refine AllReadyH.cons (o := ⟨some 38, _, _, _, _, _⟩) rfl (fun K hK => ?_) AllReadyH.nil
          go_simp
          clear hHeld
          refine hK.out _ _ ?_ (fun hHeld => ?_)
          · exact (HXb.out.nofr ((Fr.refl NoBlk wb).alloc (.cells #[.string (bstr x), .int .i64 (sm (rN ls).1), .int .u64 ((rN (rN ls).2).1 : Int)] 44))).box.cell 0
          clear hK K
          try simp only [Act.put, List.setIfInBounds_toArray, List.set_cons_zero, List.set_cons_succ]
          refine wpAnyH_ready (rs := [9]) (by kernel_rfl) (by simp) ?_
          refine AllReadyH.cons (o := ⟨some 39, _, _, _, _, _⟩) rfl (fun K hK => ?_) AllReadyH.nil
          have HXe := Lib.hid (HXb.out.nofr ((Fr.refl NoBlk wb).alloc (.cells #[.string (bstr x), .int .i64 (sm (rN ls).1), .int .u64 ((rN (rN ls).2).1 : Int)] 44)))
          have HR8 : Hid (Rd (wb.alloc (.cells #[.string (bstr x), .int .i64 (sm (rN ls).1), .int .u64 ((rN (rN ls).2).1 : Int)] 44)) (some ⟨wb.heap.size, 0, none⟩) (mkc (⟨x, sm (rN ls).1, (rN (rN ls).2).1⟩ : Mk))) := Rd.of_cells (Bk.new wb _ _)
          refine step_appO rfl _ _ 31 rfl wk.heap.size 44 i0 _ 3 32 Try.underlying31 hi hz0 hz1 hz2 rfl (by decide) (.slice o.ma o.marks.length o.mc) o.marks.length (mksc o.marks) rfl HXe.out.mo ⟨wb.heap.size, 0, none⟩ 1 1 (mkc (⟨x, sm (rN ls).1, (rN (rN ls).2).1⟩ : Mk)) rfl rfl HR8.out ?q1 ?q2 ?q3 HXe.out.sz ?_
          case q1 => intro y hy; simp only [mkc, List.mem_cons, List.not_mem_nil, or_false] at hy; rcases hy with rfl | rfl | rfl <;> rfl
          case q2 => have := HOL.out; unfold maxLen; omega
          case q3 => have := HOL.out; omega
          intro v9 w9 ho9 hg9 _
          obtain ⟨A9, c9, rfl, _, _⟩ := own_form ho9
          obtain ⟨k2, k3⟩ := HXe.out.grown hg9
          have o9 : w9.cell? ⟨go, 9, none⟩ = some (.slice o.ma o.marks.length o.mc) := k2.cell 9
          have f9 := k2.free 9
          have h9 := k3.cell 0
          have HXF := Lib.hid (HXe.out.push hg9 (m := (⟨x, sm (rN ls).1, (rN (rN ls).2).1⟩ : Mk)) ho9)
          clear ho9 hg9 k2 k3
          clear hHeld
          refine hK.out _ _ ?_ (fun hHeld => ?_)
          · exact h9
          clear hK K
          try simp only [Act.put, List.setIfInBounds_toArray, List.set_cons_zero, List.set_cons_succ]
          refine wpAnyH_take (i := 10) (oi := ⟨some 40, _, _, _, _, _⟩) (v := ?_) rfl (by kernel_rfl) (by kernel_rfl) (by kernel_rfl) (fun _ _ _ h => h) (Or.inl ⟨by rfl, ?_⟩) (by assumption) ?_
          rotate_left 1
          · (intro w hSw; (try dsimp only at hSw); go_simp) <;> (with_reducible rfl)
          try simp only [Act.put, List.setIfInBounds_toArray, List.set_cons_zero, List.set_cons_succ]
          refine wpAnyH_ready (rs := [11]) (by kernel_rfl) (by simp) ?_
          refine AllReadyH.cons (o := ⟨none, _, _, _, _, _⟩) rfl (fun K hK => ?_) AllReadyH.nil
          go_simp
          clear hHeld
          refine hK.out _ _ ?_ (fun hHeld => ?_)
          · exact HXF.out.box.cell 0
          clear hK K
          try simp only [Act.put, List.setIfInBounds_toArray, List.set_cons_zero, List.set_cons_succ]
          refine wpAnyH_done (by kernel_rfl) ?_ _
          have HNX := Lib.hid (NEXT.out _ _ _ HXF.out)
          clear HXF HXe HXb HXa HX0 HR8 NEXT
          go_wp2_with fail
          go_roundw
          case rel =>
            obtain ⟨i', A', c', ms', h1, rfl, h4, h5⟩ := HNX.out
            exact ⟨_, A', c', ms', h1, by go_num, h4, h5⟩
          case measure => simp [intOf]; omega
        · go_simp
          go_at_call 58
          refine (KN.out _ _ HXa.out.re).mono ?_
          rintro e wb ⟨rfl, hre, hf⟩
          have HXb := Lib.hid (HXa.out.step hf hre)
          clear hre hf
          clear hHeld
          refine hK.out _ _ ?_ (fun hHeld => ?_)
          · exact HXb.out.box.cell 0
          clear hK K
          try simp only [Act.put, List.setIfInBounds_toArray, List.set_cons_zero, List.set_cons_succ]
          refine wpAnyH_take (i := 7) (oi := ⟨some 37, _, _, _, _, _⟩) (v := ?_) rfl (by kernel_rfl) (by kernel_rfl) (by kernel_rfl) (fun _ _ _ h => h) (Or.inl ⟨by rfl, ?_⟩) (by assumption) ?_
          rotate_left 1
          · (intro w hSw; (try dsimp only at hSw); go_simp) <;> (with_reducible rfl)
          try simp only [Act.put, List.setIfInBounds_toArray, List.set_cons_zero, List.set_cons_succ]
          refine wpAnyH_ready (rs := [1, 8]) (by kernel_rfl) (by simp) ?_
          refine AllReadyH.cons (o := ⟨some 31, _, _, _, _, _⟩) rfl (fun K hK => ?_) (AllReadyH.cons (o := ⟨some 38, _, _, _, _, _⟩) rfl (fun K hK => ?_) AllReadyH.nil)
          · have o3 : (wb).cell? ⟨go, 9, none⟩ = some (.slice o.ma o.marks.length o.mc) := HXb.out.bo.cell 9
            go_simp
            clear hHeld
            refine hK.out _ _ ?_ (fun hHeld => ?_)
            · exact HXb.out.box.cell 0
            clear hK K
            try simp only [Act.put, List.setIfInBounds_toArray, List.set_cons_zero, List.set_cons_succ]
            clear o3
            refine wpAnyH_ready (rs := [8]) (by kernel_rfl) (by simp) ?_
            refine AllReadyH.cons (o := ⟨some 38, _, _, _, _, _⟩) rfl (fun K hK => ?_) AllReadyH.nil
            go_simp
            clear hHeld
            refine hK.out _ _ ?_ (fun hHeld => ?_)
            · exact (HXb.out.nofr ((Fr.refl NoBlk wb).alloc (.cells #[.string (bstr x), .int .i64 (sm (rN ls).1), .int .u64 ((rN (rN ls).2).1 : Int)] 44))).box.cell 0
            clear hK K
            try simp only [Act.put, List.setIfInBounds_toArray, List.set_cons_zero, List.set_cons_succ]
            refine wpAnyH_ready (rs := [9]) (by kernel_rfl) (by simp) ?_
            refine AllReadyH.cons (o := ⟨some 39, _, _, _, _, _⟩) rfl (fun K hK => ?_) AllReadyH.nil
            have HXe := Lib.hid (HXb.out.nofr ((Fr.refl NoBlk wb).alloc (.cells #[.string (bstr x), .int .i64 (sm (rN ls).1), .int .u64 ((rN (rN ls).2).1 : Int)] 44)))
            have HR8 : Hid (Rd (wb.alloc (.cells #[.string (bstr x), .int .i64 (sm (rN ls).1), .int .u64 ((rN (rN ls).2).1 : Int)] 44)) (some ⟨wb.heap.size, 0, none⟩) (mkc (⟨x, sm (rN ls).1, (rN (rN ls).2).1⟩ : Mk))) := Rd.of_cells (Bk.new wb _ _)
            refine step_appO rfl _ _ 31 rfl wk.heap.size 44 i0 _ 3 32 Try.underlying31 hi hz0 hz1 hz2 rfl (by decide) (.slice o.ma o.marks.length o.mc) o.marks.length (mksc o.marks) rfl HXe.out.mo ⟨wb.heap.size, 0, none⟩ 1 1 (mkc (⟨x, sm (rN ls).1, (rN (rN ls).2).1⟩ : Mk)) rfl rfl HR8.out ?q1 ?q2 ?q3 HXe.out.sz ?_
            case q1 => intro y hy; simp only [mkc, List.mem_cons, List.not_mem_nil, or_false] at hy; rcases hy with rfl | rfl | rfl <;> rfl
            case q2 => have := HOL.out; unfold maxLen; omega
            case q3 => have := HOL.out; omega
            intro v9 w9 ho9 hg9 _
            obtain ⟨A9, c9, rfl, _, _⟩ := own_form ho9
            obtain ⟨k2, k3⟩ := HXe.out.grown hg9
            have o9 : w9.cell? ⟨go, 9, none⟩ = some (.slice o.ma o.marks.length o.mc) := k2.cell 9
            have f9 := k2.free 9
            have h9 := k3.cell 0
            have HXF := Lib.hid (HXe.out.push hg9 (m := (⟨x, sm (rN ls).1, (rN (rN ls).2).1⟩ : Mk)) ho9)
            clear ho9 hg9 k2 k3
            clear hHeld
            refine hK.out _ _ ?_ (fun hHeld => ?_)
            · exact h9
            clear hK K
            try simp only [Act.put, List.setIfInBounds_toArray, List.set_cons_zero, List.set_cons_succ]
            refine wpAnyH_take (i := 10) (oi := ⟨some 40, _, _, _, _, _⟩) (v := ?_) rfl (by kernel_rfl) (by kernel_rfl) (by kernel_rfl) (fun _ _ _ h => h) (Or.inl ⟨by rfl, ?_⟩) (by assumption) ?_
            rotate_left 1
            · (intro w hSw; (try dsimp only at hSw); go_simp) <;> (with_reducible rfl)
            try simp only [Act.put, List.setIfInBounds_toArray, List.set_cons_zero, List.set_cons_succ]
            refine wpAnyH_ready (rs := [11]) (by kernel_rfl) (by simp) ?_
            refine AllReadyH.cons (o := ⟨none, _, _, _, _, _⟩) rfl (fun K hK => ?_) AllReadyH.nil
            go_simp
            clear hHeld
            refine hK.out _ _ ?_ (fun hHeld => ?_)
            · exact HXF.out.box.cell 0
            clear hK K
            try simp only [Act.put, List.setIfInBounds_toArray, List.set_cons_zero, List.set_cons_succ]
            refine wpAnyH_done (by kernel_rfl) ?_ _
            have HNX := Lib.hid (NEXT.out _ _ _ HXF.out)
            clear HXF HXe HXb HXa HX0 HR8 NEXT
            go_wp2_with fail
            go_roundw
            case rel =>
              obtain ⟨i', A', c', ms', h1, rfl, h4, h5⟩ := HNX.out
              exact ⟨_, A', c', ms', h1, by go_num, h4, h5⟩
            case measure => simp [intOf]; omega
          · go_simp
            clear hHeld
            refine hK.out _ _ ?_ (fun hHeld => ?_)
            · exact (HXb.out.nofr ((Fr.refl NoBlk wb).alloc (.cells #[.string (bstr x), .int .i64 (sm (rN ls).1), .int .u64 ((rN (rN ls).2).1 : Int)] 44))).box.cell 0
            clear hK K
            try simp only [Act.put, List.setIfInBounds_toArray, List.set_cons_zero, List.set_cons_succ]
            refine wpAnyH_ready (rs := [1]) (by kernel_rfl) (by simp) ?_
            refine AllReadyH.cons (o := ⟨some 31, _, _, _, _, _⟩) rfl (fun K hK => ?_) AllReadyH.nil
            have o3 : (wb.alloc (.cells #[.string (bstr x), .int .i64 (sm (rN ls).1), .int .u64 ((rN (rN ls).2).1 : Int)] 44)).cell? ⟨go, 9, none⟩ = some (.slice o.ma o.marks.length o.mc) := (HXb.out.nofr ((Fr.refl NoBlk wb).alloc _)).bo.cell 9
            go_simp
            clear hHeld
            refine hK.out _ _ ?_ (fun hHeld => ?_)
            · exact (HXb.out.nofr ((Fr.refl NoBlk wb).alloc (.cells #[.string (bstr x), .int .i64 (sm (rN ls).1), .int .u64 ((rN (rN ls).2).1 : Int)] 44))).box.cell 0
            clear hK K
            try simp only [Act.put, List.setIfInBounds_toArray, List.set_cons_zero, List.set_cons_succ]
            refine wpAnyH_ready (rs := [9]) (by kernel_rfl) (by simp) ?_
            refine AllReadyH.cons (o := ⟨some 39, _, _, _, _, _⟩) rfl (fun K hK => ?_) AllReadyH.nil
            have HXe := Lib.hid (HXb.out.nofr ((Fr.refl NoBlk wb).alloc (.cells #[.string (bstr x), .int .i64 (sm (rN ls).1), .int .u64 ((rN (rN ls).2).1 : Int)] 44)))
            have HR8 : Hid (Rd (wb.alloc (.cells #[.string (bstr x), .int .i64 (sm (rN ls).1), .int .u64 ((rN (rN ls).2).1 : Int)] 44)) (some ⟨wb.heap.size, 0, none⟩) (mkc (⟨x, sm (rN ls).1, (rN (rN ls).2).1⟩ : Mk))) := Rd.of_cells (Bk.new wb _ _)
            refine step_appO rfl _ _ 31 rfl wk.heap.size 44 i0 _ 3 32 Try.underlying31 hi hz0 hz1 hz2 rfl (by decide) (.slice o.ma o.marks.length o.mc) o.marks.length (mksc o.marks) rfl HXe.out.mo ⟨wb.heap.size, 0, none⟩ 1 1 (mkc (⟨x, sm (rN ls).1, (rN (rN ls).2).1⟩ : Mk)) rfl rfl HR8.out ?q1 ?q2 ?q3 HXe.out.sz ?_
            case q1 => intro y hy; simp only [mkc, List.mem_cons, List.not_mem_nil, or_false] at hy; rcases hy with rfl | rfl | rfl <;> rfl
            case q2 => have := HOL.out; unfold maxLen; omega
            case q3 => have := HOL.out; omega
            intro v9 w9 ho9 hg9 _
            obtain ⟨A9, c9, rfl, _, _⟩ := own_form ho9
            obtain ⟨k2, k3⟩ := HXe.out.grown hg9
            have o9 : w9.cell? ⟨go, 9, none⟩ = some (.slice o.ma o.marks.length o.mc) := k2.cell 9
            have f9 := k2.free 9
            have h9 := k3.cell 0
            have HXF := Lib.hid (HXe.out.push hg9 (m := (⟨x, sm (rN ls).1, (rN (rN ls).2).1⟩ : Mk)) ho9)
            clear ho9 hg9 k2 k3
            clear hHeld
            refine hK.out _ _ ?_ (fun hHeld => ?_)
            · exact h9
            clear hK K
            try simp only [Act.put, List.setIfInBounds_toArray, List.set_cons_zero, List.set_cons_succ]
            refine wpAnyH_take (i := 10) (oi := ⟨some 40, _, _, _, _, _⟩) (v := ?_) rfl (by kernel_rfl) (by kernel_rfl) (by kernel_rfl) (fun _ _ _ h => h) (Or.inl ⟨by rfl, ?_⟩) (by assumption) ?_
            rotate_left 1
            · (intro w hSw; (try dsimp only at hSw); go_simp) <;> (with_reducible rfl)
            try simp only [Act.put, List.setIfInBounds_toArray, List.set_cons_zero, List.set_cons_succ]
            refine wpAnyH_ready (rs := [11]) (by kernel_rfl) (by simp) ?_
            refine AllReadyH.cons (o := ⟨none, _, _, _, _, _⟩) rfl (fun K hK => ?_) AllReadyH.nil
            go_simp
            clear hHeld
            refine hK.out _ _ ?_ (fun hHeld => ?_)
            · exact HXF.out.box.cell 0
            clear hK K
            try simp only [Act.put, List.setIfInBounds_toArray, List.set_cons_zero, List.set_cons_succ]
            refine wpAnyH_done (by kernel_rfl) ?_ _
            have HNX := Lib.hid (NEXT.out _ _ _ HXF.out)
            clear HXF HXe HXb HXa HX0 HR8 NEXT
            go_wp2_with fail
            go_roundw
            case rel =>
              obtain ⟨i', A', c', ms', h1, rfl, h4, h5⟩ := HNX.out
              exact ⟨_, A', c', ms', h1, by go_num, h4, h5⟩
            case measure => simp [intOf]; omega
    · have HFN : Hid (∀ wz, Fr (fun k => k = w.heap.size + 1) wr wz → ROrdPost w ge l (.returned (odv ⟨a1, a2, a3, a4, u, A, c, ms⟩)) wz) := by
        obtain rfl : i = ks.length := by omega
        have hm := HM.out
        rw [List.take_length] at hm
        exact fun wz hf => HFI.out wr wz A c ms hm HX.out hf
      obtain ⟨o, ho⟩ : ∃ o : Od, o = ⟨a1, a2, a3, a4, u, A, c, ms⟩ := ⟨_, rfl⟩
      rw [← ho] at HX HFN
      clear HFI HM ho HLN
      have p0 : wr.cell? ⟨go, 0, none⟩ = some (.int .i64 o.node) := HX.out.bo.cell 0
      have r0 : wr.cell? ⟨w.heap.size + 1, 0, none⟩ = some (.int .i64 0) := HX.out.res.cell 0
      have s0 := HX.out.res.free 0
      have p1 : wr.cell? ⟨go, 1, none⟩ = some (.int .u64 (o.epoch : Int)) := HX.out.bo.cell 1
      have r1 : wr.cell? ⟨w.heap.size + 1, 1, none⟩ = some (.int .u64 0) := HX.out.res.cell 1
      have s1 := HX.out.res.free 1
      have p2 : wr.cell? ⟨go, 2, none⟩ = some (.int .u64 (o.seq : Int)) := HX.out.bo.cell 2
      have r2 : wr.cell? ⟨w.heap.size + 1, 2, none⟩ = some (.int .u64 0) := HX.out.res.cell 2
      have s2 := HX.out.res.free 2
      have p3 : wr.cell? ⟨go, 3, none⟩ = some (.int .i64 o.tr) := HX.out.bo.cell 3
      have r3 : wr.cell? ⟨w.heap.size + 1, 3, none⟩ = some (.int .i64 0) := HX.out.res.cell 3
      have s3 := HX.out.res.free 3
      have p4 : wr.cell? ⟨go, 4, none⟩ = some (.int .i64 o.t.kind) := HX.out.bo.cell 4
      have r4 : wr.cell? ⟨w.heap.size + 1, 4, none⟩ = some (.int .i64 0) := HX.out.res.cell 4
      have s4 := HX.out.res.free 4
      have p5 : wr.cell? ⟨go, 5, none⟩ = some (.slice o.t.ra o.t.reads.length o.t.rc) := HX.out.bo.cell 5
      have r5 : wr.cell? ⟨w.heap.size + 1, 5, none⟩ = some (.slice none 0 0) := HX.out.res.cell 5
      have s5 := HX.out.res.free 5
      have p6 : wr.cell? ⟨go, 6, none⟩ = some (.slice o.t.wa o.t.writes.length o.t.wc) := HX.out.bo.cell 6
      have r6 : wr.cell? ⟨w.heap.size + 1, 6, none⟩ = some (.slice none 0 0) := HX.out.res.cell 6
      have s6 := HX.out.res.free 6
      have p7 : wr.cell? ⟨go, 7, none⟩ = some (.slice o.t.oa o.t.ops.length o.t.oc) := HX.out.bo.cell 7
      have r7 : wr.cell? ⟨w.heap.size + 1, 7, none⟩ = some (.slice none 0 0) := HX.out.res.cell 7
      have s7 := HX.out.res.free 7
      have p8 : wr.cell? ⟨go, 8, none⟩ = some (.int .i64 o.t.to) := HX.out.bo.cell 8
      have r8 : wr.cell? ⟨w.heap.size + 1, 8, none⟩ = some (.int .i64 0) := HX.out.res.cell 8
      have s8 := HX.out.res.free 8
      have p9 : wr.cell? ⟨go, 9, none⟩ = some (.slice o.ma o.marks.length o.mc) := HX.out.bo.cell 9
      have r9 : wr.cell? ⟨w.heap.size + 1, 9, none⟩ = some (.slice none 0 0) := HX.out.res.cell 9
      have s9 := HX.out.res.free 9
      have hres := HX.out.res
      obtain ⟨wz, hwz⟩ : ∃ wz, wz = ((((((((((wr.setCell ⟨w.heap.size + 1, 0, none⟩ (.int .i64 o.node)).setCell ⟨w.heap.size + 1, 1, none⟩ (.int .u64 (o.epoch : Int))).setCell ⟨w.heap.size + 1, 2, none⟩ (.int .u64 (o.seq : Int))).setCell ⟨w.heap.size + 1, 3, none⟩ (.int .i64 o.tr)).setCell ⟨w.heap.size + 1, 4, none⟩ (.int .i64 o.t.kind)).setCell ⟨w.heap.size + 1, 5, none⟩ (.slice o.t.ra o.t.reads.length o.t.rc)).setCell ⟨w.heap.size + 1, 6, none⟩ (.slice o.t.wa o.t.writes.length o.t.wc)).setCell ⟨w.heap.size + 1, 7, none⟩ (.slice o.t.oa o.t.ops.length o.t.oc)).setCell ⟨w.heap.size + 1, 8, none⟩ (.int .i64 o.t.to)).setCell ⟨w.heap.size + 1, 9, none⟩ (.slice o.ma o.marks.length o.mc)) := ⟨_, rfl⟩
      have hfz : Fr (fun k => k = w.heap.size + 1) wr wz := by
        rw [hwz]
        exact (((((((((((Fr.refl (fun k => k = w.heap.size + 1) wr).setCell (p := ⟨w.heap.size + 1, 0, none⟩) (fun _ => rfl) _).setCell (p := ⟨w.heap.size + 1, 1, none⟩) (fun _ => rfl) _).setCell (p := ⟨w.heap.size + 1, 2, none⟩) (fun _ => rfl) _).setCell (p := ⟨w.heap.size + 1, 3, none⟩) (fun _ => rfl) _).setCell (p := ⟨w.heap.size + 1, 4, none⟩) (fun _ => rfl) _).setCell (p := ⟨w.heap.size + 1, 5, none⟩) (fun _ => rfl) _).setCell (p := ⟨w.heap.size + 1, 6, none⟩) (fun _ => rfl) _).setCell (p := ⟨w.heap.size + 1, 7, none⟩) (fun _ => rfl) _).setCell (p := ⟨w.heap.size + 1, 8, none⟩) (fun _ => rfl) _).setCell (p := ⟨w.heap.size + 1, 9, none⟩) (fun _ => rfl) _)
      have HBZ : Hid (Bk wz (w.heap.size + 1) 33 (oda o)) := by
        show Bk _ _ _ _
        rw [hwz]
        refine Bk.cast ((((((((((hres.put 0 (.int .i64 o.node)).put 1 (.int .u64 (o.epoch : Int))).put 2 (.int .u64 (o.seq : Int))).put 3 (.int .i64 o.tr)).put 4 (.int .i64 o.t.kind)).put 5 (.slice o.t.ra o.t.reads.length o.t.rc)).put 6 (.slice o.t.wa o.t.writes.length o.t.wc)).put 7 (.slice o.t.oa o.t.ops.length o.t.oc)).put 8 (.int .i64 o.t.to)).put 9 (.slice o.ma o.marks.length o.mc)) ?_
        unfold ozero oda
        simp only [List.setIfInBounds_toArray, List.set_cons_zero, List.set_cons_succ]
      have HFIN := Lib.hid (HFN.out wz hfz)
      have HWZ := Lib.hid hwz
      clear hwz hfz HX hres HFN
      go_wp2_with fail
      rw [← HWZ.out]
      clear HWZ
      have z0 : wz.cell? ⟨w.heap.size + 1, 0, none⟩ = some (.int .i64 o.node) := HBZ.out.cell 0
      have z1 : wz.cell? ⟨w.heap.size + 1, 1, none⟩ = some (.int .u64 (o.epoch : Int)) := HBZ.out.cell 1
      have z2 : wz.cell? ⟨w.heap.size + 1, 2, none⟩ = some (.int .u64 (o.seq : Int)) := HBZ.out.cell 2
      have z3 : wz.cell? ⟨w.heap.size + 1, 3, none⟩ = some (.int .i64 o.tr) := HBZ.out.cell 3
      have z4 : wz.cell? ⟨w.heap.size + 1, 4, none⟩ = some (.int .i64 o.t.kind) := HBZ.out.cell 4
      have z5 : wz.cell? ⟨w.heap.size + 1, 5, none⟩ = some (.slice o.t.ra o.t.reads.length o.t.rc) := HBZ.out.cell 5
      have z6 : wz.cell? ⟨w.heap.size + 1, 6, none⟩ = some (.slice o.t.wa o.t.writes.length o.t.wc) := HBZ.out.cell 6
      have z7 : wz.cell? ⟨w.heap.size + 1, 7, none⟩ = some (.slice o.t.oa o.t.ops.length o.t.oc) := HBZ.out.cell 7
      have z8 : wz.cell? ⟨w.heap.size + 1, 8, none⟩ = some (.int .i64 o.t.to) := HBZ.out.cell 8
      have z9 : wz.cell? ⟨w.heap.size + 1, 9, none⟩ = some (.slice o.ma o.marks.length o.mc) := HBZ.out.cell 9
      refine bodyPost_ret (v := odv o) ?_ rfl HFIN.out
      unfold odv oda
      simp [results, Try.results39, go_sem, z0, z1, z2, z3, z4, z5, z6, z7, z8, z9]
end Go.Proofs.Ytakbjjohfcgaoaa


namespace Go.Proofs.Ytakbjjohfcgaoaa
open Go.RowKit

theorem rKeys_len8 (m : List UInt8) : (rKeys m).1.length ≤ 8 := by
  unfold rKeys
  rw [rep_len]
  unfold rC
  omega
theorem rTxn_lens (l : List UInt8) : (rTxn l).1.reads.length ≤ 8 ∧ (rTxn l).1.writes.length ≤ 8 := by
  unfold rTxn
  generalize (rN (rN l).2).2 = l2
  generalize (rN l).1 = x1
  generalize (rN (rN l).2).1 = x2
  have h2 := rKeys_len8 l2
  generalize rKeys l2 = k2 at *
  have h3 := rKeys_len8 k2.2
  generalize rKeys k2.2 = k3 at *
  generalize rOps k3.2 = k4
  exact ⟨h2, h3⟩
theorem rOrder_lens (l : List UInt8) : (rOrder l).1.t.reads.length ≤ 8 ∧ (rOrder l).1.t.writes.length ≤ 8 := by
  unfold rOrder
  generalize rTag l = g
  have h := rTxn_lens g.2
  generalize rTxn g.2 = x at *
  exact h
def ReadPost (w : World) (l : List UInt8) (e : Ending) (w' : World) : Prop :=
  ∃ o, OdIn w' o ∧ Bnd o ∧ OdOf o (rOrder l).1 ∧ Fr NoBlk w w' ∧ e = .returned (if (orderR o 3 && (orderB o == l)) = true then .tuple #[odv o, .int .i64 0] else .tuple #[.agg ozero, .int .i64 31])

set_option maxRecDepth 100000 in
set_option maxHeartbeats 16000000 in
theorem read_any (w : World) (A : Option Addr) (n c : Nat) (l : List UInt8) (hn : n = l.length) (hr : Rd w A (cb l)) (hA : A = none → c = 0) (hl : l.length ≤ 1000000) :
    Calls Try.prog 21 #[.slice A n c] w (ReadPost w l) := by
  obtain ⟨w0, hw0⟩ : ∃ w0, w0 = w.alloc (.cells ozero 33) := ⟨_, rfl⟩
  have HF0 : Hid (Fr NoBlk w w0) := by
    show Fr _ _ _
    rw [hw0]
    exact (Fr.refl _ _).alloc _
  have HR0 : Hid (Bk w0 w.heap.size 33 ozero) := by
    show Bk _ _ _ _
    rw [hw0]
    exact Bk.new w _ _
  have HRD := Lib.hid hr
  have HNL := Lib.hid hn
  have HLE := Lib.hid hl
  have K1 := Lib.hid (newEye_any w0 A n c l hn (hr.nofr HF0.out) hA (by omega))
  clear hr hl hA hn
  unfold ozero at hw0
  go_enter Try.func21, Try.ntmps21
  go_upto_region 1 with fail
  rw [← hw0]
  clear hw0
  go_wp2_with fail
  refine K1.out.mono ?_
  clear K1
  rintro e w1 ⟨ge, A', c', rfl, hey, hf1, hge, hrow⟩
  obtain ⟨w2, hw2⟩ : ∃ w2, w2 = w1.alloc (.cells #[.pointer (some ⟨ge, 0, none⟩)] 79) := ⟨_, rfl⟩
  have hf12 : Fr NoBlk w1 w2 := by
    rw [hw2]
    exact (Fr.refl _ _).alloc _
  have HF2 := Lib.hid ((HF0.out.trans hf1).trans hf12)
  have HR2 := Lib.hid ((HR0.out.fr hf1 (fun h => h)).fr hf12 (fun h => h))
  have HRE : Hid (RE w2 w1.heap.size ge l) := RE.fr (w := w1) ⟨hey.bk.lt, HLE.out, Nat.le_refl _, A', c', hey, fun k hk => (hrow k hk).2⟩ hf12 (fun _ _ h => h)
  have HGE : Hid (w.heap.size < ge) := by
    have := HR0.out.lt
    show _ < _
    omega
  have HB2 : Hid (Bk w2 w1.heap.size 79 #[.pointer (some ⟨ge, 0, none⟩)]) := by
    show Bk _ _ _ _
    rw [hw2]
    exact Bk.new w1 _ _
  have HW2 := Lib.hid hw2
  clear hey hf1 hge hrow hw2 hf12 HF0 HR0
  go_upto_region 2 with fail
  rw [← HW2.out]
  clear HW2
  have c0 : w2.cell? ⟨w1.heap.size, 0, none⟩ = some (.pointer (some ⟨ge, 0, none⟩)) := HB2.out.cell 0
  have K2 := Lib.hid (rorder_any w2 _ ge l HRE.out)
  unfold rv at K2
  go_wp2_with fail
  refine K2.out.mono ?_
  clear K2
  rintro e w3 ⟨o, rfl, how, hbn, hof, hf3⟩
  have HBN := Lib.hid hbn
  have HOF := Lib.hid hof
  obtain ⟨w4, hw4⟩ : ∃ w4, w4 = w3.alloc (.cells (oda o) 33) := ⟨_, rfl⟩
  have hf34 : Fr NoBlk w3 w4 := by
    rw [hw4]
    exact (Fr.refl _ _).alloc _
  have HF4 : Hid (Fr NoBlk w w4) := (HF2.out.step hf3 (fun k hk e => by have := HGE.out; omega)).trans hf34
  have HR4 := Lib.hid ((HR2.out.fr hf3 (by have := HGE.out; omega)).fr hf34 (fun h => h))
  have HO4 := Lib.hid (how.nofr hf34)
  have HB4 : Hid (Bk w4 w3.heap.size 33 (oda o)) := by
    show Bk _ _ _ _
    rw [hw4]
    exact Bk.new w3 _ _
  obtain ⟨g5, hg5⟩ : ∃ g5, g5 = w3.heap.size := ⟨_, rfl⟩
  rw [← hg5] at HB4
  unfold oda at hw4
  unfold odv oda
  have HW4 := Lib.hid hw4
  have HG5 := Lib.hid hg5
  clear how hf3 hf34 hbn hof hw4 hg5 HF2 HR2 HB2 HRE c0
  go_upto_region 3 with fail
  rw [← HW4.out, ← HG5.out]
  clear HW4 HG5
  obtain ⟨d0, d1, d2, d3, d4, d5, d6, d7, d8, d9⟩ := HB4.out.ord
  have hrl := (rOrder_lens l).1
  have hwl := (rOrder_lens l).2
  rw [← HOF.out.t.reads] at hrl
  rw [← HOF.out.t.writes] at hwl
  have K3 := Lib.hid (write_any w4 o HO4.out.inn (by omega) (by omega) HBN.out)
  unfold odv oda WritePost at K3
  clear hrl hwl
  go_wp2_with fail
  refine K3.out.mono ?_
  clear K3 d0 d1 d2 d3 d4 d5 d6 d7 d8 d9
  intro e w5 hp
  by_cases hra : orderR o 3 = true
  rotate_left
  · rw [if_neg hra] at hp
    obtain ⟨rfl, hf5⟩ := hp
    have HF5 := Lib.hid (HF4.out.trans hf5)
    have HR5 := Lib.hid (HR4.out.fr hf5 (fun h => h))
    have HO5 := Lib.hid (HO4.out.nofr hf5)
    have HCO : Hid ((orderR o 3 && (orderB o == l)) = false) := by
      show _ = _
      rw [Bool.eq_false_iff.2 hra, Bool.false_and]
    clear hf5 hra HF4 HR4 HO4 HB4
    have r0 : w5.cell? ⟨w.heap.size, 0, none⟩ = some (.int .i64 0) := HR5.out.cell 0
    have s0 := HR5.out.free 0
    have r1 : w5.cell? ⟨w.heap.size, 1, none⟩ = some (.int .u64 0) := HR5.out.cell 1
    have s1 := HR5.out.free 1
    have r2 : w5.cell? ⟨w.heap.size, 2, none⟩ = some (.int .u64 0) := HR5.out.cell 2
    have s2 := HR5.out.free 2
    have r3 : w5.cell? ⟨w.heap.size, 3, none⟩ = some (.int .i64 0) := HR5.out.cell 3
    have s3 := HR5.out.free 3
    have r4 : w5.cell? ⟨w.heap.size, 4, none⟩ = some (.int .i64 0) := HR5.out.cell 4
    have s4 := HR5.out.free 4
    have r5 : w5.cell? ⟨w.heap.size, 5, none⟩ = some (.slice none 0 0) := HR5.out.cell 5
    have s5 := HR5.out.free 5
    have r6 : w5.cell? ⟨w.heap.size, 6, none⟩ = some (.slice none 0 0) := HR5.out.cell 6
    have s6 := HR5.out.free 6
    have r7 : w5.cell? ⟨w.heap.size, 7, none⟩ = some (.slice none 0 0) := HR5.out.cell 7
    have s7 := HR5.out.free 7
    have r8 : w5.cell? ⟨w.heap.size, 8, none⟩ = some (.int .i64 0) := HR5.out.cell 8
    have s8 := HR5.out.free 8
    have r9 : w5.cell? ⟨w.heap.size, 9, none⟩ = some (.slice none 0 0) := HR5.out.cell 9
    have s9 := HR5.out.free 9
    obtain ⟨wz, hwz⟩ : ∃ wz, wz = ((((((((((w5.setCell ⟨w.heap.size, 0, none⟩ (.int .i64 0)).setCell ⟨w.heap.size, 1, none⟩ (.int .u64 0)).setCell ⟨w.heap.size, 2, none⟩ (.int .u64 0)).setCell ⟨w.heap.size, 3, none⟩ (.int .i64 0)).setCell ⟨w.heap.size, 4, none⟩ (.int .i64 0)).setCell ⟨w.heap.size, 5, none⟩ (.slice none 0 0)).setCell ⟨w.heap.size, 6, none⟩ (.slice none 0 0)).setCell ⟨w.heap.size, 7, none⟩ (.slice none 0 0)).setCell ⟨w.heap.size, 8, none⟩ (.int .i64 0)).setCell ⟨w.heap.size, 9, none⟩ (.slice none 0 0)) := ⟨_, rfl⟩
    have hfz : Fr (fun k => k = w.heap.size) w5 wz := by
      rw [hwz]
      exact (((((((((((Fr.refl (fun k => k = w.heap.size) w5).setCell (p := ⟨w.heap.size, 0, none⟩) (fun _ => rfl) _).setCell (p := ⟨w.heap.size, 1, none⟩) (fun _ => rfl) _).setCell (p := ⟨w.heap.size, 2, none⟩) (fun _ => rfl) _).setCell (p := ⟨w.heap.size, 3, none⟩) (fun _ => rfl) _).setCell (p := ⟨w.heap.size, 4, none⟩) (fun _ => rfl) _).setCell (p := ⟨w.heap.size, 5, none⟩) (fun _ => rfl) _).setCell (p := ⟨w.heap.size, 6, none⟩) (fun _ => rfl) _).setCell (p := ⟨w.heap.size, 7, none⟩) (fun _ => rfl) _).setCell (p := ⟨w.heap.size, 8, none⟩) (fun _ => rfl) _).setCell (p := ⟨w.heap.size, 9, none⟩) (fun _ => rfl) _)
    have HBZ : Hid (Bk wz w.heap.size 33 #[.int .i64 0, .int .u64 0, .int .u64 0, .int .i64 0, .int .i64 0, .slice none 0 0, .slice none 0 0, .slice none 0 0, .int .i64 0, .slice none 0 0]) := by
      show Bk _ _ _ _
      rw [hwz]
      refine Bk.cast ((((((((((HR5.out.put 0 (.int .i64 0)).put 1 (.int .u64 0)).put 2 (.int .u64 0)).put 3 (.int .i64 0)).put 4 (.int .i64 0)).put 5 (.slice none 0 0)).put 6 (.slice none 0 0)).put 7 (.slice none 0 0)).put 8 (.int .i64 0)).put 9 (.slice none 0 0)) ?_
      unfold ozero
      simp only [List.setIfInBounds_toArray, List.set_cons_zero, List.set_cons_succ]
    have HFIN : Hid (ReadPost w l (.returned (.tuple #[.agg ozero, .int .i64 31])) wz) :=
      ⟨o, (HO5.out).frB hfz HR5.out (by decide) (by decide) (by decide) (by decide), HBN.out, HOF.out, (HF5.out).step hfz (fun k hk e => by omega), by rw [HCO.out, if_neg (by decide : ¬ false = true)]⟩
    have HWZ := Lib.hid hwz
    clear hwz hfz
    go_wp2_with fail
    rw [← HWZ.out]
    clear HWZ
    have z0 : wz.cell? ⟨w.heap.size, 0, none⟩ = some (.int .i64 0) := HBZ.out.cell 0
    have z1 : wz.cell? ⟨w.heap.size, 1, none⟩ = some (.int .u64 0) := HBZ.out.cell 1
    have z2 : wz.cell? ⟨w.heap.size, 2, none⟩ = some (.int .u64 0) := HBZ.out.cell 2
    have z3 : wz.cell? ⟨w.heap.size, 3, none⟩ = some (.int .i64 0) := HBZ.out.cell 3
    have z4 : wz.cell? ⟨w.heap.size, 4, none⟩ = some (.int .i64 0) := HBZ.out.cell 4
    have z5 : wz.cell? ⟨w.heap.size, 5, none⟩ = some (.slice none 0 0) := HBZ.out.cell 5
    have z6 : wz.cell? ⟨w.heap.size, 6, none⟩ = some (.slice none 0 0) := HBZ.out.cell 6
    have z7 : wz.cell? ⟨w.heap.size, 7, none⟩ = some (.slice none 0 0) := HBZ.out.cell 7
    have z8 : wz.cell? ⟨w.heap.size, 8, none⟩ = some (.int .i64 0) := HBZ.out.cell 8
    have z9 : wz.cell? ⟨w.heap.size, 9, none⟩ = some (.slice none 0 0) := HBZ.out.cell 9
    refine bodyPost_ret (v := .tuple #[.agg ozero, .int .i64 31]) ?_ rfl HFIN.out
    unfold ozero
    simp [results, Try.results21, go_sem, z0, z1, z2, z3, z4, z5, z6, z7, z8, z9]
  rw [if_pos hra] at hp
  obtain ⟨v5, rfl, hn5⟩ := hp
  obtain ⟨A5, c5, rfl, hc5, hA5⟩ := own_form hn5.own
  have HR5b := Lib.hid (Rd.of_own hn5.own)
  have HF5 := Lib.hid (HF4.out.trans hn5.fr)
  have HR5 := Lib.hid (HR4.out.fr hn5.fr (fun h => h))
  have HO5 := Lib.hid (HO4.out.nofr hn5.fr)
  have HB5 := Lib.hid (HB4.out.fr hn5.fr (fun h => h))
  have HRA := Lib.hid hra
  clear hn5 hc5 hA5 hra HF4 HR4 HO4 HB4
  have K4 := Lib.hid (equalB_any w5 A5 A (orderB o).length n c5 c (orderB o) l rfl HNL.out HR5b.out (HRD.out.nofr HF5.out))
  go_wp2_with fail
  refine K4.out.mono ?_
  clear K4
  rintro e w6 ⟨rfl, hw6⟩
  rw [hw6]
  clear hw6 HR5b
  cases hb : (orderB o == l)
  · have HCO : Hid ((orderR o 3 && (orderB o == l)) = false) := by
      show _ = _
      rw [hb, Bool.and_false]
    clear hb
    have r0 : w5.cell? ⟨w.heap.size, 0, none⟩ = some (.int .i64 0) := HR5.out.cell 0
    have s0 := HR5.out.free 0
    have r1 : w5.cell? ⟨w.heap.size, 1, none⟩ = some (.int .u64 0) := HR5.out.cell 1
    have s1 := HR5.out.free 1
    have r2 : w5.cell? ⟨w.heap.size, 2, none⟩ = some (.int .u64 0) := HR5.out.cell 2
    have s2 := HR5.out.free 2
    have r3 : w5.cell? ⟨w.heap.size, 3, none⟩ = some (.int .i64 0) := HR5.out.cell 3
    have s3 := HR5.out.free 3
    have r4 : w5.cell? ⟨w.heap.size, 4, none⟩ = some (.int .i64 0) := HR5.out.cell 4
    have s4 := HR5.out.free 4
    have r5 : w5.cell? ⟨w.heap.size, 5, none⟩ = some (.slice none 0 0) := HR5.out.cell 5
    have s5 := HR5.out.free 5
    have r6 : w5.cell? ⟨w.heap.size, 6, none⟩ = some (.slice none 0 0) := HR5.out.cell 6
    have s6 := HR5.out.free 6
    have r7 : w5.cell? ⟨w.heap.size, 7, none⟩ = some (.slice none 0 0) := HR5.out.cell 7
    have s7 := HR5.out.free 7
    have r8 : w5.cell? ⟨w.heap.size, 8, none⟩ = some (.int .i64 0) := HR5.out.cell 8
    have s8 := HR5.out.free 8
    have r9 : w5.cell? ⟨w.heap.size, 9, none⟩ = some (.slice none 0 0) := HR5.out.cell 9
    have s9 := HR5.out.free 9
    obtain ⟨wz, hwz⟩ : ∃ wz, wz = ((((((((((w5.setCell ⟨w.heap.size, 0, none⟩ (.int .i64 0)).setCell ⟨w.heap.size, 1, none⟩ (.int .u64 0)).setCell ⟨w.heap.size, 2, none⟩ (.int .u64 0)).setCell ⟨w.heap.size, 3, none⟩ (.int .i64 0)).setCell ⟨w.heap.size, 4, none⟩ (.int .i64 0)).setCell ⟨w.heap.size, 5, none⟩ (.slice none 0 0)).setCell ⟨w.heap.size, 6, none⟩ (.slice none 0 0)).setCell ⟨w.heap.size, 7, none⟩ (.slice none 0 0)).setCell ⟨w.heap.size, 8, none⟩ (.int .i64 0)).setCell ⟨w.heap.size, 9, none⟩ (.slice none 0 0)) := ⟨_, rfl⟩
    have hfz : Fr (fun k => k = w.heap.size) w5 wz := by
      rw [hwz]
      exact (((((((((((Fr.refl (fun k => k = w.heap.size) w5).setCell (p := ⟨w.heap.size, 0, none⟩) (fun _ => rfl) _).setCell (p := ⟨w.heap.size, 1, none⟩) (fun _ => rfl) _).setCell (p := ⟨w.heap.size, 2, none⟩) (fun _ => rfl) _).setCell (p := ⟨w.heap.size, 3, none⟩) (fun _ => rfl) _).setCell (p := ⟨w.heap.size, 4, none⟩) (fun _ => rfl) _).setCell (p := ⟨w.heap.size, 5, none⟩) (fun _ => rfl) _).setCell (p := ⟨w.heap.size, 6, none⟩) (fun _ => rfl) _).setCell (p := ⟨w.heap.size, 7, none⟩) (fun _ => rfl) _).setCell (p := ⟨w.heap.size, 8, none⟩) (fun _ => rfl) _).setCell (p := ⟨w.heap.size, 9, none⟩) (fun _ => rfl) _)
    have HBZ : Hid (Bk wz w.heap.size 33 #[.int .i64 0, .int .u64 0, .int .u64 0, .int .i64 0, .int .i64 0, .slice none 0 0, .slice none 0 0, .slice none 0 0, .int .i64 0, .slice none 0 0]) := by
      show Bk _ _ _ _
      rw [hwz]
      refine Bk.cast ((((((((((HR5.out.put 0 (.int .i64 0)).put 1 (.int .u64 0)).put 2 (.int .u64 0)).put 3 (.int .i64 0)).put 4 (.int .i64 0)).put 5 (.slice none 0 0)).put 6 (.slice none 0 0)).put 7 (.slice none 0 0)).put 8 (.int .i64 0)).put 9 (.slice none 0 0)) ?_
      unfold ozero
      simp only [List.setIfInBounds_toArray, List.set_cons_zero, List.set_cons_succ]
    have HFIN : Hid (ReadPost w l (.returned (.tuple #[.agg ozero, .int .i64 31])) wz) :=
      ⟨o, (HO5.out).frB hfz HR5.out (by decide) (by decide) (by decide) (by decide), HBN.out, HOF.out, (HF5.out).step hfz (fun k hk e => by omega), by rw [HCO.out, if_neg (by decide : ¬ false = true)]⟩
    have HWZ := Lib.hid hwz
    clear hwz hfz
    go_wp2_with fail
    rw [← HWZ.out]
    clear HWZ
    have z0 : wz.cell? ⟨w.heap.size, 0, none⟩ = some (.int .i64 0) := HBZ.out.cell 0
    have z1 : wz.cell? ⟨w.heap.size, 1, none⟩ = some (.int .u64 0) := HBZ.out.cell 1
    have z2 : wz.cell? ⟨w.heap.size, 2, none⟩ = some (.int .u64 0) := HBZ.out.cell 2
    have z3 : wz.cell? ⟨w.heap.size, 3, none⟩ = some (.int .i64 0) := HBZ.out.cell 3
    have z4 : wz.cell? ⟨w.heap.size, 4, none⟩ = some (.int .i64 0) := HBZ.out.cell 4
    have z5 : wz.cell? ⟨w.heap.size, 5, none⟩ = some (.slice none 0 0) := HBZ.out.cell 5
    have z6 : wz.cell? ⟨w.heap.size, 6, none⟩ = some (.slice none 0 0) := HBZ.out.cell 6
    have z7 : wz.cell? ⟨w.heap.size, 7, none⟩ = some (.slice none 0 0) := HBZ.out.cell 7
    have z8 : wz.cell? ⟨w.heap.size, 8, none⟩ = some (.int .i64 0) := HBZ.out.cell 8
    have z9 : wz.cell? ⟨w.heap.size, 9, none⟩ = some (.slice none 0 0) := HBZ.out.cell 9
    refine bodyPost_ret (v := .tuple #[.agg ozero, .int .i64 31]) ?_ rfl HFIN.out
    unfold ozero
    simp [results, Try.results21, go_sem, z0, z1, z2, z3, z4, z5, z6, z7, z8, z9]
  · have HCO : Hid ((orderR o 3 && (orderB o == l)) = true) := by
      show _ = _
      rw [hb, HRA.out]
      rfl
    clear hb
    obtain ⟨d0, d1, d2, d3, d4, d5, d6, d7, d8, d9⟩ := HB5.out.ord
    have r0 : w5.cell? ⟨w.heap.size, 0, none⟩ = some (.int .i64 0) := HR5.out.cell 0
    have s0 := HR5.out.free 0
    have r1 : w5.cell? ⟨w.heap.size, 1, none⟩ = some (.int .u64 0) := HR5.out.cell 1
    have s1 := HR5.out.free 1
    have r2 : w5.cell? ⟨w.heap.size, 2, none⟩ = some (.int .u64 0) := HR5.out.cell 2
    have s2 := HR5.out.free 2
    have r3 : w5.cell? ⟨w.heap.size, 3, none⟩ = some (.int .i64 0) := HR5.out.cell 3
    have s3 := HR5.out.free 3
    have r4 : w5.cell? ⟨w.heap.size, 4, none⟩ = some (.int .i64 0) := HR5.out.cell 4
    have s4 := HR5.out.free 4
    have r5 : w5.cell? ⟨w.heap.size, 5, none⟩ = some (.slice none 0 0) := HR5.out.cell 5
    have s5 := HR5.out.free 5
    have r6 : w5.cell? ⟨w.heap.size, 6, none⟩ = some (.slice none 0 0) := HR5.out.cell 6
    have s6 := HR5.out.free 6
    have r7 : w5.cell? ⟨w.heap.size, 7, none⟩ = some (.slice none 0 0) := HR5.out.cell 7
    have s7 := HR5.out.free 7
    have r8 : w5.cell? ⟨w.heap.size, 8, none⟩ = some (.int .i64 0) := HR5.out.cell 8
    have s8 := HR5.out.free 8
    have r9 : w5.cell? ⟨w.heap.size, 9, none⟩ = some (.slice none 0 0) := HR5.out.cell 9
    have s9 := HR5.out.free 9
    obtain ⟨wz, hwz⟩ : ∃ wz, wz = ((((((((((w5.setCell ⟨w.heap.size, 0, none⟩ (.int .i64 o.node)).setCell ⟨w.heap.size, 1, none⟩ (.int .u64 (o.epoch : Int))).setCell ⟨w.heap.size, 2, none⟩ (.int .u64 (o.seq : Int))).setCell ⟨w.heap.size, 3, none⟩ (.int .i64 o.tr)).setCell ⟨w.heap.size, 4, none⟩ (.int .i64 o.t.kind)).setCell ⟨w.heap.size, 5, none⟩ (.slice o.t.ra o.t.reads.length o.t.rc)).setCell ⟨w.heap.size, 6, none⟩ (.slice o.t.wa o.t.writes.length o.t.wc)).setCell ⟨w.heap.size, 7, none⟩ (.slice o.t.oa o.t.ops.length o.t.oc)).setCell ⟨w.heap.size, 8, none⟩ (.int .i64 o.t.to)).setCell ⟨w.heap.size, 9, none⟩ (.slice o.ma o.marks.length o.mc)) := ⟨_, rfl⟩
    have hfz : Fr (fun k => k = w.heap.size) w5 wz := by
      rw [hwz]
      exact (((((((((((Fr.refl (fun k => k = w.heap.size) w5).setCell (p := ⟨w.heap.size, 0, none⟩) (fun _ => rfl) _).setCell (p := ⟨w.heap.size, 1, none⟩) (fun _ => rfl) _).setCell (p := ⟨w.heap.size, 2, none⟩) (fun _ => rfl) _).setCell (p := ⟨w.heap.size, 3, none⟩) (fun _ => rfl) _).setCell (p := ⟨w.heap.size, 4, none⟩) (fun _ => rfl) _).setCell (p := ⟨w.heap.size, 5, none⟩) (fun _ => rfl) _).setCell (p := ⟨w.heap.size, 6, none⟩) (fun _ => rfl) _).setCell (p := ⟨w.heap.size, 7, none⟩) (fun _ => rfl) _).setCell (p := ⟨w.heap.size, 8, none⟩) (fun _ => rfl) _).setCell (p := ⟨w.heap.size, 9, none⟩) (fun _ => rfl) _)
    have HBZ : Hid (Bk wz w.heap.size 33 #[.int .i64 o.node, .int .u64 (o.epoch : Int), .int .u64 (o.seq : Int), .int .i64 o.tr, .int .i64 o.t.kind, .slice o.t.ra o.t.reads.length o.t.rc, .slice o.t.wa o.t.writes.length o.t.wc, .slice o.t.oa o.t.ops.length o.t.oc, .int .i64 o.t.to, .slice o.ma o.marks.length o.mc]) := by
      show Bk _ _ _ _
      rw [hwz]
      refine Bk.cast ((((((((((HR5.out.put 0 (.int .i64 o.node)).put 1 (.int .u64 (o.epoch : Int))).put 2 (.int .u64 (o.seq : Int))).put 3 (.int .i64 o.tr)).put 4 (.int .i64 o.t.kind)).put 5 (.slice o.t.ra o.t.reads.length o.t.rc)).put 6 (.slice o.t.wa o.t.writes.length o.t.wc)).put 7 (.slice o.t.oa o.t.ops.length o.t.oc)).put 8 (.int .i64 o.t.to)).put 9 (.slice o.ma o.marks.length o.mc)) ?_
      unfold ozero
      simp only [List.setIfInBounds_toArray, List.set_cons_zero, List.set_cons_succ]
    have HFIN : Hid (ReadPost w l (.returned (.tuple #[odv o, .int .i64 0])) wz) :=
      ⟨o, (HO5.out).frB hfz HR5.out (by decide) (by decide) (by decide) (by decide), HBN.out, HOF.out, (HF5.out).step hfz (fun k hk e => by omega), by rw [HCO.out, if_pos rfl]⟩
    have HWZ := Lib.hid hwz
    clear hwz hfz
    go_wp2_with fail
    rw [← HWZ.out]
    clear HWZ
    have z0 : wz.cell? ⟨w.heap.size, 0, none⟩ = some (.int .i64 o.node) := HBZ.out.cell 0
    have z1 : wz.cell? ⟨w.heap.size, 1, none⟩ = some (.int .u64 (o.epoch : Int)) := HBZ.out.cell 1
    have z2 : wz.cell? ⟨w.heap.size, 2, none⟩ = some (.int .u64 (o.seq : Int)) := HBZ.out.cell 2
    have z3 : wz.cell? ⟨w.heap.size, 3, none⟩ = some (.int .i64 o.tr) := HBZ.out.cell 3
    have z4 : wz.cell? ⟨w.heap.size, 4, none⟩ = some (.int .i64 o.t.kind) := HBZ.out.cell 4
    have z5 : wz.cell? ⟨w.heap.size, 5, none⟩ = some (.slice o.t.ra o.t.reads.length o.t.rc) := HBZ.out.cell 5
    have z6 : wz.cell? ⟨w.heap.size, 6, none⟩ = some (.slice o.t.wa o.t.writes.length o.t.wc) := HBZ.out.cell 6
    have z7 : wz.cell? ⟨w.heap.size, 7, none⟩ = some (.slice o.t.oa o.t.ops.length o.t.oc) := HBZ.out.cell 7
    have z8 : wz.cell? ⟨w.heap.size, 8, none⟩ = some (.int .i64 o.t.to) := HBZ.out.cell 8
    have z9 : wz.cell? ⟨w.heap.size, 9, none⟩ = some (.slice o.ma o.marks.length o.mc) := HBZ.out.cell 9
    refine bodyPost_ret (v := .tuple #[odv o, .int .i64 0]) ?_ rfl HFIN.out
    unfold odv oda
    simp [results, Try.results21, go_sem, z0, z1, z2, z3, z4, z5, z6, z7, z8, z9]
end Go.Proofs.Ytakbjjohfcgaoaa


namespace Go.Proofs.Ytakbjjohfcgaoaa
open Go.ChangeShapes Go.WideShapes Go.ChangeAt Go.RowKit

theorem unf_fold {n : Int} (h : nB n) : unf (foldN n) = n := by
  unfold nB at h
  unfold unf foldN
  split <;> split <;> omega
theorem odOf_like {a b : Od} (ha : orderR a 3 = true) (hna : Bnd a) (h : OdOf b (PO.of a)) : OAlike b a := by
  have wa := orderR_wod ha hna
  have p1 := wa.node; have p3 := wa.tr; have p5 := wa.t.kind; have p7 := wa.t.to_
  have hsm : ∀ z : Int, 0 ≤ z ∧ z ≤ 1000 → sm z.toNat = z := fun z hz => by rw [sm_low (by omega)]; omega
  have h1 := h.node; have h2 := h.tr; have h3 := h.t.kind; have h4 := h.t.to_
  have h5 := h.t.ops
  have h6 := h.marks
  have hr : b.t.reads = a.t.reads := h.t.reads
  have hw : b.t.writes = a.t.writes := h.t.writes
  unfold PO.of PT.of at h1 h2 h3 h4 h5 h6
  simp only at h1 h2 h3 h4 h5 h6
  unfold orderR at ha
  simp only [Bool.and_eq_true] at ha
  have za := zipB_at ha.2.2
  have hk := (kindR_at ha.1).2.2.2
  refine ⟨h1.trans (hsm _ p1), h.epoch, h.seq, h2.trans (hsm _ p3), h3.trans (hsm _ p5), h4.trans (hsm _ p7), hr, hw, ⟨by simpa using congrArg List.length h5, fun j x y hx hy => ?_⟩, ?_⟩
  · have e := congrArg (fun l => l[j]?) h5
    simp only [List.getElem?_map, hx, hy, Option.map_some, Option.some.injEq] at e
    have q1 := hk y (List.mem_of_getElem? hy)
    have e1 : x.kind = sm y.kind.toNat := congrArg (fun z => z.1) e
    have e4 : x.n = unf (foldN y.n) := congrArg (fun z => z.2.2.2) e
    exact ⟨e1.trans (hsm _ (by omega)), congrArg (fun z => z.2.1) e, congrArg (fun z => z.2.2.1) e, e4.trans (unf_fold (hna y (List.mem_of_getElem? hy)))⟩
  · have hl : b.marks.length = a.marks.length := by
      have := congrArg List.length h6
      rw [List.length_map, List.length_zipWith, List.length_map] at this
      have := za.1
      omega
    refine List.ext_getElem? fun j => ?_
    by_cases hj : j < a.marks.length
    · have hjb : j < b.marks.length := by omega
      have hjk : j < (keysOf a.t.reads a.t.writes).length := by rw [← za.1]; exact hj
      have q1 := za.2 j _ _ (List.getElem?_eq_getElem hj) (List.getElem?_eq_getElem hjk)
      unfold okM at q1
      simp only [Bool.and_eq_true, decide_eq_true_eq, beq_iff_eq] at q1
      have q2 := wa.marks _ (List.getElem_mem hj)
      have e := congrArg (fun l => l[j]?) h6
      simp only [List.getElem?_map, List.getElem?_zipWith, List.getElem?_eq_getElem hj, List.getElem?_eq_getElem hjb, List.getElem?_eq_getElem hjk, Option.map_some, Option.some.injEq] at e
      rw [List.getElem?_eq_getElem hj, List.getElem?_eq_getElem hjb]
      refine congrArg some ((markSame_iff _ _).1 ?_)
      unfold markSame
      simp only [Bool.and_eq_true, decide_eq_true_eq, beq_iff_eq]
      have e1 : b.marks[j].key = (keysOf a.t.reads a.t.writes)[j] := congrArg (fun z => z.1) e
      have e2 : b.marks[j].home = sm a.marks[j].home.toNat := congrArg (fun z => z.2.1) e
      have e3 : b.marks[j].count = a.marks[j].count := congrArg (fun z => z.2.2) e
      exact ⟨e1.trans q1.1.1.symm, e2.trans (hsm _ q2), e3⟩
    · rw [List.getElem?_eq_none (by omega), List.getElem?_eq_none (by omega)]
/-- what Read answers to an order's bytes with more behind them, and to a part of them. -/
theorem read_more {o q : Od} {more : Bs} (ho : orderR o 3 = true) (hbo : Bnd o) (hno : o.epoch < two64 ∧ o.seq < two64 ∧ ∀ m ∈ o.marks, m.count < two64)
    (hq : OdOf q (rOrder (orderB o ++ more)).1) :
    (orderR q 3 && (orderB q == orderB o ++ more)) = decide (more = []) := by
  rw [rOrder_app ho hbo hno more] at hq
  have hl := odOf_like ho hbo hq
  have h1 : orderR q 3 = true := by rw [hl.right]; exact ho
  rw [h1, orderB_alike hl, Bool.true_and, Bool.eq_iff_iff, beq_iff_eq, decide_eq_true_eq]
  constructor
  · intro h
    exact (List.append_right_eq_self.1 h.symm)
  · rintro rfl
    rw [List.append_nil]
theorem read_cut {o q : Od} {k : Nat} (ho : orderR o 3 = true) (hbo : Bnd o) (hno : o.epoch < two64 ∧ o.seq < two64 ∧ ∀ m ∈ o.marks, m.count < two64)
    (hk : k < (orderB o).length) (hbq : Bnd q) (hnq : q.epoch < two64 ∧ q.seq < two64 ∧ ∀ m ∈ q.marks, m.count < two64) :
    (orderR q 3 && (orderB q == (orderB o).take k)) = false := by
  rw [Bool.and_eq_false_iff]
  by_cases h : orderR q 3 = true
  · refine .inr (beq_eq_false_iff_ne.2 fun e => ?_)
    have h1 := (orderB_pre h ho hbq hbo hnq hno (r := (orderB o).drop k) (s := []) (by rw [e, List.take_append_drop, List.append_nil])).2
    have h2 := congrArg List.length h1
    rw [List.length_drop, List.length_nil] at h2
    omega
  · exact .inl (Bool.eq_false_iff.2 h)

set_option maxRecDepth 100000 in
theorem open_bytes {H : Type} {enc : TypeId × Value → H} {W : World} {r : Reach} {base : Nat} {v : Value} {d : DataW H} {p : List MemPlace}
    (hv : Value.okWide Try.prog W r base 45 v) (hd : DataW.Trod enc Try.prog W 0 (fun _ => true) true 45 v d p) :
    ∃ (A : Option Addr) (c : Nat) (l : Bs), v = .slice A l.length c ∧ Rd W A (cb l) ∧ (A = none → c = 0) := by
  obtain ⟨a0, len, cap, rfl⟩ := okWide_slice Try.underlying45 hv
  obtain ⟨fuel, hf⟩ := hd
  obtain ⟨q, hq, ⟨h1, h2⟩, _, _⟩ := bytes_of_trod (v := .slice a0 len cap) (fuel := fuel) (by simpa [Value.cells] using hf)
  obtain ⟨A, c, l⟩ := q
  exact ⟨A, c, l, hq, h1, h2⟩
end Go.Proofs.Ytakbjjohfcgaoaa
