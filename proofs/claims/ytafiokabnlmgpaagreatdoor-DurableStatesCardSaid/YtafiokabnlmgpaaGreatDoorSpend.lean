/- The disk's spend, isName, always. No condition. -/
import Derived.Test.YtafiokabnlmgpaaGreatDoorUsed
import Derived.Test.YtafiokabnlmgpaaGreatDoorPure2
namespace Go.Proofs.YtafiokabnlmgpaaGreatDoor
open Go.RowKit Go.Maps

theorem Bk.notMap {w : World} {g bm : Nat} {T : TypeId} {cs : Array Value} {fs : Fs} (h : Bk w g T cs) (hm : Mp w bm fs) : g ≠ bm := by
  rintro rfl
  obtain ⟨es, clock, hb, _⟩ := hm
  unfold Bk at h
  rw [hb] at h
  cases h
theorem own_notMap {w : World} {B bm : Nat} {e : TypeId} {size n : Nat} {v : Value} {xs : List Value} {fs : Fs} (h : w.ownsRow B e size v n xs) (hm : Mp w bm fs) {k : Nat} (hk : v.ownBlock = some k) : k ≠ bm := by
  rintro rfl
  obtain ⟨es, clock, hb, _⟩ := hm
  rcases h.2 with ⟨rfl, _⟩ | ⟨g', cap, cur, rfl, _, hh, _⟩
  · simp [Value.ownBlock] at hk
  · have : g' = k := by simpa [Value.ownBlock] using hk
    subst this
    rw [hb] at hh
    cases hh
/-- a disk whose own cells alone have turned. -/
theorem DkIn.box {w w' : World} {B gd : Nat} {m m' : Dsk} (h : DkIn w B gd m) (hf : Fr (fun k => k = gd) w w') (hb : Bk w' gd 105 m'.cells) (h1 : m'.room = m.room) (h2 : m'.bm = m.bm) (h3 : m'.files = m.files) (hl : -9223372036854775808 ≤ m'.left ∧ m'.left ≤ 9223372036854775807) : DkIn w' B gd m' := by
  refine ⟨hb, ?_, fun f hf' => ?_, by rw [h3]; exact h.far, h.bd, by rw [h2]; exact h.bb, by rw [h1, h3]; exact h.fits, by rw [h1]; exact h.most, by rw [h3]; exact h.few, hl⟩
  · rw [h2, h3]
    exact h.mp.fr hf (fun e => h.bk.notMap h.mp e.symm)
  · rw [h3] at hf'
    have hi := h.fil f hf'
    exact hi.fr hf (fun e => Bk.apart hi.bk h.bk (by decide) e) fun k hk e => own_apart hi.own h.bk (by decide) (e ▸ hk)
theorem DkIn.put2 {w : World} {B gd : Nat} {m : Dsk} (h : DkIn w B gd m) (z : Int) (hz : -9223372036854775808 ≤ z ∧ z ≤ 9223372036854775807) : DkIn (w.setCell ⟨gd, 2, none⟩ (.int .i64 z)) B gd { m with left := z } :=
  h.box ((Fr.refl (fun k => k = gd) w).setCell (p := ⟨gd, 2, none⟩) (fun _ => rfl) _) (h.bk.put 2 (.int .i64 z)) rfl rfl rfl hz
theorem DkIn.put3 {w : World} {B gd : Nat} {m : Dsk} (h : DkIn w B gd m) (b : Bool) : DkIn (w.setCell ⟨gd, 3, none⟩ (.bool b)) B gd { m with down := b } :=
  h.box ((Fr.refl (fun k => k = gd) w).setCell (p := ⟨gd, 3, none⟩) (fun _ => rfl) _) (h.bk.put 3 (.bool b)) rfl rfl rfl h.lf
theorem DkIn.cell {w : World} {B gd : Nat} {m : Dsk} (h : DkIn w B gd m) : w.cell? ⟨gd, 0, none⟩ = some (.int .i64 m.room) ∧ w.cell? ⟨gd, 1, none⟩ = some (.map (some m.bm)) ∧ w.cell? ⟨gd, 2, none⟩ = some (.int .i64 m.left) ∧ w.cell? ⟨gd, 3, none⟩ = some (.bool m.down) :=
  ⟨h.bk.cell 0, h.bk.cell 1, h.bk.cell 2, h.bk.cell 3⟩

/-- a change is used up. -/
def spent (m : Dsk) : Dsk := if m.left = 0 then { m with down := true } else if 0 < m.left then { m with left := m.left - 1 } else m
def spendE (m : Dsk) : Int := if m.left = 0 then 3 else 0
def SpendPost (w : World) (B gd : Nat) (m : Dsk) (e : Ending) (w' : World) : Prop := e = .returned (.int .i64 (spendE m)) ∧ DkIn w' B gd (spent m) ∧ Fr (fun k => k = gd) w w'

set_option maxRecDepth 100000 in
theorem spend_any (w : World) (B gd : Nat) (m : Dsk) (h : DkIn w B gd m) : Calls Tryz.prog 131 #[.pointer (some ⟨gd, 0, none⟩)] w (SpendPost w B gd m) := by
  obtain ⟨c0, c1, c2, c3⟩ := h.cell
  have f2 := h.bk.free 2
  have f3 := h.bk.free 3
  have hl := h.lf
  have HD := Lib.hid h
  clear h
  by_cases h0 : m.left = 0
  · have HE : Hid (spendE m = 3) := by show _ = _; unfold spendE; rw [if_pos h0]
    have HS : Hid (spent m = { m with down := true }) := by show _ = _; unfold spent; rw [if_pos h0]
    rw [h0] at c2
    clear h0
    go_enter Tryz.func131, Tryz.ntmps131
    go_wp2_with fail
    go_ret
    exact ⟨by rw [HE.out]; rfl, by rw [HS.out]; exact HD.out.put3 true, (Fr.refl (fun k => k = gd) w).setCell (p := ⟨gd, 3, none⟩) (fun _ => rfl) _⟩
  have HE : Hid (spendE m = 0) := by show _ = _; unfold spendE; rw [if_neg h0]
  have g1 : (m.left == 0) = false := by rw [beq_eq_false_iff_ne]; exact h0
  by_cases hp : 0 < m.left
  · have HS : Hid (spent m = { m with left := m.left - 1 }) := by show _ = _; unfold spent; rw [if_neg h0, if_pos hp]
    clear h0
    go_enter Tryz.func131, Tryz.ntmps131
    go_wp2_with fail
    go_ret
    exact ⟨by rw [HE.out]; rfl, by rw [HS.out]; exact HD.out.put2 _ (by omega), (Fr.refl (fun k => k = gd) w).setCell (p := ⟨gd, 2, none⟩) (fun _ => rfl) _⟩
  · have HS : Hid (spent m = m) := by show _ = _; unfold spent; rw [if_neg h0, if_neg hp]
    clear h0
    go_enter Tryz.func131, Tryz.ntmps131
    go_wp2_with fail
    go_ret
    exact ⟨by rw [HE.out]; rfl, by rw [HS.out]; exact HD.out, Fr.refl _ _⟩

set_option maxRecDepth 100000 in
theorem isName_any (w : World) (k : Bs) (hk : k.length ≤ maxLen) : Calls Tryz.prog 129 #[.string (bstr k)] w fun e w' => e = .returned (.bool (isNm k)) ∧ w = w' := by
  have e4 : (bstr k).size = k.length := bstr_size k
  unfold maxLen at hk
  have HD : Hid (isNm k = (decide (1 ≤ k.length) && decide (k.length ≤ 16))) := rfl
  by_cases h1 : 1 ≤ k.length
  · have HQ : Hid (decide ((k.length : Int) ≤ 16) = isNm k) := by
      show _ = _
      rw [HD.out, decide_eq_true h1, Bool.true_and, decide_eq_decide]
      omega
    go_enter Tryz.func129, Tryz.ntmps129
    go_wp2_with fail
    go_ret
    exact ⟨ret_bool HQ.out, rfl⟩
  · have HQ : Hid (isNm k = false) := by show _ = _; rw [HD.out, decide_eq_false h1]; rfl
    have h3 : k.length = 0 := by omega
    rw [h3] at e4
    clear h1 h3 hk
    go_enter Tryz.func129, Tryz.ntmps129
    go_wp2_with fail
    go_ret
    exact ⟨by rw [HQ.out]; rfl, rfl⟩
theorem always_any (w : World) (v : Value) : Calls Tryz.prog 127 #[v] w fun e w' => e = .returned (.bool true) ∧ w = w' := by
  go_enter Tryz.func127, Tryz.ntmps127
  go_wp2_with fail
  go_ret
  exact ⟨rfl, rfl⟩
end Go.Proofs.YtafiokabnlmgpaaGreatDoor
