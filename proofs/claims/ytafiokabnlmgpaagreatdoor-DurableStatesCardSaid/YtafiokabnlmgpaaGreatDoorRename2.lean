/- The disk's Rename, whole. Condition: lengths. -/
import Derived.Test.YtafiokabnlmgpaaGreatDoorRename
namespace Go.Proofs.YtafiokabnlmgpaaGreatDoor
open Go.RowKit Go.Maps

set_option maxRecDepth 100000 in
theorem rename1_any (w : World) (f : Value) (tt : Bs) (ht : tt.length ≤ maxLen) (bt : Nat) (hbt : w.cell? ⟨bt, 0, none⟩ = some (.string (bstr tt))) :
    Calls Tryz.prog 135 #[f, .pointer (some ⟨bt, 0, none⟩)] w fun e w' => e = .returned (.bool (isNm tt)) ∧ Fr NoBlk w w' := by
  have HI := Lib.hid (isName_any w tt ht)
  clear ht
  go_enter Tryz.func135, Tryz.ntmps135
  go_wp2_with fail
  refine HI.out.mono ?_
  rintro e w1 ⟨rfl, rfl⟩
  go_wp2_with fail
  go_ret
  exact ⟨rfl, Fr.refl _ _⟩
theorem enters_rename1 : ∀ args w, (callFunc 135 args).run Tryz.prog w = .ok (.enter 135 args) w := enters_of Tryz.func135 (by kernel_rfl) rfl
theorem enters_rename2 : ∀ args w, (callFunc 136 args).run Tryz.prog w = .ok (.enter 136 args) w := enters_of Tryz.func136 (by kernel_rfl) rfl
theorem spent_bm (m : Dsk) : (spent m).bm = m.bm := by
  unfold spent
  split
  · rfl
  · split <;> rfl
theorem isNm_len {k : Bs} (h : isNm k = true) : k.length ≤ 16 := by
  unfold isNm at h
  simp only [Bool.and_eq_true, decide_eq_true_eq] at h
  exact h.2
set_option maxRecDepth 100000 in
theorem rename_any (w : World) (B gd : Nat) (m : Dsk) (h : DkIn w B gd m) (k : Bs) (hk : k.length ≤ maxLen) (tt : Bs) (ht : tt.length ≤ maxLen) :
    Calls Tryz.prog 97 #[.pointer (some ⟨gd, 0, none⟩), .string (bstr k), .string (bstr tt)] w (DkPost w B gd m (pRename m.pd k tt)) := by
  have hg := h.bk.lt
  have hb := h.mp.lt
  have f1 : Fr NoBlk w (w.alloc (.cells #[.pointer (some ⟨gd, 0, none⟩)] 26)) := (Fr.refl _ _).alloc _
  have f2 : Fr NoBlk (w.alloc (.cells #[.pointer (some ⟨gd, 0, none⟩)] 26)) ((w.alloc (.cells #[.pointer (some ⟨gd, 0, none⟩)] 26)).alloc (.cells #[.string (bstr k)] 9)) := (Fr.refl _ _).alloc _
  have f3 : Fr NoBlk ((w.alloc (.cells #[.pointer (some ⟨gd, 0, none⟩)] 26)).alloc (.cells #[.string (bstr k)] 9)) (((w.alloc (.cells #[.pointer (some ⟨gd, 0, none⟩)] 26)).alloc (.cells #[.string (bstr k)] 9)).alloc (.cells #[.string (bstr tt)] 9)) := (Fr.refl _ _).alloc _
  have b1 := ((Bk.new w 26 #[.pointer (some ⟨gd, 0, none⟩)]).fr f2 fun h => h).fr f3 fun h => h
  have b2 := (Bk.new (w.alloc (.cells #[.pointer (some ⟨gd, 0, none⟩)] 26)) 9 #[.string (bstr k)]).fr f3 fun h => h
  have b3 := Bk.new ((w.alloc (.cells #[.pointer (some ⟨gd, 0, none⟩)] 26)).alloc (.cells #[.string (bstr k)] 9)) 9 #[.string (bstr tt)]
  rw [World.size_alloc] at b2
  rw [World.size_alloc, World.size_alloc] at b3
  have HF := Lib.hid ((f1.trans f2).trans f3)
  have HC := Lib.hid (change_any _ B gd m (h.nofr HF.out) k hk 135 #[.pointer (some ⟨w.heap.size + 1 + 1, 0, none⟩)] 136 #[.pointer (some ⟨w.heap.size, 0, none⟩), .pointer (some ⟨w.heap.size + 1, 0, none⟩), .pointer (some ⟨w.heap.size + 1 + 1, 0, none⟩)] (fun _ => isNm tt) (fun f L => pins { f with name := tt } (pdel (pdel L k) tt)) enters_rename1 enters_rename2
    (fun f _ _ => rename1_any _ _ tt ht _ (b3.cell 0))
    (fun f hf hn hr W hd hfr => by
      have := rename2_any W B gd (spent m) hd f (by rw [spent_files]; exact hf) (by rw [hn]; exact hk) tt (isNm_len hr) w.heap.size (w.heap.size + 1) (w.heap.size + 1 + 1) (b1.fr hfr (fun e => by omega)) (by rw [hn]; exact b2.fr hfr (fun e => by omega)) (b3.fr hfr (fun e => by omega)) (by rw [spent_bm]; omega) (by rw [spent_bm]; omega)
      rw [hn] at this
      exact this))
  clear h hk b1 b2 b3 f1 f2 f3 hg hb
  go_enter Tryz.func97, Tryz.ntmps97
  go_wp2_with fail
  refine HC.out.mono ?_
  intro e w1 hp
  obtain ⟨m1, rfl, hp1⟩ := hp
  have HP : Hid (DkPost w B gd m (pRename m.pd k tt) (.returned (.int .i64 (pRename m.pd k tt).2)) w1) := DkPost.old ⟨m1, rfl, hp1⟩ HF.out
  have e2 : (pChange m.pd k (fun _ => isNm tt) fun f L => pins { f with name := tt } (pdel (pdel L k) tt)).2 = (pRename m.pd k tt).2 := rfl
  rw [e2]
  generalize (pRename m.pd k tt).2 = z at *
  clear hp1 e2
  go_wp2_with fail
  go_ret
  exact HP.out
end Go.Proofs.YtafiokabnlmgpaaGreatDoor
