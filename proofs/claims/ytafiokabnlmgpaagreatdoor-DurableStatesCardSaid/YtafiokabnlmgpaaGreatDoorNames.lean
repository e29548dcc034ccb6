/- The disk's Names: the names of all files, rising, in new memory. No condition. -/
import Derived.Test.YtafiokabnlmgpaaGreatDoorIter
import Derived.Test.YtafiokabnlmgpaaGreatDoorSpend
import Derived.Sort.KeysCollected
namespace Go.Proofs.YtafiokabnlmgpaaGreatDoor
open Go.RowKit Go.Maps Go.Sort Go.Shelf

/-- slices.Sort's two contracts, at the fence that asks nothing. -/
theorem sorts (m : Nat) : AnyZ.SortsIn Tryz.prog Tryz.sorted79_ren Fence.wide m :=
  ⟨fun blk off cap ss W hH hblk hsz => callsIn_wide.2 (AnyM.slices_Sort_string Tryz.sort116 blk off cap ss W hH hblk hsz),
   fun p cap W => callsIn_wide.2 (AnyM.slices_Sort_string_none Tryz.sort116 p cap W)⟩
theorem mapsKeys_any (mb : Option Nat) (W : World) : Calls Tryz.prog 80 #[.map mb] W fun e w' => e = .returned (.func (.func 117) #[] #[.pointer (some ⟨W.heap.size, 0, none⟩)]) ∧ w' = W.alloc (.cells #[.map mb] 103) :=
  (callsIn_wide (n := 5)).1 (AnyZ.keys_in Tryz.keys80 Fence.wide 5 trivial rfl mb W)

def SortedPost (w : World) (b : Nat) (D0 : DW) (e : Ending) (w' : World) : Prop := ∃ (v : Value) (ss : List (List UInt8)), e = .returned v ∧ ss.Perm (strKeys D0) ∧
      w'.ownsRow (w.alloc (.cells #[.map (some b)] 103)).heap.size 9 1 v ss.length ((ss.mergeSort (fun x y => decide (x ≤ y))).map encStr) ∧ (v = .slice none 0 0 ↔ ss = []) ∧ Below (w.alloc (.cells #[.map (some b)] 103)).heap.size (w.alloc (.cells #[.map (some b)] 103)) w'
set_option maxHeartbeats 1000000 in
theorem sorted_any (b nn : Nat) (D0 : DW) (R : Value → Option (DW × List MemPlace)) (w : World) (hown : w.ownsMap Tryz.prog 9 R b nn D0) (hmax : Maps.size D0 ≤ maxLen) (hbytes : Maps.size D0 * 16 ≤ 140737488355328) :
    Calls Tryz.prog 79 #[.func (.func 117) #[] #[.pointer (some ⟨w.heap.size, 0, none⟩)]] (w.alloc (.cells #[.map (some b)] 103)) (SortedPost w b D0) := by
  refine (callsIn_wide (n := 5)).1 ?_
  have hbl := hown.lt
  have hseq : SeqGives Fence.wide 2 Tryz.prog 117 #[.pointer (some ⟨w.heap.size, 0, none⟩)] encStr (fun ss => ss.Perm (strKeys D0)) (Maps.size D0) (w.alloc (.cells #[.map (some b)] 103)) :=
    AnyZ.keys_gives (ρ := Tryz.keys80_ren) { Tryz.keys80 with } Fence.wide _ trivial rfl (by omega) w.heap.size b nn D0 _ (by simp) (by simp) (by
      obtain ⟨es, clock, hb, Ft, hs, hD⟩ := hown
      exact ⟨es, clock, (Below.heap_alloc _ _ b hbl).trans hb, Ft, hs, hD⟩)
  exact AnyZ.sorted_in Tryz.sorted79 Fence.wide 5 trivial trivial trivial trivial rfl (by omega) (sorts _) (enters_of Tryz.func116 (by kernel_rfl) rfl) 117 #[.pointer (some ⟨w.heap.size, 0, none⟩)] trivial (enters_of Tryz.func117 (by kernel_rfl) rfl) _ _ hmax hbytes _ hseq

def leS (x y : Bs) : Bool := decide (x ≤ y)
theorem leS_iff (x y : Bs) : leS x y = !(Op.bytesLess y x) := by
  rw [leS, bytesLess_eq]
  by_cases h : y < x
  · simp [h, List.not_le.2 h]
  · simp [h, List.not_lt.1 h]
theorem sorted_S (ss : List Bs) : (ss.mergeSort leS).Pairwise fun a b => Op.bytesLess b a = false := by
  have h := List.pairwise_mergeSort (le := leS) (fun a b c h1 h2 => ?_) (fun a b => ?_) ss
  · exact h.imp fun {a b} hab => by rw [leS_iff] at hab; simpa using hab
  · rw [leS_iff] at h1 h2 ⊢
    simp only [Bool.not_eq_true', ] at h1 h2 ⊢
    cases hca : Op.bytesLess c a
    · rfl
    · cases hab : Op.bytesLess a b
      · rw [less_total hab h1] at hca
        rw [h2] at hca
        cases hca
      · have := less_trans hca hab
        rw [h2] at this
        cases this
  · rw [leS_iff, leS_iff]
    cases hab : Op.bytesLess b a
    · rfl
    · rw [less_asymm hab]; rfl
theorem sorted_up {ss ks : List Bs} (hp : ss.Perm ks) (hk : Up ks) : ss.mergeSort (fun x y => decide (x ≤ y)) = ks := by
  have hpm : (ss.mergeSort leS).Perm ks := (List.mergeSort_perm ss leS).trans hp
  have hnd : (ss.mergeSort leS).Nodup := hpm.nodup_iff.2 (up_nodup hk)
  have hup : Up (ss.mergeSort leS) := by
    have h1 := sorted_S ss
    refine (h1.and hnd).imp fun {a b} h => ?_
    cases hab : Op.bytesLess a b
    · exact absurd (less_total hab h.1) h.2
    · rfl
  exact up_unique hup hk fun a => hpm.mem_iff
theorem strKeys_mapD (fs : Fs) : strKeys (mapD fs) = fs.map (·.1) := by
  unfold strKeys mapD
  simp only [List.map_map]
  rfl

/-- new memory that reads as texts. -/
structure TextsAt (w w' : World) (A : Option Addr) (c : Nat) (ks : List Bs) : Prop where
  rd : Rd w' A (sts ks)
  le : ks.length ≤ c
  nil : A = none → c = 0
  fr : Fr NoBlk w w'
def NamesPost (w : World) (m : Dsk) (e : Ending) (w' : World) : Prop := ∃ A c, e = .returned (.slice A m.files.length c) ∧ TextsAt w w' A c (m.files.map (·.name))

set_option maxRecDepth 100000 in
theorem names_any (w : World) (B gd : Nat) (m : Dsk) (h : DkIn w B gd m) : Calls Tryz.prog 35 #[.pointer (some ⟨gd, 0, none⟩)] w (NamesPost w m) := by
  obtain ⟨_, c1, _, _⟩ := h.cell
  have hf := h.few
  have HS := Lib.hid (sorted_any m.bm _ (mapD (fsOf m.files)) ptE w h.mp (by rw [mapD_size]; unfold maxLen fsOf; rw [List.length_map]; omega) (by rw [mapD_size]; unfold fsOf; rw [List.length_map]; omega))
  have HK := Lib.hid (mapsKeys_any (some m.bm) w)
  have HU := Lib.hid h.up
  clear h hf
  go_enter Tryz.func35, Tryz.ntmps35
  go_wp2_with fail
  refine HK.out.mono ?_
  rintro e w1 ⟨rfl, rfl⟩
  go_wp2_with fail
  refine HS.out.mono ?_
  rintro e w2 ⟨v, ss, rfl, hp, ho, hn, hb⟩
  obtain ⟨A, c, rfl, hc, hA⟩ := own_form ho
  have hss : ss.mergeSort (fun x y => decide (x ≤ y)) = m.files.map (·.name) := sorted_up (by rw [strKeys_mapD, fsOf_names] at hp; exact hp) HU.out
  have hl : ss.length = m.files.length := by
    have := congrArg List.length hss
    rwa [List.length_mergeSort, List.length_map] at this
  rw [hss, hl] at ho
  rw [hl] at hc
  have HT : Hid (TextsAt w w2 A c (m.files.map (·.name))) := ⟨Rd.of_own ho, by rw [List.length_map]; exact hc, hA, ((Fr.refl NoBlk w).alloc _).trans (Fr.ofBelow hb)⟩
  have HL := Lib.hid hl
  clear ho hc hA hn hb hss hp hl
  rw [HL.out]
  go_wp2_with fail
  go_ret
  exact ⟨A, c, rfl, HT.out⟩
end Go.Proofs.YtafiokabnlmgpaaGreatDoor
