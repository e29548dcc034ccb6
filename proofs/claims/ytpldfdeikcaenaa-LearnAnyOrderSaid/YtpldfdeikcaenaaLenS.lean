/- Len of the program's Chosen at string: how many places from 0 on are known. No condition. -/
import Derived.RangeFuncBox
import Derived.Maps.AppendAt
import Derived.Test.YtpldfdeikcaenaaItS
namespace Go.Proofs.Ytpldfdeikcaenaa
open Go.RowKit Go.Shelf Go.Maps
attribute [local go_sem] Oper.semAt_some

theorem behindS_stops (n b1 b2 : Nat) (hn : 1 ≤ n) (K : Nat → Prop) (B gc bm s : Nat) (m : Int → Option ByteArray) (a : Int) (ha : wf64 a) (h1 : K b1) (h2 : K b2) (hg : K gc) (hb : K bm)
    (W0 : World) (hC : ChS W0 B gc bm s m) (hb1 : b1 < W0.heap.size) (hb2 : b2 < W0.heap.size) (hB1 : W0.cell? ⟨b1, 0, none⟩ = some (.int .i64 a)) (hB2 : W0.cell? ⟨b2, 0, none⟩ = some (.pointer (some ⟨gc, 0, none⟩))) :
    SeqStopsK Fence.wide n Try.prog 25 #[.pointer (some ⟨b1, 0, none⟩), .pointer (some ⟨b2, 0, none⟩)] (fun x : PlS m => #[.int .i64 x.1.1, evS x.1.2]) (Keep K) (fun ys => Whole m a (ys.map (·.1))) (fun pre => Told m a (pre.map (·.1))) 64 W0 := fun l J Jx W hW hJ _ hY h0 =>
  behind1S_in n l b1 b2 hn K B gc bm s m a ha h1 h2 hg hb W.heap.size J Jx hY W (hC.nofr (Fr.ofBelow hW)) ((hW.cell (p := ⟨b1, 0, none⟩) hb1).trans hB1) ((hW.cell (p := ⟨b2, 0, none⟩) hb2).trans hB2) h0

theorem Bk.others {w w' : World} {g : Nat} {t : TypeId} {cs : Array Value} {row : Option Nat} (h : Bk w g t cs) (hg : w.grownBy w' row) (hr : ∀ r, row = some r → ∃ o : Obj, w.heap[r]? = some o ∧ o.isCells = false) : Bk w' g t cs :=
  h.fr (Fr.ofGrown hg) fun e => by
    obtain ⟨o, ho, hc⟩ := hr g e.symm
    unfold Bk at h
    rw [h] at ho
    injection ho with ho
    rw [← ho] at hc
    cases hc
theorem own_others {w w' : World} {base : Nat} {e : TypeId} {size n : Nat} {v : Value} {xs : List Value} {row : Option Nat} (h : w.ownsRow base e size v n xs) (hg : w.grownBy w' row) (hr : ∀ r, row = some r → ∃ o : Obj, w.heap[r]? = some o ∧ o.isCells = false) : w'.ownsRow base e size v n xs :=
  own_fr h (Fr.ofGrown hg) fun k hk e => by
    obtain ⟨o, ho, hc⟩ := hr k e.symm
    rcases h.2 with ⟨rfl, _⟩ | ⟨g, cap, cur, rfl, _, hh, _⟩
    · cases hk
    · have e1 : g = k := by simpa [Value.ownBlock] using hk
      subst e1
      rw [hh] at ho
      injection ho with ho
      rw [← ho] at hc
      cases hc

/-- between two rounds: the number so far lies in the box gl; the closure's boxes are others. -/
structure LenSAt (w : World) (gl : Nat) (k : Nat) (W : World) : Prop where
  box : Bk W gl 3 #[.int .i64 k]
  fr : Fr NoBlk w W
  ge : w.heap.size ≤ gl
theorem LenSAt.others {w W W' : World} {gl k : Nat} {row : Option Nat} (h : LenSAt w gl k W) (hg : W.grownBy W' row) (hr : ∀ r, row = some r → w.heap.size ≤ r ∧ ∃ o : Obj, W.heap[r]? = some o ∧ o.isCells = false) : LenSAt w gl k W' :=
  ⟨h.box.others hg fun r e => (hr r e).2, h.fr.grown hg (fun r e hl => by have := (hr r e).1; omega), h.ge⟩

set_option maxRecDepth 100000 in
set_option maxHeartbeats 4000000 in
theorem lenS_any (w : World) (B gc bm s : Nat) (m : Int → Option ByteArray) (h : ChS w B gc bm s m) :
    Calls Try.prog 11 #[.pointer (some ⟨gc, 0, none⟩)] w fun e w' => ∃ L, Whole m 0 L ∧ e = .returned (.int .i64 L.length) ∧ Fr NoBlk w w' := by
  have HC := Lib.hid h
  have HB0 : Hid (Bk ((w.alloc (.cells #[.int .i64 0] 3))) w.heap.size 3 #[.int .i64 0]) := Bk.new _ _ _
  have HGC := Lib.hid h.bk.lt
  have HBM := Lib.hid h.km.lt
  clear h
  refine (callsIn_wide (n := 9)).1 ?_
  refine callsIn_of_wp_marks Try.func11 rfl trivial ?_ rfl
  simp only [Try.ntmps11, List.size_toArray, List.length_cons, List.length_nil, Nat.reduceAdd, Nat.reduceSub, Array.replicate_succ, Array.replicate_zero, List.push_toArray, List.append_toArray, List.nil_append, List.cons_append]
  gi_wp2
  refine ⟨trivial, (callsIn_wide.2 (allS_any _ gc)).mono ?_⟩
  rintro e w5 ⟨rfl, hw5⟩
  obtain ⟨gl, hgl⟩ : ∃ gl, gl = w.heap.size := ⟨_, rfl⟩
  have hsz4 : (w.alloc (.cells #[.int .i64 0] 3)).heap.size = gl + 1 := by rw [World.size_alloc, hgl]
  rw [hsz4]
  have hb50 : Bk w5 gl 3 #[.int .i64 0] := by rw [hw5, hgl]; exact (HB0.out.alloc _).alloc _
  have hb51 : Bk w5 (gl + 1) 24 #[.pointer (some ⟨gc, 0, none⟩)] := by
    rw [hw5, ← hsz4]
    exact (Bk.new _ _ _).alloc _
  have hb52 : Bk w5 (gl + 1 + 1) 3 #[.int .i64 0] := by
    rw [hw5, ← hsz4]
    have h := Bk.new ((w.alloc (.cells #[.int .i64 0] 3)).alloc (.cells #[.pointer (some ⟨gc, 0, none⟩)] 24)) 3 #[.int .i64 0]
    rw [World.size_alloc (w.alloc (.cells #[.int .i64 0] 3))] at h
    exact h
  have hf5 : Fr NoBlk w w5 := by rw [hw5]; exact (((Fr.refl NoBlk w).alloc _).alloc _).alloc _
  have hs5 : w5.heap.size = gl + 1 + 1 + 1 := by rw [hw5, World.size_alloc, World.size_alloc, hsz4]
  have HI0 : Hid (LenSAt w gl 0 w5) := ⟨hb50, hf5, by omega⟩
  have HST := Lib.hid (behindS_stops 8 (gl + 1 + 1) (gl + 1) (by omega) (fun i => i < w.heap.size ∨ i = gl + 1 ∨ i = gl + 1 + 1) B gc bm s m 0 (wf64_of (by omega)) (.inr (.inr rfl)) (.inr (.inl rfl)) (.inl HGC.out) (.inl HBM.out) w5 (HC.out.nofr hf5) hb52.lt hb51.lt (hb52.cell 0) (hb51.cell 0))
  have hKK : ∀ k, (k < w.heap.size ∨ k = gl + 1 ∨ k = gl + 1 + 1) → k < w5.heap.size := fun k hk => by omega
  have HGL : Hid (gl = w.heap.size) := hgl
  have HDM := Lib.hid HC.out.dom
  rw [← hgl]
  clear hb50 hb51 hb52 hf5 hgl hsz4 hw5 HB0 HC
  gi_wp2
  refine wpIn_rangeFunc_ownF rfl (by omega) (gf := 25) (lb := #[.pointer (some ⟨gl + 1 + 1, 0, none⟩), .pointer (some ⟨gl + 1, 0, none⟩)]) rfl trivial (enters_of Try.func25 (by kernel_rfl) rfl)
    HST.out (fun h k => h.t k) (Keep.b hKK) (Below.refl _ _) (fun _ => rfl)
    (fun pre W => LenSAt w gl pre.length W)
    (fun _ _ _ => False)
    (fun s W W' row hs hg hr => hs.others hg fun r e => ⟨by have := (hr r e).1; have := HGL.out; omega, (hr r e).2⟩)
    (fun _ _ _ _ _ hs _ _ => hs)
    HI0.out
    (fun x => { tmps := #[.pointer (some ⟨gc, 0, none⟩), undef, .int .i64 0, .pointer (some ⟨gl, 0, none⟩), .pointer (some ⟨gc, 0, none⟩), .func (.func 25) #[] #[.pointer (some ⟨gl + 1 + 1, 0, none⟩), .pointer (some ⟨gl + 1, 0, none⟩)], .int .i64 x.1.1, evS x.1.2, undef, undef, undef], defers := [] }) ?assign ?body ?done ?stop
  case assign =>
    intro l' x W K hK
    gi_wp2
    simp
    exact hK
  case body =>
    rintro l' pre x W hI hlen
    have hc1 := hI.box.cell 0
    have hfz := hI.box.free 0
    obtain ⟨k, hk⟩ : ∃ k, k = pre.length := ⟨_, rfl⟩
    have hwr : IntKind.i64.wrap ((k : Int) + 1) = (k : Int) + 1 := IntWalk.i64_in _ (by omega)
    have HI : Hid (LenSAt w gl k W) := by show LenSAt _ _ _ _; rw [hk]; exact hI
    rw [← hk] at hc1
    have HKN := Lib.hid hk
    have HKK := Lib.hid hKK
    clear hI hk hKK hlen
    gi_wp2
    have hall : Fr (fun i => i = gl) W (W.setCell ⟨gl, 0, none⟩ (.int .i64 ((k : Int) + 1))) := (Fr.refl (fun i => i = gl) W).setCell (p := ⟨gl, 0, none⟩) (fun _ => rfl) _
    refine ⟨KeepsOthers.setCell _ _ _, fun i hi => Below.heap_setCell _ _ _ _ (by have := HGL.out; show i ≠ gl; omega), ?_⟩
    show LenSAt w gl (pre ++ [x]).length _
    rw [List.length_append, List.length_singleton, ← HKN.out]
    refine ⟨?_, HI.out.fr.step hall fun i hi e => by have := HGL.out; omega, HI.out.ge⟩
    have h := HI.out.box.put 0 (.int .i64 ((k : Int) + 1))
    simpa using h
  case done =>
    rintro D xs W hD hS hI hK
    have hc1 := hI.box.cell 0
    have HD := Lib.hid hD
    have HS := Lib.hid hS
    have HI := Lib.hid hI
    have HKD := Lib.hid hK
    obtain ⟨k, hk⟩ : ∃ k, k = xs.length := ⟨_, rfl⟩
    rw [← hk] at hc1
    have HKN := Lib.hid hk
    clear hI hS hD hK hk
    gi_wp2
    refine ⟨by simp, .inl ⟨_, _, rfl, run_takeDeferred HKD.out, ?_⟩⟩
    refine ⟨_, results_tmp rfl _ _ _, xs.map (·.1), HS.out, by rw [List.length_map, ← HKN.out]; rfl, HI.out.fr.grown (grownBy_putObj' W D _) fun r e hl => ?_⟩
    cases e
    have := HD.out
    have := HGL.out
    omega
  case stop =>
    rintro D c' pre W _ _ h _
    exact h.elim
end Go.Proofs.Ytpldfdeikcaenaa
