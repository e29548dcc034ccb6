/- A store's bytes; pure. Conditions: keys and values of at most 500 bytes. What a pen's calls keep; a mark for a value; a text as bytes. No condition. The program's Snapshot. Conditions: at most 1000 rows; keys and values of at most 500 bytes.  -/
import Derived.Test.YtkdcacajacndmaaRfA
import Derived.Test.YtkdcacajacndmaaSRows
import Derived.Test.YtkdcacajacndmaaEyA
import Derived.Lib.ConvBytes
import Derived.Deep.RegionHeld3
namespace Go.Proofs.Ytkdcacajacndmaa
open Go.RowKit
def b1 (b : Bool) : UInt8 := if b then 1 else 0
/-- a home as an unsigned number. -/
def hmN (h : Int) : Nat := (IntKind.u64.wrap h).toNat
theorem hmN_eq (h : Int) : IntKind.u64.wrap h = (hmN h : Int) := by
  have e : IntKind.u64.wrap h = h % 18446744073709551616 := rfl
  unfold hmN
  rw [e]
  omega
theorem hmN_lt (h : Int) : hmN h < 2 ^ 64 := by
  have e : IntKind.u64.wrap h = h % 18446744073709551616 := rfl
  unfold hmN
  rw [e]
  omega
def rowB (x : Rw) : Bs := num x.1.length ++ x.1 ++ [b1 x.2.has] ++ (num x.2.val.length ++ x.2.val) ++ num (hmN x.2.home) ++ num x.2.count
def snapB (n : Nat) (rs : List Rw) : Bs := num n ++ num rs.length ++ rs.flatMap rowB
theorem rowB_len {x : Rw} (h1 : x.1.length ≤ 500) (h2 : x.2.val.length ≤ 500) (h3 : x.2.count < 2 ^ 64) : (rowB x).length ≤ 1041 := by
  have a := num_len x.1.length (by omega)
  have b := num_len x.2.val.length (by omega)
  have c := num_len (hmN x.2.home) (hmN_lt _)
  have d := num_len x.2.count h3
  unfold rowB
  simp only [List.length_append, List.length_singleton]
  omega
theorem rows_len (rs : List Rw) (h : ∀ x ∈ rs, x.1.length ≤ 500 ∧ x.2.val.length ≤ 500 ∧ x.2.count < 2 ^ 64) : (rs.flatMap rowB).length ≤ rs.length * 1041 := by
  induction rs with
  | nil => exact Nat.le_refl _
  | cons x t ih =>
    have h1 := h x List.mem_cons_self
    have h2 := rowB_len h1.1 h1.2.1 h1.2.2
    have h3 := ih fun y hy => h y (List.mem_cons_of_mem _ hy)
    rw [List.flatMap_cons, List.length_append, List.length_cons]
    omega
end Go.Proofs.Ytkdcacajacndmaa

namespace Go.Proofs.Ytkdcacajacndmaa
open Go.RowKit Go.Shelf
theorem own_blk {w : World} {base : Nat} {e : TypeId} {size n : Nat} {v : Value} {xs : List Value} (h : w.ownsRow base e size v n xs) {k : Nat} (hk : v.ownBlock = some k) : base ≤ k ∧ k < w.heap.size := by
  rcases h.2 with ⟨h1, _⟩ | ⟨g, cap, cur, h1, h2, hh, _⟩
  · rw [h1] at hk; cases hk
  · rw [h1] at hk
    have : g = k := by simpa [Value.ownBlock] using hk
    subst this
    exact ⟨h2, (Array.getElem?_eq_some_iff.1 hh).1⟩

theorem Wro.old {w0 w w' : World} {base g : Nat} {v v' : Value} {l l' : List UInt8} (h0 : Fr NoBlk w0 w) (hg : w0.heap.size ≤ g) (hb : w0.heap.size ≤ base) (hp : Pen w base g v l) (h : Wro w w' base g v v' l') : Fr NoBlk w0 w' :=
  h0.step h.fr fun i hi e => by
    rcases e with e | e
    · omega
    · have := (own_blk hp.own e.symm).1; omega
theorem Wro.keep {w w' : World} {base g : Nat} {v v' : Value} {l l' : List UInt8} (hp : Pen w base g v l) (h : Wro w w' base g v v' l') {k : Nat} {T : TypeId} {cs : Array Value} (hb : Bk w k T cs) (h1 : 5 ≠ T) (h2 : T ≠ 76) : Bk w' k T cs :=
  hb.fr h.fr fun e => by
    rcases e with e | e
    · exact Bk.apart hb hp.bk h2 e
    · exact own_apart hp.own hb h1 e.symm
theorem Pen.nofr {w w' : World} {base g : Nat} {v : Value} {l : List UInt8} (h : Pen w base g v l) (hf : Fr NoBlk w w') : Pen w' base g v l := h.keep hf (fun h => h) (fun _ _ h => h)
theorem Wro.pre {w w0 w1 : World} {base g : Nat} {v v1 : Value} {l : List UInt8} (hf : Fr NoBlk w w0) (h : Wro w0 w1 base g v v1 l) : Wro w w1 base g v v1 l :=
  ⟨h.pen, (hf.mono fun _ _ h => h.elim).trans h.fr, by
    rcases h.blk with h1 | ⟨k, e, hk⟩
    · exact .inl h1
    · exact .inr ⟨k, e, Nat.le_trans hf.size hk⟩⟩
theorem Pen.lt {w : World} {base g : Nat} {v : Value} {l : List UInt8} (h : Pen w base g v l) : g < w.heap.size ∧ ∀ k, v.ownBlock = some k → k < w.heap.size := ⟨h.bk.lt, fun _ hk => (own_blk h.own hk).2⟩
/-- a text as bytes in new memory. -/
theorem conv (w : World) (key : Bs) : ∃ W c, (convert 9 31 (.string (bstr key))).run Try.prog w = .ok (.slice (some ⟨w.heap.size, 0, none⟩) key.length c) W ∧ Rd W (some ⟨w.heap.size, 0, none⟩) (cb key) ∧ Fr NoBlk w W := by
  refine ⟨_, _, (Lib.run_convert_string_bytes (P := Try.prog) w 9 31 5 (bstr key) Try.underlying9 Try.underlying31 Try.underlying5).trans (by rw [(show ∀ l : Bs, (bstr l).size = l.length from fun l => by simp [bstr, ByteArray.size])]), fun _ => ⟨w.heap.size, 0, rfl, fun j v hj => ?_⟩, ⟨?_, ?_, ?_, ?_, fun k hk _ => Lib.bytesWorld_at_old _ _ _ k hk⟩⟩
  · have hjl := (List.getElem?_eq_some_iff.1 hj).1
    rw [cb_length] at hjl
    rw [Nat.zero_add, Lib.bytesWorld_cell w _ _ j (by rw [(show ∀ l : Bs, (bstr l).size = l.length from fun l => by simp [bstr, ByteArray.size])]; exact hjl), ← hj, cb_get key j hjl]
    rfl
  · simp [Lib.bytesWorld, World.freeze, World.alloc, World.drew, -World.alloc_eq, -World.drew_eq]
  · simp [Lib.bytesWorld, World.freeze, World.alloc, World.drew, -World.alloc_eq, -World.drew_eq]
  · simp [Lib.bytesWorld, World.freeze, World.alloc, World.drew, -World.alloc_eq, -World.drew_eq]
  · rw [Lib.bytesWorld_size]; omega



def onlyN (Q : Act → World → Prop) : Exit → Act → World → Prop
  | .normal, a, w => Q a w
  | _, _, _ => False
theorem wp_onlyN {P : Program} {c : Code} {Q : Exit → Act → World → Prop} {a : Act} {w : World} (h : c.wp P (onlyN (Q .normal)) a w) : c.wp P Q a w :=
  wp_mono h fun e _ _ h => by cases e <;> first | exact h | exact h.elim
theorem hasByte_any (w : World) (v : VaR) : Calls Try.prog 44 #[vaR v] w fun e w' => e = .returned (.int .u8 ((b1 v.has).toNat : Int)) ∧ Fr NoBlk w w' := by
  obtain ⟨b, hb⟩ : ∃ b, b = v.has := ⟨_, rfl⟩
  unfold vaR
  rw [← hb]
  clear hb
  have HF : Hid (Fr NoBlk w (w.alloc (.cells #[.bool b, .slice v.va v.vn v.vc, .int .i64 v.home, .int .u64 (v.count : Int)] 38))) := (Fr.refl _ _).alloc _
  cases b with
  | true =>
    go_enter Try.func44, Try.ntmps44
    go_wp2_with fail
    go_ret
    exact ⟨rfl, HF.out⟩
  | false =>
    go_enter Try.func44, Try.ntmps44
    go_wp2_with fail
    go_ret
    exact ⟨rfl, HF.out⟩
/-- what is written so far: the pen in block gp. -/
structure PnZ (w : World) (gp : Nat) (l : Bs) (W : World) : Prop where
  pen : ∃ v, Pen W w.heap.size gp v l
  fr : Fr NoBlk w W
  ge : w.heap.size ≤ gp
theorem PnZ.others {w W W' : World} {gp : Nat} {l : Bs} {row : Option Nat} (h : PnZ w gp l W) (hg : W.grownBy W' row) (hr : ∀ r, row = some r → w.heap.size ≤ r ∧ ∃ o : Obj, W.heap[r]? = some o ∧ o.isCells = false) : PnZ w gp l W' := by
  obtain ⟨v, hp⟩ := h.pen
  exact ⟨⟨v, hp.bk.others hg fun r e => (hr r e).2, own_others hp.own hg fun r e => (hr r e).2⟩, h.fr.grown hg (fun r e hl => by have := (hr r e).1; omega), h.ge⟩
/-- a round of the pen's. -/
theorem PnZ.next {w W W' : World} {gp : Nat} {l l' : Bs} {v v' : Value} (h : PnZ w gp l W) (hp : Pen W w.heap.size gp v l) (hw : Wro W W' w.heap.size gp v v' l') {K : Nat → Prop} (hK : ∀ b, K b → b < w.heap.size ∨ ∃ T cs, Bk W b T cs ∧ 5 ≠ T ∧ T ≠ 76) :
    KeepsOthers W W' ∧ Keep K W W' ∧ PnZ w gp l' W' := by
  refine ⟨⟨hw.fr.size, fun k o hk hc => ?_⟩, fun b hb => ?_, ⟨⟨v', hw.pen⟩, Wro.old h.fr h.ge (Nat.le_refl _) hp hw, h.ge⟩⟩
  · have hlt := (Array.getElem?_eq_some_iff.1 hk).1
    refine (hw.fr.block k hlt fun e => ?_).trans hk
    rcases e with e | e
    · subst e
      have hb := hp.bk
      unfold Bk at hb
      rw [hb] at hk
      injection hk with hk
      subst hk
      cases hc
    · rcases hp.own.2 with ⟨rfl, _⟩ | ⟨g', cap, cur, rfl, hbb, hh, _⟩
      · cases e
      · have e1 : k = g' := by simpa [Value.ownBlock] using e
        subst e1
        rw [hh] at hk
        injection hk with hk
        subst hk
        cases hc
  · rcases hK b hb with h1 | ⟨T, cs, h1, h2, h3⟩
    · have h4 := Wro.old h.fr h.ge (Nat.le_refl _) hp hw
      exact (h4.block b h1 fun e => e).trans (h.fr.block b h1 fun e => e).symm
    · have h4 := hw.keep hp h1 h2 h3
      unfold Bk at h1 h4
      rw [h1, h4]
end Go.Proofs.Ytkdcacajacndmaa

namespace Go.Proofs.Ytkdcacajacndmaa
open Go.RowKit Go.Shelf Go.Maps
attribute [local go_sem] Oper.semAt_some
set_option maxRecDepth 100000 in
set_option maxHeartbeats 4000000 in
theorem ssnap_any [Ex] (w : World) (g : Nat) (O : Nat → Prop) (n : Nat) (rs : List Rw) (h : Store w g O n rs) (hlen : rs.length ≤ 1000) (hv : ∀ x ∈ rs, x.1.length ≤ 500 ∧ x.2.val.length ≤ 500) :
    Calls Try.prog 23 #[.pointer (some ⟨g, 0, none⟩)] w fun e w' => ∃ v', e = .returned v' ∧ New w w' v' (snapB n rs) := by
  obtain ⟨gt, OT, zs, hs, rfl⟩ := h
  obtain ⟨L, hL⟩ : ∃ L, L = zs.length := ⟨_, rfl⟩
  rw [rz_len, ← hL] at hlen
  obtain ⟨w2, hw2⟩ : ∃ W, W = ((w.alloc (.cells #[.slice none 0 0] 76)).alloc (.cells #[.pointer (some ⟨w.heap.size, 0, none⟩)] 74)) := ⟨_, rfl⟩
  obtain ⟨gp, hgp⟩ : ∃ gp, gp = w.heap.size := ⟨_, rfl⟩
  have hf2 : Fr NoBlk w w2 := by rw [hw2]; exact ((Fr.refl _ _).alloc _).alloc _
  have hb2 : Bk w2 gp 76 #[.slice none 0 0] := by rw [hw2, hgp]; exact (Bk.new _ _ _).alloc _
  have hb3 : Bk w2 (gp + 1) 74 #[.pointer (some ⟨gp, 0, none⟩)] := by
    rw [hw2, hgp]
    have := Bk.new (w.alloc (.cells #[.slice none 0 0] 76)) 74 #[.pointer (some ⟨w.heap.size, 0, none⟩)]
    rwa [World.size_alloc] at this
  have hp2 : Pen w2 gp gp (.slice none 0 0) [] := ⟨hb2, World.ownsRow_nil _ _ _ _⟩
  have hz2 : PnZ w gp [] w2 := ⟨⟨_, by rw [← hgp]; exact hp2⟩, hf2, by omega⟩
  have HS := Lib.hid hs
  have HLL : Hid (L = zs.length ∧ L ≤ 1000) := ⟨hL, hlen⟩
  have HV := Lib.hid hv
  have HBD : Hid (n < 2 ^ 64 ∧ L < 2 ^ 64) := ⟨by have := hs.n3; omega, by omega⟩
  have e1 : IntKind.u64.wrap (n : Int) = (n : Int) := by show (n : Int) % 18446744073709551616 = _; have := hs.n3; omega
  have e2 : IntKind.u64.wrap (L : Int) = (L : Int) := by show (L : Int) % 18446744073709551616 = _; omega
  have HE : Hid (IntKind.u64.wrap (L : Int) = (L : Int)) := e2
  have HNA : Hid (∀ w', Fr NoBlk w2 w' → Calls Try.prog 41 #[.pointer (some ⟨gp, 0, none⟩), .int .u64 (IntKind.u64.wrap (n : Int))] w' fun e w3 => e = .returned (.tuple #[]) ∧ ∃ v', Wro w2 w3 gp gp (.slice none 0 0) v' (num n)) := fun w' hf => by
    rw [e1]
    refine (num_any w' gp gp n _ [] (hp2.nofr hf) (Nat.le_trans (Nat.le_of_lt hb2.lt) hf.size) HBD.out.1 (by decide)).mono ?_
    rintro e w3 ⟨he, v', hw⟩
    exact ⟨he, v', Wro.pre hf hw⟩
  have HGP : Hid (gp = w.heap.size) := hgp
  have HW2 : Hid (w2 = ((w.alloc (.cells #[.slice none 0 0] 76)).alloc (.cells #[.pointer (some ⟨w.heap.size, 0, none⟩)] 74))) := hw2
  have H2 : Hid (Fr NoBlk w w2 ∧ Pen w2 gp gp (.slice none 0 0) [] ∧ Bk w2 (gp + 1) 74 #[.pointer (some ⟨gp, 0, none⟩)] ∧ PnZ w gp [] w2) := ⟨hf2, hp2, hb3, hz2⟩
  have HSA : Hid (∀ w', Fr (fun k => k = gp) w2 w' → w'.cell? ⟨gp + 1, 0, none⟩ = some (.pointer (some ⟨gp, 0, none⟩)) ∧ w'.cell? ⟨g, 0, none⟩ = some (.int .i64 (n : Int)) ∧ True) := fun w' hf => ⟨(hb3.fr hf (by omega)).cell 0, ((hs.bk.fr hf2 fun e => e).fr hf (by have := hs.bk.lt; omega)).cell 0, trivial⟩
  clear hs hL hv hlen e1 e2 hf2 hb2 hb3 hp2 hz2
  refine (callsIn_wide (n := 9)).1 ?_
  refine callsIn_of_wp_marks Try.func23 rfl trivial ?_ rfl
  simp only [Try.ntmps23, List.size_toArray, List.length_cons, List.length_nil, Nat.reduceAdd, Nat.reduceSub, Array.replicate_succ, Array.replicate_zero, List.push_toArray, List.append_toArray, List.nil_append, List.cons_append]
  gi_wp2
  rw [← hw2, ← hgp]
  clear hw2 hgp
  refine wpIn_wide.2 ?_
  refine wp_onlyN ?_
  refine wp_region_held_drew (S := fun w' => Fr (fun k => k = gp) w2 w') (by kernel_rfl) ((Fr.refl _ _).drew) (fun hHeld => ?_)
  refine wpAnyH_take (i := 0) (oi := ⟨some 8, _, _, _, _, _⟩) (v := ?_) rfl (by kernel_rfl) (by kernel_rfl) (by kernel_rfl) (fun _ _ _ h => h) (Or.inl ⟨by rfl, ?_⟩) (by assumption) ?_
  rotate_left 1
  · (intro w hSw; (try dsimp only at hSw); obtain ⟨y0, y1, y2⟩ := HSA.out _ hSw; go_simp) <;> (with_reducible rfl)
  try simp only [Act.put, List.setIfInBounds_toArray, List.set_cons_zero, List.set_cons_succ]
  refine wpAnyH_take (i := 1) (oi := ⟨some 9, _, _, _, _, _⟩) (v := ?_) rfl (by kernel_rfl) (by kernel_rfl) (by kernel_rfl) (fun _ _ _ h => h) (Or.inl ⟨by rfl, ?_⟩) (by assumption) ?_
  rotate_left 1
  · (intro w hSw; (try dsimp only at hSw); obtain ⟨y0, y1, y2⟩ := HSA.out _ hSw; go_simp) <;> (with_reducible rfl)
  try simp only [Act.put, List.setIfInBounds_toArray, List.set_cons_zero, List.set_cons_succ]
  refine wpAnyH_take (i := 2) (oi := ⟨some 10, _, _, _, _, _⟩) (v := ?_) rfl (by kernel_rfl) (by kernel_rfl) (by kernel_rfl) (fun _ _ _ h => h) (Or.inl ⟨by rfl, ?_⟩) (by assumption) ?_
  rotate_left 1
  · (intro w hSw; (try dsimp only at hSw); obtain ⟨y0, y1, y2⟩ := HSA.out _ hSw; go_simp) <;> (with_reducible rfl)
  try simp only [Act.put, List.setIfInBounds_toArray, List.set_cons_zero, List.set_cons_succ]
  refine wpAnyH_take (i := 3) (oi := ⟨some 11, _, _, _, _, _⟩) (v := ?_) rfl (by kernel_rfl) (by kernel_rfl) (by kernel_rfl) (fun _ _ _ h => h) (Or.inl ⟨by rfl, ?_⟩) (by assumption) ?_
  rotate_left 1
  · (intro w hSw; (try dsimp only at hSw); obtain ⟨y0, y1, y2⟩ := HSA.out _ hSw; go_simp) <;> (with_reducible rfl)
  try simp only [Act.put, List.setIfInBounds_toArray, List.set_cons_zero, List.set_cons_succ]
  refine wpAnyH_take (i := 4) (oi := ⟨some 12, _, _, _, _, _⟩) (v := ?_) rfl (by kernel_rfl) (by kernel_rfl) (by kernel_rfl) (fun _ _ _ h => h) (Or.inl ⟨by rfl, ?_⟩) (by assumption) ?_
  rotate_left 1
  · (intro w hSw; (try dsimp only at hSw); obtain ⟨y0, y1, y2⟩ := HSA.out _ hSw; go_simp) <;> (with_reducible rfl)
  try simp only [Act.put, List.setIfInBounds_toArray, List.set_cons_zero, List.set_cons_succ]
  refine wpAnyH_take (i := 5) (oi := ⟨some 13, _, _, _, _, _⟩) (v := ?_) rfl (by kernel_rfl) (by kernel_rfl) (by kernel_rfl) (fun _ _ _ h => h) (Or.inl ⟨by rfl, ?_⟩) (by assumption) ?_
  rotate_left 1
  · (intro w hSw; (try dsimp only at hSw); obtain ⟨y0, y1, y2⟩ := HSA.out _ hSw; go_simp) <;> (with_reducible rfl)
  try simp only [Act.put, List.setIfInBounds_toArray, List.set_cons_zero, List.set_cons_succ]
  refine wpAnyH_ready (rs := [6]) (by kernel_rfl) (by simp) ?_
  refine AllReadyH.cons (o := ⟨some 14, _, _, _, _, _⟩) rfl (fun K hK => ?_) AllReadyH.nil
  go_simp
  go_at_call 41
  refine (HNA.out _ (Fr.refl _ _).drew).mono ?_
  rintro e w3 ⟨rfl, v1, hw3⟩
  have HW3 := Lib.hid hw3
  clear hw3
  refine hK.out _ _ ?_ (fun hHeld => ?_)
  · exact HW3.out.fr.mono fun _ _ e => by rcases e with e | e; exact e; cases e
  clear hK K
  try simp only [Act.put, List.setIfInBounds_toArray, List.set_cons_zero, List.set_cons_succ]
  refine wpAnyH_done (by kernel_rfl) ?_ _
  dsimp only [onlyN]
  have hb3 := H2.out.2.2.1
  have hw3 := HW3.out
  have hp2 := H2.out.2.1
  have hf3 : Fr NoBlk w w3 := Wro.old H2.out.1 (by have := HGP.out; omega) (by have := HGP.out; omega) hp2 hw3
  have hbv : Bk w3 (gp + 1) 74 #[.pointer (some ⟨gp, 0, none⟩)] := hw3.keep hp2 hb3 (by decide) (by decide)
  have hlt : (num n).length ≤ 10 := num_len n HBD.out.1
  have H3 : Hid (Fr NoBlk w w3 ∧ Pen w3 gp gp v1 (num n) ∧ Bk w3 (gp + 1) 74 #[.pointer (some ⟨gp, 0, none⟩)]) := ⟨hf3, hw3.pen, hbv⟩
  have HOW : Hid (∀ k, v1.ownBlock = some k → gp ≤ k ∧ k < w3.heap.size) := fun k hk => own_blk hw3.pen.own hk
  have HSB : Hid (∀ w', Fr (fun k => k = gp ∨ some k = v1.ownBlock) w3 w' → w'.cell? ⟨gp + 1, 0, none⟩ = some (.pointer (some ⟨gp, 0, none⟩)) ∧ w'.cell? ⟨g, 1, none⟩ = some (.pointer (some ⟨gt, 0, none⟩)) ∧ True) := fun w' hf => ⟨(hbv.fr hf (by rintro (e | e); omega; exact own_apart hw3.pen.own hbv (by decide) e.symm)).cell 0, ((HS.out.bk.fr hf3 fun e => e).fr hf (by have h1 := HS.out.bk.lt; have h2 := HGP.out; rintro (e | e); omega; have := HOW.out _ e.symm; omega)).cell 1, trivial⟩
  have HLN : Hid (∀ w', Fr NoBlk w3 w' → Calls Try.prog 39 #[.pointer (some ⟨gt, 0, none⟩)] w' fun e w4 => e = .returned (.int .i64 (L : Int)) ∧ w' = w4) := fun w' hf => by
    refine (lenR_any w' gt OT (vz zs) (HS.out.tr.fr (hf3.trans hf) fun _ _ e => e)).mono ?_
    rintro e w4 ⟨he, hw⟩
    exact ⟨by rw [he, vz_len, HLL.out.1], hw⟩
  have HNB : Hid (∀ w', Fr NoBlk w3 w' → Calls Try.prog 41 #[.pointer (some ⟨gp, 0, none⟩), .int .u64 (IntKind.u64.wrap (L : Int))] w' fun e w4 => e = .returned (.tuple #[]) ∧ ∃ v', Wro w3 w4 gp gp v1 v' (num n ++ num L)) := fun w' hf => by
    rw [HE.out]
    refine (num_any w' gp gp L _ _ (hw3.pen.nofr hf) (by have := hbv.lt; have := hf.size; omega) HBD.out.2 (by omega)).mono ?_
    rintro e w4 ⟨he, v', hw⟩
    exact ⟨he, v', Wro.pre hf hw⟩
  clear hb3 hw3 hp2 hf3 hbv hlt HSA HNA HW3
  gi_wp2
  refine wpIn_wide.2 ?_
  refine wp_onlyN ?_
  refine wp_region_held_drew (S := fun w' => Fr (fun k => k = gp ∨ some k = v1.ownBlock) w3 w') (by kernel_rfl) ((Fr.refl _ _).drew) (fun hHeld => ?_)
  refine wpAnyH_take (i := 0) (oi := ⟨some 15, _, _, _, _, _⟩) (v := ?_) rfl (by kernel_rfl) (by kernel_rfl) (by kernel_rfl) (fun _ _ _ h => h) (Or.inl ⟨by rfl, ?_⟩) (by assumption) ?_
  rotate_left 1
  · (intro w hSw; (try dsimp only at hSw); obtain ⟨y0, y1, y2⟩ := HSB.out _ hSw; go_simp) <;> (with_reducible rfl)
  try simp only [Act.put, List.setIfInBounds_toArray, List.set_cons_zero, List.set_cons_succ]
  refine wpAnyH_take (i := 1) (oi := ⟨some 16, _, _, _, _, _⟩) (v := ?_) rfl (by kernel_rfl) (by kernel_rfl) (by kernel_rfl) (fun _ _ _ h => h) (Or.inl ⟨by rfl, ?_⟩) (by assumption) ?_
  rotate_left 1
  · (intro w hSw; (try dsimp only at hSw); obtain ⟨y0, y1, y2⟩ := HSB.out _ hSw; go_simp) <;> (with_reducible rfl)
  try simp only [Act.put, List.setIfInBounds_toArray, List.set_cons_zero, List.set_cons_succ]
  refine wpAnyH_take (i := 2) (oi := ⟨some 17, _, _, _, _, _⟩) (v := ?_) rfl (by kernel_rfl) (by kernel_rfl) (by kernel_rfl) (fun _ _ _ h => h) (Or.inl ⟨by rfl, ?_⟩) (by assumption) ?_
  rotate_left 1
  · (intro w hSw; (try dsimp only at hSw); obtain ⟨y0, y1, y2⟩ := HSB.out _ hSw; go_simp) <;> (with_reducible rfl)
  try simp only [Act.put, List.setIfInBounds_toArray, List.set_cons_zero, List.set_cons_succ]
  refine wpAnyH_take (i := 3) (oi := ⟨some 18, _, _, _, _, _⟩) (v := ?_) rfl (by kernel_rfl) (by kernel_rfl) (by kernel_rfl) (fun _ _ _ h => h) (Or.inl ⟨by rfl, ?_⟩) (by assumption) ?_
  rotate_left 1
  · (intro w hSw; (try dsimp only at hSw); obtain ⟨y0, y1, y2⟩ := HSB.out _ hSw; go_simp) <;> (with_reducible rfl)
  try simp only [Act.put, List.setIfInBounds_toArray, List.set_cons_zero, List.set_cons_succ]
  refine wpAnyH_take (i := 4) (oi := ⟨some 19, _, _, _, _, _⟩) (v := ?_) rfl (by kernel_rfl) (by kernel_rfl) (by kernel_rfl) (fun _ _ _ h => h) (Or.inl ⟨by rfl, ?_⟩) (by assumption) ?_
  rotate_left 1
  · (intro w hSw; (try dsimp only at hSw); obtain ⟨y0, y1, y2⟩ := HSB.out _ hSw; go_simp) <;> (with_reducible rfl)
  try simp only [Act.put, List.setIfInBounds_toArray, List.set_cons_zero, List.set_cons_succ]
  refine wpAnyH_ready (rs := [5]) (by kernel_rfl) (by simp) ?_
  refine AllReadyH.cons (o := ⟨some 20, _, _, _, _, _⟩) rfl (fun K hK => ?_) AllReadyH.nil
  go_simp
  go_at_call 39
  refine (HLN.out _ (Fr.refl _ _).drew).mono ?_
  rintro e w4 ⟨rfl, rfl⟩
  refine hK.out _ _ ?_ (fun hHeld => ?_)
  · exact (Fr.refl _ _).drew
  clear hK K
  try simp only [Act.put, List.setIfInBounds_toArray, List.set_cons_zero, List.set_cons_succ]
  refine wpAnyH_take (i := 6) (oi := ⟨some 21, _, _, _, _, _⟩) (v := ?_) rfl (by kernel_rfl) (by kernel_rfl) (by kernel_rfl) (fun _ _ _ h => h) (Or.inl ⟨by rfl, ?_⟩) (by assumption) ?_
  rotate_left 1
  · (intro w hSw; (try dsimp only at hSw); obtain ⟨y0, y1, y2⟩ := HSB.out _ hSw; go_simp) <;> (with_reducible rfl)
  try simp only [Act.put, List.setIfInBounds_toArray, List.set_cons_zero, List.set_cons_succ]
  refine wpAnyH_ready (rs := [7]) (by kernel_rfl) (by simp) ?_
  refine AllReadyH.cons (o := ⟨some 22, _, _, _, _, _⟩) rfl (fun K hK => ?_) AllReadyH.nil
  go_simp
  go_at_call 41
  refine (HNB.out _ (Fr.refl _ _).drew).mono ?_
  rintro e w4 ⟨rfl, v2, hw4⟩
  have HW4 := Lib.hid hw4
  clear hw4
  refine hK.out _ _ ?_ (fun hHeld => ?_)
  · exact HW4.out.fr
  clear hK K
  try simp only [Act.put, List.setIfInBounds_toArray, List.set_cons_zero, List.set_cons_succ]
  refine wpAnyH_done (by kernel_rfl) ?_ _
  dsimp only [onlyN]
  have hw4 := HW4.out
  have hp3 := H3.out.2.1
  have hf4 : Fr NoBlk w w4 := Wro.old H3.out.1 (by have := HGP.out; omega) (by have := HGP.out; omega) hp3 hw4
  have hbv : Bk w4 (gp + 1) 74 #[.pointer (some ⟨gp, 0, none⟩)] := hw4.keep hp3 H3.out.2.2 (by decide) (by decide)
  have hpz : PnZ w gp (num n ++ num L) w4 := ⟨⟨v2, by rw [← HGP.out]; exact hw4.pen⟩, hf4, by have := HGP.out; omega⟩
  have c1 : w4.cell? ⟨g, 1, none⟩ = some (.pointer (some ⟨gt, 0, none⟩)) := (HS.out.bk.fr hf4 fun e => e).cell 1
  have H4 : Hid (Fr NoBlk w w4 ∧ PnZ w gp (num n ++ num L) w4 ∧ Bk w4 (gp + 1) 74 #[.pointer (some ⟨gp, 0, none⟩)]) := ⟨hf4, hpz, hbv⟩
  clear hw4 hp3 hf4 hbv hpz HSB HLN HNB HW4 HOW H3 H2
  gi_wp2
  refine ⟨trivial, (callsIn_wide.2 (treeAllR_any _ gt)).mono ?_⟩
  rintro e w5 ⟨rfl, hw5⟩
  obtain ⟨gx, hgx⟩ : ∃ gx, gx = w4.heap.size := ⟨_, rfl⟩
  rw [← hgx]
  have hbx : Bk w5 gx 65 #[.pointer (some ⟨gt, 0, none⟩)] := by rw [hw5, hgx]; exact Bk.new _ _ _
  have hf45 : Fr NoBlk w4 w5 := by rw [hw5]; exact (Fr.refl _ _).alloc _
  have hf5 : Fr NoBlk w w5 := H4.out.1.trans hf45
  have hp5 : PnZ w gp (num n ++ num L) w5 := by
    obtain ⟨⟨v, hp⟩, h2, h3⟩ := H4.out.2.1
    exact ⟨⟨v, hp.nofr hf45⟩, hf5, h3⟩
  have hv5 : Bk w5 (gp + 1) 74 #[.pointer (some ⟨gp, 0, none⟩)] := H4.out.2.2.fr hf45 fun e => e
  have HGX : Hid (w.heap.size ≤ gx ∧ w5.heap.size = gx + 1) := ⟨by have := H4.out.1.size; omega, by rw [hw5, World.size_alloc, hgx]⟩
  have HOL : Hid (∀ b, OT b → b < w.heap.size) := fun b hb => HS.out.tr.lt hb
  have HST := Lib.hid (allZ_stops 8 gx (fun b => OT b ∨ b = gx) w5 gt OT (vz zs) zs rfl (HS.out.tr.fr hf5 fun _ _ e => e) (fun _ => Iff.rfl) hbx.lt (hbx.cell 0))
  have hKK : ∀ j, (OT j ∨ j = gx) → j < w5.heap.size := fun j hj => by
    rcases hj with hj | rfl
    · have := HOL.out j hj
      have := HGX.out
      omega
    · exact hbx.lt
  have HI0 : Hid (PnZ w gp (num n ++ num L) w5 ∧ Bk w5 (gp + 1) 74 #[.pointer (some ⟨gp, 0, none⟩)] ∧ Bk w5 gx 65 #[.pointer (some ⟨gt, 0, none⟩)]) := ⟨hp5, hv5, hbx⟩
  clear hbx hf45 hf5 hp5 hv5 hgx hw5 c1 H4
  gi_wp2
  refine wpIn_rangeFunc_ownH rfl (by omega) (gf := 60) (lb := #[.pointer (some ⟨gx, 0, none⟩)]) rfl trivial (enters_of Try.func60 (by kernel_rfl) rfl)
    HST.out (fun h k => h.t k) (Keep.b hKK) (Below.refl _ _) (fun _ => rfl)
    (fun (pre : List (El zs)) W => PnZ w gp (num n ++ num L ++ (pre.map (fun (z : El zs) => (z.1.1, z.1.2.2))).flatMap rowB) W ∧ Bk W (gp + 1) 74 #[.pointer (some ⟨gp, 0, none⟩)] ∧ Bk W gx 65 #[.pointer (some ⟨gt, 0, none⟩)])
    (fun _ _ _ => False)
    (fun s W W' row hs hg hr => ⟨hs.1.others hg fun r e => ⟨by have := (hr r e).1; have := HGX.out; omega, (hr r e).2⟩, hs.2.1.others hg fun r e => (hr r e).2, hs.2.2.others hg fun r e => (hr r e).2⟩)
    (fun _ _ _ _ _ hs _ _ => hs)
    (by show PnZ _ _ (_ ++ []) _ ∧ _; rw [List.append_nil]; exact HI0.out)
    (fun x a' W => ∃ q, w.heap.size ≤ q ∧ Bk W q 38 #[.bool x.1.2.1.has, .slice x.1.2.1.va x.1.2.1.vn x.1.2.1.vc, .int .i64 x.1.2.1.home, .int .u64 (x.1.2.1.count : Int)] ∧ a' = { tmps := #[.pointer (some ⟨g, 0, none⟩), undef, .slice none 0 0, .pointer (some ⟨gp + 1, 0, none⟩), .string (bstr x.1.1), .pointer (some ⟨q, 0, none⟩), .agg #[.slice none 0 0], .pointer (some ⟨gp, 0, none⟩), .pointer (some ⟨gp, 0, none⟩), .pointer (some ⟨g, 0, none⟩), .pointer (some ⟨g, 0, none⟩), .pointer (some ⟨g, 0, none⟩), .int .i64 (n : Int), .int .u64 (IntKind.u64.wrap (n : Int)), .tuple #[], .pointer (some ⟨gp, 0, none⟩), .pointer (some ⟨g, 0, none⟩), .pointer (some ⟨g, 0, none⟩), .pointer (some ⟨g, 1, none⟩), .pointer (some ⟨gt, 0, none⟩), .int .i64 (L : Int), .int .u64 (IntKind.u64.wrap (L : Int)), .tuple #[], .pointer (some ⟨g, 0, none⟩), .pointer (some ⟨g, 0, none⟩), .pointer (some ⟨g, 1, none⟩), .pointer (some ⟨gt, 0, none⟩), .func (.func 60) #[] #[.pointer (some ⟨gx, 0, none⟩)], .string (bstr x.1.1), .agg #[.bool x.1.2.1.has, .slice x.1.2.1.va x.1.2.1.vn x.1.2.1.vc, .int .i64 x.1.2.1.home, .int .u64 (x.1.2.1.count : Int)], undef, undef, undef, undef, undef, undef, undef, undef, undef, undef, undef, undef, undef, undef, undef, undef, undef, undef, undef, undef, undef, undef, undef], defers := [] })
    (fun x a' _ W W' row hs hg hr => by obtain ⟨q, h1, h2, h3⟩ := hs; exact ⟨q, h1, h2.others hg fun r e => (hr r e).2, h3⟩) ?assign ?body ?done ?stop
  case assign =>
    intro l' pre x W K hI hK
    simp [encR, toIt]
    gi_wp2
    have hgr := World.grownBy_alloc W (.cells #[.bool x.1.2.1.has, .slice x.1.2.1.va x.1.2.1.vn x.1.2.1.vc, .int .i64 x.1.2.1.home, .int .u64 (x.1.2.1.count : Int)] 38) none
    refine hK _ _ ((KeepsOthers.alloc W _).from _) (((Fr.refl NoBlk W).alloc _).keep fun k hk => ⟨?_, fun e => e⟩) ⟨hI.1.others hgr (fun r e => (by cases e)), hI.2.1.alloc _, hI.2.2.alloc _⟩ ⟨W.heap.size, hI.1.fr.size, Bk.new _ _ _, rfl⟩
    rcases hk with hk | rfl
    · exact Nat.lt_of_lt_of_le (HOL.out k hk) hI.1.fr.size
    · exact hI.2.2.lt
  case body =>
    rintro l' pre x a' W hll hlo hI ⟨q, hql, hqb, rfl⟩ hlen
    obtain ⟨⟨v, hp⟩, hfr, hge⟩ := hI.1
    obtain ⟨l, hl⟩ : ∃ l, l = num n ++ num L ++ (pre.map (fun (z : El zs) => (z.1.1, z.1.2.2))).flatMap rowB := ⟨_, rfl⟩
    have hpl : pre.length ≤ 1000 := by have := HLL.out; rw [vz_len] at hlen; omega
    have hll2 : l.length ≤ 1041020 := by
      have h1 := num_len n HBD.out.1
      have h2 := num_len L HBD.out.2
      have h3 := rows_len (pre.map (fun (z : El zs) => (z.1.1, z.1.2.2))) (by
        intro y hy
        obtain ⟨z, hz, rfl⟩ := List.mem_map.1 hy
        have h4 := HV.out (z.1.1, z.1.2.2) (List.mem_map.2 ⟨z.1, z.2, rfl⟩)
        exact ⟨h4.1, h4.2, HS.out.cnt z.1 z.2⟩)
      rw [List.length_map] at h3
      have h5 : pre.length * 1041 ≤ 1000 * 1041 := Nat.mul_le_mul_right _ hpl
      rw [hl, List.length_append, List.length_append]
      omega
    rw [← hl] at hp
    have hxv := HV.out (x.1.1, x.1.2.2) (List.mem_map.2 ⟨x.1, x.2, rfl⟩)
    have hxr := HS.out.rd x.1 x.2
    have hxc := HS.out.cnt x.1 x.2
    obtain ⟨⟨key, vr, rc⟩, hxm⟩ := x
    dsimp only at hqb hxv hxr hxc ⊢
    obtain ⟨kn, hkn⟩ : ∃ kn, kn = key.length := ⟨_, rfl⟩
    have HPZ : Hid (PnZ w gp l W ∧ l = num n ++ num L ++ (pre.map (fun (z : El zs) => (z.1.1, z.1.2.2))).flatMap rowB) := ⟨⟨⟨v, hp⟩, hfr, hge⟩, hl⟩
    have HXR : Hid (Reads w vr rc ∧ rc.count < 2 ^ 64 ∧ key.length ≤ 500 ∧ rc.val.length ≤ 500) := ⟨hxr, hxc, hxv⟩
    have HKE : Hid (vr.has = rc.has ∧ vr.home = rc.home ∧ vr.count = rc.count ∧ vr.vn = rc.val.length) := ⟨hxr.has, hxr.home, hxr.count, hxr.len⟩
    have HLB : Hid (l.length ≤ 1041020) := hll2
    have HP := Lib.hid hp
    have HFR := Lib.hid hfr
    have HQ : Hid (Bk W q 38 #[.bool vr.has, .slice vr.va vr.vn vr.vc, .int .i64 vr.home, .int .u64 (vr.count : Int)] ∧ Bk W (gp + 1) 74 #[.pointer (some ⟨gp, 0, none⟩)] ∧ Bk W gx 65 #[.pointer (some ⟨gt, 0, none⟩)]) := ⟨hqb, hI.2⟩
    have c0 : W.cell? ⟨gp + 1, 0, none⟩ = some (.pointer (some ⟨gp, 0, none⟩)) := hI.2.1.cell 0
    obtain ⟨W0, cc, hcv, hrd, hfc⟩ := conv W key
    have HT1 : Hid (Calls Try.prog 42 #[.pointer (some ⟨gp, 0, none⟩), .slice (some ⟨W.heap.size, 0, none⟩) key.length cc] W0 fun e w' => e = .returned (.tuple #[]) ∧ ∃ v', Wro W w' w.heap.size gp v v' (l ++ (num key.length ++ key))) := by
      refine (text_any W0 w.heap.size gp (some ⟨W.heap.size, 0, none⟩) key.length cc key v l (hp.nofr hfc) (Nat.le_trans hfr.size hfc.size) rfl hrd (fun e => by cases e) ?_ (by omega) (by omega)).mono ?_
      · rintro _ k ⟨b, hb, rfl⟩
        injection hb with hb
        subst hb
        have h1 := hp.lt
        refine ⟨by have := h1.1; show W.heap.size ≠ gp; omega, fun e => ?_⟩
        have := h1.2 _ e.symm
        exact Nat.lt_irrefl _ this
      · rintro e w' ⟨he, v', hw⟩
        exact ⟨he, v', Wro.pre hfc hw⟩
    clear hI hql hqb hlen hll hlo hp hfr hge hl hpl hll2 hxv hxr hxc hfc hrd hkn kn
    gi_wp2
    refine ⟨trivial, (CallsIn.inRound l' (callsIn_wide.2 HT1.out)).mono ?_⟩
    rintro e W1 ⟨rfl, v1, hw1⟩
    clear HT1 hcv c0
    have HW1 := Lib.hid hw1
    obtain ⟨Wd, hWd⟩ : ∃ Wd, Wd = W1.drew := ⟨_, rfl⟩
    have hfd : Fr NoBlk W1 Wd := by rw [hWd]; exact (Fr.refl _ _).drew
    have hb1 := (hw1.keep HP.out HQ.out.1 (by decide) (by decide)).fr hfd fun e => e
    have hb2 := (hw1.keep HP.out HQ.out.2.1 (by decide) (by decide)).fr hfd fun e => e
    have HB1 := Lib.hid (And.intro hb1 hb2)
    have HL1 : Hid ((l ++ (num key.length ++ key)).length ≤ 1041600) := by
      have h1 := HLB.out
      have h2 := HXR.out.2.2.1
      have h3 := num_len key.length (by omega)
      show _ ≤ _
      rw [List.length_append, List.length_append]
      omega
    have HHB : Hid (Calls Try.prog 44 #[.agg #[.bool vr.has, .slice vr.va vr.vn vr.vc, .int .i64 vr.home, .int .u64 (vr.count : Int)]] Wd fun e w' => e = .returned (.int .u8 ((b1 vr.has).toNat : Int)) ∧ Fr NoBlk Wd w') := hasByte_any Wd vr
    have HBY : Hid (∀ V, Fr NoBlk Wd V → Calls Try.prog 43 #[.pointer (some ⟨gp, 0, none⟩), .int .u8 ((b1 vr.has).toNat : Int)] V fun e w' => e = .returned (.tuple #[]) ∧ ∃ v', Wro W w' w.heap.size gp v v' (l ++ (num key.length ++ key) ++ [b1 vr.has])) := fun V hV => by
      refine (byte_any V w.heap.size gp (b1 vr.has) v1 _ (hw1.pen.nofr (hfd.trans hV)) (Nat.le_trans HFR.out.size (Nat.le_trans hw1.fr.size (Nat.le_trans hfd.size hV.size))) (by have := HL1.out; omega)).mono ?_
      rintro e w' ⟨he, v', hw⟩
      exact ⟨he, v', hw1.trans (Wro.pre (hfd.trans hV) hw)⟩
    have ld0 : Wd.cell? ⟨gp + 1, 0, none⟩ = some (.pointer (some ⟨gp, 0, none⟩)) := hb2.cell 0
    have d0 : Wd.cell? ⟨q, 0, none⟩ = some (.bool vr.has) := hb1.cell 0
    have d1 : Wd.cell? ⟨q, 1, none⟩ = some (.slice vr.va vr.vn vr.vc) := hb1.cell 1
    have d2 : Wd.cell? ⟨q, 2, none⟩ = some (.int .i64 vr.home) := hb1.cell 2
    have d3 : Wd.cell? ⟨q, 3, none⟩ = some (.int .u64 (vr.count : Int)) := hb1.cell 3
    clear hw1 hfd hb1 hb2
    gi_wp2
    refine wpIn_region_any (by first | assumption | kernel_rfl) ?_
    change wpAnyIn _ _ _ _ _ _ _ _ _ (World.drew _)
    rw [← hWd]
    clear hWd
    refine wpAnyIn_ready (rs := [0, 1]) (by kernel_rfl) (by simp) ?_
    refine AllReadyIn.cons rfl (fun K hK => ?_) (AllReadyIn.cons rfl (fun K hK => ?_) (AllReadyIn.nil))
    · skip
      go_simp
      refine hK _ _ ?_
      clear hK K
      try simp only [Act.put, List.setIfInBounds_toArray, List.set_cons_zero, List.set_cons_succ]
      refine wpAnyIn_ready (rs := [1]) (by kernel_rfl) (by simp) ?_
      refine AllReadyIn.cons rfl (fun K hK => ?_) (AllReadyIn.nil)
      go_simp
      refine hK _ _ ?_
      clear hK K
      try simp only [Act.put, List.setIfInBounds_toArray, List.set_cons_zero, List.set_cons_succ]
      refine wpAnyIn_ready (rs := [2]) (by kernel_rfl) (by simp) ?_
      refine AllReadyIn.cons rfl (fun K hK => ?_) (AllReadyIn.nil)
      go_simp
      refine ⟨trivial, ?_⟩
      refine (CallsIn.inRound l' (callsIn_wide.2 HHB.out)).mono ?_
      rintro e W3 ⟨rfl, hf3⟩
      have HF3 := Lib.hid hf3
      have ld3 : W3.cell? ⟨gp + 1, 0, none⟩ = some (.pointer (some ⟨gp, 0, none⟩)) := (HB1.out.2.fr hf3 fun h => h).cell 0
      clear hf3
      refine hK _ _ ?_
      clear hK K
      try simp only [Act.put, List.setIfInBounds_toArray, List.set_cons_zero, List.set_cons_succ]
      refine wpAnyIn_ready (rs := [3]) (by kernel_rfl) (by simp) ?_
      refine AllReadyIn.cons rfl (fun K hK => ?_) (AllReadyIn.nil)
      go_simp
      refine ⟨trivial, ?_⟩
      refine (CallsIn.inRound l' (callsIn_wide.2 (HBY.out _ HF3.out))).mono ?_
      rintro e W4 ⟨rfl, v2, hw4⟩
      have HW4 := Lib.hid hw4
      clear hw4
      refine hK _ _ ?_
      clear hK K
      try simp only [Act.put, List.setIfInBounds_toArray, List.set_cons_zero, List.set_cons_succ]
      refine wpAnyIn_done (by kernel_rfl) ?_ _
      clear ld0 ld3 d0 d1 d2 d3 HHB HBY HF3
      have hw4 := HW4.out
      have hb4 := hw4.keep HP.out HQ.out.1 (by decide) (by decide)
      have hb5 := hw4.keep HP.out HQ.out.2.1 (by decide) (by decide)
      have e0 : W4.cell? ⟨gp + 1, 0, none⟩ = some (.pointer (some ⟨gp, 0, none⟩)) := hb5.cell 0
      have e1 : W4.cell? ⟨q, 1, none⟩ = some (.slice vr.va vr.vn vr.vc) := hb4.cell 1
      obtain ⟨l2, hl2⟩ : ∃ l2, l2 = l ++ (num key.length ++ key) ++ [b1 vr.has] := ⟨_, rfl⟩
      rw [← hl2] at hw4
      have hn2 : l2.length ≤ 1041601 := by rw [hl2, List.length_append]; have := HL1.out; simp only [List.length_singleton]; omega
      have HL2 := Lib.hid (And.intro hl2 hn2)
      have HW5 := Lib.hid hw4
      have HT5 : Hid (Calls Try.prog 42 #[.pointer (some ⟨gp, 0, none⟩), .slice vr.va vr.vn vr.vc] W4 fun e w' => e = .returned (.tuple #[]) ∧ ∃ v', Wro W w' w.heap.size gp v v' (l2 ++ (num rc.val.length ++ rc.val))) := by
        have h4 := Wro.old HFR.out (by have := HGP.out; omega) (Nat.le_refl _) HP.out hw4
        refine (text_any W4 w.heap.size gp vr.va vr.vn vr.vc rc.val v2 l2 hw4.pen h4.size HXR.out.1.len (HXR.out.1.rd.nofr h4) HXR.out.1.nil ?_ (by have := HXR.out.2.2.2; omega) (by omega)).mono ?_
        · rintro _ k hk
          have h1 := (HXR.out.1.byt k hk).1.lt
          refine ⟨by have := HGP.out; omega, fun e => ?_⟩
          have := (own_blk hw4.pen.own e.symm).1
          omega
        · rintro e w' ⟨he, v', hw⟩
          exact ⟨he, v', hw4.trans hw⟩
      clear hw4 hb4 hb5 hl2 hn2 HW4 HL1 HB1 HW1
      gi_wp2
      refine ⟨trivial, (CallsIn.inRound l' (callsIn_wide.2 HT5.out)).mono ?_⟩
      rintro e W5 ⟨rfl, v5, hw5⟩
      clear HT5 e0 e1
      have hb4 := hw5.keep HP.out HQ.out.1 (by decide) (by decide)
      have hb5 := hw5.keep HP.out HQ.out.2.1 (by decide) (by decide)
      have e0 : W5.cell? ⟨gp + 1, 0, none⟩ = some (.pointer (some ⟨gp, 0, none⟩)) := hb5.cell 0
      have e2 : W5.cell? ⟨q, 2, none⟩ = some (.int .i64 vr.home) := hb4.cell 2
      obtain ⟨l3, hl3⟩ : ∃ l3, l3 = l2 ++ (num rc.val.length ++ rc.val) := ⟨_, rfl⟩
      rw [← hl3] at hw5
      have hn3 : l3.length ≤ 1042200 := by
        have h1 := HL2.out.2
        have h2 := HXR.out.2.2.2
        have h3 := num_len rc.val.length (by omega)
        rw [hl3, List.length_append, List.length_append]
        omega
      have HL3 := Lib.hid (And.intro hl3 hn3)
      have HT6 : Hid (Calls Try.prog 41 #[.pointer (some ⟨gp, 0, none⟩), .int .u64 (IntKind.u64.wrap vr.home)] W5 fun e w' => e = .returned (.tuple #[]) ∧ ∃ v', Wro W w' w.heap.size gp v v' (l3 ++ num (hmN vr.home))) := by
        have h4 := Wro.old HFR.out (by have := HGP.out; omega) (Nat.le_refl _) HP.out hw5
        rw [hmN_eq]
        refine (num_any W5 w.heap.size gp (hmN vr.home) v5 l3 hw5.pen h4.size (hmN_lt _) (by omega)).mono ?_
        rintro e w' ⟨he, v', hw⟩
        exact ⟨he, v', hw5.trans hw⟩
      clear hw5 hb4 hb5 hl3 hn3 HW5
      gi_wp2
      refine ⟨trivial, (CallsIn.inRound l' (callsIn_wide.2 HT6.out)).mono ?_⟩
      rintro e W6 ⟨rfl, v6, hw6⟩
      clear HT6 e0 e2
      have hb4 := hw6.keep HP.out HQ.out.1 (by decide) (by decide)
      have hb5 := hw6.keep HP.out HQ.out.2.1 (by decide) (by decide)
      have e0 : W6.cell? ⟨gp + 1, 0, none⟩ = some (.pointer (some ⟨gp, 0, none⟩)) := hb5.cell 0
      have e3 : W6.cell? ⟨q, 3, none⟩ = some (.int .u64 (vr.count : Int)) := hb4.cell 3
      have HT7 : Hid (Calls Try.prog 41 #[.pointer (some ⟨gp, 0, none⟩), .int .u64 (vr.count : Int)] W6 fun e w' => e = .returned (.tuple #[]) ∧ ∃ v', Wro W w' w.heap.size gp v v' (l3 ++ num (hmN vr.home) ++ num vr.count)) := by
        have h4 := Wro.old HFR.out (by have := HGP.out; omega) (Nat.le_refl _) HP.out hw6
        refine (num_any W6 w.heap.size gp vr.count v6 _ hw6.pen h4.size (by rw [HKE.out.2.2.1]; exact HXR.out.2.1) (by have h1 := HL3.out.2; have h2 := num_len (hmN vr.home) (hmN_lt _); rw [List.length_append]; omega)).mono ?_
        rintro e w' ⟨he, v', hw⟩
        exact ⟨he, v', hw6.trans hw⟩
      clear hw6 hb4 hb5
      gi_wp2
      refine ⟨trivial, (CallsIn.inRound l' (callsIn_wide.2 HT7.out)).mono ?_⟩
      rintro e W7 ⟨rfl, v7, hw7⟩
      clear HT7 e0 e3
      have HRB : Hid (l3 ++ num (hmN vr.home) ++ num vr.count = num n ++ num L ++ ((pre ++ [(⟨(key, vr, rc), hxm⟩ : El zs)]).map (fun (z : El zs) => (z.1.1, z.1.2.2))).flatMap rowB) := by
        show _ = _
        rw [List.map_append, List.flatMap_append, ← List.append_assoc (num n ++ num L), ← HPZ.out.2, HL3.out.1, HL2.out.1, HKE.out.1, HKE.out.2.1, HKE.out.2.2.1]
        simp only [List.map_cons, List.map_nil, List.flatMap_cons, List.flatMap_nil, List.append_nil]
        unfold rowB
        simp only [List.append_assoc]
      have hb4 := hw7.keep HP.out HQ.out.2.1 (by decide) (by decide)
      have hb5 := hw7.keep HP.out HQ.out.2.2 (by decide) (by decide)
      have HNX := Lib.hid (PnZ.next (K := fun b => OT b ∨ b = gx) HPZ.out.1 HP.out hw7 (by rintro b (hb | rfl); exact .inl (HOL.out b hb); exact .inr ⟨_, _, HQ.out.2.2, by decide, by decide⟩))
      rw [HRB.out] at HNX
      have HBS := Lib.hid (And.intro hb4 hb5)
      clear hw7 hb4 hb5
      gi_wp2
      exact ⟨HNX.out.1.from _, HNX.out.2.1, HNX.out.2.2, HBS.out⟩
    · skip
      go_simp
      refine hK _ _ ?_
      clear hK K
      try simp only [Act.put, List.setIfInBounds_toArray, List.set_cons_zero, List.set_cons_succ]
      refine wpAnyIn_ready (rs := [0, 2]) (by kernel_rfl) (by simp) ?_
      refine AllReadyIn.cons rfl (fun K hK => ?_) (AllReadyIn.cons rfl (fun K hK => ?_) (AllReadyIn.nil))
      · skip
        go_simp
        refine hK _ _ ?_
        clear hK K
        try simp only [Act.put, List.setIfInBounds_toArray, List.set_cons_zero, List.set_cons_succ]
        refine wpAnyIn_ready (rs := [2]) (by kernel_rfl) (by simp) ?_
        refine AllReadyIn.cons rfl (fun K hK => ?_) (AllReadyIn.nil)
        go_simp
        refine ⟨trivial, ?_⟩
        refine (CallsIn.inRound l' (callsIn_wide.2 HHB.out)).mono ?_
        rintro e W3 ⟨rfl, hf3⟩
        have HF3 := Lib.hid hf3
        have ld3 : W3.cell? ⟨gp + 1, 0, none⟩ = some (.pointer (some ⟨gp, 0, none⟩)) := (HB1.out.2.fr hf3 fun h => h).cell 0
        clear hf3
        refine hK _ _ ?_
        clear hK K
        try simp only [Act.put, List.setIfInBounds_toArray, List.set_cons_zero, List.set_cons_succ]
        refine wpAnyIn_ready (rs := [3]) (by kernel_rfl) (by simp) ?_
        refine AllReadyIn.cons rfl (fun K hK => ?_) (AllReadyIn.nil)
        go_simp
        refine ⟨trivial, ?_⟩
        refine (CallsIn.inRound l' (callsIn_wide.2 (HBY.out _ HF3.out))).mono ?_
        rintro e W4 ⟨rfl, v2, hw4⟩
        have HW4 := Lib.hid hw4
        clear hw4
        refine hK _ _ ?_
        clear hK K
        try simp only [Act.put, List.setIfInBounds_toArray, List.set_cons_zero, List.set_cons_succ]
        refine wpAnyIn_done (by kernel_rfl) ?_ _
        clear ld0 ld3 d0 d1 d2 d3 HHB HBY HF3
        have hw4 := HW4.out
        have hb4 := hw4.keep HP.out HQ.out.1 (by decide) (by decide)
        have hb5 := hw4.keep HP.out HQ.out.2.1 (by decide) (by decide)
        have e0 : W4.cell? ⟨gp + 1, 0, none⟩ = some (.pointer (some ⟨gp, 0, none⟩)) := hb5.cell 0
        have e1 : W4.cell? ⟨q, 1, none⟩ = some (.slice vr.va vr.vn vr.vc) := hb4.cell 1
        obtain ⟨l2, hl2⟩ : ∃ l2, l2 = l ++ (num key.length ++ key) ++ [b1 vr.has] := ⟨_, rfl⟩
        rw [← hl2] at hw4
        have hn2 : l2.length ≤ 1041601 := by rw [hl2, List.length_append]; have := HL1.out; simp only [List.length_singleton]; omega
        have HL2 := Lib.hid (And.intro hl2 hn2)
        have HW5 := Lib.hid hw4
        have HT5 : Hid (Calls Try.prog 42 #[.pointer (some ⟨gp, 0, none⟩), .slice vr.va vr.vn vr.vc] W4 fun e w' => e = .returned (.tuple #[]) ∧ ∃ v', Wro W w' w.heap.size gp v v' (l2 ++ (num rc.val.length ++ rc.val))) := by
          have h4 := Wro.old HFR.out (by have := HGP.out; omega) (Nat.le_refl _) HP.out hw4
          refine (text_any W4 w.heap.size gp vr.va vr.vn vr.vc rc.val v2 l2 hw4.pen h4.size HXR.out.1.len (HXR.out.1.rd.nofr h4) HXR.out.1.nil ?_ (by have := HXR.out.2.2.2; omega) (by omega)).mono ?_
          · rintro _ k hk
            have h1 := (HXR.out.1.byt k hk).1.lt
            refine ⟨by have := HGP.out; omega, fun e => ?_⟩
            have := (own_blk hw4.pen.own e.symm).1
            omega
          · rintro e w' ⟨he, v', hw⟩
            exact ⟨he, v', hw4.trans hw⟩
        clear hw4 hb4 hb5 hl2 hn2 HW4 HL1 HB1 HW1
        gi_wp2
        refine ⟨trivial, (CallsIn.inRound l' (callsIn_wide.2 HT5.out)).mono ?_⟩
        rintro e W5 ⟨rfl, v5, hw5⟩
        clear HT5 e0 e1
        have hb4 := hw5.keep HP.out HQ.out.1 (by decide) (by decide)
        have hb5 := hw5.keep HP.out HQ.out.2.1 (by decide) (by decide)
        have e0 : W5.cell? ⟨gp + 1, 0, none⟩ = some (.pointer (some ⟨gp, 0, none⟩)) := hb5.cell 0
        have e2 : W5.cell? ⟨q, 2, none⟩ = some (.int .i64 vr.home) := hb4.cell 2
        obtain ⟨l3, hl3⟩ : ∃ l3, l3 = l2 ++ (num rc.val.length ++ rc.val) := ⟨_, rfl⟩
        rw [← hl3] at hw5
        have hn3 : l3.length ≤ 1042200 := by
          have h1 := HL2.out.2
          have h2 := HXR.out.2.2.2
          have h3 := num_len rc.val.length (by omega)
          rw [hl3, List.length_append, List.length_append]
          omega
        have HL3 := Lib.hid (And.intro hl3 hn3)
        have HT6 : Hid (Calls Try.prog 41 #[.pointer (some ⟨gp, 0, none⟩), .int .u64 (IntKind.u64.wrap vr.home)] W5 fun e w' => e = .returned (.tuple #[]) ∧ ∃ v', Wro W w' w.heap.size gp v v' (l3 ++ num (hmN vr.home))) := by
          have h4 := Wro.old HFR.out (by have := HGP.out; omega) (Nat.le_refl _) HP.out hw5
          rw [hmN_eq]
          refine (num_any W5 w.heap.size gp (hmN vr.home) v5 l3 hw5.pen h4.size (hmN_lt _) (by omega)).mono ?_
          rintro e w' ⟨he, v', hw⟩
          exact ⟨he, v', hw5.trans hw⟩
        clear hw5 hb4 hb5 hl3 hn3 HW5
        gi_wp2
        refine ⟨trivial, (CallsIn.inRound l' (callsIn_wide.2 HT6.out)).mono ?_⟩
        rintro e W6 ⟨rfl, v6, hw6⟩
        clear HT6 e0 e2
        have hb4 := hw6.keep HP.out HQ.out.1 (by decide) (by decide)
        have hb5 := hw6.keep HP.out HQ.out.2.1 (by decide) (by decide)
        have e0 : W6.cell? ⟨gp + 1, 0, none⟩ = some (.pointer (some ⟨gp, 0, none⟩)) := hb5.cell 0
        have e3 : W6.cell? ⟨q, 3, none⟩ = some (.int .u64 (vr.count : Int)) := hb4.cell 3
        have HT7 : Hid (Calls Try.prog 41 #[.pointer (some ⟨gp, 0, none⟩), .int .u64 (vr.count : Int)] W6 fun e w' => e = .returned (.tuple #[]) ∧ ∃ v', Wro W w' w.heap.size gp v v' (l3 ++ num (hmN vr.home) ++ num vr.count)) := by
          have h4 := Wro.old HFR.out (by have := HGP.out; omega) (Nat.le_refl _) HP.out hw6
          refine (num_any W6 w.heap.size gp vr.count v6 _ hw6.pen h4.size (by rw [HKE.out.2.2.1]; exact HXR.out.2.1) (by have h1 := HL3.out.2; have h2 := num_len (hmN vr.home) (hmN_lt _); rw [List.length_append]; omega)).mono ?_
          rintro e w' ⟨he, v', hw⟩
          exact ⟨he, v', hw6.trans hw⟩
        clear hw6 hb4 hb5
        gi_wp2
        refine ⟨trivial, (CallsIn.inRound l' (callsIn_wide.2 HT7.out)).mono ?_⟩
        rintro e W7 ⟨rfl, v7, hw7⟩
        clear HT7 e0 e3
        have HRB : Hid (l3 ++ num (hmN vr.home) ++ num vr.count = num n ++ num L ++ ((pre ++ [(⟨(key, vr, rc), hxm⟩ : El zs)]).map (fun (z : El zs) => (z.1.1, z.1.2.2))).flatMap rowB) := by
          show _ = _
          rw [List.map_append, List.flatMap_append, ← List.append_assoc (num n ++ num L), ← HPZ.out.2, HL3.out.1, HL2.out.1, HKE.out.1, HKE.out.2.1, HKE.out.2.2.1]
          simp only [List.map_cons, List.map_nil, List.flatMap_cons, List.flatMap_nil, List.append_nil]
          unfold rowB
          simp only [List.append_assoc]
        have hb4 := hw7.keep HP.out HQ.out.2.1 (by decide) (by decide)
        have hb5 := hw7.keep HP.out HQ.out.2.2 (by decide) (by decide)
        have HNX := Lib.hid (PnZ.next (K := fun b => OT b ∨ b = gx) HPZ.out.1 HP.out hw7 (by rintro b (hb | rfl); exact .inl (HOL.out b hb); exact .inr ⟨_, _, HQ.out.2.2, by decide, by decide⟩))
        rw [HRB.out] at HNX
        have HBS := Lib.hid (And.intro hb4 hb5)
        clear hw7 hb4 hb5
        gi_wp2
        exact ⟨HNX.out.1.from _, HNX.out.2.1, HNX.out.2.2, HBS.out⟩
      · skip
        go_simp
        refine ⟨trivial, ?_⟩
        refine (CallsIn.inRound l' (callsIn_wide.2 HHB.out)).mono ?_
        rintro e W3 ⟨rfl, hf3⟩
        have HF3 := Lib.hid hf3
        have ld3 : W3.cell? ⟨gp + 1, 0, none⟩ = some (.pointer (some ⟨gp, 0, none⟩)) := (HB1.out.2.fr hf3 fun h => h).cell 0
        clear hf3
        refine hK _ _ ?_
        clear hK K
        try simp only [Act.put, List.setIfInBounds_toArray, List.set_cons_zero, List.set_cons_succ]
        refine wpAnyIn_ready (rs := [0]) (by kernel_rfl) (by simp) ?_
        refine AllReadyIn.cons rfl (fun K hK => ?_) (AllReadyIn.nil)
        go_simp
        refine hK _ _ ?_
        clear hK K
        try simp only [Act.put, List.setIfInBounds_toArray, List.set_cons_zero, List.set_cons_succ]
        refine wpAnyIn_ready (rs := [3]) (by kernel_rfl) (by simp) ?_
        refine AllReadyIn.cons rfl (fun K hK => ?_) (AllReadyIn.nil)
        go_simp
        refine ⟨trivial, ?_⟩
        refine (CallsIn.inRound l' (callsIn_wide.2 (HBY.out _ HF3.out))).mono ?_
        rintro e W4 ⟨rfl, v2, hw4⟩
        have HW4 := Lib.hid hw4
        clear hw4
        refine hK _ _ ?_
        clear hK K
        try simp only [Act.put, List.setIfInBounds_toArray, List.set_cons_zero, List.set_cons_succ]
        refine wpAnyIn_done (by kernel_rfl) ?_ _
        clear ld0 ld3 d0 d1 d2 d3 HHB HBY HF3
        have hw4 := HW4.out
        have hb4 := hw4.keep HP.out HQ.out.1 (by decide) (by decide)
        have hb5 := hw4.keep HP.out HQ.out.2.1 (by decide) (by decide)
        have e0 : W4.cell? ⟨gp + 1, 0, none⟩ = some (.pointer (some ⟨gp, 0, none⟩)) := hb5.cell 0
        have e1 : W4.cell? ⟨q, 1, none⟩ = some (.slice vr.va vr.vn vr.vc) := hb4.cell 1
        obtain ⟨l2, hl2⟩ : ∃ l2, l2 = l ++ (num key.length ++ key) ++ [b1 vr.has] := ⟨_, rfl⟩
        rw [← hl2] at hw4
        have hn2 : l2.length ≤ 1041601 := by rw [hl2, List.length_append]; have := HL1.out; simp only [List.length_singleton]; omega
        have HL2 := Lib.hid (And.intro hl2 hn2)
        have HW5 := Lib.hid hw4
        have HT5 : Hid (Calls Try.prog 42 #[.pointer (some ⟨gp, 0, none⟩), .slice vr.va vr.vn vr.vc] W4 fun e w' => e = .returned (.tuple #[]) ∧ ∃ v', Wro W w' w.heap.size gp v v' (l2 ++ (num rc.val.length ++ rc.val))) := by
          have h4 := Wro.old HFR.out (by have := HGP.out; omega) (Nat.le_refl _) HP.out hw4
          refine (text_any W4 w.heap.size gp vr.va vr.vn vr.vc rc.val v2 l2 hw4.pen h4.size HXR.out.1.len (HXR.out.1.rd.nofr h4) HXR.out.1.nil ?_ (by have := HXR.out.2.2.2; omega) (by omega)).mono ?_
          · rintro _ k hk
            have h1 := (HXR.out.1.byt k hk).1.lt
            refine ⟨by have := HGP.out; omega, fun e => ?_⟩
            have := (own_blk hw4.pen.own e.symm).1
            omega
          · rintro e w' ⟨he, v', hw⟩
            exact ⟨he, v', hw4.trans hw⟩
        clear hw4 hb4 hb5 hl2 hn2 HW4 HL1 HB1 HW1
        gi_wp2
        refine ⟨trivial, (CallsIn.inRound l' (callsIn_wide.2 HT5.out)).mono ?_⟩
        rintro e W5 ⟨rfl, v5, hw5⟩
        clear HT5 e0 e1
        have hb4 := hw5.keep HP.out HQ.out.1 (by decide) (by decide)
        have hb5 := hw5.keep HP.out HQ.out.2.1 (by decide) (by decide)
        have e0 : W5.cell? ⟨gp + 1, 0, none⟩ = some (.pointer (some ⟨gp, 0, none⟩)) := hb5.cell 0
        have e2 : W5.cell? ⟨q, 2, none⟩ = some (.int .i64 vr.home) := hb4.cell 2
        obtain ⟨l3, hl3⟩ : ∃ l3, l3 = l2 ++ (num rc.val.length ++ rc.val) := ⟨_, rfl⟩
        rw [← hl3] at hw5
        have hn3 : l3.length ≤ 1042200 := by
          have h1 := HL2.out.2
          have h2 := HXR.out.2.2.2
          have h3 := num_len rc.val.length (by omega)
          rw [hl3, List.length_append, List.length_append]
          omega
        have HL3 := Lib.hid (And.intro hl3 hn3)
        have HT6 : Hid (Calls Try.prog 41 #[.pointer (some ⟨gp, 0, none⟩), .int .u64 (IntKind.u64.wrap vr.home)] W5 fun e w' => e = .returned (.tuple #[]) ∧ ∃ v', Wro W w' w.heap.size gp v v' (l3 ++ num (hmN vr.home))) := by
          have h4 := Wro.old HFR.out (by have := HGP.out; omega) (Nat.le_refl _) HP.out hw5
          rw [hmN_eq]
          refine (num_any W5 w.heap.size gp (hmN vr.home) v5 l3 hw5.pen h4.size (hmN_lt _) (by omega)).mono ?_
          rintro e w' ⟨he, v', hw⟩
          exact ⟨he, v', hw5.trans hw⟩
        clear hw5 hb4 hb5 hl3 hn3 HW5
        gi_wp2
        refine ⟨trivial, (CallsIn.inRound l' (callsIn_wide.2 HT6.out)).mono ?_⟩
        rintro e W6 ⟨rfl, v6, hw6⟩
        clear HT6 e0 e2
        have hb4 := hw6.keep HP.out HQ.out.1 (by decide) (by decide)
        have hb5 := hw6.keep HP.out HQ.out.2.1 (by decide) (by decide)
        have e0 : W6.cell? ⟨gp + 1, 0, none⟩ = some (.pointer (some ⟨gp, 0, none⟩)) := hb5.cell 0
        have e3 : W6.cell? ⟨q, 3, none⟩ = some (.int .u64 (vr.count : Int)) := hb4.cell 3
        have HT7 : Hid (Calls Try.prog 41 #[.pointer (some ⟨gp, 0, none⟩), .int .u64 (vr.count : Int)] W6 fun e w' => e = .returned (.tuple #[]) ∧ ∃ v', Wro W w' w.heap.size gp v v' (l3 ++ num (hmN vr.home) ++ num vr.count)) := by
          have h4 := Wro.old HFR.out (by have := HGP.out; omega) (Nat.le_refl _) HP.out hw6
          refine (num_any W6 w.heap.size gp vr.count v6 _ hw6.pen h4.size (by rw [HKE.out.2.2.1]; exact HXR.out.2.1) (by have h1 := HL3.out.2; have h2 := num_len (hmN vr.home) (hmN_lt _); rw [List.length_append]; omega)).mono ?_
          rintro e w' ⟨he, v', hw⟩
          exact ⟨he, v', hw6.trans hw⟩
        clear hw6 hb4 hb5
        gi_wp2
        refine ⟨trivial, (CallsIn.inRound l' (callsIn_wide.2 HT7.out)).mono ?_⟩
        rintro e W7 ⟨rfl, v7, hw7⟩
        clear HT7 e0 e3
        have HRB : Hid (l3 ++ num (hmN vr.home) ++ num vr.count = num n ++ num L ++ ((pre ++ [(⟨(key, vr, rc), hxm⟩ : El zs)]).map (fun (z : El zs) => (z.1.1, z.1.2.2))).flatMap rowB) := by
          show _ = _
          rw [List.map_append, List.flatMap_append, ← List.append_assoc (num n ++ num L), ← HPZ.out.2, HL3.out.1, HL2.out.1, HKE.out.1, HKE.out.2.1, HKE.out.2.2.1]
          simp only [List.map_cons, List.map_nil, List.flatMap_cons, List.flatMap_nil, List.append_nil]
          unfold rowB
          simp only [List.append_assoc]
        have hb4 := hw7.keep HP.out HQ.out.2.1 (by decide) (by decide)
        have hb5 := hw7.keep HP.out HQ.out.2.2 (by decide) (by decide)
        have HNX := Lib.hid (PnZ.next (K := fun b => OT b ∨ b = gx) HPZ.out.1 HP.out hw7 (by rintro b (hb | rfl); exact .inl (HOL.out b hb); exact .inr ⟨_, _, HQ.out.2.2, by decide, by decide⟩))
        rw [HRB.out] at HNX
        have HBS := Lib.hid (And.intro hb4 hb5)
        clear hw7 hb4 hb5
        gi_wp2
        exact ⟨HNX.out.1.from _, HNX.out.2.1, HNX.out.2.2, HBS.out⟩
  case done =>
    rintro D ys W hD hS hI hK
    obtain ⟨⟨v, hp⟩, hfr, hge⟩ := hI.1
    have hel := els_of HS.out.tr.up hS
    rw [hel] at hp
    have c0 : W.cell? ⟨gp + 1, 0, none⟩ = some (.pointer (some ⟨gp, 0, none⟩)) := hI.2.1.cell 0
    have HSN : Hid (num n ++ num L ++ (rz zs).flatMap rowB = snapB n (rz zs)) := by show _ = _; unfold snapB; rw [rz_len, ← HLL.out.1]
    rw [HSN.out] at hp
    have HDT : Hid (Calls Try.prog 45 #[.pointer (some ⟨gp, 0, none⟩)] W fun e w' => ∃ v', e = .returned v' ∧ New W w' v' (snapB n (rz zs))) := data_any W w.heap.size gp v _ hp (by
      have h1 := num_len n HBD.out.1
      have h2 := num_len L HBD.out.2
      have h3 := rows_len (rz zs) (by
        intro y hy
        have h4 := HV.out y hy
        obtain ⟨z, hz, rfl⟩ := List.mem_map.1 hy
        exact ⟨h4.1, h4.2, HS.out.cnt z hz⟩)
      have h4 := HLL.out
      rw [rz_len] at h3
      have h5 : zs.length * 1041 ≤ 1000 * 1041 := Nat.mul_le_mul_right _ (by omega)
      rw [← HSN.out, List.length_append, List.length_append]
      omega)
    have HFR := Lib.hid hfr
    have HKD := Lib.hid hK
    have HDW : Hid (w.heap.size ≤ D) := by show _ ≤ _; have := HGX.out; omega
    clear hI hp hfr hge hel hK hD hS
    gi_wp2
    refine ⟨trivial, (callsIn_wide.2 HDT.out).mono ?_⟩
    rintro e W6 ⟨v6, rfl, hn6⟩
    have HN6 := Lib.hid hn6
    have HK6 : Hid (W6.heap[D]? = _) := (hn6.fr.block D (Array.getElem?_eq_some_iff.1 HKD.out).1 fun e => e).trans HKD.out
    obtain ⟨A6, c6, rfl, _, _⟩ := own_form hn6.own
    clear hn6
    gi_wp2
    refine ⟨by simp, .inl ⟨_, _, rfl, run_takeDeferred HK6.out, ?_⟩⟩
    refine ⟨_, results_tmp rfl _ _ _, ?_⟩
    have hg := grownBy_putObj' W6 D (.deferred none)
    exact ⟨_, rfl, own_base (own_others HN6.out.own hg fun r e => by cases e; exact ⟨_, HK6.out, rfl⟩) HFR.out.size, (HFR.out.trans HN6.out.fr).grown hg fun r e hl => by cases e; have := HDW.out; omega⟩
  case stop =>
    rintro D c' pre W _ _ h _
    exact h.elim
end Go.Proofs.Ytkdcacajacndmaa
