/- Append onto an empty slice literal; slices.Clone at bytes: new memory that may be written. No condition but lengths. -/
import Derived.Test.YtafiokabnlmgpaaGreatDoorTexts
import Derived.Deep.Upon
import Derived.Deep.RegionLaw
import Derived.Deep.DeepCutAuto
import Derived.Deep.RegionHeld3
namespace Go.Proofs.YtafiokabnlmgpaaGreatDoor
open Go.RowKit

theorem byteInfo : (Tryz.prog.info? 5).map (fun i => (i.zero, i.size, i.bytes)) = some (some (.int .u8 0), 1, 1) := by kernel_rfl
theorem Bk.new' (w : World) (t : TypeId) (cs : Array Value) {g : Nat} (hg : g = w.heap.size) : Bk (w.alloc (.cells cs t)) g t cs := hg ▸ Bk.new w t cs
theorem Bk.drew {w : World} {g : Nat} {t : TypeId} {cs : Array Value} (h : Bk w g t cs) : Bk w.drew g t cs := h
theorem Fr.old {w w' : World} (h : Fr NoBlk w w') : (∀ b o, b < w.heap.size → w'.cell? ⟨b, o, none⟩ = w.cell? ⟨b, o, none⟩) ∧ (∀ b o, b < w.heap.size → w'.frozen? ⟨b, o, none⟩ = w.frozen? ⟨b, o, none⟩) :=
  ⟨fun b o hb => h.cell (p := ⟨b, o, none⟩) hb (fun h => h), fun b o hb => h.frozen (p := ⟨b, o, none⟩) hb (fun h => h)⟩

/-- a new slice that reads as news. -/
structure Got (w w' : World) (m : Nat) (news : List Value) (A : Option Addr) (c : Nat) : Prop where
  rd : Rd w' A news
  le : m ≤ c
  max : c ≤ maxLen
  nil : A = none → c = 0
  new : 0 < m → ∃ g, A = some ⟨g, 0, none⟩ ∧ w.heap.size ≤ g
  fr : Fr NoBlk w w'

/-- memory of the call's own: cells from the beginning of a block at N or behind it. -/
def Fsh (w : World) (N : Nat) (A : Option Addr) (n : Nat) (T : TypeId) : Prop :=
  0 < n → ∃ g cs, A = some ⟨g, 0, none⟩ ∧ N ≤ g ∧ Bk w g T cs ∧ n ≤ cs.size
section
variable {C : Nat → Prop} {w w' : World} {N n : Nat} {A : Option Addr} {T : TypeId}
theorem Fsh.fr (h : Fsh w N A n T) (hf : Fr NoBlk w w') : Fsh w' N A n T := fun hp => by
  obtain ⟨g, cs, e, hN, hb, hs⟩ := h hp
  exact ⟨g, cs, e, hN, hb.fr hf (fun h => h), hs⟩
theorem Fsh.put (h : Fsh w N A n T) (p : Addr) (hp0 : p.spot = none) (u : Value) : Fsh (w.setCell p u) N A n T := fun hp => by
  obtain ⟨g, cs, e, hN, hb, hs⟩ := h hp
  obtain ⟨pb, po, ps⟩ := p
  simp only at hp0
  subst hp0
  by_cases hg : g = pb
  · subst hg
    exact ⟨g, _, e, hN, hb.put po u, by simpa using hs⟩
  · exact ⟨g, cs, e, hN, hb.far hg u, hs⟩
theorem Fsh.frV (h : Fsh w N A n T) {V : Nat} (hf : Fr (fun k => k = V) w w') {T' : TypeId} {cs' : Array Value} (hV : Bk w V T' cs') (hT : T ≠ T') : Fsh w' N A n T := fun hp => by
  obtain ⟨g, cs, e, hN, hb, hs⟩ := h hp
  exact ⟨g, cs, e, hN, hb.fr hf (fun e => Bk.apart hb hV hT e), hs⟩
theorem Fsh.mono {M : Nat} (h : Fsh w N A n T) (hM : M ≤ N) : Fsh w M A n T := fun hp => by
  obtain ⟨g, cs, e, hN, hb, hs⟩ := h hp
  exact ⟨g, cs, e, by omega, hb, hs⟩
end

/-- a new slice that reads as news, and may be written. -/
structure GotB (w w' : World) (m size : Nat) (T : TypeId) (news : List Value) (A : Option Addr) (c : Nat) : Prop where
  got : Got w w' m news A c
  fsh : Fsh w' w.heap.size A (m * size) T

theorem run_appB {P : Program} (w : World) (t ty e : TypeId) (i : TypeInfo) (z : Value) (size bytes : Nat) (ht : P.underlying t = some (.slice e)) (hi : P.info? e = some i) (hz : i.zero = some z)
    (hsize : i.size = size) (hby : i.bytes = bytes) (hzs : z.cells.size = size) (hpos : 0 < size)
    (A0 : Option Addr) (hA0 : A0 ≠ none) (A : Option Addr) (c m : Nat) (news : List Value) (hm : news.length = m * size) (hr : Rd w A news) (h1 : ∀ u ∈ news, u.oneCell' = true)
    (hA : A = none → c = 0) (h63 : m ≤ maxLen) (hbytes : m * bytes ≤ 140737488355328) :
    ∃ A' c' w', (Builtin.append_ #[t, t] ty #[.slice A0 0 0, .slice A m c]).run P w = .ok (.slice A' m c') w' ∧ GotB w w' m size e news A' c' := by
  subst hsize hby
  have hsrc : ∀ w : World, Rd w A news → Src P i.size t (.slice A m c) m news w := fun w hr => by
    rcases A with _ | ad
    · have hn : news = [] := by
        rcases Nat.eq_zero_or_pos news.length with h0 | h0
        · exact List.eq_nil_of_length_eq_zero h0
        · obtain ⟨_, _, h, _⟩ := hr h0
          cases h
      subst hn
      have hm0 : m = 0 := by
        rcases Nat.eq_zero_or_pos m with h0 | h0
        · exact h0
        · have := Nat.mul_pos h0 hpos
          rw [← hm] at this
          simp at this
      subst hm0
      exact Src.ofNil w ht c
    · refine Src.ofSlice w ht ad m c news hm (fun j u hu => ?_) h1
      obtain ⟨b, o, e', hc⟩ := hr (by have := (List.getElem?_eq_some_iff.1 hu).1; omega)
      injection e' with e'
      subst e'
      have := hc j u hu
      unfold Addr.add
      split
      · subst j; simpa using this
      · exact this
  by_cases h0 : m = 0
  · subst h0
    have hn : news = [] := List.eq_nil_of_length_eq_zero (by simpa using hm)
    subst hn
    exact ⟨A0, 0, w, run_append_nothing w t t ty e i ht hi A0 0 0 (Nat.le_refl _) _ (hsrc w hr), ⟨⟨Rd.none_ _ _, Nat.le_refl _, Nat.zero_le _, fun h => absurd h hA0, fun h => absurd h (by omega), Fr.refl _ _⟩, fun h => absurd h (by simp)⟩⟩
  · have hs := hsrc w hr
    have hcap : Builtin.nextslicecap (0 + m) 0 * i.bytes ≤ 281474976710656 := by rw [nextslicecap_zero (by omega)]; simpa using Nat.le_trans hbytes (by omega)
    have hrun := run_append_grow_src (P := P) w t t ty e i z ht hi hz A0 0 0 [] (by cases A0 <;> simp [Builtin.firstCells, loadCells, loadCellsFrom]) (.slice A m c) m news hs (by omega) (by unfold maxLen at h63; omega) hcap
    have hge := grownCap_ge w (0 + m) 0 e
    have hle := grownCap_le_maxLen w (0 + m) 0 e (by rw [Nat.zero_add]; exact h63)
    simp only [Nat.zero_add, List.nil_append] at hrun hge hle
    have hb := Bk.new w.drew e (news.toArray ++ Builtin.zeroCells z.cells (grownCap w m 0 e - m))
    refine ⟨_, _, _, hrun, ⟨⟨fun hp => ⟨w.heap.size, 0, rfl, fun j v hj => ?_⟩, hge, hle, (fun h => by cases h), fun _ => ⟨w.heap.size, rfl, Nat.le_refl _⟩, ((Fr.refl _ _).drew).alloc _⟩, fun _ => ⟨w.heap.size, _, rfl, Nat.le_refl _, hb, ?_⟩⟩⟩
    · have := hb.cell (0 + j)
      rw [Nat.zero_add] at this ⊢
      refine this.trans ?_
      have hl := (List.getElem?_eq_some_iff.1 hj).1
      rw [Array.getElem?_append_left (by simpa using hl)]
      simpa using hj
    · rw [Array.size_append, List.size_toArray, hm]
      omega

theorem wpList_appB {P : Program} {w : World} {ops : Array Oper} {rest : List Oper} {o : Oper} {a : Act} {Q : Exit → Act → World → Prop} (hgd : o.guard = none) (s x : Operand) (t : TypeId)
    (ho : o.op = .call { callee := .builtin .append, args := #[s, x], argTypes := #[t, t] })
    (e : TypeId) (i : TypeInfo) (z : Value) (size bytes : Nat) (ht : P.underlying t = some (.slice e)) (hi : P.info? e = some i) (hz : i.zero = some z)
    (hsize : i.size = size) (hby : i.bytes = bytes) (hzs : z.cells.size = size) (hpos : 0 < size)
    (A0 : Addr) (hs : a.eval s = .slice (some A0) 0 0) (A : Option Addr) (c m : Nat) (news : List Value) (hx : a.eval x = .slice A m c) (hm : news.length = m * size) (hr : Rd w A news) (h1 : ∀ u ∈ news, u.oneCell' = true)
    (hA : A = none → c = 0) (h63 : m ≤ maxLen) (hbytes : m * bytes ≤ 140737488355328)
    (h : ∀ A' c' w', GotB w w' m size e news A' c' → wpList P ops Q rest (a.put o.dst (.slice A' m c')) w') : wpList P ops Q (o :: rest) a w :=
  wpList_plain hgd fun K hK => by
    obtain ⟨A', c', w', hrun, h2⟩ := run_appB (P := P) w t o.type e i z size bytes ht hi hz hsize hby hzs hpos (some A0) (fun h => by cases h) A c m news hm hr h1 hA h63 hbytes
    unfold Oper.wp execOp
    simp only [ho, resolve, invoke, builtin, Sem.run_bind, Sem.run_pure, Result.andThen_ok, List.map_toArray, List.map_cons, List.map_nil, hs, hx, hrun]
    exact hK _ _ (h A' c' w' h2)

theorem GotB.ofAlloc {w w' : World} {o : Obj} {m size : Nat} {T : TypeId} {news : List Value} {A : Option Addr} {c : Nat} (h : GotB (w.alloc o) w' m size T news A c) : GotB w w' m size T news A c := by
  have hsz : w.heap.size ≤ (w.alloc o).heap.size := by simp
  exact ⟨⟨h.got.rd, h.got.le, h.got.max, h.got.nil, fun hp => by obtain ⟨g, e, hg⟩ := h.got.new hp; exact ⟨g, e, by omega⟩, ((Fr.refl NoBlk w).alloc o).trans h.got.fr⟩, h.fsh.mono hsz⟩

def ClonePost (w : World) (m size : Nat) (T : TypeId) (news : List Value) (e : Ending) (w' : World) : Prop := ∃ A c, e = .returned (.slice A m c) ∧ GotB w w' m size T news A c
theorem ClonePost.nil (w : World) (size : Nat) (T : TypeId) : ClonePost w 0 size T [] (.returned (.slice none 0 0)) w :=
  ⟨none, 0, rfl, ⟨⟨Rd.none_ _ _, Nat.le_refl _, Nat.zero_le _, fun _ => rfl, fun h => absurd h (by omega), Fr.refl _ _⟩, fun h => absurd h (by simp)⟩⟩

set_option maxRecDepth 100000 in
set_option maxHeartbeats 1000000 in
theorem cloneB_any (w : World) (A : Option Addr) (n c : Nat) (xs : Bs) (hn : xs.length = n) (hr : Rd w A (cb xs)) (hA : A = none → c = 0) (hc : n ≤ c) (hx : n ≤ 1048576) :
    Calls Tryz.prog 81 #[.slice A n c] w (ClonePost w n 1 5 (cb xs)) := by
  obtain ⟨i0, hi, hz0, hz1, hz2⟩ := info_parts byteInfo
  have HR := Lib.hid hr
  have HN := Lib.hid hn
  have HL : Hid ((cb xs).length = n * 1) := by show _ = _; rw [cb_length, hn, Nat.mul_one]
  clear hr hn
  rcases A with _ | ad
  · obtain rfl := hA rfl
    obtain rfl : n = 0 := by omega
    obtain rfl : xs = [] := List.eq_nil_of_length_eq_zero HN.out
    clear HN HL hA hc hx
    have q := Lib.run_eql_slice_nil (P := Tryz.prog) w 55 _ none 0 0 0 0 Tryz.underlying55
    go_enter Tryz.func81, Tryz.ntmps81
    go_wp2_with fail
    go_ret
    exact ClonePost.nil w 1 _
  · have HRA := Lib.hid (HR.out.alloc (.cells #[] 5))
    clear HR hA HN
    have q := Lib.run_eql_slice_nil (P := Tryz.prog) w 55 _ (some ad) n c 0 0 Tryz.underlying55
    go_enter Tryz.func81, Tryz.ntmps81
    go_wp2_with (at_builtin; refine wpList_appB rfl _ _ 55 rfl 5 i0 _ 1 1 Tryz.underlying55 hi hz0 hz1 hz2 rfl (by decide) _ rfl (some ad) c n (cb xs) rfl HL.out HRA.out (cb_one _) (fun h => by cases h) (by unfold maxLen; omega) (by omega) ?_)
    intro A1 c1 w1 hg
    have HG := Lib.hid hg.ofAlloc
    clear hg HRA HL
    go_wp2_with fail
    go_ret
    exact ⟨_, _, rfl, HG.out⟩
end Go.Proofs.YtafiokabnlmgpaaGreatDoor
