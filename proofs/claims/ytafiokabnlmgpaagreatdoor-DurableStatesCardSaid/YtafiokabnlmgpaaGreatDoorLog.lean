/- A log as the world holds it: its cells, its records in memory of its own; a disk and a log of it. No condition. -/
import Derived.Test.YtafiokabnlmgpaaGreatDoorParse
import Derived.Test.YtafiokabnlmgpaaGreatDoorAtS
import Derived.Test.YtafiokabnlmgpaaGreatDoorCut
import Derived.Test.YtafiokabnlmgpaaGreatDoorFrame3
namespace Go.Proofs.YtafiokabnlmgpaaGreatDoor
open Go.RowKit Go.Maps

theorem cutS {w wr : World} {gd : Nat} {p : PD} {S : Nat → Prop} (h : AtS w wr gd p S) (hS : ∀ k, S k → k < wr.heap.size) (k : Bs) (hk : k.length ≤ maxLen) (n : Int) :
    Calls Tryz.prog 144 #[.pointer (some ⟨gd, 0, none⟩), .string (bstr k), .int .i64 n] wr fun e w' => e = .returned (.int .i64 (pCut p k n).2) ∧ AtS w w' gd (pCut p k n).1 S ∧ Fr (Loose w S) wr w' := by
  obtain ⟨B, m, rfl, hdk, hw, hB, hs⟩ := h
  exact (cut_any wr B gd m hdk k hk n).mono fun e w' hp => AtS.step hdk hw hB hs hS hp
theorem removeS {w wr : World} {gd : Nat} {p : PD} {S : Nat → Prop} (h : AtS w wr gd p S) (hS : ∀ k, S k → k < wr.heap.size) (k : Bs) (hk : k.length ≤ maxLen) :
    Calls Tryz.prog 93 #[.pointer (some ⟨gd, 0, none⟩), .string (bstr k)] wr fun e w' => e = .returned (.int .i64 (pRemove p k).2) ∧ AtS w w' gd (pRemove p k).1 S ∧ Fr (Loose w S) wr w' := by
  obtain ⟨B, m, rfl, hdk, hw, hB, hs⟩ := h
  exact (remove_any wr B gd m hdk k hk).mono fun e w' hp => AtS.step hdk hw hB hs hS hp

/-- two rows of unlike elements have unlike blocks. -/
theorem own_apart2 {w : World} {base base' : Nat} {e e' : TypeId} {size size' n n' : Nat} {v v' : Value} {xs xs' : List Value} (h : w.ownsRow base e size v n xs) (h' : w.ownsRow base' e' size' v' n' xs') (hne : e ≠ e') {k : Nat} (hk : v.ownBlock = some k) : v'.ownBlock ≠ some k := by
  intro hk'
  rcases h.2 with ⟨rfl, _⟩ | ⟨g, cap, cur, rfl, _, hh, _⟩
  · simp [Value.ownBlock] at hk
  rcases h'.2 with ⟨rfl, _⟩ | ⟨g', cap', cur', rfl, _, hh', _⟩
  · simp [Value.ownBlock] at hk'
  have e1 : g = k := by simpa [Value.ownBlock] using hk
  have e2 : g' = k := by simpa [Value.ownBlock] using hk'
  subst e1
  subst e2
  rw [hh] at hh'
  injection hh' with hh'
  injection hh' with _ ht
  exact hne ht

structure Lg where
  name : Bs
  size : Nat
  last : Nat
  used : Nat
  waits : Bool
  rv : Value
  parts : List Prt
def Lg.cells (gd : Nat) (g : Lg) : Array Value := #[.pointer (some ⟨gd, 0, none⟩), st g.name, .int .i64 g.size, .int .i64 g.last, .int .i64 g.used, .bool g.waits, g.rv]
def Lg.pl (g : Lg) : PL := ⟨g.name, g.size, g.last, g.used, g.waits, g.parts.map (·.2.2)⟩
def PartIn (w : World) (B : Nat) (p : Prt) : Prop := w.ownsRow B 5 1 (sl p) p.2.2.length (cb p.2.2) ∧ p.2.2.length ≤ 4096
structure LgIn (w : World) (B gd gl : Nat) (g : Lg) : Prop where
  bk : Bk w gl 192 (g.cells gd)
  own : w.ownsRow B 55 1 g.rv g.parts.length (g.parts.map sl)
  part : ∀ p ∈ g.parts, PartIn w B p
  base : B ≤ gl
  few : g.parts.length ≤ 20000000
  nm : g.name.length ≤ 8
  sz : g.size ≤ 65536
  lst : g.last ≤ 9
  us : g.used ≤ 2000000
/-- the blocks of a log. -/
def LBlks (gl : Nat) (g : Lg) (k : Nat) : Prop := k = gl ∨ g.rv.ownBlock = some k ∨ ∃ p ∈ g.parts, (sl p).ownBlock = some k
theorem PartIn.fr {C : Nat → Prop} {w w' : World} {B : Nat} {p : Prt} (h : PartIn w B p) (hf : Fr C w w') (hn : ∀ k, (sl p).ownBlock = some k → ¬ C k) : PartIn w' B p := ⟨own_fr h.1 hf hn, h.2⟩
theorem PartIn.rd {w : World} {B : Nat} {p : Prt} (h : PartIn w B p) : Part w p ∧ p.2.2.length ≤ p.2.1 := by
  obtain ⟨A, c, e, hc, hA⟩ := own_form h.1
  unfold sl at e
  injection e with e1 _ e3
  rw [← e1, ← e3] at hA
  exact ⟨⟨Rd.of_own h.1, hA⟩, by rw [e3]; exact hc⟩
theorem LgIn.fr {C : Nat → Prop} {w w' : World} {B gd gl : Nat} {g : Lg} (h : LgIn w B gd gl g) (hf : Fr C w w') (hn : ∀ k, LBlks gl g k → ¬ C k) : LgIn w' B gd gl g :=
  ⟨h.bk.fr hf (hn _ (.inl rfl)), own_fr h.own hf fun k hk => hn k (.inr (.inl hk)), fun p hp => (h.part p hp).fr hf fun k hk => hn k (.inr (.inr ⟨p, hp, hk⟩)), h.base, h.few, h.nm, h.sz, h.lst, h.us⟩
theorem LgIn.blk {w : World} {B gd gl : Nat} {g : Lg} (h : LgIn w B gd gl g) {k : Nat} (hk : LBlks gl g k) : B ≤ k ∧ k < w.heap.size := by
  rcases hk with rfl | hk | ⟨p, hp, hk⟩
  · exact ⟨h.base, h.bk.lt⟩
  · exact own_lt h.own hk
  · exact own_lt (h.part p hp).1 hk
/-- its plain cells turn. -/
theorem LgIn.set {w w' : World} {B gd gl : Nat} {g g' : Lg} (h : LgIn w B gd gl g) (hf : Fr (fun k => k = gl) w w') (hb : Bk w' gl 192 (g'.cells gd)) (hr : g'.rv = g.rv) (hp : g'.parts = g.parts) (hn : g'.name = g.name) (hs : g'.size = g.size) (hl : g'.last ≤ 9) (hu : g'.used ≤ 2000000) : LgIn w' B gd gl g' := by
  refine ⟨hb, ?_, ?_, h.base, by rw [hp]; exact h.few, by rw [hn]; exact h.nm, by rw [hs]; exact h.sz, hl, hu⟩
  · rw [hr, hp]
    exact own_fr h.own hf fun k hk e => own_apart h.own h.bk (by decide) (e ▸ hk)
  · rw [hp]
    exact fun p hp => (h.part p hp).fr hf fun k hk e => own_apart (h.part p hp).1 h.bk (by decide) (e ▸ hk)
theorem LBlks.same {gl : Nat} {g g' : Lg} (hr : g'.rv = g.rv) (hp : g'.parts = g.parts) (k : Nat) : LBlks gl g' k ↔ LBlks gl g k := by
  unfold LBlks
  rw [hr, hp]
/-- a record comes behind the others: w: before; w1: with the record's bytes; w2: with the row grown; w3: with the row's value stored. -/
theorem LgIn.push {w w1 w2 w3 : World} {B gd gl : Nat} {g : Lg} (h : LgIn w B gd gl g) (hB : B ≤ w.heap.size) {p : Prt} (hp : p.2.2.length ≤ 4096) (hn : w1.ownsRow w.heap.size 5 1 (sl p) p.2.2.length (cb p.2.2)) (hf1 : Fr NoBlk w w1) {v' : Value}
    (ho : w2.ownsRow B 55 1 v' (g.parts.length + 1) (g.parts.map sl ++ [sl p])) (hg : Fr (fun k => g.rv.ownBlock = some k) w1 w2) (hb : v'.ownBlock = g.rv.ownBlock ∨ ∃ k, v'.ownBlock = some k ∧ w1.heap.size ≤ k)
    (hf3 : Fr (fun k => k = gl) w2 w3) (h3 : Bk w3 gl 192 (Lg.cells gd { g with rv := v' })) (hfew : g.parts.length + 1 ≤ 20000000) :
    LgIn w3 B gd gl { g with rv := v', parts := g.parts ++ [p] } ∧ Fr (LBlks gl g) w w3 ∧ ∀ k, LBlks gl { g with rv := v', parts := g.parts ++ [p] } k → LBlks gl g k ∨ w.heap.size ≤ k := by
  have h1 := h.fr hf1 fun _ _ h => h
  have hs := hf1.size
  have hrow : ∀ q, PartIn w1 B q → PartIn w2 B q := fun q hq => hq.fr hg fun k hk e => own_apart2 hq.1 h1.own (by decide) hk e
  have hnew : PartIn w1 B p := ⟨own_base hn hB, hp⟩
  have hb2 : Bk w2 gl 192 (g.cells gd) := h1.bk.fr hg (own_apart h1.own h1.bk (by decide))
  have hrow3 : ∀ q, PartIn w2 B q → PartIn w3 B q := fun q hq => hq.fr hf3 fun k hk e => own_apart hq.1 hb2 (by decide) (e ▸ hk)
  refine ⟨⟨h3, ?_, ?_, h.base, by show (g.parts ++ [p]).length ≤ _; rw [List.length_append]; exact hfew, h.nm, h.sz, h.lst, h.us⟩, ?_, fun k hk => ?_⟩
  · show World.ownsRow _ _ _ _ v' (g.parts ++ [p]).length ((g.parts ++ [p]).map sl)
    rw [List.length_append, List.map_append]
    exact own_fr ho hf3 fun k hk e => own_apart ho hb2 (by decide) (e ▸ hk)
  · intro q hq
    rcases List.mem_append.1 hq with hq | hq
    · exact hrow3 q (hrow q (h1.part q hq))
    · rw [List.mem_singleton.1 hq]
      exact hrow3 p (hrow p hnew)
  · exact ((hf1.mono (D := LBlks gl g) fun _ _ h => h.elim).step hg fun k _ e => .inr (.inl e)).step hf3 fun k _ e => .inl e
  · rcases hk with e | hk | ⟨q, hq, hk⟩
    · exact .inl (.inl e)
    · have hk : v'.ownBlock = some k := hk
      rcases hb with e | ⟨j, e, hj⟩
      · exact .inl (.inr (.inl (e ▸ hk)))
      · rw [e] at hk
        injection hk with hk
        exact .inr (by omega)
    · rcases List.mem_append.1 hq with hq | hq
      · exact .inl (.inr (.inr ⟨q, hq, hk⟩))
      · rw [List.mem_singleton.1 hq] at hk
        exact .inr (own_lt hn hk).1

/-- the blocks of a log, and others. -/
def Mine (gl : Nat) (g : Lg) (S : Nat → Prop) : Nat → Prop := fun k => LBlks gl g k ∨ S k
/-- behind gd the disk p lies, behind gl its log L, in blocks made since world w; none of them is among S. -/
def WL (w wr : World) (gd : Nat) (p : PD) (gl : Nat) (L : PL) (S : Nat → Prop) : Prop := ∃ g : Lg, g.pl = L ∧ LgIn wr w.heap.size gd gl g ∧ AtS w wr gd p (Mine gl g S) ∧ (∀ k, S k → ¬ LBlks gl g k) ∧ ∀ k, S k → k < wr.heap.size
section
variable {w wr w' : World} {gd gl : Nat} {p p' : PD} {L : PL} {S : Nat → Prop} {g g' : Lg}
theorem WL.fr (h : WL w wr gd p gl L S) : Fr NoBlk w wr := let ⟨_, _, _, ha, _⟩ := h; ha.fr
theorem Mine.lt (h : LgIn wr w.heap.size gd gl g) (hs : ∀ k, S k → k < wr.heap.size) : ∀ k, Mine gl g S k → k < wr.heap.size := fun k hk => hk.elim (fun h' => (h.blk h').2) (hs k)
/-- the disk has turned. -/
theorem WL.disk (hg : g.pl = L) (h : LgIn wr w.heap.size gd gl g) (hs : ∀ k, S k → ¬ LBlks gl g k) (hl : ∀ k, S k → k < wr.heap.size) (ha : AtS w w' gd p' (Mine gl g S)) (hf : Fr (Loose w (Mine gl g S)) wr w') : WL w w' gd p' gl L S ∧ Fr (Loose w S) wr w' :=
  ⟨⟨g, hg, h.fr hf fun _k hk hc => hc.1 (.inl hk), ha, hs, fun k hk => Nat.lt_of_lt_of_le (hl k hk) hf.size⟩, hf.mono fun _k _ hk => ⟨fun h' => hk.1 (.inr h'), hk.2⟩⟩
/-- the log has turned. -/
theorem WL.log (hg : g'.pl = L) (h : LgIn wr w.heap.size gd gl g) (hs : ∀ k, S k → ¬ LBlks gl g k) (hl : ∀ k, S k → k < wr.heap.size) (ha : AtS w wr gd p (Mine gl g S)) (h' : LgIn w' w.heap.size gd gl g') (hf : Fr (LBlks gl g) wr w') (hb : ∀ k, LBlks gl g' k → LBlks gl g k ∨ wr.heap.size ≤ k) : WL w w' gd p gl L S ∧ Fr (Loose w S) wr w' := by
  refine ⟨⟨g', hg, h', ha.prot hf (fun k _ hk => ⟨.inl hk, (h.blk hk).1⟩) fun k hk => ?_, fun k hk hk' => ?_, fun k hk => Nat.lt_of_lt_of_le (hl k hk) hf.size⟩, hf.mono fun k _ hk => ⟨fun h' => hs k h' hk, (h.blk hk).1⟩⟩
  · rcases hk with hk | hk
    · exact (hb k hk).imp .inl id
    · exact .inl (.inr hk)
  · rcases hb k hk' with h1 | h1
    · exact hs k hk h1
    · have := hl k hk; omega
theorem WL.nofr (h : WL w wr gd p gl L S) (hf : Fr NoBlk wr w') : WL w w' gd p gl L S := by
  obtain ⟨g, hg, hl, ha, hs, ht⟩ := h
  exact ⟨g, hg, hl.fr hf fun _ _ h => h, ha.nofr hf, hs, fun k hk => Nat.lt_of_lt_of_le (ht k hk) hf.size⟩
end
end Go.Proofs.YtafiokabnlmgpaaGreatDoor
