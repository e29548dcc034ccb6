/- Opening a log. Conditions: the disk's power has no end; the name and the size are right. -/
import Derived.Test.YtafiokabnlmgpaaGreatDoorRead
import Derived.Test.YtafiokabnlmgpaaGreatDoorRemL
namespace Go.Proofs.YtafiokabnlmgpaaGreatDoor
open Go.RowKit Go.Maps

def PL.new (n : Bs) (sz : Nat) : PL := ⟨n, sz, 0, 0, false, []⟩
def lopen (p : PD) (n : Bs) (sz : Nat) : PD × PL := (lrem (lread 10 p 0 (PL.new n sz)).1 (lread 10 p 0 (PL.new n sz)).2, (lread 10 p 0 (PL.new n sz)).2)
theorem cut_stays {p : PD} (h : On' p) (k : Bs) (n : Int) : On' (pCut p k n).1 := by
  have hs : pspend p = p := by
    unfold pspend
    rw [if_neg (by rw [h.1]; decide), if_neg (by rw [h.1]; decide)]
  unfold pCut pChange
  rw [h.2]
  cases pfind p.files k with
  | none => exact h
  | some f =>
    dsimp only
    rw [hs]
    rw [if_neg (by decide)]
    split
    · exact h
    rw [if_neg (by rw [h.1]; decide)]
    exact h
theorem lread_on (f : Nat) (p : PD) (h : On' p) : ∀ k L, On' (lread f p k L).1 := by
  induction f with
  | zero => exact fun _ _ => h
  | succ f ih =>
    intro k L
    unfold lread
    split
    · exact h
    · split
      · exact cut_stays h _ _
      · exact ih _ _
/-- a log that is made. -/
theorem WL.start {w wr : World} {gd : Nat} {p : PD} {S : Nat → Prop} (h : AtS w wr gd p S) (hS : ∀ k, S k → k < wr.heap.size) (n : Bs) (hn : n.length ≤ 8) (sz : Nat) (hz : sz ≤ 65536) :
    WL w (wr.alloc (.cells #[.pointer (some ⟨gd, 0, none⟩), .string (bstr n), .int .i64 sz, .int .i64 0, .int .i64 0, .bool false, .slice none 0 0] 192)) gd p wr.heap.size (PL.new n sz) S := by
  have hf : Fr NoBlk wr (wr.alloc (.cells #[.pointer (some ⟨gd, 0, none⟩), .string (bstr n), .int .i64 sz, .int .i64 0, .int .i64 0, .bool false, .slice none 0 0] 192)) := (Fr.refl _ _).alloc _
  have hlb : ∀ k, LBlks wr.heap.size ⟨n, sz, 0, 0, false, .slice none 0 0, []⟩ k → k = wr.heap.size := fun k hk => by
    rcases hk with e | e | ⟨q, hq, _⟩
    · exact e
    · cases e
    · cases hq
  refine ⟨⟨n, sz, 0, 0, false, .slice none 0 0, []⟩, rfl, ⟨Bk.new _ _ _, World.ownsRow_nil _ _ _ _, (fun q hq => by cases hq), h.fr.size, Nat.zero_le _, hn, hz, Nat.zero_le _, Nat.zero_le _⟩, h.prot hf (fun _ _ h => h.elim) (fun k hk => ?_), (fun k hk hb => ?_), (fun k hk => Nat.lt_of_lt_of_le (hS k hk) hf.size)⟩
  · rcases hk with hk | hk
    · exact .inr (by rw [hlb k hk]; exact Nat.le_refl _)
    · exact .inl hk
  · have := hS k hk
    have := hlb k hb
    omega
def OpenPost (w w0 : World) (gd : Nat) (r : PD × PL) (S : Nat → Prop) (e : Ending) (w' : World) : Prop := ∃ gl, e = .returned (.tuple #[.pointer (some ⟨gl, 0, none⟩), .int .i64 0]) ∧ WL w w' gd r.1 gl r.2 S ∧ Fr (Loose w S) w0 w'
set_option maxRecDepth 100000 in
set_option maxHeartbeats 2000000 in
theorem lopen_any (w w0 : World) (gd : Nat) (p : PD) (S : Nat → Prop) (h : AtS w w0 gd p S) (hS : ∀ k, S k → k < w0.heap.size) (ht : Tab w) (hon : On' p) (n : Bs) (hn0 : 0 < n.length) (hn : n.length ≤ 8) (sz : Nat) (hz0 : 16 ≤ sz) (hz : sz ≤ 65536) :
    Calls Tryz.prog 65 #[.pointer (some ⟨gd, 0, none⟩), .string (bstr n), .int .i64 sz] w0 (OpenPost w w0 gd (lopen p n sz) S) := by
  have hw := WL.start h hS n hn sz hz
  have hf0 : Fr NoBlk w0 (w0.alloc (.cells #[.pointer (some ⟨gd, 0, none⟩), .string (bstr n), .int .i64 sz, .int .i64 0, .int .i64 0, .bool false, .slice none 0 0] 192)) := (Fr.refl _ _).alloc _
  have HF0 : Hid (Fr (Loose w S) w0 (w0.alloc (.cells #[.pointer (some ⟨gd, 0, none⟩), .string (bstr n), .int .i64 sz, .int .i64 0, .int .i64 0, .bool false, .slice none 0 0] 192))) := hf0.mono fun _ _ h => h.elim
  have HRE := Lib.hid (lread_any w _ gd w0.heap.size p (PL.new n sz) S hw ht hon rfl)
  have HRL := Lib.hid fun W p' L (hw : WL w W gd p' w0.heap.size L S) (ho : On' p') => lrem_any w W gd w0.heap.size p' L S hw ho
  have HON := Lib.hid (lread_on 10 p hon 0 (PL.new n sz))
  have HEQ : Hid (lopen p n sz = (lrem (lread 10 p 0 (PL.new n sz)).1 (lread 10 p 0 (PL.new n sz)).2, (lread 10 p 0 (PL.new n sz)).2)) := rfl
  have z1 : 1 ≤ (bstr n).size := by rw [bstr_size]; exact hn0
  have z2 : (bstr n).size ≤ 8 := by rw [bstr_size]; exact hn
  generalize lopen p n sz = rr at *
  generalize lread 10 p 0 (PL.new n sz) = r at *
  generalize bstr n = nb at *
  clear h hS ht hon hw hf0 hn0 hn
  go_enter Tryz.func65, Tryz.ntmps65
  go_wp2_with fail
  refine HRE.out.mono ?_
  clear HRE
  rintro e w1 ⟨rfl, hw1, hf1⟩
  have HR2 := Lib.hid (HRL.out w1 r.1 r.2 hw1 HON.out)
  have HF1 := Lib.hid (HF0.out.trans hf1)
  clear hw1 hf1 HRL
  go_wp2_with fail
  refine HR2.out.mono ?_
  clear HR2
  rintro e w2 ⟨rfl, hw2, hf2⟩
  have HZ : Hid (OpenPost w w0 gd rr S (.returned (.tuple #[.pointer (some ⟨w0.heap.size, 0, none⟩), .int .i64 0])) w2) := by
    rw [HEQ.out]
    exact ⟨_, rfl, hw2, HF1.out.trans hf2⟩
  clear hw2 hf2
  go_wp2_with fail
  go_ret2
  exact HZ.out
end Go.Proofs.YtafiokabnlmgpaaGreatDoor
