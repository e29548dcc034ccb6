/- The disk's calls, said of the document's disk. Conditions: lengths; the disk is the call's own. -/
import Derived.Test.YtafiokabnlmgpaaGreatDoorCrash2
namespace Go.Proofs.YtafiokabnlmgpaaGreatDoor
open Go.RowKit Go.Maps

/-- behind gd the document's disk p lies, in blocks from B on, made since world w. -/
def At (w wr : World) (B gd : Nat) (p : PD) : Prop := ∃ m, m.pd = p ∧ DkIn wr B gd m ∧ Fr NoBlk w wr ∧ w.heap.size ≤ B
theorem At.fr {w wr : World} {B gd : Nat} {p : PD} (h : At w wr B gd p) : Fr NoBlk w wr := let ⟨_, _, _, hf, _⟩ := h; hf
theorem At.nofr {w wr w' : World} {B gd : Nat} {p : PD} (h : At w wr B gd p) (hf : Fr NoBlk wr w') : At w w' B gd p := by
  obtain ⟨m, hp, hd, hw, hB⟩ := h
  exact ⟨m, hp, hd.nofr hf, hw.trans hf, hB⟩
/-- what lies below B stays, whatever becomes of the disk. -/
def OutB (B : Nat) : Nat → Prop := fun k => B ≤ k
theorem At.step {w wr w' : World} {B gd : Nat} {m : Dsk} {r : PD × Int} {e : Ending} (hd : DkIn wr B gd m) (hw : Fr NoBlk w wr) (hB : w.heap.size ≤ B) (h : DkPost wr B gd m r e w') :
    e = .returned (.int .i64 r.2) ∧ At w w' B gd r.1 ∧ Fr (OutB B) wr w' := by
  obtain ⟨m', rfl, hp, hd', hf, _⟩ := h
  have hfo : Fr (OutB B) wr w' := hf.mono fun k _ hk => (hd.blk hk).1
  exact ⟨rfl, ⟨m', hp, hd', hw.step hfo fun i hi e => by have : B ≤ i := e; omega, hB⟩, hfo⟩
theorem append_at {w wr : World} {B gd : Nat} {p : PD} (h : At w wr B gd p) (k : Bs) (hk : k.length ≤ maxLen) (A : Option Addr) (n c : Nat) (d : Bs) (hn : n = d.length) (hr : Rd wr A (cb d)) (hA : A = none → c = 0) (hd : d.length ≤ maxLen) :
    Calls Tryz.prog 94 #[.pointer (some ⟨gd, 0, none⟩), .string (bstr k), .slice A n c] wr fun e w' => e = .returned (.int .i64 (pAppend p k d).2) ∧ At w w' B gd (pAppend p k d).1 ∧ Fr (OutB B) wr w' := by
  obtain ⟨m, rfl, hdk, hw, hB⟩ := h
  exact (append_any wr B gd m hdk k hk A n c d hn hr hA hd).mono fun e w' hp => At.step hdk hw hB hp
theorem sync_at {w wr : World} {B gd : Nat} {p : PD} (h : At w wr B gd p) (k : Bs) (hk : k.length ≤ maxLen) :
    Calls Tryz.prog 96 #[.pointer (some ⟨gd, 0, none⟩), .string (bstr k)] wr fun e w' => e = .returned (.int .i64 (pSync p k).2) ∧ At w w' B gd (pSync p k).1 ∧ Fr (OutB B) wr w' := by
  obtain ⟨m, rfl, hdk, hw, hB⟩ := h
  exact (sync_any wr B gd m hdk k hk).mono fun e w' hp => At.step hdk hw hB hp
theorem read_at {w wr : World} {B gd : Nat} {p : PD} (h : At w wr B gd p) (k : Bs) (hk : k.length ≤ maxLen) :
    Calls Tryz.prog 36 #[.pointer (some ⟨gd, 0, none⟩), .string (bstr k)] wr (ReadPost wr (pRead p k)) := by
  obtain ⟨m, rfl, hdk, hw, hB⟩ := h
  exact read_any wr B gd m hdk k hk
theorem used_at {w wr : World} {B gd : Nat} {p : PD} (h : At w wr B gd p) :
    Calls Tryz.prog 130 #[.pointer (some ⟨gd, 0, none⟩)] wr fun e w' => e = .returned (.int .i64 (ptotal p.files)) ∧ Fr NoBlk wr w' := by
  obtain ⟨m, rfl, hdk, hw, hB⟩ := h
  have := used_any wr B gd m hdk
  rw [← ptotal_map] at this
  exact this
def NamesAt (w : World) (ks : List Bs) (e : Ending) (w' : World) : Prop := ∃ A c, e = .returned (.slice A ks.length c) ∧ TextsAt w w' A c ks
theorem names_at {w wr : World} {B gd : Nat} {p : PD} (h : At w wr B gd p) :
    Calls Tryz.prog 35 #[.pointer (some ⟨gd, 0, none⟩)] wr (NamesAt wr (p.files.map (·.name))) := by
  obtain ⟨m, rfl, hdk, hw, hB⟩ := h
  refine (names_any wr B gd m hdk).mono fun e w' ⟨A, c, he, ht⟩ => ?_
  have e2 : (m.files.map Fil.pf).map (·.name) = m.files.map (·.name) := by rw [List.map_map]; rfl
  refine ⟨A, c, ?_, ?_⟩
  · rw [he]
    show _ = Ending.returned (.slice A ((m.files.map Fil.pf).map (·.name)).length c)
    rw [e2, List.length_map]
  · show TextsAt _ _ _ _ ((m.files.map Fil.pf).map (·.name))
    rw [e2]; exact ht
theorem crash_at {w wr : World} {B gd : Nat} {p : PD} (h : At w wr B gd p) (K : Option Addr) (n c : Nat) (ks : List Int) (hn : n = ks.length) (hr : Rd wr K (ics ks)) (hd : ks.length ≤ maxLen) :
    Calls Tryz.prog 17 #[.pointer (some ⟨gd, 0, none⟩), .slice K n c] wr fun e w' => ∃ gd', e = .returned (.pointer (some ⟨gd', 0, none⟩)) ∧ At w w' wr.heap.size gd' (pCrash p ks) ∧ Fr NoBlk wr w' := by
  obtain ⟨m, rfl, hdk, hw, hB⟩ := h
  refine (crash_any wr B gd m hdk K n c ks hn hr hd).mono fun e w' ⟨gd', m', he, hp, hd', hf⟩ => ⟨gd', he, ⟨m', hp, hd', hw.trans hf, hw.size⟩, hf⟩
theorem new_at (w wr : World) (hf : Fr NoBlk w wr) (r : Nat) (h1 : 1 ≤ r) (hr : r ≤ 1048576) :
    Calls Tryz.prog 8 #[.int .i64 r] wr fun e w' => ∃ gd, e = .returned (.tuple #[.pointer (some ⟨gd, 0, none⟩), .int .i64 0]) ∧ At w w' wr.heap.size gd (pNew r) ∧ Fr NoBlk wr w' :=
  (new_any wr r h1 hr).mono fun _ _ ⟨gd, m, he, hp, hd, hf2⟩ => ⟨gd, he, ⟨m, hp, hd, hf.trans hf2, hf.size⟩, hf2⟩
theorem At.names {w wr : World} {B gd : Nat} {p : PD} (h : At w wr B gd p) : ∀ f ∈ p.files, f.name.length ≤ 16 := by
  obtain ⟨m, rfl, hdk, hw, hB⟩ := h
  intro f hf
  obtain ⟨g, hg, rfl⟩ := List.mem_map.1 hf
  exact (hdk.fil g hg).nm
theorem At.fits {w wr : World} {B gd : Nat} {p : PD} (h : At w wr B gd p) : ptotal p.files ≤ p.room ∧ p.room ≤ 1048576 ∧ p.files.length ≤ 32 ∧ (p.files.map (·.name)).Nodup ∧ ∀ f ∈ p.files, f.last ≤ f.data.length := by
  obtain ⟨m, rfl, hdk, hw, hB⟩ := h
  refine ⟨by show ptotal (m.files.map Fil.pf) ≤ _; rw [ptotal_map]; exact hdk.fits, hdk.most, by show (m.files.map Fil.pf).length ≤ _; rw [List.length_map]; exact hdk.few, ?_, fun f hf => ?_⟩
  · show ((m.files.map Fil.pf).map (·.name)).Nodup
    rw [List.map_map]
    exact hdk.nodup
  · obtain ⟨g, hg, rfl⟩ := List.mem_map.1 hf
    exact (hdk.fil g hg).lasts
end Go.Proofs.YtafiokabnlmgpaaGreatDoor
