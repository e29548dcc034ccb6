/- The disk's calls beside other memory of the call's own. Conditions: lengths; the disk is the call's own. -/
import Derived.Test.YtafiokabnlmgpaaGreatDoorAt
namespace Go.Proofs.YtafiokabnlmgpaaGreatDoor
open Go.RowKit Go.Maps

/-- behind gd the document's disk p lies, in blocks made since world w, none of them among S. -/
def AtS (w wr : World) (gd : Nat) (p : PD) (S : Nat → Prop) : Prop := ∃ B m, m.pd = p ∧ DkIn wr B gd m ∧ Fr NoBlk w wr ∧ w.heap.size ≤ B ∧ ∀ k, Blks gd m k → ¬ S k
/-- the blocks that a call on the disk may turn. -/
def Loose (w : World) (S : Nat → Prop) : Nat → Prop := fun k => ¬ S k ∧ w.heap.size ≤ k
theorem AtS.fr {w wr : World} {gd : Nat} {p : PD} {S : Nat → Prop} (h : AtS w wr gd p S) : Fr NoBlk w wr := let ⟨_, _, _, _, hf, _⟩ := h; hf
theorem AtS.gd_lt {w wr : World} {gd : Nat} {p : PD} {S : Nat → Prop} (h : AtS w wr gd p S) : gd < wr.heap.size := let ⟨_, _, _, hd, _⟩ := h; hd.bk.lt
theorem At.prot {w wr w' : World} {B gd : Nat} {p : PD} (h : At w wr B gd p) (hf : Fr NoBlk wr w') {S : Nat → Prop} (hS : ∀ k, S k → wr.heap.size ≤ k ∨ k < B) : AtS w w' gd p S := by
  obtain ⟨m, hp, hd, hw, hB⟩ := h
  refine ⟨B, m, hp, hd.nofr hf, hw.trans hf, hB, fun k hk hs => ?_⟩
  have := hd.blk hk
  rcases hS k hs with h | h <;> omega
theorem AtS.prot {w wr w' : World} {gd : Nat} {p : PD} {S S' : Nat → Prop} {C : Nat → Prop} (h : AtS w wr gd p S) (hf : Fr C wr w') (hC : ∀ k, k < wr.heap.size → C k → S k ∧ w.heap.size ≤ k) (hS : ∀ k, S' k → S k ∨ wr.heap.size ≤ k) : AtS w w' gd p S' := by
  obtain ⟨B, m, hp, hd, hw, hB, hs⟩ := h
  refine ⟨B, m, hp, hd.fr hf fun k hk hc => hs k hk (hC k (hd.blk hk).2 hc).1, hw.step hf fun k hk hc => ?_, hB, fun k hk hs' => ?_⟩
  · have h1 := hw.size
    have := (hC k (by omega) hc).2
    omega
  · rcases hS k hs' with h | h
    · exact hs k hk h
    · have := (hd.blk hk).2; omega
theorem AtS.nofr {w wr w' : World} {gd : Nat} {p : PD} {S : Nat → Prop} (h : AtS w wr gd p S) (hf : Fr NoBlk wr w') : AtS w w' gd p S := h.prot hf (fun _ _ h => h.elim) fun _ h => .inl h
theorem AtS.step {w wr w' : World} {B gd : Nat} {m : Dsk} {r : PD × Int} {e : Ending} {S : Nat → Prop} (hd : DkIn wr B gd m) (hw : Fr NoBlk w wr) (hB : w.heap.size ≤ B) (hs : ∀ k, Blks gd m k → ¬ S k) (hS : ∀ k, S k → k < wr.heap.size) (h : DkPost wr B gd m r e w') :
    e = .returned (.int .i64 r.2) ∧ AtS w w' gd r.1 S ∧ Fr (Loose w S) wr w' := by
  obtain ⟨m', rfl, hp, hd', hf, hb⟩ := h
  have hfo : Fr (Loose w S) wr w' := hf.mono fun k _ hk => ⟨hs k hk, by have := (hd.blk hk).1; omega⟩
  refine ⟨rfl, ⟨B, m', hp, hd', hw.step hfo fun i hi e => by have := e.2; omega, hB, fun k hk hsk => ?_⟩, hfo⟩
  rcases hb k hk with h | h
  · exact hs k h hsk
  · have := hS k hsk; omega
theorem appendS {w wr : World} {gd : Nat} {p : PD} {S : Nat → Prop} (h : AtS w wr gd p S) (hS : ∀ k, S k → k < wr.heap.size) (k : Bs) (hk : k.length ≤ maxLen) (A : Option Addr) (n c : Nat) (d : Bs) (hn : n = d.length) (hr : Rd wr A (cb d)) (hA : A = none → c = 0) (hd : d.length ≤ maxLen) :
    Calls Tryz.prog 94 #[.pointer (some ⟨gd, 0, none⟩), .string (bstr k), .slice A n c] wr fun e w' => e = .returned (.int .i64 (pAppend p k d).2) ∧ AtS w w' gd (pAppend p k d).1 S ∧ Fr (Loose w S) wr w' := by
  obtain ⟨B, m, rfl, hdk, hw, hB, hs⟩ := h
  exact (append_any wr B gd m hdk k hk A n c d hn hr hA hd).mono fun e w' hp => AtS.step hdk hw hB hs hS hp
theorem syncS {w wr : World} {gd : Nat} {p : PD} {S : Nat → Prop} (h : AtS w wr gd p S) (hS : ∀ k, S k → k < wr.heap.size) (k : Bs) (hk : k.length ≤ maxLen) :
    Calls Tryz.prog 96 #[.pointer (some ⟨gd, 0, none⟩), .string (bstr k)] wr fun e w' => e = .returned (.int .i64 (pSync p k).2) ∧ AtS w w' gd (pSync p k).1 S ∧ Fr (Loose w S) wr w' := by
  obtain ⟨B, m, rfl, hdk, hw, hB, hs⟩ := h
  exact (sync_any wr B gd m hdk k hk).mono fun e w' hp => AtS.step hdk hw hB hs hS hp
theorem readS {w wr : World} {gd : Nat} {p : PD} {S : Nat → Prop} (h : AtS w wr gd p S) (k : Bs) (hk : k.length ≤ maxLen) :
    Calls Tryz.prog 36 #[.pointer (some ⟨gd, 0, none⟩), .string (bstr k)] wr (ReadPost wr (pRead p k)) := by
  obtain ⟨B, m, rfl, hdk, hw, hB, hs⟩ := h
  exact read_any wr B gd m hdk k hk
theorem usedS {w wr : World} {gd : Nat} {p : PD} {S : Nat → Prop} (h : AtS w wr gd p S) :
    Calls Tryz.prog 130 #[.pointer (some ⟨gd, 0, none⟩)] wr fun e w' => e = .returned (.int .i64 (ptotal p.files)) ∧ Fr NoBlk wr w' := by
  obtain ⟨B, m, hp, hdk, hw, hB, hs⟩ := h
  exact used_at ⟨m, hp, hdk, hw, hB⟩
theorem namesS {w wr : World} {gd : Nat} {p : PD} {S : Nat → Prop} (h : AtS w wr gd p S) :
    Calls Tryz.prog 35 #[.pointer (some ⟨gd, 0, none⟩)] wr (NamesAt wr (p.files.map (·.name))) := by
  obtain ⟨B, m, hp, hdk, hw, hB, hs⟩ := h
  exact names_at ⟨m, hp, hdk, hw, hB⟩
theorem crashS {w wr : World} {gd : Nat} {p : PD} {S : Nat → Prop} (h : AtS w wr gd p S) (K : Option Addr) (n c : Nat) (ks : List Int) (hn : n = ks.length) (hr : Rd wr K (ics ks)) (hd : ks.length ≤ maxLen) :
    Calls Tryz.prog 17 #[.pointer (some ⟨gd, 0, none⟩), .slice K n c] wr fun e w' => ∃ gd', e = .returned (.pointer (some ⟨gd', 0, none⟩)) ∧ (∀ S', (∀ k, S' k → k < wr.heap.size) → AtS w w' gd' (pCrash p ks) S') ∧ Fr NoBlk wr w' := by
  obtain ⟨B, m, hp, hdk, hw, hB, hs⟩ := h
  refine (crash_at ⟨m, hp, hdk, hw, hB⟩ K n c ks hn hr hd).mono fun e w' ⟨gd', he, ⟨m', hp', hd', hw', hB'⟩, hf⟩ => ⟨gd', he, fun S' hS' => ⟨_, m', hp', hd', hw', hB', fun k hk hs' => ?_⟩, hf⟩
  have := (hd'.blk hk).1
  have := hS' k hs'
  omega
theorem AtS.fits {w wr : World} {gd : Nat} {p : PD} {S : Nat → Prop} (h : AtS w wr gd p S) : ptotal p.files ≤ p.room ∧ p.room ≤ 1048576 ∧ p.files.length ≤ 32 ∧ (p.files.map (·.name)).Nodup ∧ ∀ f ∈ p.files, f.last ≤ f.data.length := by
  obtain ⟨B, m, hp, hdk, hw, hB, hs⟩ := h
  exact At.fits ⟨m, hp, hdk, hw, hB⟩
theorem AtS.names {w wr : World} {gd : Nat} {p : PD} {S : Nat → Prop} (h : AtS w wr gd p S) : ∀ f ∈ p.files, f.name.length ≤ 16 := by
  obtain ⟨B, m, hp, hdk, hw, hB, hs⟩ := h
  exact At.names ⟨m, hp, hdk, hw, hB⟩
end Go.Proofs.YtafiokabnlmgpaaGreatDoor
