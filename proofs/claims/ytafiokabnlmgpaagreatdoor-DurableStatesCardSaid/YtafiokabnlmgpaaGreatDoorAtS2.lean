/- Rename, Remove, Limit, New beside other memory of the call's own. Condition: lengths. -/
import Derived.Test.YtafiokabnlmgpaaGreatDoorRename2
import Derived.Test.YtafiokabnlmgpaaGreatDoorAtS
namespace Go.Proofs.YtafiokabnlmgpaaGreatDoor
open Go.RowKit Go.Maps

theorem renameS {w wr : World} {gd : Nat} {p : PD} {S : Nat → Prop} (h : AtS w wr gd p S) (hS : ∀ k, S k → k < wr.heap.size) (k : Bs) (hk : k.length ≤ maxLen) (tt : Bs) (ht : tt.length ≤ maxLen) :
    Calls Tryz.prog 97 #[.pointer (some ⟨gd, 0, none⟩), .string (bstr k), .string (bstr tt)] wr fun e w' => e = .returned (.int .i64 (pRename p k tt).2) ∧ AtS w w' gd (pRename p k tt).1 S ∧ Fr (Loose w S) wr w' := by
  obtain ⟨B, m, rfl, hdk, hw, hB, hs⟩ := h
  exact (rename_any wr B gd m hdk k hk tt ht).mono fun e w' hp => AtS.step hdk hw hB hs hS hp
theorem removeS {w wr : World} {gd : Nat} {p : PD} {S : Nat → Prop} (h : AtS w wr gd p S) (hS : ∀ k, S k → k < wr.heap.size) (k : Bs) (hk : k.length ≤ maxLen) :
    Calls Tryz.prog 93 #[.pointer (some ⟨gd, 0, none⟩), .string (bstr k)] wr fun e w' => e = .returned (.int .i64 (pRemove p k).2) ∧ AtS w w' gd (pRemove p k).1 S ∧ Fr (Loose w S) wr w' := by
  obtain ⟨B, m, rfl, hdk, hw, hB, hs⟩ := h
  exact (remove_any wr B gd m hdk k hk).mono fun e w' hp => AtS.step hdk hw hB hs hS hp
theorem limitS {w wr : World} {gd : Nat} {p : PD} {S : Nat → Prop} (h : AtS w wr gd p S) (z : Int) (hz : -9223372036854775808 ≤ z ∧ z ≤ 9223372036854775807) :
    Calls Tryz.prog 15 #[.pointer (some ⟨gd, 0, none⟩), .int .i64 z] wr fun e w' => e = .returned (.tuple #[]) ∧ AtS w w' gd { p with left := z } S ∧ Fr (Loose w S) wr w' := by
  obtain ⟨B, m, rfl, hdk, hw, hB, hs⟩ := h
  refine (limit_any wr B gd m hdk z hz).mono fun e w' ⟨he, hd, hf⟩ => ?_
  have hbd := hdk.bd
  have hfo : Fr (Loose w S) wr w' := hf.mono fun k _ hk => by
    subst hk
    exact ⟨hs _ (.inl rfl), by omega⟩
  exact ⟨he, ⟨B, { m with left := z }, rfl, hd, hw.step hfo fun i hi e => by have := e.2; omega, hB, fun k hk => hs k hk⟩, hfo⟩
end Go.Proofs.YtafiokabnlmgpaaGreatDoor
