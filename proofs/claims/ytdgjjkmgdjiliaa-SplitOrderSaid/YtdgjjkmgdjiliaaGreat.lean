/- The document's Great: where it answers false a transaction is small. No condition but lengths. -/
import Derived.Test.YtdgjjkmgdjiliaaRight
namespace Go.Proofs.Ytdgjjkmgdjiliaa
open Go.RowKit

structure Small (t : Tx) : Prop where
  r : t.reads.length ≤ 40
  w : t.writes.length ≤ 40
  o : t.ops.length ≤ 60
  rk : ∀ k ∈ t.reads, k.length ≤ 200
  wk : ∀ k ∈ t.writes, k.length ≤ 200
  ok : ∀ x ∈ t.ops, x.key.length ≤ 200 ∧ x.val.2.2.length ≤ 200
def GreatPost (t : Tx) (e : Ending) : Prop := ∃ b, e = .returned (.bool b) ∧ (b = false → Small t)

theorem getD_mem {xs : List Bs} {k : Nat} (h : k < xs.length) : xs.getD k [] ∈ xs := by
  rw [List.getD_eq_getElem?_getD, List.getElem?_eq_getElem h]
  exact List.getElem_mem h
theorem all_of_getD {xs : List Bs} {P : Bs → Prop} (h : ∀ j, j < xs.length → P (xs.getD j [])) : ∀ k ∈ xs, P k := by
  intro k hk
  obtain ⟨j, hj, rfl⟩ := List.getElem_of_mem hk
  have := h j hj
  rwa [List.getD_eq_getElem?_getD, List.getElem?_eq_getElem hj] at this

set_option maxRecDepth 100000 in
set_option maxHeartbeats 1000000 in
theorem great_any (w : World) (t : Tx) (ht : TxIn w t) :
    Calls Try.prog 45 #[txv t] w fun e w' => GreatPost t e ∧ Fr NoBlk w w' := by
  have HF : Hid (Fr NoBlk w (w.alloc (.cells (txa t) 35))) := (Fr.refl _ _).alloc _
  have HT := Lib.hid (ht.nofr HF.out)
  have HB := Lib.hid (Bk.new w 35 (txa t))
  obtain ⟨W, hW⟩ : ∃ W, W = w.alloc (.cells (txa t) 35) := ⟨_, rfl⟩
  have hl1 : t.reads.length ≤ 9223372036854775807 := Nat.le_trans ht.rl.1 ht.rl.2.1
  have hl2 : t.writes.length ≤ 9223372036854775807 := Nat.le_trans ht.wl.1 ht.wl.2.1
  have hl3 : t.ops.length ≤ 9223372036854775807 := Nat.le_trans ht.ol.1 ht.ol.2.1
  clear ht
  by_cases h1 : 40 < t.reads.length
  · clear HT HB hW
    unfold txa at HF
    unfold txv txa
    go_enter Try.func45, Try.ntmps45
    go_wp2_with fail
    go_ret
    exact ⟨⟨true, rfl, fun h => by cases h⟩, HF.out⟩
  by_cases h2 : 40 < t.writes.length
  · clear HT HB hW
    unfold txa at HF
    unfold txv txa
    go_enter Try.func45, Try.ntmps45
    go_wp2_with fail
    go_ret
    exact ⟨⟨true, rfl, fun h => by cases h⟩, HF.out⟩
  by_cases h3 : 60 < t.ops.length
  · clear HT HB hW
    unfold txa at HF
    unfold txv txa
    go_enter Try.func45, Try.ntmps45
    go_wp2_with fail
    go_ret
    exact ⟨⟨true, rfl, fun h => by cases h⟩, HF.out⟩
  rw [← hW] at HF HT HB
  unfold txa at hW
  unfold txv txa
  have HG := Lib.hid hW
  have q1 : W.cell? ⟨w.heap.size, 1, none⟩ = some (.slice t.ra t.reads.length t.rc) := HB.out.cell 1
  have q2 : W.cell? ⟨w.heap.size, 2, none⟩ = some (.slice t.wa t.writes.length t.wc) := HB.out.cell 2
  have q3 : W.cell? ⟨w.heap.size, 3, none⟩ = some (.slice t.oa t.ops.length t.oc) := HB.out.cell 3
  clear hW
  go_enter Try.func45, Try.ntmps45
  go_wp2_with fail
  rw [← HG.out]
  go_loop [3] (fun z => ∃ k : Nat, k ≤ t.reads.length ∧ z = .int .i64 k ∧ Hid (∀ j, j < k → (t.reads.getD j []).length ≤ 200)) (fun z => t.reads.length - (intOf z).toNat)
  case atStart => exact ⟨0, by omega, rfl, (fun j h1 => absurd h1 (by omega))⟩
  case round =>
    obtain ⟨k, hk, rfl, HL⟩ := hrel
    by_cases hlt : k < t.reads.length
    · obtain ⟨b, o, hA, hc1⟩ := HT.out.reads.text (k := k) hlt
      rw [hA] at q1
      have HA := Lib.hid hA
      clear hA
      have hm : (t.reads.getD k []).length ≤ 9223372036854775807 := HT.out.texts.1 _ (getD_mem hlt)
      have HX : Hid ((t.reads.getD k []).length ≤ 200 → ∀ j, j < k + 1 → (t.reads.getD j []).length ≤ 200) := by
        intro h j hj2
        by_cases e : j = k
        · subst e; exact h
        · exact HL.out j (by omega)
      generalize t.reads.getD k [] = y at *
      have e4 := bstr_size y
      by_cases hb : 200 < y.length
      · go_wp2_with fail
        go_ret
        exact ⟨⟨true, rfl, fun h => by cases h⟩, HF.out⟩
      · have HY := Lib.hid (HX.out (by omega))
        go_wp2_with fail
        go_round
        case rel => exact ⟨k + 1, by omega, by go_num, HY⟩
        case measure => simp [intOf]; omega
    · have HZ : Hid (∀ k ∈ t.reads, k.length ≤ 200) := all_of_getD fun j hj => HL.out j (by omega)
      clear HL
      go_wp2_with fail
      go_loop [4] (fun z => ∃ k : Nat, k ≤ t.writes.length ∧ z = .int .i64 k ∧ Hid (∀ j, j < k → (t.writes.getD j []).length ≤ 200)) (fun z => t.writes.length - (intOf z).toNat)
      case atStart => exact ⟨0, by omega, rfl, (fun j h1 => absurd h1 (by omega))⟩
      case round =>
        obtain ⟨m, hmm, rfl, HL⟩ := hrel
        by_cases hlt2 : m < t.writes.length
        · obtain ⟨b, o, hA, hc1⟩ := HT.out.writes.text (k := m) hlt2
          rw [hA] at q2
          have HA := Lib.hid hA
          clear hA
          have hm : (t.writes.getD m []).length ≤ 9223372036854775807 := HT.out.texts.2 _ (getD_mem hlt2)
          have HX : Hid ((t.writes.getD m []).length ≤ 200 → ∀ j, j < m + 1 → (t.writes.getD j []).length ≤ 200) := by
            intro h j hj2
            by_cases e : j = m
            · subst e; exact h
            · exact HL.out j (by omega)
          generalize t.writes.getD m [] = y at *
          have e4 := bstr_size y
          by_cases hb : 200 < y.length
          · go_wp2_with fail
            go_ret
            exact ⟨⟨true, rfl, fun h => by cases h⟩, HF.out⟩
          · have HY := Lib.hid (HX.out (by omega))
            go_wp2_with fail
            go_round
            case rel => exact ⟨m + 1, by omega, by go_num, HY⟩
            case measure => simp [intOf]; omega
        · have HZ2 : Hid (∀ k ∈ t.writes, k.length ≤ 200) := all_of_getD fun j hj => HL.out j (by omega)
          clear HL
          go_wp2_with fail
          go_loop [5] (fun z => ∃ k : Nat, k ≤ t.ops.length ∧ z = .int .i64 k ∧ Hid (∀ j x, j < k → t.ops[j]? = some x → x.key.length ≤ 200 ∧ x.val.2.2.length ≤ 200)) (fun z => t.ops.length - (intOf z).toNat)
          case atStart => exact ⟨0, by omega, rfl, (fun j _ h1 => absurd h1 (by omega))⟩
          case round =>
            obtain ⟨i, hi, rfl, HL⟩ := hrel
            by_cases hlt3 : i < t.ops.length
            · obtain ⟨x, hx⟩ : ∃ x, t.ops[i]? = some x := ⟨_, List.getElem?_eq_getElem hlt3⟩
              obtain ⟨b, o, hA, c0, c1, c2, c3⟩ := HT.out.ops.opn hx
              rw [hA] at q3
              have HA := Lib.hid hA
              clear hA
              have hv := HT.out.vals x (List.mem_of_getElem? hx)
              have hm1 : x.key.length ≤ 9223372036854775807 := hv.2.2.2
              have hm2 : x.val.2.2.length ≤ 9223372036854775807 := Nat.le_trans hv.2.1 hv.2.2.1
              have HX : Hid (x.key.length ≤ 200 → x.val.2.2.length ≤ 200 → ∀ j y, j < i + 1 → t.ops[j]? = some y → y.key.length ≤ 200 ∧ y.val.2.2.length ≤ 200) := by
                intro h h' j y hj2 hy
                by_cases e : j = i
                · subst e; rw [hx] at hy; injection hy with hy; subst hy; exact ⟨h, h'⟩
                · exact HL.out j y (by omega) hy
              clear hx hv
              obtain ⟨kind, key, ⟨va, vc, vb⟩, nn⟩ := x
              unfold st at c1
              unfold sl at c2
              dsimp only at c0 c1 c2 c3 hm1 hm2 HX
              have e4 := bstr_size key
              generalize vb.length = vl at *
              by_cases hb : 200 < key.length
              · go_wp2_with fail
                go_ret
                exact ⟨⟨true, rfl, fun h => by cases h⟩, HF.out⟩
              by_cases hb2 : 200 < vl
              · go_wp2_with fail
                go_ret
                exact ⟨⟨true, rfl, fun h => by cases h⟩, HF.out⟩
              · have HY := Lib.hid (HX.out (by omega) (by omega))
                go_wp2_with fail
                go_round
                case rel => exact ⟨i + 1, by omega, by go_num, HY⟩
                case measure => simp [intOf]; omega
            · have HZ3 : Hid (∀ x ∈ t.ops, x.key.length ≤ 200 ∧ x.val.2.2.length ≤ 200) := by
                intro x hx
                obtain ⟨j, hj, rfl⟩ := List.getElem_of_mem hx
                exact HL.out j _ (by omega) (List.getElem?_eq_getElem hj)
              go_wp2_with fail
              go_ret
              exact ⟨⟨false, rfl, fun _ => ⟨by omega, by omega, by omega, HZ.out, HZ2.out, HZ3.out⟩⟩, HF.out⟩
end Go.Proofs.Ytdgjjkmgdjiliaa
