/- The document's list of keys and values in memory: Place, Get, First. Conditions: at most 100000 keys. -/
import Derived.Test.YtcpgonioobgpoaaN8S
import Derived.Test.YtcpgonioobgpoaaP4
import Derived.Deep.AppendLies
import Derived.Maps.AppendAt
import Derived.Laws.OwnMore
namespace Go.Proofs.Ytcpgonioobgpoaa
open Go.RowKit
section
variable {K V : Type} {lt : K → K → Bool}
theorem IsAt.set (L : Lin lt) {xs : List (K × V)} {key : K} {i : Nat} {u v : V} (_h : IsAt lt xs key i) (hu : UpI lt xs) (hx : xs[i]? = some (key, u)) : putL lt key v xs = xs.set i (key, v) := by
  have hi := (List.getElem?_eq_some_iff.1 hx).1
  have e := list_mid hx
  have hu2 : UpI lt (xs.take i ++ [(key, u)] ++ xs.drop (i + 1)) := by rw [List.append_assoc]; show UpI lt (xs.take i ++ (key, u) :: xs.drop (i + 1)); rw [← e]; exact hu
  obtain ⟨h1, h2⟩ := up_mid L hu2
  have h3 := putL_mid L (M := [(key, u)]) (v := v) h1 h2
  rw [putL_at L, List.append_assoc, List.append_assoc] at h3
  have e2 : xs.take i ++ ([(key, u)] ++ xs.drop (i + 1)) = xs := e.symm
  rw [e2] at h3
  rw [h3, List.set_eq_take_append_cons_drop, if_pos hi]
  rfl
theorem IsAt.lk_yes (z : V) {xs : List (K × V)} {key : K} {i : Nat} {u : V} (hx : xs[i]? = some (key, u)) : Lk z key xs true u := .inl ⟨rfl, List.mem_of_getElem? hx⟩
theorem IsAt.lk_no (L : Lin lt) (z : V) {xs : List (K × V)} {key : K} {i : Nat} (h : IsAt lt xs key i) (hu : UpI lt xs) (hn : ¬ ∃ v, xs[i]? = some (key, v)) : Lk z key xs false z := .inr ⟨rfl, rfl, fun u => h.no L hu hn u⟩
end

/-- block g is the document's tree of xs; its items lie in a row of their own, behind base. -/
structure RT (w : World) (base g : Nat) (A : Option Addr) (c : Nat) (xs : List ItS) : Prop where
  bk : Bk w g 30 #[.slice A xs.length c]
  gb : base ≤ g
  row : RowW w base 43 2 (.slice A xs.length c) xs.length (itsS xs)
/-- the blocks that the document's calls may turn. -/
def rtO (g : Nat) (A : Option Addr) (b : Nat) : Prop := b = g ∨ ablk A b
section
variable {w w' : World} {base g c : Nat} {A : Option Addr} {xs : List ItS} {C : Nat → Prop}
theorem RT.fr (h : RT w base g A c xs) (hf : Fr C w w') (hn : ∀ b, rtO g A b → ¬ C b) : RT w' base g A c xs :=
  ⟨h.bk.fr hf (hn _ (.inl rfl)), h.gb, h.row.fr hf fun k hk => hn k (.inr (own_ablk hk))⟩
theorem RT.nofr (h : RT w base g A c xs) (hf : Fr NoBlk w w') : RT w' base g A c xs := h.fr hf fun _ _ e => e
theorem RT.lt (h : RT w base g A c xs) {b : Nat} (hb : rtO g A b) : base ≤ b ∧ b < w.heap.size := by
  rcases hb with rfl | hb
  · exact ⟨h.gb, h.bk.lt⟩
  · exact h.row.lt (ablk_own hb)
theorem RT.ne (h : RT w base g A c xs) : ¬ ablk A g := fun e => h.row.ne_ h.bk (by decide) e
end
def RPut (w w' : World) (base g : Nat) (A : Option Addr) (xs : List ItS) : Prop := ∃ A' c', RT w' base g A' c' xs ∧ Stp w w' (rtO g A) (rtO g A')

set_option maxRecDepth 100000 in
set_option maxHeartbeats 1000000 in
theorem rplace_any (w : World) (base g : Nat) (A : Option Addr) (c : Nat) (xs : List ItS) (h : RT w base g A c xs) (hu : UpI Op.bytesLess xs) (hn : xs.length ≤ 100000) (key : Bs) :
    Calls Try.prog 21 #[.pointer (some ⟨g, 0, none⟩), .string (bstr key)] w (FindSPost w xs key) := by
  have c1 : w.cell? ⟨g, 0, none⟩ = some (.slice A xs.length c) := h.bk.cell 0
  have HR := Lib.hid h.row.rd
  have HU := Lib.hid hu
  obtain ⟨n, hnn⟩ : ∃ n, n = xs.length := ⟨_, rfl⟩
  rw [← hnn] at c1 hn
  have HN := Lib.hid hnn
  clear h hu hnn
  go_enter Try.func21, Try.ntmps21
  go_wp2_with fail
  go_loop [6] (fun z => ∃ k : Nat, k ≤ n ∧ z = .int .i64 k ∧ Hid (∀ t y, t < k → xs[t]? = some y → Op.bytesLess y.1 key = true)) (fun z => n - (intOf z).toNat)
  case atStart => exact ⟨0, by omega, rfl, fun t y h1 => absurd h1 (by omega)⟩
  case round =>
    obtain ⟨k, hk, rfl, HL⟩ := hrel
    have e3 := bstr_toList key
    have hwr : IntKind.i64.wrap ((k : Int) + 1) = (k : Int) + 1 := IntWalk.i64_in _ (by omega)
    by_cases hlt : k < n
    · obtain ⟨x, hx⟩ : ∃ x, xs[k]? = some x := ⟨_, List.getElem?_eq_getElem (by rw [← HN.out]; exact hlt)⟩
      obtain ⟨b, o, rfl, d0, d1⟩ := HR.out.itS hx
      have HX := Lib.hid hx
      clear hx d1
      obtain ⟨xk, xv⟩ := x
      dsimp only at d0
      have e4 := bstr_toList xk
      have hki : (k : Int) < (n : Int) := by omega
      cases hc : Op.bytesLess xk key with
      | true =>
        have HY : Hid (∀ t y, t < k + 1 → xs[t]? = some y → Op.bytesLess y.1 key = true) := below_more linS HU.out HX.out hc
        go_wp2_with fail
        go_round
        case rel => exact ⟨k + 1, by omega, by go_num, HY⟩
        case measure => simp [intOf]; omega
      | false =>
        have HIS : Hid (IsAt Op.bytesLess xs key k) := ⟨by rw [← HN.out]; exact hk, HL.out, above_more linS HU.out HX.out hc⟩
        have hdk : decide (k < n) = true := decide_eq_true hlt
        go_wp2_with fail
        go_quiet (fail)
        go_wp2_with fail
        go_ret2
        refine ⟨k, xk == key, rfl, HIS.out, ?_, (Fr.refl _ _).drewN _⟩
        rw [beq_iff_eq, HX.out]
        exact ⟨fun e => ⟨xv, by rw [e]⟩, fun ⟨v, e⟩ => by injection e with e; injection e⟩
    · have hkn : k = n := by omega
      have HIS : Hid (IsAt Op.bytesLess xs key k) := ⟨by rw [← HN.out]; exact hk, HL.out, fun t y h1 h2 => by have := (List.getElem?_eq_some_iff.1 h2).1; rw [← HN.out] at this; omega⟩
      have HNO : Hid (xs[k]? = none) := List.getElem?_eq_none (by rw [← HN.out]; omega)
      have hki : ¬ (k : Int) < (n : Int) := by omega
      have hdk : decide (k < n) = false := decide_eq_false hlt
      clear hkn
      go_wp2_with fail
      go_quiet (fail)
      go_wp2_with fail
      go_ret2
      refine ⟨k, false, rfl, HIS.out, ?_, (Fr.refl _ _).drewN _⟩
      rw [HNO.out]
      exact ⟨fun e => (by cases e), fun ⟨v, e⟩ => by cases e⟩

set_option maxRecDepth 100000 in
set_option maxHeartbeats 1000000 in
theorem rget_any (w : World) (base g : Nat) (A : Option Addr) (c : Nat) (xs : List ItS) (h : RT w base g A c xs) (hu : UpI Op.bytesLess xs) (hn : xs.length ≤ 100000) (key : Bs) :
    Calls Try.prog 15 #[.pointer (some ⟨g, 0, none⟩), .string (bstr key)] w fun e w' => ∃ v had, e = .returned (.tuple #[.int .i64 v, .bool had]) ∧ Lk (0 : Int) key xs had v ∧ Fr NoBlk w w' := by
  have HP := Lib.hid (rplace_any w base g A c xs h hu hn key)
  have HH := Lib.hid h
  have HU := Lib.hid hu
  obtain ⟨n, hnn⟩ : ∃ n, n = xs.length := ⟨_, rfl⟩
  have HN := Lib.hid hnn
  clear h hu hn hnn
  go_enter Try.func15, Try.ntmps15
  go_wp2_with fail
  refine HP.out.mono ?_
  clear HP
  rintro e w1 ⟨i, fd, rfl, hi, hfd, hf⟩
  have HF := Lib.hid hf
  have HI := Lib.hid hi
  have H1 := Lib.hid (HH.out.nofr hf)
  cases fd with
  | false =>
    have HNO : Hid (¬ ∃ v, xs[i]? = some (key, v)) := fun h => by have := hfd.2 h; cases this
    clear hi hfd hf
    go_wp2_with fail
    go_ret2
    exact ⟨0, false, rfl, HI.out.lk_no linS 0 HU.out HNO.out, HF.out⟩
  | true =>
    obtain ⟨u, hx⟩ := hfd.1 rfl
    have hin : i < n := by rw [HN.out]; exact (List.getElem?_eq_some_iff.1 hx).1
    have c1 : w1.cell? ⟨g, 0, none⟩ = some (.slice A n c) := by rw [HN.out]; exact H1.out.bk.cell 0
    obtain ⟨b, o, rfl, d0, d1⟩ := H1.out.row.rd.itS hx
    have HX := Lib.hid hx
    dsimp only at d1
    clear hi hfd hf hx d0
    go_wp2_with fail
    go_ret2
    exact ⟨u, true, rfl, IsAt.lk_yes 0 HX.out, HF.out⟩

set_option maxRecDepth 100000 in
set_option maxHeartbeats 1000000 in
theorem rfirst_any (w : World) (base g : Nat) (A : Option Addr) (c : Nat) (xs : List ItS) (h : RT w base g A c xs) (hu : UpI Op.bytesLess xs) (hn : xs.length ≤ 100000) (key : Bs) :
    Calls Try.prog 19 #[.pointer (some ⟨g, 0, none⟩), .string (bstr key)] w (TreeFirstS w xs key) := by
  have HP := Lib.hid (rplace_any w base g A c xs h hu hn key)
  have HH := Lib.hid h
  obtain ⟨n, hnn⟩ : ∃ n, n = xs.length := ⟨_, rfl⟩
  have HN := Lib.hid hnn
  clear h hu hn hnn
  go_enter Try.func19, Try.ntmps19
  go_wp2_with fail
  refine HP.out.mono ?_
  clear HP
  rintro e w1 ⟨i, fd, rfl, hi, _, hf⟩
  have HF := Lib.hid hf
  have HG := Lib.hid (geL_at hi)
  have H1 := Lib.hid (HH.out.nofr hf)
  have c1 : w1.cell? ⟨g, 0, none⟩ = some (.slice A n c) := by rw [HN.out]; exact H1.out.bk.cell 0
  have hle : i ≤ n := by rw [HN.out]; exact hi.le
  clear hi hf
  by_cases hin : i = n
  · have hii : ((i : Int) == (n : Int)) = true := beq_iff_eq.2 (by omega)
    have HZ : Hid (xs.drop i = []) := List.drop_eq_nil_of_le (by rw [← HN.out]; omega)
    go_wp2_with fail
    go_ret2
    exact ⟨[], false, rfl, .inr ⟨rfl, rfl, by rw [HG.out, HZ.out]⟩, HF.out⟩
  · have hii : ((i : Int) == (n : Int)) = false := beq_eq_false_iff_ne.2 (by omega)
    have hlt : i < n := by omega
    obtain ⟨x, hx⟩ : ∃ x, xs[i]? = some x := ⟨_, List.getElem?_eq_getElem (by rw [← HN.out]; exact hlt)⟩
    obtain ⟨b, o, rfl, d0, d1⟩ := H1.out.row.rd.itS hx
    have HX := Lib.hid hx
    obtain ⟨xk, xv⟩ := x
    dsimp only at d0
    clear hx d1
    go_wp2_with fail
    go_ret2
    refine ⟨xk, true, rfl, .inl ⟨rfl, xv, xs.drop (i + 1), ?_⟩, HF.out⟩
    rw [HG.out]
    obtain ⟨hl, he⟩ := List.getElem?_eq_some_iff.1 HX.out
    rw [← he]
    exact List.drop_eq_getElem_cons hl
end Go.Proofs.Ytcpgonioobgpoaa
