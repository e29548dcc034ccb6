/- The program's Check of an order. Conditions: the order is small. -/
import Derived.Test.YtakbjjohfcgaoaaCheck
import Derived.Test.YtakbjjohfcgaoaaKeys
import Derived.Test.YtakbjjohfcgaoaaOrd
import Derived.Deep.RegionHeld3
namespace Go.Proofs.Ytakbjjohfcgaoaa
open Go.RowKit

def keysOf (rs ws : List Bs) : List Bs := Lib.compact ((rs ++ ws).mergeSort leS)
theorem keysOf_is (rs ws : List Bs) : IsKeys (keysOf rs ws) rs ws := compact_keys rs ws
theorem IsKeys.of {ks rs ws : List Bs} (h : IsKeys ks rs ws) : ks = keysOf rs ws := h.unique (keysOf_is rs ws)
theorem keysOf_len (rs ws : List Bs) : (keysOf rs ws).length ≤ rs.length + ws.length := by
  have h := Lib.compact_length_le ((rs ++ ws).mergeSort leS)
  rw [List.length_mergeSort, List.length_append] at h
  exact h
theorem keysOf_mem {rs ws : List Bs} {k : Bs} (h : k ∈ keysOf rs ws) : k ∈ rs ∨ k ∈ ws := ((keysOf_is rs ws).2 k).1 h

/-- is a tag one of a submission's tries. -/
def tagR (o : Od) : Bool := decide (0 ≤ o.node) && decide (o.node < 9) && decide (0 < o.epoch) && decide (0 < o.seq) && decide (0 ≤ o.tr) && decide (o.tr < 3)
def TagR (o : Od) : Prop := 0 ≤ o.node ∧ o.node < 9 ∧ 0 < o.epoch ∧ 0 < o.seq ∧ 0 ≤ o.tr ∧ o.tr < 3
theorem tagR_iff (o : Od) : tagR o = true ↔ TagR o := by
  unfold tagR TagR
  simp only [Bool.and_eq_true, decide_eq_true_eq, and_assoc]
/-- has a key its mark, with a home that there is. -/
def okM (r : Int) (m : Mk) (k : Bs) : Bool := (m.key == k) && decide (0 ≤ m.home) && decide (m.home < r)
def zipB (p : Mk → Bs → Bool) (ms : List Mk) (ks : List Bs) : Bool := decide (ms.length = ks.length) && (ms.zip ks).all fun x => p x.1 x.2
theorem zipB_len {p : Mk → Bs → Bool} {ms : List Mk} {ks : List Bs} (h : ms.length ≠ ks.length) : zipB p ms ks = false := by
  unfold zipB
  rw [decide_eq_false h]; rfl
theorem zipB_no {p : Mk → Bs → Bool} {ms : List Mk} {ks : List Bs} {j : Nat} {m : Mk} {k : Bs} (hm : ms[j]? = some m) (hk : ks[j]? = some k) (h : p m k = false) : zipB p ms ks = false := by
  unfold zipB
  have : (ms.zip ks).all (fun x => p x.1 x.2) = false := by
    rw [List.all_eq_false]
    refine ⟨(m, k), List.mem_of_getElem? (i := j) ?_, by simp [h]⟩
    rw [List.getElem?_zip_eq_some]
    exact ⟨hm, hk⟩
  rw [this, Bool.and_false]
theorem zipB_yes {p : Mk → Bs → Bool} {ms : List Mk} {ks : List Bs} (hl : ms.length = ks.length) (h : ∀ (j : Nat) (m : Mk) (k : Bs), ms[j]? = some m → ks[j]? = some k → p m k = true) : zipB p ms ks = true := by
  unfold zipB
  rw [decide_eq_true hl, Bool.true_and, List.all_eq_true]
  rintro ⟨m, k⟩ hx
  obtain ⟨j, hj, e⟩ := List.getElem_of_mem hx
  have h2 : (ms.zip ks)[j]? = some (m, k) := by rw [List.getElem?_eq_getElem hj, e]
  rw [List.getElem?_zip_eq_some] at h2
  exact h j m k h2.1 h2.2
theorem zipB_at {p : Mk → Bs → Bool} {ms : List Mk} {ks : List Bs} (h : zipB p ms ks = true) : ms.length = ks.length ∧ ∀ (j : Nat) (m : Mk) (k : Bs), ms[j]? = some m → ks[j]? = some k → p m k = true := by
  unfold zipB at h
  rw [Bool.and_eq_true, decide_eq_true_eq, List.all_eq_true] at h
  refine ⟨h.1, fun j m k hm hk => h.2 (m, k) (List.mem_of_getElem? (i := j) ?_)⟩
  rw [List.getElem?_zip_eq_some]
  exact ⟨hm, hk⟩
def marksR (o : Od) (r : Int) : Bool := zipB (okM r) o.marks (keysOf o.t.reads o.t.writes)
def orderR (o : Od) (r : Int) : Bool := rightR o.t r && (tagR o && marksR o r)

set_option maxRecDepth 100000 in
set_option maxHeartbeats 2000000 in
theorem rightTag_any (w : World) (o : Od) :
    Calls Try.prog 27 #[.agg #[.int .i64 o.node, .int .u64 (o.epoch : Int), .int .u64 (o.seq : Int), .int .i64 o.tr]] w fun e w' => e = .returned (.bool (tagR o)) ∧ Fr NoBlk w w' := by
  have HF : Hid (Fr NoBlk w (w.alloc (.cells #[.int .i64 o.node, .int .u64 (o.epoch : Int), .int .u64 (o.seq : Int), .int .i64 o.tr] 26))) := (Fr.refl _ _).alloc _
  have HT := Lib.hid (tagR_iff o)
  unfold TagR at HT
  generalize tagR o = res at *
  generalize o.node = node at *
  generalize o.epoch = epoch at *
  generalize o.seq = seq at *
  generalize o.tr = tr at *
  go_enter Try.func27, Try.ntmps27
  go_wp2_with fail
  all_goals
    go_ret
    refine ⟨ret_bool ?_, HF.out⟩
    have hT := HT.out
    clear HT HF
    go_light
    first
      | (symm; rw [hT]; omega)
      | (symm; rw [Bool.eq_false_iff]; intro h; rw [hT] at h; omega)
      | (cases res <;> simp_all <;> omega)

set_option maxRecDepth 100000 in
set_option maxHeartbeats 2000000 in
theorem okM_any (w : World) (m : Mk) (k : Bs) (g : Nat) (T : TypeId) (r : Int) (hb : Bk w g T #[.int .i64 r]) :
    Calls Try.prog 47 #[mkv m, .string (bstr k), .pointer (some ⟨g, 0, none⟩)] w fun e w' => e = .returned (.bool (okM r m k)) ∧ Fr NoBlk w w' := by
  have HF : Hid (Fr NoBlk w (w.alloc (.cells #[st m.key, .int .i64 m.home, .int .u64 (m.count : Int)] 44))) := (Fr.refl _ _).alloc _
  have hg : g ≠ w.heap.size := Nat.ne_of_lt hb.lt
  have c0 : (w.alloc (.cells #[st m.key, .int .i64 m.home, .int .u64 (m.count : Int)] 44)).cell? ⟨g, 0, none⟩ = some (.int .i64 r) := (hb.alloc _).cell 0
  have HD : Hid (okM r m k = ((m.key == k) && decide (0 ≤ m.home) && decide (m.home < r))) := rfl
  clear hb
  unfold mkv
  unfold st at *
  generalize okM r m k = res at *
  obtain ⟨key, home, count⟩ := m
  dsimp only at *
  have e3 := bstr_toList key
  have e4 := bstr_toList k
  cases hb : key == k
  all_goals
    rw [hb] at HD
    go_enter Try.func47, Try.ntmps47
    go_wp2_with fail
    all_goals
      go_ret
      refine ⟨ret_bool ?_, HF.out⟩
      have hT := HD.out
      clear HD HF c0
      go_light
      first
        | (rw [hT]; simp; done)
        | (rw [hT]; simp; omega)
        | (simp_all; done)
        | (simp_all; omega)

set_option maxRecDepth 100000 in
set_option maxHeartbeats 2000000 in
theorem equalFunc_any (w : World) (A : Option Addr) (n c : Nat) (ms : List Mk) (B : Option Addr) (m d : Nat) (ks : List Bs) (g : Nat) (lb : Array Value) (p : Mk → Bs → Bool)
    (eg : ∀ args w, (callFunc g args).run Try.prog w = .ok (.enter g args) w)
    (hp : ∀ x ∈ ms, ∀ k ∈ ks, ∀ W : World, Fr NoBlk w W → Calls Try.prog g (#[mkv x, .string (bstr k)] ++ lb) W fun e w' => e = .returned (.bool (p x k)) ∧ Fr NoBlk W w')
    (hn : n = ms.length) (hm : m = ks.length) (hr : Rd w A (mksc ms)) (hs : Rd w B (sts ks)) (hx : ms.length ≤ maxLen) :
    Calls Try.prog 45 #[.slice A n c, .slice B m d, .func (.func g) #[] lb] w fun e w' => e = .returned (.bool (zipB p ms ks)) ∧ Fr NoBlk w w' := by
  subst hn hm
  have HR := Lib.hid hr
  have HS := Lib.hid hs
  have HP := Lib.hid hp
  clear hr hs hp
  unfold maxLen at hx
  by_cases hl : ms.length = ks.length
  rotate_left
  · have HZ := Lib.hid (zipB_len (p := p) hl)
    have hb : ((ms.length : Int) != (ks.length : Int)) = true := by rw [bne_iff_ne]; omega
    have hd : (decide (ms.length = ks.length)) = false := by simpa using hl
    clear hl
    go_enter Try.func45, Try.ntmps45
    go_wp2_with fail
    go_ret
    exact ⟨ret_bool HZ.out.symm, Fr.refl _ _⟩
  · have HL := Lib.hid hl
    rw [← hl]
    clear hl
    go_enter Try.func45, Try.ntmps45
    go_wp2_with fail
    go_loopw [17] (fun z wr => ∃ i : Nat, i ≤ ms.length ∧ z = .int .i64 i ∧ Hid (∀ (j : Nat) (x : Mk) (k : Bs), j < i → ms[j]? = some x → ks[j]? = some k → p x k = true) ∧ Hid (Fr NoBlk w wr)) (fun z _ => ms.length - (intOf z).toNat)
    case atStart => exact ⟨0, by omega, rfl, (fun j x k h1 => absurd h1 (by omega)), Fr.refl _ _⟩
    case round =>
      obtain ⟨i, hi, rfl, HE, HF⟩ := hrel
      by_cases hlt : i < ms.length
      · obtain ⟨x, hxm⟩ : ∃ x, ms[i]? = some x := ⟨_, List.getElem?_eq_getElem hlt⟩
        obtain ⟨k, hkk⟩ : ∃ k, ks[i]? = some k := ⟨_, List.getElem?_eq_getElem (by rw [← HL.out]; exact hlt)⟩
        obtain ⟨b, o, rfl, c0, c1, c2⟩ := (HR.out.nofr HF.out).mark hxm
        have HFA := Lib.hid (HF.out.alloc (.cells #[st x.key, .int .i64 x.home, .int .u64 (x.count : Int)] 44))
        obtain ⟨b', o', rfl, d0⟩ := (HS.out.nofr HFA.out).at_ (k := i) (v := st k) (by simp [sts, hkk])
        have HC := Lib.hid (HP.out x (List.mem_of_getElem? hxm) k (List.mem_of_getElem? hkk) _ HFA.out)
        have HN := Lib.hid (zipB_no (p := p) hxm hkk)
        have HX : Hid (p x k = true → ∀ (j : Nat) (x : Mk) (k : Bs), j < i + 1 → ms[j]? = some x → ks[j]? = some k → p x k = true) := by
          intro h j x' k' hj hx' hk'
          by_cases e : j = i
          · subst e
            rw [hxm] at hx'
            rw [hkk] at hk'
            injection hx' with hx'
            injection hk' with hk'
            subst hx' hk'
            exact h
          · exact HE.out j x' k' (by omega) hx' hk'
        have i3 : (i : Int) < (ms.length : Int) := by omega
        clear hxm hkk
        unfold mkv at HC
        unfold st at *
        go_wp2_with fail
        refine HC.out.mono ?_
        rintro e w1 ⟨rfl, hf⟩
        have HG := Lib.hid (HFA.out.trans hf)
        clear hf HC
        cases hb : p x k
        · have HY := Lib.hid (HN.out hb)
          go_wp2_with fail
          go_ret
          exact ⟨ret_bool HY.out.symm, HG.out⟩
        · have HY := Lib.hid (HX.out hb)
          go_wp2_with fail
          go_roundw
          case rel => exact ⟨i + 1, by omega, by go_num, HY, HG⟩
          case measure => simp [intOf]; omega
      · have HZ : Hid (zipB p ms ks = true) := zipB_yes HL.out fun j x k hx hk => HE.out j x k (by have := (List.getElem?_eq_some_iff.1 hx).1; omega) hx hk
        have i3 : (ms.length : Int) ≤ (i : Int) := by omega
        go_wp2_with fail
        go_ret
        exact ⟨ret_bool HZ.out.symm, HF.out⟩

theorem enters47 : ∀ args w, (callFunc 47 args).run Try.prog w = .ok (.enter 47 args) w := enters_of Try.func47 (by kernel_rfl) rfl

set_option maxRecDepth 100000 in
set_option maxHeartbeats 4000000 in
theorem rightMarks_any (w : World) (o : Od) (r : Int) (ho : OdIn w o) (hr : o.t.reads.length ≤ 1000) (hw : o.t.writes.length ≤ 1000) :
    Calls Try.prog 28 #[odv o, .int .i64 r] w fun e w' => e = .returned (.bool (marksR o r)) ∧ Fr NoBlk w w' := by
  obtain ⟨w1, hw1⟩ : ∃ w1, w1 = (w.alloc (.cells (oda o) 33)).alloc (.cells #[.int .i64 r] 3) := ⟨_, rfl⟩
  have HF : Hid (Fr NoBlk w w1) := by
    show Fr _ _ _
    rw [hw1]
    exact ((Fr.refl _ _).alloc _).alloc _
  have HB : Hid (Bk w1 w.heap.size 33 (oda o)) := by
    show Bk _ _ _ _
    rw [hw1]
    exact (Bk.new w _ _).alloc _
  have HB2 : Hid (Bk w1 (w.heap.size + 1) 3 #[.int .i64 r]) := by
    show Bk _ _ _ _
    rw [hw1]
    exact Bk.new2 w _ _ _
  have K1 := Lib.hid fun W (hf : Fr NoBlk w W) => keys_any W o.t (ho.txn.nofr hf) hr hw
  have K2 := Lib.hid fun W (hf : Fr NoBlk w1 W) B m d ks (hm : m = List.length ks) hs => equalFunc_any W o.ma _ o.mc o.marks B m d ks 47 #[.pointer (some ⟨w.heap.size + 1, 0, none⟩)] (okM r) enters47
    (fun x _ k _ W' hf' => okM_any W' x k (w.heap.size + 1) _ r ((HB2.out.fr hf (fun h => h)).fr hf' (fun h => h))) rfl hm (ho.marks.nofr (HF.out.trans hf)) hs (Nat.le_trans ho.ml.1 ho.ml.2.1)
  have HS0 := Lib.hid fun W (hf : Fr NoBlk w1 W) => (HB.out.fr hf (fun h => h)).ord
  have HD : Hid (marksR o r = zipB (okM r) o.marks (keysOf o.t.reads o.t.writes)) := rfl
  obtain ⟨c0, c1, c2, c3, c4, c5, c6, c7, c8, c9⟩ := HS0.out _ (Fr.refl _ _)
  clear ho hr hw HB HB2 c0 c1 c2 c3
  have HW := Lib.hid hw1
  unfold txv txa at K1
  unfold oda at hw1
  unfold odv oda
  generalize marksR o r = res at *
  go_enter Try.func28, Try.ntmps28
  go_wp2_with fail
  rw [← hw1]
  clear hw1
  have HC : Hid (w1.cell? ⟨w.heap.size, 4, none⟩ = some (.int .i64 o.t.kind) ∧ w1.cell? ⟨w.heap.size, 5, none⟩ = some (.slice o.t.ra o.t.reads.length o.t.rc) ∧ w1.cell? ⟨w.heap.size, 6, none⟩ = some (.slice o.t.wa o.t.writes.length o.t.wc) ∧ w1.cell? ⟨w.heap.size, 7, none⟩ = some (.slice o.t.oa o.t.ops.length o.t.oc) ∧ w1.cell? ⟨w.heap.size, 8, none⟩ = some (.int .i64 o.t.to) ∧ w1.cell? ⟨w.heap.size, 9, none⟩ = some (.slice o.ma o.marks.length o.mc)) := ⟨c4, c5, c6, c7, c8, c9⟩
  clear c4 c5 c6 c7 c8 c9
  go_region_held3 (fun w' => w'.cell? ⟨w.heap.size, 4, none⟩ = some (.int .i64 o.t.kind) ∧ w'.cell? ⟨w.heap.size, 5, none⟩ = some (.slice o.t.ra o.t.reads.length o.t.rc) ∧ w'.cell? ⟨w.heap.size, 6, none⟩ = some (.slice o.t.wa o.t.writes.length o.t.wc) ∧ w'.cell? ⟨w.heap.size, 7, none⟩ = some (.slice o.t.oa o.t.ops.length o.t.oc) ∧ w'.cell? ⟨w.heap.size, 8, none⟩ = some (.int .i64 o.t.to) ∧ w'.cell? ⟨w.heap.size, 9, none⟩ = some (.slice o.ma o.marks.length o.mc))
    ((first | exact hS6 | exact hS5 | exact HC.out))
    (first
      | (go_at_call 46; refine (K1.out _ ?_).mono ?_; exact HF.out.drew; rintro e w5 ⟨A5, c5, ks5, rfl, hk5, ha5⟩; have HK5 := Lib.hid hk5; have HA5 := Lib.hid ha5; have HF5 := Lib.hid (((Fr.refl NoBlk w1).drew).trans ha5.fr); have hS5 := (HS0.out _ HF5.out).2.2.2.2; clear hk5 ha5)
      | (go_at_call 45; refine (K2.out _ HF5.out A5 _ c5 ks5 rfl HA5.out.rd).mono ?_; rintro e w6 ⟨rfl, hf6⟩; have HF6 := Lib.hid (HF5.out.trans hf6); have hS6 := (HS0.out _ HF6.out).2.2.2.2; clear hf6))
  all_goals
    go_wp2_with fail
    go_ret
    exact ⟨ret_bool (by rw [HD.out, ← HK5.out.of]), HF.out.trans HF6.out⟩

set_option maxRecDepth 100000 in
set_option maxHeartbeats 2000000 in
theorem ocheck_any (w : World) (o : Od) (r : Int) (ho : OdIn w o) (hr : o.t.reads.length ≤ 1000) (hw : o.t.writes.length ≤ 1000) :
    Calls Try.prog 12 #[odv o, .int .i64 r] w fun e w' => e = .returned (.int .i64 (codeR (orderR o r))) ∧ Fr NoBlk w w' := by
  have HF : Hid (Fr NoBlk w (w.alloc (.cells (oda o) 33))) := (Fr.refl _ _).alloc _
  have HB := Lib.hid (Bk.new w 33 (oda o))
  have K1 := Lib.hid (check_any _ o.t r (ho.txn.nofr HF.out) hr hw)
  have K2 := Lib.hid fun W => rightTag_any W o
  have K3 := Lib.hid fun W (hf : Fr NoBlk w W) => rightMarks_any W o r (ho.nofr hf) hr hw
  have HD : Hid (orderR o r = (rightR o.t r && (tagR o && marksR o r))) := rfl
  clear ho hr hw
  unfold txv txa at K1
  unfold oda at HF K1
  unfold odv oda at K3
  unfold odv oda
  generalize orderR o r = res at *
  generalize rightR o.t r = b1 at *
  generalize tagR o = b2 at *
  generalize marksR o r = b3 at *
  go_enter Try.func12, Try.ntmps12
  go_wp2_with fail
  refine K1.out.mono ?_
  rintro e w1 ⟨rfl, hf1⟩
  have HF1 := Lib.hid (HF.out.trans hf1)
  have HB1 := Lib.hid (HB.out.fr hf1 (fun h => h))
  clear hf1 K1 HF HB
  cases b1
  · have e0 : codeR false = 1 := rfl
    rw [e0]
    go_wp2_with fail
    go_ret
    exact ⟨by rw [HD.out]; rfl, HF1.out⟩
  have e0 : codeR true = 0 := rfl
  rw [e0]
  obtain ⟨c0, c1, c2, c3, c4, c5, c6, c7, c8, c9⟩ := HB1.out.ord
  go_wp2_with fail
  refine (K2.out _).mono ?_
  rintro e w2 ⟨rfl, hf2⟩
  have HF2 := Lib.hid (HF1.out.trans hf2)
  have HB2 := Lib.hid (HB1.out.fr hf2 (fun h => h))
  clear hf2 HB1 HF1 c0 c1 c2 c3 c4 c5 c6 c7 c8 c9 K2
  cases b2
  · go_wp2_with fail
    go_ret
    exact ⟨by rw [HD.out]; rfl, HF2.out⟩
  obtain ⟨c0, c1, c2, c3, c4, c5, c6, c7, c8, c9⟩ := HB2.out.ord
  go_wp2_with fail
  refine (K3.out _ HF2.out).mono ?_
  rintro e w3 ⟨rfl, hf3⟩
  have HF3 := Lib.hid (HF2.out.trans hf3)
  clear hf3 HB2 HF2 c0 c1 c2 c3 c4 c5 c6 c7 c8 c9 K3
  cases b3
  · go_wp2_with fail
    go_ret
    exact ⟨by rw [HD.out]; rfl, HF3.out⟩
  · go_wp2_with fail
    go_ret
    exact ⟨by rw [HD.out]; rfl, HF3.out⟩
end Go.Proofs.Ytakbjjohfcgaoaa
