/- The document's Crash. No condition but lengths. -/
import Derived.Test.YtnmemdhajjibgaaRefA
namespace Go.Proofs.Ytnmemdhajjibgaa
open Go.RowKit

theorem step_appO {P : Program} {w : World} {ops : Array Oper} {o : Oper} {a : Act} {K : Act → World → Prop} {Q : Exit → Act → World → Prop} {E : Prop} (hgd : o.guard = none) (s x : Operand) (t : TypeId)
    (ho : o.op = .call { callee := .builtin .append, args := #[s, x], argTypes := #[t, t] })
    (base : Nat) (e : TypeId) (i : TypeInfo) (z : Value) (size bytes : Nat) (ht : P.underlying t = some (.slice e)) (hi : P.info? e = some i) (hz : i.zero = some z)
    (hsize : i.size = size) (hby : i.bytes = bytes) (hzs : z.cells.size = size) (hpos : 0 < size)
    (v : Value) (n : Nat) (xs : List Value) (hs : a.eval s = v) (hown : w.ownsRow base e size v n xs)
    (ad : Addr) (c m : Nat) (news : List Value) (hx : a.eval x = .slice (some ad) m c) (hm : news.length = m * size) (hr : Rd w (some ad) news) (h1 : ∀ u ∈ news, u.oneCell' = true)
    (h63 : n + m ≤ maxLen) (hbytes : (n + m) * bytes ≤ 140737488355328) (hbase : base ≤ w.heap.size)
    (h : ∀ v' w', w'.ownsRow base e size v' (n + m) (xs ++ news) → w.grownBy w' v.ownBlock → (v'.ownBlock = v.ownBlock ∨ v'.ownBlock = some w.heap.size) → K (a.put o.dst v') w') :
    if Region.wanted o (yielded ops a.tmps) = true then Oper.wp P o a w K Q else E := by
  have hw : Region.wanted o (yielded ops a.tmps) = true := by simp [Region.wanted, hgd]
  rw [if_pos hw]
  obtain ⟨v', w', hrun, h2, h3, _, h5⟩ := run_append_own_at (P := P) w base t o.type e i z size bytes ht hi hz hsize hby hzs hpos v n xs hown ad m c news hm
    (fun j u hu => by
      obtain ⟨b, o, e', hc⟩ := hr (by have := (List.getElem?_eq_some_iff.1 hu).1; omega)
      injection e' with e'
      subst e'
      have := hc j u hu
      unfold Addr.add
      split
      · subst j; simpa using this
      · exact this) h1 h63 hbytes hbase
  unfold Oper.wp execOp
  simp only [ho, resolve, invoke, builtin, Sem.run_bind, Sem.run_pure, Result.andThen_ok, List.map_toArray, List.map_cons, List.map_nil, hs, hx, hrun]
  exact h v' w' h2 h3 h5
theorem RIn.push {wr w5 w6 : World} {base : Nat} {m : RM} (h : RIn wr base m) (hf : Fr NoBlk wr w5) (y : RF) (hy : DOk w5 base y.A y.c y.pf.data) {A6 : Option Addr} {c6 : Nat} (ho : w6.ownsRow base 68 3 (.slice A6 (m.fs.length + 1) c6) (m.fs.length + 1) (rfcs m.fs ++ rfc y))
    (hg : w5.grownBy w6 (Value.slice m.FA m.fs.length m.FC).ownBlock) : RIn (w6.setCell ⟨m.g, 1, none⟩ (.slice A6 (m.fs.length + 1) c6)) base { m with FA := A6, FC := c6, fs := m.fs ++ [y] } ∧ Fr m.own wr (w6.setCell ⟨m.g, 1, none⟩ (.slice A6 (m.fs.length + 1) c6)) := by
  have h5 := h.nofr hf
  have hg6 : Fr m.own w5 w6 := (Fr.ofGrown hg).mono fun k _ hk => .inr (by
    cases hA : m.FA with
    | none => rw [hA] at hk; cases hk
    | some a => rw [hA] at hk; injection hk with hk; exact ⟨a, rfl, hk.symm⟩)
  have hb6 : Bk w6 m.g 61 m.cells := h5.bk.fr (Fr.ofGrown hg) fun e => own_apart h5.row h5.bk (by decide) e.symm
  have hs : Fr (fun k => k = m.g) w6 (w6.setCell ⟨m.g, 1, none⟩ (.slice A6 (m.fs.length + 1) c6)) := (Fr.refl (fun k => k = m.g) w6).setCell (p := ⟨m.g, 1, none⟩) (fun _ => rfl) _
  have ht : Fr m.own w5 (w6.setCell ⟨m.g, 1, none⟩ (.slice A6 (m.fs.length + 1) c6)) := hg6.trans (hs.mono fun k _ hk => .inl hk)
  have hl : (m.fs ++ [y]).length = m.fs.length + 1 := by simp
  refine ⟨⟨?_, h.gb, ?_, fun f hff => ?_⟩, (hf.mono fun _ _ h => h.elim).trans ht⟩
  · show Bk _ m.g _ #[.int .i64 m.room, .slice A6 (m.fs ++ [y]).length c6, .int .i64 m.left, .bool m.down]
    rw [hl]
    exact hb6.put 1 (.slice A6 (m.fs.length + 1) c6)
  · show World.ownsRow _ _ _ _ (.slice A6 (m.fs ++ [y]).length c6) (m.fs ++ [y]).length (rfcs (m.fs ++ [y]))
    rw [hl, rfcs_append]
    show World.ownsRow _ _ _ _ _ _ (rfcs m.fs ++ (rfc y ++ []))
    rw [List.append_nil]
    exact own_fr ho hs fun k hk e => own_apart ho hb6 (by decide) (e ▸ hk)
  · have hd : DOk w5 base f.A f.c f.pf.data := by
      rcases List.mem_append.1 hff with hff | hff
      · exact h5.dat f hff
      · rw [List.mem_singleton.1 hff]; exact hy
    exact hd.fr ht (h5.apart hd)
theorem crash_step (L : List PF) (ks : List Int) (k : Nat) (f : PF) (h : L[k]? = some f) : pcrashL (L.take (k + 1)) ks = pcrashL (L.take k) ks ++ [pcrashF f (ks.getD k 0)] := by
  induction L generalizing k ks with
  | nil => cases h
  | cons g t ih =>
    cases k with
    | zero =>
      injection h with h
      subst h
      cases ks <;> rfl
    | succ k =>
      show pcrashF g (ks.headD 0) :: pcrashL (t.take (k + 1)) ks.tail = pcrashF g (ks.headD 0) :: (pcrashL (t.take k) ks.tail ++ _)
      rw [ih ks.tail k h]
      cases ks <;> rfl

def RCrash (w : World) (p : PD) (e : Ending) (w' : World) : Prop := ∃ m', e = .returned (.pointer (some ⟨m'.g, 0, none⟩)) ∧ m'.pd = p ∧ RIn w' w.heap.size m' ∧ Fr NoBlk w w'
set_option maxRecDepth 100000 in
set_option maxHeartbeats 8000000 in
theorem rcrash_any (w : World) (base : Nat) (m : RM) (h : RIn w base m) (ht : RFit m) (K : Option Addr) (kc : Nat) (ks : List Int) (hk : Rd w K (ics ks)) (hkl : ks.length ≤ maxLen) :
    Calls Try.prog 16 #[.pointer (some ⟨m.g, 0, none⟩), .slice K ks.length kc] w (RCrash w (pCrash m.pd ks)) := by
  obtain ⟨i0, hi, hz0, hz1, hz2⟩ := info_parts byteInfo
  obtain ⟨l0, hl, hl0, hl1, hl2⟩ := info_parts fileInfo
  have hlen := ht.len
  have HR := Lib.hid h
  have HT := Lib.hid ht
  have HKS := Lib.hid hk
  have hgl := h.bk.lt
  have htot := ht.tot
  have hroom := ht.room
  have c0 := h.cell.1
  have HR0 : Hid (RIn (w.alloc (.cells #[.int .i64 m.room, .slice none 0 0, .int .i64 (-1), .bool false] 61)) w.heap.size (rnew w.heap.size m.room)) := RIn.new (Bk.new _ _ _) (Nat.le_refl _)
  have HF0 : Hid (Fr NoBlk w (w.alloc (.cells #[.int .i64 m.room, .slice none 0 0, .int .i64 (-1), .bool false] 61))) := (Fr.refl _ _).alloc _
  clear h ht hk
  unfold maxLen at hkl
  go_enter Try.func16, Try.ntmps16
  go_wp2_with fail
  go_loopw [6] (fun z wr => ∃ (k : Nat) (mo : RM), k ≤ m.fs.length ∧ z = .int .i64 k ∧ Hid (RIn wr w.heap.size mo) ∧ Hid (Fr NoBlk w wr) ∧ Hid (mo.fs.map RF.pf = pcrashL (m.pfs.take k) ks) ∧ mo.fs.length = k ∧ Hid (mo.g = w.heap.size) ∧ Hid (mo.room = m.room ∧ mo.left = -1 ∧ mo.down = false)) (fun z _ => m.fs.length - (intOf z).toNat)
  case atStart => exact ⟨0, _, by omega, rfl, HR0, HF0, by simp [rnew, pcrashL, Hid], rfl, rfl, rfl, rfl, rfl⟩
  case round =>
    clear HR0 HF0
    obtain ⟨k, mo, hk, rfl, HRO, HFW, HMO, hmo0, HGO, HST⟩ := hrel
    have HMOL := Lib.hid hmo0
    clear hmo0
    have HRr := Lib.hid (HR.out.nofr HFW.out)
    obtain ⟨_, c1, _, _⟩ := HRr.out.cell
    have hgr := HRr.out.bk.lt
    by_cases hlt : k < m.fs.length
    · obtain ⟨f, hf⟩ : ∃ f, m.fs[k]? = some f := ⟨_, List.getElem?_eq_getElem hlt⟩
      obtain ⟨b, hA, hne, q0, q1, q2, hfz⟩ := HRr.out.file hf
      rw [hA] at c1
      have hpf : m.pfs[k]? = some f.pf := by show (m.fs.map RF.pf)[k]? = _; rw [List.getElem?_map, hf]; rfl
      have HCR0 := Lib.hid (crash_step m.pfs ks k f.pf hpf)
      have hmem : f.pf ∈ m.pfs := List.mem_of_getElem? hpf
      have hll : f.pf.last ≤ f.pf.data.length := HT.out.last _ hmem
      have hdl : f.pf.data.length ≤ 1048576 := by have := ptotal_mem hmem; omega
      have HDf := Lib.hid (HRr.out.dat f (List.mem_of_getElem? hf))
      have i0' : (0 : Int) ≤ (k : Int) := by omega
      have i1' : (k : Int) < (m.fs.length : Int) := by omega
      obtain ⟨x, hx⟩ : ∃ x, x = ks.getD k 0 := ⟨_, rfl⟩
      have HXX := Lib.hid hx
      rw [← hx] at HCR0
      obtain ⟨⟨nm, dt, la⟩, fa, fc⟩ := f
      dsimp only at q0 q1 q2 hll hdl HDf HCR0 hmem
      obtain ⟨p, hp⟩ : ∃ p, p = dt.length - la := ⟨_, rfl⟩
      obtain ⟨q, hq⟩ : ∃ q, q = p + 1 := ⟨_, rfl⟩
      obtain ⟨nn, hnn⟩ : ∃ nn, nn = pkeep ⟨nm, dt, la⟩ x := ⟨_, rfl⟩
      have hnl : nn ≤ dt.length := by rw [hnn]; exact pkeep_le ⟨nm, dt, la⟩ x hll
      have hnq : (nn : Int) = (la : Int) + x % (q : Int) := by
        rw [hnn]
        unfold pkeep
        have e : (dt.length - la + 1 : Nat) = q := by rw [hq, hp]
        show ((la + (x % ((dt.length - la + 1 : Nat) : Int)).toNat : Nat) : Int) = _
        rw [e]
        have := Int.emod_nonneg x (show (q : Int) ≠ 0 by omega)
        omega
      have HCR : Hid (pcrashL (m.pfs.take (k + 1)) ks = pcrashL (m.pfs.take k) ks ++ [⟨nm, dt.take nn, nn⟩]) := by
        show _ = _
        rw [HCR0.out, hnn]; rfl
      have e1 : IntKind.i64.wrap ((dt.length : Int) - (la : Int)) = (p : Int) := by rw [IntWalk.i64_in _ (by omega)]; omega
      have e2' : IntKind.i64.wrap ((p : Int) + 1) = (q : Int) := by rw [IntWalk.i64_in _ (by omega)]; omega
      have hq0 : (0 : Int) < (q : Int) := by omega
      have hqb : (q : Int) ≤ 1048577 := by omega
      have hn0 : (0 : Int) ≤ (nn : Int) := by omega
      have hfc : dt.length ≤ fc := HDf.out.le
      have hnc : (nn : Int) ≤ (fc : Int) := by omega
      have hnl' : (nn : Int) ≤ (dt.length : Int) := by omega
      have HNL : Hid ((dt.take nn).length = nn) := by show _ = _; rw [List.length_take]; omega
      have HTL : Hid ((cb (dt.take nn)).length = nn) := by show _ = _; rw [cb_length]; exact HNL.out
      -- the file's box, and what stays behind it
      obtain ⟨wB, hwB⟩ : ∃ wB, wB = wr.alloc (.cells #[.string (bstr nm), .slice fa dt.length fc, .int .i64 la] 68) := ⟨_, rfl⟩
      have HWB := Lib.hid hwB
      have HFB : Hid (Fr NoBlk wr wB) := by show Fr _ _ _; rw [hwB]; exact (Fr.refl _ _).alloc _
      have HBB : Hid (Bk wB wr.heap.size 68 #[.string (bstr nm), .slice fa dt.length fc, .int .i64 la]) := by show Bk _ _ _ _; rw [hwB]; exact Bk.new _ _ _
      have hrb : wr.heap.size < wB.heap.size := HBB.out.lt
      have HGB : Hid (w.heap.size < wr.heap.size) := by
        have := HRO.out.bk.lt
        rw [HGO.out] at this
        exact this
      have SF : ∀ W, Fr NoBlk wB W → W.cell? ⟨wr.heap.size, 0, none⟩ = some (.string (bstr nm)) ∧ W.cell? ⟨wr.heap.size, 1, none⟩ = some (.slice fa dt.length fc) := fun W hW => ⟨(HBB.out.fr hW fun h => h).cell 0, (HBB.out.fr hW fun h => h).cell 1⟩
      have SG : ∀ W, Fr (fun k => (Value.slice mo.FA mo.fs.length mo.FC).ownBlock = some k) wB W → W.cell? ⟨wr.heap.size, 0, none⟩ = some (.string (bstr nm)) ∧ W.cell? ⟨wr.heap.size, 1, none⟩ = some (.slice fa dt.length fc) := fun W hW => by
        have := HBB.out.fr hW fun hk => by have := (own_lt HRO.out.row hk).2; omega
        exact ⟨this.cell 0, this.cell 1⟩
      have SH : ∀ (W : World) (v : Value), (W.cell? ⟨wr.heap.size, 0, none⟩ = some (.string (bstr nm)) ∧ W.cell? ⟨wr.heap.size, 1, none⟩ = some (.slice fa dt.length fc)) → (W.setCell ⟨w.heap.size, 1, none⟩ v).cell? ⟨wr.heap.size, 0, none⟩ = some (.string (bstr nm)) ∧ (W.setCell ⟨w.heap.size, 1, none⟩ v).cell? ⟨wr.heap.size, 1, none⟩ = some (.slice fa dt.length fc) := fun W v hW => by
        have hne : w.heap.size ≠ wr.heap.size := by have := HGB.out; omega
        exact ⟨(World.cell?_setCell_far W ⟨w.heap.size, 1, none⟩ ⟨wr.heap.size, 0, none⟩ v hne).trans hW.1, (World.cell?_setCell_far W ⟨w.heap.size, 1, none⟩ ⟨wr.heap.size, 1, none⟩ v hne).trans hW.2⟩
      have OF : ∀ W, Fr NoBlk wB W → W.cell? ⟨w.heap.size, 1, none⟩ = some (.slice mo.FA mo.fs.length mo.FC) := fun W hW => by
        have := (HRO.out.nofr (HFB.out.trans hW)).cell.2.1
        rwa [HGO.out] at this
      have HFL : Hid (Fr NoBlk wB (wB.drew.alloc (.cells #[] 5))) := ((Fr.refl _ _).drew).alloc _
      have sD := SF wB.drew (Fr.refl _ _).drew
      have sL := SF _ HFL.out
      have oD := OF wB.drew (Fr.refl _ _).drew
      have oL := OF _ HFL.out
      have oL2 : (wB.alloc (.cells #[] 5)).drew.cell? ⟨w.heap.size, 1, none⟩ = some (.slice mo.FA mo.fs.length mo.FC) := oL
      have oL3 : (wB.alloc (.cells #[] 5)).cell? ⟨w.heap.size, 1, none⟩ = some (.slice mo.FA mo.fs.length mo.FC) := oL
      have HNEW : Hid ((wB.drew.alloc (.cells #[] 5)).ownsRow wB.heap.size 5 1 (.slice (some ⟨wB.heap.size, 0, none⟩) 0 0) 0 []) := World.ownsRow_made wB.drew #[] 0 (Nat.le_refl _) (by decide) rfl
      have HDL := Lib.hid ((HDf.out.cut nn).nofr (HFB.out.trans HFL.out))
      have HSL : Hid (wB.heap.size ≤ (wB.drew.alloc (.cells #[] 5)).heap.size) := HFL.out.size
      have b0 : wB.cell? ⟨wr.heap.size, 0, none⟩ = some (.string (bstr nm)) := HBB.out.cell 0
      have b1 : wB.cell? ⟨wr.heap.size, 1, none⟩ = some (.slice fa dt.length fc) := HBB.out.cell 1
      have b2 : wB.cell? ⟨wr.heap.size, 2, none⟩ = some (.int .i64 la) := HBB.out.cell 2
      clear hp hq hnn hA hf hpf hx hmem hfz hwB HCR0
      have hqc : ¬ (q : Int) = 0 := by omega
      by_cases hin : k < ks.length
      · obtain ⟨kb, ko, rfl, hkc⟩ : ∃ kb ko, K = some ⟨kb, ko, none⟩ ∧ wr.cell? ⟨kb, ko + k, none⟩ = some (.int .i64 x) := by
          have hk2 := (HKS.out.nofr HFW.out).at_ (k := k) (v := .int .i64 x) (by
            show (ks.map fun z => Value.int .i64 z)[k]? = _
            rw [List.getElem?_map, List.getElem?_eq_getElem hin, HXX.out, List.getD_eq_getElem?_getD, List.getElem?_eq_getElem hin]; rfl)
          obtain ⟨kb, ko, e, h⟩ := hk2
          exact ⟨kb, ko, e, h⟩
        have hkl' : kb < wr.heap.size := World.block_lt_of_cell? wr _ hkc
        have hmp := fun h => tmod_pos x (q : Int) hq0 h
        have hmn := fun h => tmod_neg x (q : Int) hq0 h
        have hb1 := Int.tmod_lt_of_pos x hq0
        have hb2 := Int.lt_tmod_of_pos x hq0
        obtain ⟨t, ht⟩ : ∃ t, t = x.tmod (q : Int) := ⟨_, rfl⟩
        rw [← ht] at hmp hmn hb1 hb2
        have ht' : x.tmod (q : Int) = t := ht.symm
        have e8 : IntKind.i64.wrap t = t := IntWalk.i64_in _ (by omega)
        have hqn : ((q : Int) == 0) = false := by rw [beq_eq_false_iff_ne]; omega
        clear ht
        by_cases htn : t < 0
        · have hr := hmn htn
          have e9 : IntKind.i64.wrap (t + (q : Int)) = t + (q : Int) := IntWalk.i64_in _ (by omega)
          have e5 : IntKind.i64.wrap ((la : Int) + (t + (q : Int))) = (nn : Int) := by rw [IntWalk.i64_in _ (by omega)]; omega
          clear hmp hmn hr hnq
          go_wp2_with fail
          rw [← HWB.out]
          clear HWB q0 q1 q2 b2 c1
          refine wp_region_held_drew (S := fun w' => w'.cell? ⟨wr.heap.size, 0, none⟩ = some (.string (bstr nm)) ∧ w'.cell? ⟨wr.heap.size, 1, none⟩ = some (.slice fa dt.length fc)) (by kernel_rfl) (by exact sD) (fun hHeld => ?_)
          refine wpAnyH_take (i := 0) (oi := ⟨some 59, _, _, _, _, _⟩) (v := ?_) rfl (by kernel_rfl) (by kernel_rfl) (by kernel_rfl) (fun _ _ _ h => h) (Or.inl ⟨by rfl, ?_⟩) (by assumption) ?_
          rotate_left 1
          · (intro w hSw; (try dsimp only at hSw); obtain ⟨hSa, hSb⟩ := hSw; go_simp) <;> (with_reducible rfl)
          try simp only [Act.put, List.setIfInBounds_toArray, List.set_cons_zero, List.set_cons_succ]
          refine wpAnyH_take (i := 1) (oi := ⟨some 60, _, _, _, _, _⟩) (v := ?_) rfl (by kernel_rfl) (by kernel_rfl) (by kernel_rfl) (fun _ _ _ h => h) (Or.inl ⟨by rfl, ?_⟩) (by assumption) ?_
          rotate_left 1
          · (intro w hSw; (try dsimp only at hSw); obtain ⟨hSa, hSb⟩ := hSw; go_simp) <;> (with_reducible rfl)
          try simp only [Act.put, List.setIfInBounds_toArray, List.set_cons_zero, List.set_cons_succ]
          refine wpAnyH_take (i := 2) (oi := ⟨some 61, _, _, _, _, _⟩) (v := ?_) rfl (by kernel_rfl) (by kernel_rfl) (by kernel_rfl) (fun _ _ _ h => h) (Or.inl ⟨by rfl, ?_⟩) (by assumption) ?_
          rotate_left 1
          · (intro w hSw; (try dsimp only at hSw); obtain ⟨hSa, hSb⟩ := hSw; go_simp) <;> (with_reducible rfl)
          try simp only [Act.put, List.setIfInBounds_toArray, List.set_cons_zero, List.set_cons_succ]
          refine wpAnyH_take (i := 3) (oi := ⟨some 62, _, _, _, _, _⟩) (v := ?_) rfl (by kernel_rfl) (by kernel_rfl) (by kernel_rfl) (fun _ _ _ h => h) (Or.inl ⟨by rfl, ?_⟩) (by assumption) ?_
          rotate_left 1
          · (intro w hSw; (try dsimp only at hSw); obtain ⟨hSa, hSb⟩ := hSw; go_simp) <;> (with_reducible rfl)
          try simp only [Act.put, List.setIfInBounds_toArray, List.set_cons_zero, List.set_cons_succ]
          refine wpAnyH_take (i := 5) (oi := ⟨some 64, _, _, _, _, _⟩) (v := ?_) rfl (by kernel_rfl) (by kernel_rfl) (by kernel_rfl) (fun _ _ _ h => h) (Or.inl ⟨by rfl, ?_⟩) (by assumption) ?_
          rotate_left 1
          · (intro w hSw; (try dsimp only at hSw); obtain ⟨hSa, hSb⟩ := hSw; go_simp) <;> (with_reducible rfl)
          try simp only [Act.put, List.setIfInBounds_toArray, List.set_cons_zero, List.set_cons_succ]
          refine wpAnyH_take (i := 6) (oi := ⟨some 65, _, _, _, _, _⟩) (v := ?_) rfl (by kernel_rfl) (by kernel_rfl) (by kernel_rfl) (fun _ _ _ h => h) (Or.inl ⟨by rfl, ?_⟩) (by assumption) ?_
          rotate_left 1
          · (intro w hSw; (try dsimp only at hSw); obtain ⟨hSa, hSb⟩ := hSw; go_simp) <;> (with_reducible rfl)
          try simp only [Act.put, List.setIfInBounds_toArray, List.set_cons_zero, List.set_cons_succ]
          refine wpAnyH_take (i := 8) (oi := ⟨some 67, _, _, _, _, _⟩) (v := ?_) rfl (by kernel_rfl) (by kernel_rfl) (by kernel_rfl) (fun _ _ _ h => h) (Or.inl ⟨by rfl, ?_⟩) (by assumption) ?_
          rotate_left 1
          · (intro w hSw; (try dsimp only at hSw); obtain ⟨hSa, hSb⟩ := hSw; go_simp) <;> (with_reducible rfl)
          try simp only [Act.put, List.setIfInBounds_toArray, List.set_cons_zero, List.set_cons_succ]
          refine wpAnyH_take (i := 9) (oi := ⟨some 68, _, _, _, _, _⟩) (v := ?_) rfl (by kernel_rfl) (by kernel_rfl) (by kernel_rfl) (fun _ _ _ h => h) (Or.inl ⟨by rfl, ?_⟩) (by assumption) ?_
          rotate_left 1
          · (intro w hSw; (try dsimp only at hSw); obtain ⟨hSa, hSb⟩ := hSw; go_simp) <;> (with_reducible rfl)
          try simp only [Act.put, List.setIfInBounds_toArray, List.set_cons_zero, List.set_cons_succ]
          refine wpAnyH_take (i := 10) (oi := ⟨some 69, _, _, _, _, _⟩) (v := ?_) rfl (by kernel_rfl) (by kernel_rfl) (by kernel_rfl) (fun _ _ _ h => h) (Or.inl ⟨by rfl, ?_⟩) (by assumption) ?_
          rotate_left 1
          · (intro w hSw; (try dsimp only at hSw); obtain ⟨hSa, hSb⟩ := hSw; go_simp) <;> (with_reducible rfl)
          try simp only [Act.put, List.setIfInBounds_toArray, List.set_cons_zero, List.set_cons_succ]
          refine wpAnyH_take (i := 11) (oi := ⟨some 70, _, _, _, _, _⟩) (v := ?_) rfl (by kernel_rfl) (by kernel_rfl) (by kernel_rfl) (fun _ _ _ h => h) (Or.inl ⟨by rfl, ?_⟩) (by assumption) ?_
          rotate_left 1
          · (intro w hSw; (try dsimp only at hSw); obtain ⟨hSa, hSb⟩ := hSw; go_simp) <;> (with_reducible rfl)
          try simp only [Act.put, List.setIfInBounds_toArray, List.set_cons_zero, List.set_cons_succ]
          refine wpAnyH_take (i := 13) (oi := ⟨some 72, _, _, _, _, _⟩) (v := ?_) rfl (by kernel_rfl) (by kernel_rfl) (by kernel_rfl) (fun _ _ _ h => h) (Or.inl ⟨by rfl, ?_⟩) (by assumption) ?_
          rotate_left 1
          · (intro w hSw; (try dsimp only at hSw); obtain ⟨hSa, hSb⟩ := hSw; go_simp) <;> (with_reducible rfl)
          try simp only [Act.put, List.setIfInBounds_toArray, List.set_cons_zero, List.set_cons_succ]
          refine wpAnyH_ready (rs := [4, 7]) (by kernel_rfl) (by simp) ?_
          refine AllReadyH.cons (o := ⟨some 63, _, _, _, _, _⟩) rfl (fun K hK => ?_) (AllReadyH.cons (o := ⟨some 66, _, _, _, _, _⟩) rfl (fun K hK => ?_) AllReadyH.nil)
          · go_simp
            refine hK.out _ _ ?_ (fun hHeld => ?_)
            · exact sD
            clear hK K
            try simp only [Act.put, List.setIfInBounds_toArray, List.set_cons_zero, List.set_cons_succ]
            refine wpAnyH_ready (rs := [7]) (by kernel_rfl) (by simp) ?_
            refine AllReadyH.cons (o := ⟨some 66, _, _, _, _, _⟩) rfl (fun K hK => ?_) AllReadyH.nil
            go_simp
            refine hK.out _ _ ?_ (fun hHeld => ?_)
            · exact sL
            clear hK K
            try simp only [Act.put, List.setIfInBounds_toArray, List.set_cons_zero, List.set_cons_succ]
            refine wpAnyH_ready (rs := [12]) (by kernel_rfl) (by simp) ?_
            refine AllReadyH.cons (o := ⟨some 71, _, _, _, _, _⟩) rfl (fun K hK => ?_) AllReadyH.nil
            refine step_app rfl _ _ 31 rfl wB.heap.size 5 i0 (.int .u8 0) 1 Try.underlying31 hi hz0 hz1 hz2 rfl (.slice (some ⟨wB.heap.size, 0, none⟩) 0 0) 0 [] rfl HNEW.out fa fc nn (cb (dt.take nn)) rfl HTL.out HDL.out.rd (cb_one _) HDL.out.nil (by unfold maxLen; omega) (by omega) HSL.out ?_
            intro v4 w4 ho4 hg4 _ _
            rw [Nat.zero_add, List.nil_append] at ho4
            obtain ⟨A4, c4, rfl, hc4, hA4⟩ := own_form ho4
            have HF4 : Hid (Fr NoBlk wB w4) := HFL.out.grown hg4 (fun k hk hlt => by
              have hk' : some wB.heap.size = some k := hk
              injection hk' with hk'
              omega)
            have HO4 := Lib.hid ho4
            have s4 := SF w4 HF4.out
            have o4 := OF w4 HF4.out
            clear ho4 hg4 hc4 hA4
            refine hK.out _ _ ?_ (fun hHeld => ?_)
            · exact s4
            clear hK K
            try simp only [Act.put, List.setIfInBounds_toArray, List.set_cons_zero, List.set_cons_succ]
            refine wpAnyH_take (i := 14) (oi := ⟨some 73, _, _, _, _, _⟩) (v := ?_) rfl (by kernel_rfl) (by kernel_rfl) (by kernel_rfl) (fun _ _ _ h => h) (Or.inl ⟨by rfl, ?_⟩) (by assumption) ?_
            rotate_left 1
            · (intro w hSw; (try dsimp only at hSw); go_simp) <;> (with_reducible rfl)
            try simp only [Act.put, List.setIfInBounds_toArray, List.set_cons_zero, List.set_cons_succ]
            refine wpAnyH_ready (rs := [15]) (by kernel_rfl) (by simp) ?_
            refine AllReadyH.cons (o := ⟨some 74, _, _, _, _, _⟩) rfl (fun K hK => ?_) AllReadyH.nil
            go_simp
            have HF5 : Hid (Fr NoBlk wB (w4.alloc (.cells #[.string (bstr nm), .slice A4 nn c4, .int .i64 nn] 68))) := HF4.out.alloc _
            have s5 := SF _ HF5.out
            have o5 := OF _ HF5.out
            refine hK.out _ _ ?_ (fun hHeld => ?_)
            · exact s5
            clear hK K
            try simp only [Act.put, List.setIfInBounds_toArray, List.set_cons_zero, List.set_cons_succ]
            refine wpAnyH_ready (rs := [16]) (by kernel_rfl) (by simp) ?_
            refine AllReadyH.cons (o := ⟨some 75, _, _, _, _, _⟩) rfl (fun K hK => ?_) AllReadyH.nil
            have HR5 : Hid (Rd (w4.alloc (.cells #[.string (bstr nm), .slice A4 nn c4, .int .i64 nn] 68)) (some ⟨w4.heap.size, 0, none⟩) [.string (bstr nm), .slice A4 nn c4, .int .i64 nn]) := Rd.of_cells (Bk.new _ _ _)
            have HOO : Hid ((w4.alloc (.cells #[.string (bstr nm), .slice A4 nn c4, .int .i64 nn] 68)).ownsRow w.heap.size 68 3 (.slice mo.FA mo.fs.length mo.FC) mo.fs.length (rfcs mo.fs)) := (HRO.out.nofr (HFB.out.trans HF5.out)).row
            have HSZ : Hid (w.heap.size ≤ (w4.alloc (.cells #[.string (bstr nm), .slice A4 nn c4, .int .i64 nn] 68)).heap.size) := Nat.le_trans HFW.out.size (HFB.out.trans HF5.out).size
            refine step_appO rfl _ _ 59 rfl w.heap.size 68 l0 _ 3 48 Try.underlying59 hl hl0 hl1 hl2 rfl (by decide) (.slice mo.FA mo.fs.length mo.FC) mo.fs.length (rfcs mo.fs) rfl HOO.out ⟨w4.heap.size, 0, none⟩ 1 1 [.string (bstr nm), .slice A4 nn c4, .int .i64 nn] rfl rfl HR5.out ?q1 ?q2 ?q3 HSZ.out ?_
            case q1 => intro u hu; simp only [List.mem_cons, List.not_mem_nil, or_false] at hu; rcases hu with rfl | rfl | rfl <;> rfl
            case q2 => have := HMOL.out; unfold maxLen; omega
            case q3 => have := HMOL.out; omega
            intro v6 w6 ho6 hg6 _
            obtain ⟨A6, c6, rfl, hc6, hA6⟩ := own_form ho6
            have HO6 := Lib.hid ho6
            have HG6 := Lib.hid hg6
            have HBO : Hid (Bk w6 w.heap.size 61 mo.cells) := by
              have hb5 := (HRO.out.nofr (HFB.out.trans HF5.out)).bk
              rw [HGO.out] at hb5
              exact hb5.fr (Fr.ofGrown hg6) (fun e => own_apart HOO.out hb5 (by decide) e.symm)
            have o6 : w6.cell? ⟨w.heap.size, 1, none⟩ = some (.slice mo.FA mo.fs.length mo.FC) := HBO.out.cell 1
            have o6f := HBO.out.free 1
            have s6 := SG w6 (by
              refine (HF5.out.mono (D := fun k => (Value.slice mo.FA mo.fs.length mo.FC).ownBlock = some k) (fun _ _ h => h.elim)).trans ?_
              exact (Fr.ofGrown hg6).mono fun k _ hk => hk.symm)
            have s7 := SH w6 (.slice A6 (mo.fs.length + 1) c6) s6
            clear ho6 hg6 hc6 hA6
            refine hK.out _ _ ?_ (fun hHeld => ?_)
            · exact s6
            clear hK K
            try simp only [Act.put, List.setIfInBounds_toArray, List.set_cons_zero, List.set_cons_succ]
            refine wpAnyH_take (i := 17) (oi := ⟨some 76, _, _, _, _, _⟩) (v := ?_) rfl (by kernel_rfl) (by kernel_rfl) (by kernel_rfl) (fun _ _ _ h => h) (Or.inl ⟨by rfl, ?_⟩) (by assumption) ?_
            rotate_left 1
            · (intro w hSw; (try dsimp only at hSw); go_simp) <;> (with_reducible rfl)
            try simp only [Act.put, List.setIfInBounds_toArray, List.set_cons_zero, List.set_cons_succ]
            refine wpAnyH_take (i := 18) (oi := ⟨some 77, _, _, _, _, _⟩) (v := ?_) rfl (by kernel_rfl) (by kernel_rfl) (by kernel_rfl) (fun _ _ _ h => h) (Or.inl ⟨by rfl, ?_⟩) (by assumption) ?_
            rotate_left 1
            · (intro w hSw; (try dsimp only at hSw); go_simp) <;> (with_reducible rfl)
            try simp only [Act.put, List.setIfInBounds_toArray, List.set_cons_zero, List.set_cons_succ]
            refine wpAnyH_ready (rs := [19]) (by kernel_rfl) (by simp) ?_
            refine AllReadyH.cons (o := ⟨none, _, _, _, _, _⟩) rfl (fun K hK => ?_) AllReadyH.nil
            go_simp
            refine hK.out _ _ ?_ (fun hHeld => ?_)
            · exact s7
            clear hK K
            try simp only [Act.put, List.setIfInBounds_toArray, List.set_cons_zero, List.set_cons_succ]
            refine wpAnyH_done (by kernel_rfl) ?_ _
            have HDY : Hid (DOk w4 w.heap.size A4 c4 (dt.take nn)) := DOk.ofOwn (n := nn) (own_base HO4.out (Nat.le_trans HFW.out.size HFB.out.size)) HNL.out.symm
            have HPU : Hid (RIn (w6.setCell ⟨mo.g, 1, none⟩ (.slice A6 (mo.fs.length + 1) c6)) w.heap.size { mo with FA := A6, FC := c6, fs := mo.fs ++ [⟨⟨nm, dt.take nn, nn⟩, A4, c4⟩] } ∧ Fr mo.own wr (w6.setCell ⟨mo.g, 1, none⟩ (.slice A6 (mo.fs.length + 1) c6))) := HRO.out.push (HFB.out.trans HF5.out) ⟨⟨nm, dt.take nn, nn⟩, A4, c4⟩ (HDY.out.nofr ((Fr.refl _ _).alloc _)) (by show World.ownsRow _ _ _ _ _ _ (rfcs mo.fs ++ [_, .slice A4 (dt.take nn).length c4, _]); rw [HNL.out]; exact HO6.out) HG6.out
            rw [HGO.out] at HPU
            have HFZ : Hid (Fr NoBlk w (w6.setCell ⟨w.heap.size, 1, none⟩ (.slice A6 (mo.fs.length + 1) c6))) := HFW.out.step HPU.out.2 fun k hk hc => by
              have := (HRO.out.own hc).1
              omega
            have HRZ := Lib.hid HPU.out.1
            have HMAP : Hid ((mo.fs ++ [(⟨⟨nm, dt.take nn, nn⟩, A4, c4⟩ : RF)]).map RF.pf = pcrashL (m.pfs.take (k + 1)) ks) := by
              show _ = _
              rw [List.map_append, HMO.out, HCR.out]
              rfl
            clear HPU HDY HO4 HO6 HG6 HBO HF4 HF5 HR5 HOO HSZ
            go_wp2_with fail
            go_roundw
            case rel => exact ⟨k + 1, _, by omega, by go_num, HRZ, HFZ, HMAP, by show (mo.fs ++ [_]).length = _; have := HMOL.out; rw [List.length_append]; simp; omega, rfl, HST⟩
            case measure => simp [intOf]; omega
          · go_simp
            refine hK.out _ _ ?_ (fun hHeld => ?_)
            · exact sL
            clear hK K
            try simp only [Act.put, List.setIfInBounds_toArray, List.set_cons_zero, List.set_cons_succ]
            refine wpAnyH_ready (rs := [4, 12]) (by kernel_rfl) (by simp) ?_
            refine AllReadyH.cons (o := ⟨some 63, _, _, _, _, _⟩) rfl (fun K hK => ?_) (AllReadyH.cons (o := ⟨some 71, _, _, _, _, _⟩) rfl (fun K hK => ?_) AllReadyH.nil)
            · go_simp
              refine hK.out _ _ ?_ (fun hHeld => ?_)
              · exact sL
              clear hK K
              try simp only [Act.put, List.setIfInBounds_toArray, List.set_cons_zero, List.set_cons_succ]
              refine wpAnyH_ready (rs := [12]) (by kernel_rfl) (by simp) ?_
              refine AllReadyH.cons (o := ⟨some 71, _, _, _, _, _⟩) rfl (fun K hK => ?_) AllReadyH.nil
              refine step_app rfl _ _ 31 rfl wB.heap.size 5 i0 (.int .u8 0) 1 Try.underlying31 hi hz0 hz1 hz2 rfl (.slice (some ⟨wB.heap.size, 0, none⟩) 0 0) 0 [] rfl HNEW.out fa fc nn (cb (dt.take nn)) rfl HTL.out HDL.out.rd (cb_one _) HDL.out.nil (by unfold maxLen; omega) (by omega) HSL.out ?_
              intro v4 w4 ho4 hg4 _ _
              rw [Nat.zero_add, List.nil_append] at ho4
              obtain ⟨A4, c4, rfl, hc4, hA4⟩ := own_form ho4
              have HF4 : Hid (Fr NoBlk wB w4) := HFL.out.grown hg4 (fun k hk hlt => by
                have hk' : some wB.heap.size = some k := hk
                injection hk' with hk'
                omega)
              have HO4 := Lib.hid ho4
              have s4 := SF w4 HF4.out
              have o4 := OF w4 HF4.out
              clear ho4 hg4 hc4 hA4
              refine hK.out _ _ ?_ (fun hHeld => ?_)
              · exact s4
              clear hK K
              try simp only [Act.put, List.setIfInBounds_toArray, List.set_cons_zero, List.set_cons_succ]
              refine wpAnyH_take (i := 14) (oi := ⟨some 73, _, _, _, _, _⟩) (v := ?_) rfl (by kernel_rfl) (by kernel_rfl) (by kernel_rfl) (fun _ _ _ h => h) (Or.inl ⟨by rfl, ?_⟩) (by assumption) ?_
              rotate_left 1
              · (intro w hSw; (try dsimp only at hSw); go_simp) <;> (with_reducible rfl)
              try simp only [Act.put, List.setIfInBounds_toArray, List.set_cons_zero, List.set_cons_succ]
              refine wpAnyH_ready (rs := [15]) (by kernel_rfl) (by simp) ?_
              refine AllReadyH.cons (o := ⟨some 74, _, _, _, _, _⟩) rfl (fun K hK => ?_) AllReadyH.nil
              go_simp
              have HF5 : Hid (Fr NoBlk wB (w4.alloc (.cells #[.string (bstr nm), .slice A4 nn c4, .int .i64 nn] 68))) := HF4.out.alloc _
              have s5 := SF _ HF5.out
              have o5 := OF _ HF5.out
              refine hK.out _ _ ?_ (fun hHeld => ?_)
              · exact s5
              clear hK K
              try simp only [Act.put, List.setIfInBounds_toArray, List.set_cons_zero, List.set_cons_succ]
              refine wpAnyH_ready (rs := [16]) (by kernel_rfl) (by simp) ?_
              refine AllReadyH.cons (o := ⟨some 75, _, _, _, _, _⟩) rfl (fun K hK => ?_) AllReadyH.nil
              have HR5 : Hid (Rd (w4.alloc (.cells #[.string (bstr nm), .slice A4 nn c4, .int .i64 nn] 68)) (some ⟨w4.heap.size, 0, none⟩) [.string (bstr nm), .slice A4 nn c4, .int .i64 nn]) := Rd.of_cells (Bk.new _ _ _)
              have HOO : Hid ((w4.alloc (.cells #[.string (bstr nm), .slice A4 nn c4, .int .i64 nn] 68)).ownsRow w.heap.size 68 3 (.slice mo.FA mo.fs.length mo.FC) mo.fs.length (rfcs mo.fs)) := (HRO.out.nofr (HFB.out.trans HF5.out)).row
              have HSZ : Hid (w.heap.size ≤ (w4.alloc (.cells #[.string (bstr nm), .slice A4 nn c4, .int .i64 nn] 68)).heap.size) := Nat.le_trans HFW.out.size (HFB.out.trans HF5.out).size
              refine step_appO rfl _ _ 59 rfl w.heap.size 68 l0 _ 3 48 Try.underlying59 hl hl0 hl1 hl2 rfl (by decide) (.slice mo.FA mo.fs.length mo.FC) mo.fs.length (rfcs mo.fs) rfl HOO.out ⟨w4.heap.size, 0, none⟩ 1 1 [.string (bstr nm), .slice A4 nn c4, .int .i64 nn] rfl rfl HR5.out ?q1 ?q2 ?q3 HSZ.out ?_
              case q1 => intro u hu; simp only [List.mem_cons, List.not_mem_nil, or_false] at hu; rcases hu with rfl | rfl | rfl <;> rfl
              case q2 => have := HMOL.out; unfold maxLen; omega
              case q3 => have := HMOL.out; omega
              intro v6 w6 ho6 hg6 _
              obtain ⟨A6, c6, rfl, hc6, hA6⟩ := own_form ho6
              have HO6 := Lib.hid ho6
              have HG6 := Lib.hid hg6
              have HBO : Hid (Bk w6 w.heap.size 61 mo.cells) := by
                have hb5 := (HRO.out.nofr (HFB.out.trans HF5.out)).bk
                rw [HGO.out] at hb5
                exact hb5.fr (Fr.ofGrown hg6) (fun e => own_apart HOO.out hb5 (by decide) e.symm)
              have o6 : w6.cell? ⟨w.heap.size, 1, none⟩ = some (.slice mo.FA mo.fs.length mo.FC) := HBO.out.cell 1
              have o6f := HBO.out.free 1
              have s6 := SG w6 (by
                refine (HF5.out.mono (D := fun k => (Value.slice mo.FA mo.fs.length mo.FC).ownBlock = some k) (fun _ _ h => h.elim)).trans ?_
                exact (Fr.ofGrown hg6).mono fun k _ hk => hk.symm)
              have s7 := SH w6 (.slice A6 (mo.fs.length + 1) c6) s6
              clear ho6 hg6 hc6 hA6
              refine hK.out _ _ ?_ (fun hHeld => ?_)
              · exact s6
              clear hK K
              try simp only [Act.put, List.setIfInBounds_toArray, List.set_cons_zero, List.set_cons_succ]
              refine wpAnyH_take (i := 17) (oi := ⟨some 76, _, _, _, _, _⟩) (v := ?_) rfl (by kernel_rfl) (by kernel_rfl) (by kernel_rfl) (fun _ _ _ h => h) (Or.inl ⟨by rfl, ?_⟩) (by assumption) ?_
              rotate_left 1
              · (intro w hSw; (try dsimp only at hSw); go_simp) <;> (with_reducible rfl)
              try simp only [Act.put, List.setIfInBounds_toArray, List.set_cons_zero, List.set_cons_succ]
              refine wpAnyH_take (i := 18) (oi := ⟨some 77, _, _, _, _, _⟩) (v := ?_) rfl (by kernel_rfl) (by kernel_rfl) (by kernel_rfl) (fun _ _ _ h => h) (Or.inl ⟨by rfl, ?_⟩) (by assumption) ?_
              rotate_left 1
              · (intro w hSw; (try dsimp only at hSw); go_simp) <;> (with_reducible rfl)
              try simp only [Act.put, List.setIfInBounds_toArray, List.set_cons_zero, List.set_cons_succ]
              refine wpAnyH_ready (rs := [19]) (by kernel_rfl) (by simp) ?_
              refine AllReadyH.cons (o := ⟨none, _, _, _, _, _⟩) rfl (fun K hK => ?_) AllReadyH.nil
              go_simp
              refine hK.out _ _ ?_ (fun hHeld => ?_)
              · exact s7
              clear hK K
              try simp only [Act.put, List.setIfInBounds_toArray, List.set_cons_zero, List.set_cons_succ]
              refine wpAnyH_done (by kernel_rfl) ?_ _
              have HDY : Hid (DOk w4 w.heap.size A4 c4 (dt.take nn)) := DOk.ofOwn (n := nn) (own_base HO4.out (Nat.le_trans HFW.out.size HFB.out.size)) HNL.out.symm
              have HPU : Hid (RIn (w6.setCell ⟨mo.g, 1, none⟩ (.slice A6 (mo.fs.length + 1) c6)) w.heap.size { mo with FA := A6, FC := c6, fs := mo.fs ++ [⟨⟨nm, dt.take nn, nn⟩, A4, c4⟩] } ∧ Fr mo.own wr (w6.setCell ⟨mo.g, 1, none⟩ (.slice A6 (mo.fs.length + 1) c6))) := HRO.out.push (HFB.out.trans HF5.out) ⟨⟨nm, dt.take nn, nn⟩, A4, c4⟩ (HDY.out.nofr ((Fr.refl _ _).alloc _)) (by show World.ownsRow _ _ _ _ _ _ (rfcs mo.fs ++ [_, .slice A4 (dt.take nn).length c4, _]); rw [HNL.out]; exact HO6.out) HG6.out
              rw [HGO.out] at HPU
              have HFZ : Hid (Fr NoBlk w (w6.setCell ⟨w.heap.size, 1, none⟩ (.slice A6 (mo.fs.length + 1) c6))) := HFW.out.step HPU.out.2 fun k hk hc => by
                have := (HRO.out.own hc).1
                omega
              have HRZ := Lib.hid HPU.out.1
              have HMAP : Hid ((mo.fs ++ [(⟨⟨nm, dt.take nn, nn⟩, A4, c4⟩ : RF)]).map RF.pf = pcrashL (m.pfs.take (k + 1)) ks) := by
                show _ = _
                rw [List.map_append, HMO.out, HCR.out]
                rfl
              clear HPU HDY HO4 HO6 HG6 HBO HF4 HF5 HR5 HOO HSZ
              go_wp2_with fail
              go_roundw
              case rel => exact ⟨k + 1, _, by omega, by go_num, HRZ, HFZ, HMAP, by show (mo.fs ++ [_]).length = _; have := HMOL.out; rw [List.length_append]; simp; omega, rfl, HST⟩
              case measure => simp [intOf]; omega
            · refine step_app rfl _ _ 31 rfl wB.heap.size 5 i0 (.int .u8 0) 1 Try.underlying31 hi hz0 hz1 hz2 rfl (.slice (some ⟨wB.heap.size, 0, none⟩) 0 0) 0 [] rfl HNEW.out fa fc nn (cb (dt.take nn)) rfl HTL.out HDL.out.rd (cb_one _) HDL.out.nil (by unfold maxLen; omega) (by omega) HSL.out ?_
              intro v4 w4 ho4 hg4 _ _
              rw [Nat.zero_add, List.nil_append] at ho4
              obtain ⟨A4, c4, rfl, hc4, hA4⟩ := own_form ho4
              have HF4 : Hid (Fr NoBlk wB w4) := HFL.out.grown hg4 (fun k hk hlt => by
                have hk' : some wB.heap.size = some k := hk
                injection hk' with hk'
                omega)
              have HO4 := Lib.hid ho4
              have s4 := SF w4 HF4.out
              have o4 := OF w4 HF4.out
              clear ho4 hg4 hc4 hA4
              refine hK.out _ _ ?_ (fun hHeld => ?_)
              · exact s4
              clear hK K
              try simp only [Act.put, List.setIfInBounds_toArray, List.set_cons_zero, List.set_cons_succ]
              refine wpAnyH_take (i := 14) (oi := ⟨some 73, _, _, _, _, _⟩) (v := ?_) rfl (by kernel_rfl) (by kernel_rfl) (by kernel_rfl) (fun _ _ _ h => h) (Or.inl ⟨by rfl, ?_⟩) (by assumption) ?_
              rotate_left 1
              · (intro w hSw; (try dsimp only at hSw); go_simp) <;> (with_reducible rfl)
              try simp only [Act.put, List.setIfInBounds_toArray, List.set_cons_zero, List.set_cons_succ]
              refine wpAnyH_ready (rs := [4, 15]) (by kernel_rfl) (by simp) ?_
              refine AllReadyH.cons (o := ⟨some 63, _, _, _, _, _⟩) rfl (fun K hK => ?_) (AllReadyH.cons (o := ⟨some 74, _, _, _, _, _⟩) rfl (fun K hK => ?_) AllReadyH.nil)
              · go_simp
                refine hK.out _ _ ?_ (fun hHeld => ?_)
                · exact s4
                clear hK K
                try simp only [Act.put, List.setIfInBounds_toArray, List.set_cons_zero, List.set_cons_succ]
                refine wpAnyH_ready (rs := [15]) (by kernel_rfl) (by simp) ?_
                refine AllReadyH.cons (o := ⟨some 74, _, _, _, _, _⟩) rfl (fun K hK => ?_) AllReadyH.nil
                go_simp
                have HF5 : Hid (Fr NoBlk wB (w4.alloc (.cells #[.string (bstr nm), .slice A4 nn c4, .int .i64 nn] 68))) := HF4.out.alloc _
                have s5 := SF _ HF5.out
                have o5 := OF _ HF5.out
                refine hK.out _ _ ?_ (fun hHeld => ?_)
                · exact s5
                clear hK K
                try simp only [Act.put, List.setIfInBounds_toArray, List.set_cons_zero, List.set_cons_succ]
                refine wpAnyH_ready (rs := [16]) (by kernel_rfl) (by simp) ?_
                refine AllReadyH.cons (o := ⟨some 75, _, _, _, _, _⟩) rfl (fun K hK => ?_) AllReadyH.nil
                have HR5 : Hid (Rd (w4.alloc (.cells #[.string (bstr nm), .slice A4 nn c4, .int .i64 nn] 68)) (some ⟨w4.heap.size, 0, none⟩) [.string (bstr nm), .slice A4 nn c4, .int .i64 nn]) := Rd.of_cells (Bk.new _ _ _)
                have HOO : Hid ((w4.alloc (.cells #[.string (bstr nm), .slice A4 nn c4, .int .i64 nn] 68)).ownsRow w.heap.size 68 3 (.slice mo.FA mo.fs.length mo.FC) mo.fs.length (rfcs mo.fs)) := (HRO.out.nofr (HFB.out.trans HF5.out)).row
                have HSZ : Hid (w.heap.size ≤ (w4.alloc (.cells #[.string (bstr nm), .slice A4 nn c4, .int .i64 nn] 68)).heap.size) := Nat.le_trans HFW.out.size (HFB.out.trans HF5.out).size
                refine step_appO rfl _ _ 59 rfl w.heap.size 68 l0 _ 3 48 Try.underlying59 hl hl0 hl1 hl2 rfl (by decide) (.slice mo.FA mo.fs.length mo.FC) mo.fs.length (rfcs mo.fs) rfl HOO.out ⟨w4.heap.size, 0, none⟩ 1 1 [.string (bstr nm), .slice A4 nn c4, .int .i64 nn] rfl rfl HR5.out ?q1 ?q2 ?q3 HSZ.out ?_
                case q1 => intro u hu; simp only [List.mem_cons, List.not_mem_nil, or_false] at hu; rcases hu with rfl | rfl | rfl <;> rfl
                case q2 => have := HMOL.out; unfold maxLen; omega
                case q3 => have := HMOL.out; omega
                intro v6 w6 ho6 hg6 _
                obtain ⟨A6, c6, rfl, hc6, hA6⟩ := own_form ho6
                have HO6 := Lib.hid ho6
                have HG6 := Lib.hid hg6
                have HBO : Hid (Bk w6 w.heap.size 61 mo.cells) := by
                  have hb5 := (HRO.out.nofr (HFB.out.trans HF5.out)).bk
                  rw [HGO.out] at hb5
                  exact hb5.fr (Fr.ofGrown hg6) (fun e => own_apart HOO.out hb5 (by decide) e.symm)
                have o6 : w6.cell? ⟨w.heap.size, 1, none⟩ = some (.slice mo.FA mo.fs.length mo.FC) := HBO.out.cell 1
                have o6f := HBO.out.free 1
                have s6 := SG w6 (by
                  refine (HF5.out.mono (D := fun k => (Value.slice mo.FA mo.fs.length mo.FC).ownBlock = some k) (fun _ _ h => h.elim)).trans ?_
                  exact (Fr.ofGrown hg6).mono fun k _ hk => hk.symm)
                have s7 := SH w6 (.slice A6 (mo.fs.length + 1) c6) s6
                clear ho6 hg6 hc6 hA6
                refine hK.out _ _ ?_ (fun hHeld => ?_)
                · exact s6
                clear hK K
                try simp only [Act.put, List.setIfInBounds_toArray, List.set_cons_zero, List.set_cons_succ]
                refine wpAnyH_take (i := 17) (oi := ⟨some 76, _, _, _, _, _⟩) (v := ?_) rfl (by kernel_rfl) (by kernel_rfl) (by kernel_rfl) (fun _ _ _ h => h) (Or.inl ⟨by rfl, ?_⟩) (by assumption) ?_
                rotate_left 1
                · (intro w hSw; (try dsimp only at hSw); go_simp) <;> (with_reducible rfl)
                try simp only [Act.put, List.setIfInBounds_toArray, List.set_cons_zero, List.set_cons_succ]
                refine wpAnyH_take (i := 18) (oi := ⟨some 77, _, _, _, _, _⟩) (v := ?_) rfl (by kernel_rfl) (by kernel_rfl) (by kernel_rfl) (fun _ _ _ h => h) (Or.inl ⟨by rfl, ?_⟩) (by assumption) ?_
                rotate_left 1
                · (intro w hSw; (try dsimp only at hSw); go_simp) <;> (with_reducible rfl)
                try simp only [Act.put, List.setIfInBounds_toArray, List.set_cons_zero, List.set_cons_succ]
                refine wpAnyH_ready (rs := [19]) (by kernel_rfl) (by simp) ?_
                refine AllReadyH.cons (o := ⟨none, _, _, _, _, _⟩) rfl (fun K hK => ?_) AllReadyH.nil
                go_simp
                refine hK.out _ _ ?_ (fun hHeld => ?_)
                · exact s7
                clear hK K
                try simp only [Act.put, List.setIfInBounds_toArray, List.set_cons_zero, List.set_cons_succ]
                refine wpAnyH_done (by kernel_rfl) ?_ _
                have HDY : Hid (DOk w4 w.heap.size A4 c4 (dt.take nn)) := DOk.ofOwn (n := nn) (own_base HO4.out (Nat.le_trans HFW.out.size HFB.out.size)) HNL.out.symm
                have HPU : Hid (RIn (w6.setCell ⟨mo.g, 1, none⟩ (.slice A6 (mo.fs.length + 1) c6)) w.heap.size { mo with FA := A6, FC := c6, fs := mo.fs ++ [⟨⟨nm, dt.take nn, nn⟩, A4, c4⟩] } ∧ Fr mo.own wr (w6.setCell ⟨mo.g, 1, none⟩ (.slice A6 (mo.fs.length + 1) c6))) := HRO.out.push (HFB.out.trans HF5.out) ⟨⟨nm, dt.take nn, nn⟩, A4, c4⟩ (HDY.out.nofr ((Fr.refl _ _).alloc _)) (by show World.ownsRow _ _ _ _ _ _ (rfcs mo.fs ++ [_, .slice A4 (dt.take nn).length c4, _]); rw [HNL.out]; exact HO6.out) HG6.out
                rw [HGO.out] at HPU
                have HFZ : Hid (Fr NoBlk w (w6.setCell ⟨w.heap.size, 1, none⟩ (.slice A6 (mo.fs.length + 1) c6))) := HFW.out.step HPU.out.2 fun k hk hc => by
                  have := (HRO.out.own hc).1
                  omega
                have HRZ := Lib.hid HPU.out.1
                have HMAP : Hid ((mo.fs ++ [(⟨⟨nm, dt.take nn, nn⟩, A4, c4⟩ : RF)]).map RF.pf = pcrashL (m.pfs.take (k + 1)) ks) := by
                  show _ = _
                  rw [List.map_append, HMO.out, HCR.out]
                  rfl
                clear HPU HDY HO4 HO6 HG6 HBO HF4 HF5 HR5 HOO HSZ
                go_wp2_with fail
                go_roundw
                case rel => exact ⟨k + 1, _, by omega, by go_num, HRZ, HFZ, HMAP, by show (mo.fs ++ [_]).length = _; have := HMOL.out; rw [List.length_append]; simp; omega, rfl, HST⟩
                case measure => simp [intOf]; omega
              · go_simp
                have HF5 : Hid (Fr NoBlk wB (w4.alloc (.cells #[.string (bstr nm), .slice A4 nn c4, .int .i64 nn] 68))) := HF4.out.alloc _
                have s5 := SF _ HF5.out
                have o5 := OF _ HF5.out
                refine hK.out _ _ ?_ (fun hHeld => ?_)
                · exact s5
                clear hK K
                try simp only [Act.put, List.setIfInBounds_toArray, List.set_cons_zero, List.set_cons_succ]
                refine wpAnyH_ready (rs := [4]) (by kernel_rfl) (by simp) ?_
                refine AllReadyH.cons (o := ⟨some 63, _, _, _, _, _⟩) rfl (fun K hK => ?_) AllReadyH.nil
                go_simp
                refine hK.out _ _ ?_ (fun hHeld => ?_)
                · exact s5
                clear hK K
                try simp only [Act.put, List.setIfInBounds_toArray, List.set_cons_zero, List.set_cons_succ]
                refine wpAnyH_ready (rs := [16]) (by kernel_rfl) (by simp) ?_
                refine AllReadyH.cons (o := ⟨some 75, _, _, _, _, _⟩) rfl (fun K hK => ?_) AllReadyH.nil
                have HR5 : Hid (Rd (w4.alloc (.cells #[.string (bstr nm), .slice A4 nn c4, .int .i64 nn] 68)) (some ⟨w4.heap.size, 0, none⟩) [.string (bstr nm), .slice A4 nn c4, .int .i64 nn]) := Rd.of_cells (Bk.new _ _ _)
                have HOO : Hid ((w4.alloc (.cells #[.string (bstr nm), .slice A4 nn c4, .int .i64 nn] 68)).ownsRow w.heap.size 68 3 (.slice mo.FA mo.fs.length mo.FC) mo.fs.length (rfcs mo.fs)) := (HRO.out.nofr (HFB.out.trans HF5.out)).row
                have HSZ : Hid (w.heap.size ≤ (w4.alloc (.cells #[.string (bstr nm), .slice A4 nn c4, .int .i64 nn] 68)).heap.size) := Nat.le_trans HFW.out.size (HFB.out.trans HF5.out).size
                refine step_appO rfl _ _ 59 rfl w.heap.size 68 l0 _ 3 48 Try.underlying59 hl hl0 hl1 hl2 rfl (by decide) (.slice mo.FA mo.fs.length mo.FC) mo.fs.length (rfcs mo.fs) rfl HOO.out ⟨w4.heap.size, 0, none⟩ 1 1 [.string (bstr nm), .slice A4 nn c4, .int .i64 nn] rfl rfl HR5.out ?q1 ?q2 ?q3 HSZ.out ?_
                case q1 => intro u hu; simp only [List.mem_cons, List.not_mem_nil, or_false] at hu; rcases hu with rfl | rfl | rfl <;> rfl
                case q2 => have := HMOL.out; unfold maxLen; omega
                case q3 => have := HMOL.out; omega
                intro v6 w6 ho6 hg6 _
                obtain ⟨A6, c6, rfl, hc6, hA6⟩ := own_form ho6
                have HO6 := Lib.hid ho6
                have HG6 := Lib.hid hg6
                have HBO : Hid (Bk w6 w.heap.size 61 mo.cells) := by
                  have hb5 := (HRO.out.nofr (HFB.out.trans HF5.out)).bk
                  rw [HGO.out] at hb5
                  exact hb5.fr (Fr.ofGrown hg6) (fun e => own_apart HOO.out hb5 (by decide) e.symm)
                have o6 : w6.cell? ⟨w.heap.size, 1, none⟩ = some (.slice mo.FA mo.fs.length mo.FC) := HBO.out.cell 1
                have o6f := HBO.out.free 1
                have s6 := SG w6 (by
                  refine (HF5.out.mono (D := fun k => (Value.slice mo.FA mo.fs.length mo.FC).ownBlock = some k) (fun _ _ h => h.elim)).trans ?_
                  exact (Fr.ofGrown hg6).mono fun k _ hk => hk.symm)
                have s7 := SH w6 (.slice A6 (mo.fs.length + 1) c6) s6
                clear ho6 hg6 hc6 hA6
                refine hK.out _ _ ?_ (fun hHeld => ?_)
                · exact s6
                clear hK K
                try simp only [Act.put, List.setIfInBounds_toArray, List.set_cons_zero, List.set_cons_succ]
                refine wpAnyH_take (i := 17) (oi := ⟨some 76, _, _, _, _, _⟩) (v := ?_) rfl (by kernel_rfl) (by kernel_rfl) (by kernel_rfl) (fun _ _ _ h => h) (Or.inl ⟨by rfl, ?_⟩) (by assumption) ?_
                rotate_left 1
                · (intro w hSw; (try dsimp only at hSw); go_simp) <;> (with_reducible rfl)
                try simp only [Act.put, List.setIfInBounds_toArray, List.set_cons_zero, List.set_cons_succ]
                refine wpAnyH_take (i := 18) (oi := ⟨some 77, _, _, _, _, _⟩) (v := ?_) rfl (by kernel_rfl) (by kernel_rfl) (by kernel_rfl) (fun _ _ _ h => h) (Or.inl ⟨by rfl, ?_⟩) (by assumption) ?_
                rotate_left 1
                · (intro w hSw; (try dsimp only at hSw); go_simp) <;> (with_reducible rfl)
                try simp only [Act.put, List.setIfInBounds_toArray, List.set_cons_zero, List.set_cons_succ]
                refine wpAnyH_ready (rs := [19]) (by kernel_rfl) (by simp) ?_
                refine AllReadyH.cons (o := ⟨none, _, _, _, _, _⟩) rfl (fun K hK => ?_) AllReadyH.nil
                go_simp
                refine hK.out _ _ ?_ (fun hHeld => ?_)
                · exact s7
                clear hK K
                try simp only [Act.put, List.setIfInBounds_toArray, List.set_cons_zero, List.set_cons_succ]
                refine wpAnyH_done (by kernel_rfl) ?_ _
                have HDY : Hid (DOk w4 w.heap.size A4 c4 (dt.take nn)) := DOk.ofOwn (n := nn) (own_base HO4.out (Nat.le_trans HFW.out.size HFB.out.size)) HNL.out.symm
                have HPU : Hid (RIn (w6.setCell ⟨mo.g, 1, none⟩ (.slice A6 (mo.fs.length + 1) c6)) w.heap.size { mo with FA := A6, FC := c6, fs := mo.fs ++ [⟨⟨nm, dt.take nn, nn⟩, A4, c4⟩] } ∧ Fr mo.own wr (w6.setCell ⟨mo.g, 1, none⟩ (.slice A6 (mo.fs.length + 1) c6))) := HRO.out.push (HFB.out.trans HF5.out) ⟨⟨nm, dt.take nn, nn⟩, A4, c4⟩ (HDY.out.nofr ((Fr.refl _ _).alloc _)) (by show World.ownsRow _ _ _ _ _ _ (rfcs mo.fs ++ [_, .slice A4 (dt.take nn).length c4, _]); rw [HNL.out]; exact HO6.out) HG6.out
                rw [HGO.out] at HPU
                have HFZ : Hid (Fr NoBlk w (w6.setCell ⟨w.heap.size, 1, none⟩ (.slice A6 (mo.fs.length + 1) c6))) := HFW.out.step HPU.out.2 fun k hk hc => by
                  have := (HRO.out.own hc).1
                  omega
                have HRZ := Lib.hid HPU.out.1
                have HMAP : Hid ((mo.fs ++ [(⟨⟨nm, dt.take nn, nn⟩, A4, c4⟩ : RF)]).map RF.pf = pcrashL (m.pfs.take (k + 1)) ks) := by
                  show _ = _
                  rw [List.map_append, HMO.out, HCR.out]
                  rfl
                clear HPU HDY HO4 HO6 HG6 HBO HF4 HF5 HR5 HOO HSZ
                go_wp2_with fail
                go_roundw
                case rel => exact ⟨k + 1, _, by omega, by go_num, HRZ, HFZ, HMAP, by show (mo.fs ++ [_]).length = _; have := HMOL.out; rw [List.length_append]; simp; omega, rfl, HST⟩
                case measure => simp [intOf]; omega
        · have hr := hmp (by omega)
          have e5 : IntKind.i64.wrap ((la : Int) + t) = (nn : Int) := by rw [IntWalk.i64_in _ (by omega)]; omega
          clear hmp hmn hr hnq
          go_wp2_with fail
          rw [← HWB.out]
          clear HWB q0 q1 q2 b2 c1
          refine wp_region_held_drew (S := fun w' => w'.cell? ⟨wr.heap.size, 0, none⟩ = some (.string (bstr nm)) ∧ w'.cell? ⟨wr.heap.size, 1, none⟩ = some (.slice fa dt.length fc)) (by kernel_rfl) (by exact sD) (fun hHeld => ?_)
          refine wpAnyH_take (i := 0) (oi := ⟨some 59, _, _, _, _, _⟩) (v := ?_) rfl (by kernel_rfl) (by kernel_rfl) (by kernel_rfl) (fun _ _ _ h => h) (Or.inl ⟨by rfl, ?_⟩) (by assumption) ?_
          rotate_left 1
          · (intro w hSw; (try dsimp only at hSw); obtain ⟨hSa, hSb⟩ := hSw; go_simp) <;> (with_reducible rfl)
          try simp only [Act.put, List.setIfInBounds_toArray, List.set_cons_zero, List.set_cons_succ]
          refine wpAnyH_take (i := 1) (oi := ⟨some 60, _, _, _, _, _⟩) (v := ?_) rfl (by kernel_rfl) (by kernel_rfl) (by kernel_rfl) (fun _ _ _ h => h) (Or.inl ⟨by rfl, ?_⟩) (by assumption) ?_
          rotate_left 1
          · (intro w hSw; (try dsimp only at hSw); obtain ⟨hSa, hSb⟩ := hSw; go_simp) <;> (with_reducible rfl)
          try simp only [Act.put, List.setIfInBounds_toArray, List.set_cons_zero, List.set_cons_succ]
          refine wpAnyH_take (i := 2) (oi := ⟨some 61, _, _, _, _, _⟩) (v := ?_) rfl (by kernel_rfl) (by kernel_rfl) (by kernel_rfl) (fun _ _ _ h => h) (Or.inl ⟨by rfl, ?_⟩) (by assumption) ?_
          rotate_left 1
          · (intro w hSw; (try dsimp only at hSw); obtain ⟨hSa, hSb⟩ := hSw; go_simp) <;> (with_reducible rfl)
          try simp only [Act.put, List.setIfInBounds_toArray, List.set_cons_zero, List.set_cons_succ]
          refine wpAnyH_take (i := 3) (oi := ⟨some 62, _, _, _, _, _⟩) (v := ?_) rfl (by kernel_rfl) (by kernel_rfl) (by kernel_rfl) (fun _ _ _ h => h) (Or.inl ⟨by rfl, ?_⟩) (by assumption) ?_
          rotate_left 1
          · (intro w hSw; (try dsimp only at hSw); obtain ⟨hSa, hSb⟩ := hSw; go_simp) <;> (with_reducible rfl)
          try simp only [Act.put, List.setIfInBounds_toArray, List.set_cons_zero, List.set_cons_succ]
          refine wpAnyH_take (i := 5) (oi := ⟨some 64, _, _, _, _, _⟩) (v := ?_) rfl (by kernel_rfl) (by kernel_rfl) (by kernel_rfl) (fun _ _ _ h => h) (Or.inl ⟨by rfl, ?_⟩) (by assumption) ?_
          rotate_left 1
          · (intro w hSw; (try dsimp only at hSw); obtain ⟨hSa, hSb⟩ := hSw; go_simp) <;> (with_reducible rfl)
          try simp only [Act.put, List.setIfInBounds_toArray, List.set_cons_zero, List.set_cons_succ]
          refine wpAnyH_take (i := 6) (oi := ⟨some 65, _, _, _, _, _⟩) (v := ?_) rfl (by kernel_rfl) (by kernel_rfl) (by kernel_rfl) (fun _ _ _ h => h) (Or.inl ⟨by rfl, ?_⟩) (by assumption) ?_
          rotate_left 1
          · (intro w hSw; (try dsimp only at hSw); obtain ⟨hSa, hSb⟩ := hSw; go_simp) <;> (with_reducible rfl)
          try simp only [Act.put, List.setIfInBounds_toArray, List.set_cons_zero, List.set_cons_succ]
          refine wpAnyH_take (i := 8) (oi := ⟨some 67, _, _, _, _, _⟩) (v := ?_) rfl (by kernel_rfl) (by kernel_rfl) (by kernel_rfl) (fun _ _ _ h => h) (Or.inl ⟨by rfl, ?_⟩) (by assumption) ?_
          rotate_left 1
          · (intro w hSw; (try dsimp only at hSw); obtain ⟨hSa, hSb⟩ := hSw; go_simp) <;> (with_reducible rfl)
          try simp only [Act.put, List.setIfInBounds_toArray, List.set_cons_zero, List.set_cons_succ]
          refine wpAnyH_take (i := 9) (oi := ⟨some 68, _, _, _, _, _⟩) (v := ?_) rfl (by kernel_rfl) (by kernel_rfl) (by kernel_rfl) (fun _ _ _ h => h) (Or.inl ⟨by rfl, ?_⟩) (by assumption) ?_
          rotate_left 1
          · (intro w hSw; (try dsimp only at hSw); obtain ⟨hSa, hSb⟩ := hSw; go_simp) <;> (with_reducible rfl)
          try simp only [Act.put, List.setIfInBounds_toArray, List.set_cons_zero, List.set_cons_succ]
          refine wpAnyH_take (i := 10) (oi := ⟨some 69, _, _, _, _, _⟩) (v := ?_) rfl (by kernel_rfl) (by kernel_rfl) (by kernel_rfl) (fun _ _ _ h => h) (Or.inl ⟨by rfl, ?_⟩) (by assumption) ?_
          rotate_left 1
          · (intro w hSw; (try dsimp only at hSw); obtain ⟨hSa, hSb⟩ := hSw; go_simp) <;> (with_reducible rfl)
          try simp only [Act.put, List.setIfInBounds_toArray, List.set_cons_zero, List.set_cons_succ]
          refine wpAnyH_take (i := 11) (oi := ⟨some 70, _, _, _, _, _⟩) (v := ?_) rfl (by kernel_rfl) (by kernel_rfl) (by kernel_rfl) (fun _ _ _ h => h) (Or.inl ⟨by rfl, ?_⟩) (by assumption) ?_
          rotate_left 1
          · (intro w hSw; (try dsimp only at hSw); obtain ⟨hSa, hSb⟩ := hSw; go_simp) <;> (with_reducible rfl)
          try simp only [Act.put, List.setIfInBounds_toArray, List.set_cons_zero, List.set_cons_succ]
          refine wpAnyH_take (i := 13) (oi := ⟨some 72, _, _, _, _, _⟩) (v := ?_) rfl (by kernel_rfl) (by kernel_rfl) (by kernel_rfl) (fun _ _ _ h => h) (Or.inl ⟨by rfl, ?_⟩) (by assumption) ?_
          rotate_left 1
          · (intro w hSw; (try dsimp only at hSw); obtain ⟨hSa, hSb⟩ := hSw; go_simp) <;> (with_reducible rfl)
          try simp only [Act.put, List.setIfInBounds_toArray, List.set_cons_zero, List.set_cons_succ]
          refine wpAnyH_ready (rs := [4, 7]) (by kernel_rfl) (by simp) ?_
          refine AllReadyH.cons (o := ⟨some 63, _, _, _, _, _⟩) rfl (fun K hK => ?_) (AllReadyH.cons (o := ⟨some 66, _, _, _, _, _⟩) rfl (fun K hK => ?_) AllReadyH.nil)
          · go_simp
            refine hK.out _ _ ?_ (fun hHeld => ?_)
            · exact sD
            clear hK K
            try simp only [Act.put, List.setIfInBounds_toArray, List.set_cons_zero, List.set_cons_succ]
            refine wpAnyH_ready (rs := [7]) (by kernel_rfl) (by simp) ?_
            refine AllReadyH.cons (o := ⟨some 66, _, _, _, _, _⟩) rfl (fun K hK => ?_) AllReadyH.nil
            go_simp
            refine hK.out _ _ ?_ (fun hHeld => ?_)
            · exact sL
            clear hK K
            try simp only [Act.put, List.setIfInBounds_toArray, List.set_cons_zero, List.set_cons_succ]
            refine wpAnyH_ready (rs := [12]) (by kernel_rfl) (by simp) ?_
            refine AllReadyH.cons (o := ⟨some 71, _, _, _, _, _⟩) rfl (fun K hK => ?_) AllReadyH.nil
            refine step_app rfl _ _ 31 rfl wB.heap.size 5 i0 (.int .u8 0) 1 Try.underlying31 hi hz0 hz1 hz2 rfl (.slice (some ⟨wB.heap.size, 0, none⟩) 0 0) 0 [] rfl HNEW.out fa fc nn (cb (dt.take nn)) rfl HTL.out HDL.out.rd (cb_one _) HDL.out.nil (by unfold maxLen; omega) (by omega) HSL.out ?_
            intro v4 w4 ho4 hg4 _ _
            rw [Nat.zero_add, List.nil_append] at ho4
            obtain ⟨A4, c4, rfl, hc4, hA4⟩ := own_form ho4
            have HF4 : Hid (Fr NoBlk wB w4) := HFL.out.grown hg4 (fun k hk hlt => by
              have hk' : some wB.heap.size = some k := hk
              injection hk' with hk'
              omega)
            have HO4 := Lib.hid ho4
            have s4 := SF w4 HF4.out
            have o4 := OF w4 HF4.out
            clear ho4 hg4 hc4 hA4
            refine hK.out _ _ ?_ (fun hHeld => ?_)
            · exact s4
            clear hK K
            try simp only [Act.put, List.setIfInBounds_toArray, List.set_cons_zero, List.set_cons_succ]
            refine wpAnyH_take (i := 14) (oi := ⟨some 73, _, _, _, _, _⟩) (v := ?_) rfl (by kernel_rfl) (by kernel_rfl) (by kernel_rfl) (fun _ _ _ h => h) (Or.inl ⟨by rfl, ?_⟩) (by assumption) ?_
            rotate_left 1
            · (intro w hSw; (try dsimp only at hSw); go_simp) <;> (with_reducible rfl)
            try simp only [Act.put, List.setIfInBounds_toArray, List.set_cons_zero, List.set_cons_succ]
            refine wpAnyH_ready (rs := [15]) (by kernel_rfl) (by simp) ?_
            refine AllReadyH.cons (o := ⟨some 74, _, _, _, _, _⟩) rfl (fun K hK => ?_) AllReadyH.nil
            go_simp
            have HF5 : Hid (Fr NoBlk wB (w4.alloc (.cells #[.string (bstr nm), .slice A4 nn c4, .int .i64 nn] 68))) := HF4.out.alloc _
            have s5 := SF _ HF5.out
            have o5 := OF _ HF5.out
            refine hK.out _ _ ?_ (fun hHeld => ?_)
            · exact s5
            clear hK K
            try simp only [Act.put, List.setIfInBounds_toArray, List.set_cons_zero, List.set_cons_succ]
            refine wpAnyH_ready (rs := [16]) (by kernel_rfl) (by simp) ?_
            refine AllReadyH.cons (o := ⟨some 75, _, _, _, _, _⟩) rfl (fun K hK => ?_) AllReadyH.nil
            have HR5 : Hid (Rd (w4.alloc (.cells #[.string (bstr nm), .slice A4 nn c4, .int .i64 nn] 68)) (some ⟨w4.heap.size, 0, none⟩) [.string (bstr nm), .slice A4 nn c4, .int .i64 nn]) := Rd.of_cells (Bk.new _ _ _)
            have HOO : Hid ((w4.alloc (.cells #[.string (bstr nm), .slice A4 nn c4, .int .i64 nn] 68)).ownsRow w.heap.size 68 3 (.slice mo.FA mo.fs.length mo.FC) mo.fs.length (rfcs mo.fs)) := (HRO.out.nofr (HFB.out.trans HF5.out)).row
            have HSZ : Hid (w.heap.size ≤ (w4.alloc (.cells #[.string (bstr nm), .slice A4 nn c4, .int .i64 nn] 68)).heap.size) := Nat.le_trans HFW.out.size (HFB.out.trans HF5.out).size
            refine step_appO rfl _ _ 59 rfl w.heap.size 68 l0 _ 3 48 Try.underlying59 hl hl0 hl1 hl2 rfl (by decide) (.slice mo.FA mo.fs.length mo.FC) mo.fs.length (rfcs mo.fs) rfl HOO.out ⟨w4.heap.size, 0, none⟩ 1 1 [.string (bstr nm), .slice A4 nn c4, .int .i64 nn] rfl rfl HR5.out ?q1 ?q2 ?q3 HSZ.out ?_
            case q1 => intro u hu; simp only [List.mem_cons, List.not_mem_nil, or_false] at hu; rcases hu with rfl | rfl | rfl <;> rfl
            case q2 => have := HMOL.out; unfold maxLen; omega
            case q3 => have := HMOL.out; omega
            intro v6 w6 ho6 hg6 _
            obtain ⟨A6, c6, rfl, hc6, hA6⟩ := own_form ho6
            have HO6 := Lib.hid ho6
            have HG6 := Lib.hid hg6
            have HBO : Hid (Bk w6 w.heap.size 61 mo.cells) := by
              have hb5 := (HRO.out.nofr (HFB.out.trans HF5.out)).bk
              rw [HGO.out] at hb5
              exact hb5.fr (Fr.ofGrown hg6) (fun e => own_apart HOO.out hb5 (by decide) e.symm)
            have o6 : w6.cell? ⟨w.heap.size, 1, none⟩ = some (.slice mo.FA mo.fs.length mo.FC) := HBO.out.cell 1
            have o6f := HBO.out.free 1
            have s6 := SG w6 (by
              refine (HF5.out.mono (D := fun k => (Value.slice mo.FA mo.fs.length mo.FC).ownBlock = some k) (fun _ _ h => h.elim)).trans ?_
              exact (Fr.ofGrown hg6).mono fun k _ hk => hk.symm)
            have s7 := SH w6 (.slice A6 (mo.fs.length + 1) c6) s6
            clear ho6 hg6 hc6 hA6
            refine hK.out _ _ ?_ (fun hHeld => ?_)
            · exact s6
            clear hK K
            try simp only [Act.put, List.setIfInBounds_toArray, List.set_cons_zero, List.set_cons_succ]
            refine wpAnyH_take (i := 17) (oi := ⟨some 76, _, _, _, _, _⟩) (v := ?_) rfl (by kernel_rfl) (by kernel_rfl) (by kernel_rfl) (fun _ _ _ h => h) (Or.inl ⟨by rfl, ?_⟩) (by assumption) ?_
            rotate_left 1
            · (intro w hSw; (try dsimp only at hSw); go_simp) <;> (with_reducible rfl)
            try simp only [Act.put, List.setIfInBounds_toArray, List.set_cons_zero, List.set_cons_succ]
            refine wpAnyH_take (i := 18) (oi := ⟨some 77, _, _, _, _, _⟩) (v := ?_) rfl (by kernel_rfl) (by kernel_rfl) (by kernel_rfl) (fun _ _ _ h => h) (Or.inl ⟨by rfl, ?_⟩) (by assumption) ?_
            rotate_left 1
            · (intro w hSw; (try dsimp only at hSw); go_simp) <;> (with_reducible rfl)
            try simp only [Act.put, List.setIfInBounds_toArray, List.set_cons_zero, List.set_cons_succ]
            refine wpAnyH_ready (rs := [19]) (by kernel_rfl) (by simp) ?_
            refine AllReadyH.cons (o := ⟨none, _, _, _, _, _⟩) rfl (fun K hK => ?_) AllReadyH.nil
            go_simp
            refine hK.out _ _ ?_ (fun hHeld => ?_)
            · exact s7
            clear hK K
            try simp only [Act.put, List.setIfInBounds_toArray, List.set_cons_zero, List.set_cons_succ]
            refine wpAnyH_done (by kernel_rfl) ?_ _
            have HDY : Hid (DOk w4 w.heap.size A4 c4 (dt.take nn)) := DOk.ofOwn (n := nn) (own_base HO4.out (Nat.le_trans HFW.out.size HFB.out.size)) HNL.out.symm
            have HPU : Hid (RIn (w6.setCell ⟨mo.g, 1, none⟩ (.slice A6 (mo.fs.length + 1) c6)) w.heap.size { mo with FA := A6, FC := c6, fs := mo.fs ++ [⟨⟨nm, dt.take nn, nn⟩, A4, c4⟩] } ∧ Fr mo.own wr (w6.setCell ⟨mo.g, 1, none⟩ (.slice A6 (mo.fs.length + 1) c6))) := HRO.out.push (HFB.out.trans HF5.out) ⟨⟨nm, dt.take nn, nn⟩, A4, c4⟩ (HDY.out.nofr ((Fr.refl _ _).alloc _)) (by show World.ownsRow _ _ _ _ _ _ (rfcs mo.fs ++ [_, .slice A4 (dt.take nn).length c4, _]); rw [HNL.out]; exact HO6.out) HG6.out
            rw [HGO.out] at HPU
            have HFZ : Hid (Fr NoBlk w (w6.setCell ⟨w.heap.size, 1, none⟩ (.slice A6 (mo.fs.length + 1) c6))) := HFW.out.step HPU.out.2 fun k hk hc => by
              have := (HRO.out.own hc).1
              omega
            have HRZ := Lib.hid HPU.out.1
            have HMAP : Hid ((mo.fs ++ [(⟨⟨nm, dt.take nn, nn⟩, A4, c4⟩ : RF)]).map RF.pf = pcrashL (m.pfs.take (k + 1)) ks) := by
              show _ = _
              rw [List.map_append, HMO.out, HCR.out]
              rfl
            clear HPU HDY HO4 HO6 HG6 HBO HF4 HF5 HR5 HOO HSZ
            go_wp2_with fail
            go_roundw
            case rel => exact ⟨k + 1, _, by omega, by go_num, HRZ, HFZ, HMAP, by show (mo.fs ++ [_]).length = _; have := HMOL.out; rw [List.length_append]; simp; omega, rfl, HST⟩
            case measure => simp [intOf]; omega
          · go_simp
            refine hK.out _ _ ?_ (fun hHeld => ?_)
            · exact sL
            clear hK K
            try simp only [Act.put, List.setIfInBounds_toArray, List.set_cons_zero, List.set_cons_succ]
            refine wpAnyH_ready (rs := [4, 12]) (by kernel_rfl) (by simp) ?_
            refine AllReadyH.cons (o := ⟨some 63, _, _, _, _, _⟩) rfl (fun K hK => ?_) (AllReadyH.cons (o := ⟨some 71, _, _, _, _, _⟩) rfl (fun K hK => ?_) AllReadyH.nil)
            · go_simp
              refine hK.out _ _ ?_ (fun hHeld => ?_)
              · exact sL
              clear hK K
              try simp only [Act.put, List.setIfInBounds_toArray, List.set_cons_zero, List.set_cons_succ]
              refine wpAnyH_ready (rs := [12]) (by kernel_rfl) (by simp) ?_
              refine AllReadyH.cons (o := ⟨some 71, _, _, _, _, _⟩) rfl (fun K hK => ?_) AllReadyH.nil
              refine step_app rfl _ _ 31 rfl wB.heap.size 5 i0 (.int .u8 0) 1 Try.underlying31 hi hz0 hz1 hz2 rfl (.slice (some ⟨wB.heap.size, 0, none⟩) 0 0) 0 [] rfl HNEW.out fa fc nn (cb (dt.take nn)) rfl HTL.out HDL.out.rd (cb_one _) HDL.out.nil (by unfold maxLen; omega) (by omega) HSL.out ?_
              intro v4 w4 ho4 hg4 _ _
              rw [Nat.zero_add, List.nil_append] at ho4
              obtain ⟨A4, c4, rfl, hc4, hA4⟩ := own_form ho4
              have HF4 : Hid (Fr NoBlk wB w4) := HFL.out.grown hg4 (fun k hk hlt => by
                have hk' : some wB.heap.size = some k := hk
                injection hk' with hk'
                omega)
              have HO4 := Lib.hid ho4
              have s4 := SF w4 HF4.out
              have o4 := OF w4 HF4.out
              clear ho4 hg4 hc4 hA4
              refine hK.out _ _ ?_ (fun hHeld => ?_)
              · exact s4
              clear hK K
              try simp only [Act.put, List.setIfInBounds_toArray, List.set_cons_zero, List.set_cons_succ]
              refine wpAnyH_take (i := 14) (oi := ⟨some 73, _, _, _, _, _⟩) (v := ?_) rfl (by kernel_rfl) (by kernel_rfl) (by kernel_rfl) (fun _ _ _ h => h) (Or.inl ⟨by rfl, ?_⟩) (by assumption) ?_
              rotate_left 1
              · (intro w hSw; (try dsimp only at hSw); go_simp) <;> (with_reducible rfl)
              try simp only [Act.put, List.setIfInBounds_toArray, List.set_cons_zero, List.set_cons_succ]
              refine wpAnyH_ready (rs := [15]) (by kernel_rfl) (by simp) ?_
              refine AllReadyH.cons (o := ⟨some 74, _, _, _, _, _⟩) rfl (fun K hK => ?_) AllReadyH.nil
              go_simp
              have HF5 : Hid (Fr NoBlk wB (w4.alloc (.cells #[.string (bstr nm), .slice A4 nn c4, .int .i64 nn] 68))) := HF4.out.alloc _
              have s5 := SF _ HF5.out
              have o5 := OF _ HF5.out
              refine hK.out _ _ ?_ (fun hHeld => ?_)
              · exact s5
              clear hK K
              try simp only [Act.put, List.setIfInBounds_toArray, List.set_cons_zero, List.set_cons_succ]
              refine wpAnyH_ready (rs := [16]) (by kernel_rfl) (by simp) ?_
              refine AllReadyH.cons (o := ⟨some 75, _, _, _, _, _⟩) rfl (fun K hK => ?_) AllReadyH.nil
              have HR5 : Hid (Rd (w4.alloc (.cells #[.string (bstr nm), .slice A4 nn c4, .int .i64 nn] 68)) (some ⟨w4.heap.size, 0, none⟩) [.string (bstr nm), .slice A4 nn c4, .int .i64 nn]) := Rd.of_cells (Bk.new _ _ _)
              have HOO : Hid ((w4.alloc (.cells #[.string (bstr nm), .slice A4 nn c4, .int .i64 nn] 68)).ownsRow w.heap.size 68 3 (.slice mo.FA mo.fs.length mo.FC) mo.fs.length (rfcs mo.fs)) := (HRO.out.nofr (HFB.out.trans HF5.out)).row
              have HSZ : Hid (w.heap.size ≤ (w4.alloc (.cells #[.string (bstr nm), .slice A4 nn c4, .int .i64 nn] 68)).heap.size) := Nat.le_trans HFW.out.size (HFB.out.trans HF5.out).size
              refine step_appO rfl _ _ 59 rfl w.heap.size 68 l0 _ 3 48 Try.underlying59 hl hl0 hl1 hl2 rfl (by decide) (.slice mo.FA mo.fs.length mo.FC) mo.fs.length (rfcs mo.fs) rfl HOO.out ⟨w4.heap.size, 0, none⟩ 1 1 [.string (bstr nm), .slice A4 nn c4, .int .i64 nn] rfl rfl HR5.out ?q1 ?q2 ?q3 HSZ.out ?_
              case q1 => intro u hu; simp only [List.mem_cons, List.not_mem_nil, or_false] at hu; rcases hu with rfl | rfl | rfl <;> rfl
              case q2 => have := HMOL.out; unfold maxLen; omega
              case q3 => have := HMOL.out; omega
              intro v6 w6 ho6 hg6 _
              obtain ⟨A6, c6, rfl, hc6, hA6⟩ := own_form ho6
              have HO6 := Lib.hid ho6
              have HG6 := Lib.hid hg6
              have HBO : Hid (Bk w6 w.heap.size 61 mo.cells) := by
                have hb5 := (HRO.out.nofr (HFB.out.trans HF5.out)).bk
                rw [HGO.out] at hb5
                exact hb5.fr (Fr.ofGrown hg6) (fun e => own_apart HOO.out hb5 (by decide) e.symm)
              have o6 : w6.cell? ⟨w.heap.size, 1, none⟩ = some (.slice mo.FA mo.fs.length mo.FC) := HBO.out.cell 1
              have o6f := HBO.out.free 1
              have s6 := SG w6 (by
                refine (HF5.out.mono (D := fun k => (Value.slice mo.FA mo.fs.length mo.FC).ownBlock = some k) (fun _ _ h => h.elim)).trans ?_
                exact (Fr.ofGrown hg6).mono fun k _ hk => hk.symm)
              have s7 := SH w6 (.slice A6 (mo.fs.length + 1) c6) s6
              clear ho6 hg6 hc6 hA6
              refine hK.out _ _ ?_ (fun hHeld => ?_)
              · exact s6
              clear hK K
              try simp only [Act.put, List.setIfInBounds_toArray, List.set_cons_zero, List.set_cons_succ]
              refine wpAnyH_take (i := 17) (oi := ⟨some 76, _, _, _, _, _⟩) (v := ?_) rfl (by kernel_rfl) (by kernel_rfl) (by kernel_rfl) (fun _ _ _ h => h) (Or.inl ⟨by rfl, ?_⟩) (by assumption) ?_
              rotate_left 1
              · (intro w hSw; (try dsimp only at hSw); go_simp) <;> (with_reducible rfl)
              try simp only [Act.put, List.setIfInBounds_toArray, List.set_cons_zero, List.set_cons_succ]
              refine wpAnyH_take (i := 18) (oi := ⟨some 77, _, _, _, _, _⟩) (v := ?_) rfl (by kernel_rfl) (by kernel_rfl) (by kernel_rfl) (fun _ _ _ h => h) (Or.inl ⟨by rfl, ?_⟩) (by assumption) ?_
              rotate_left 1
              · (intro w hSw; (try dsimp only at hSw); go_simp) <;> (with_reducible rfl)
              try simp only [Act.put, List.setIfInBounds_toArray, List.set_cons_zero, List.set_cons_succ]
              refine wpAnyH_ready (rs := [19]) (by kernel_rfl) (by simp) ?_
              refine AllReadyH.cons (o := ⟨none, _, _, _, _, _⟩) rfl (fun K hK => ?_) AllReadyH.nil
              go_simp
              refine hK.out _ _ ?_ (fun hHeld => ?_)
              · exact s7
              clear hK K
              try simp only [Act.put, List.setIfInBounds_toArray, List.set_cons_zero, List.set_cons_succ]
              refine wpAnyH_done (by kernel_rfl) ?_ _
              have HDY : Hid (DOk w4 w.heap.size A4 c4 (dt.take nn)) := DOk.ofOwn (n := nn) (own_base HO4.out (Nat.le_trans HFW.out.size HFB.out.size)) HNL.out.symm
              have HPU : Hid (RIn (w6.setCell ⟨mo.g, 1, none⟩ (.slice A6 (mo.fs.length + 1) c6)) w.heap.size { mo with FA := A6, FC := c6, fs := mo.fs ++ [⟨⟨nm, dt.take nn, nn⟩, A4, c4⟩] } ∧ Fr mo.own wr (w6.setCell ⟨mo.g, 1, none⟩ (.slice A6 (mo.fs.length + 1) c6))) := HRO.out.push (HFB.out.trans HF5.out) ⟨⟨nm, dt.take nn, nn⟩, A4, c4⟩ (HDY.out.nofr ((Fr.refl _ _).alloc _)) (by show World.ownsRow _ _ _ _ _ _ (rfcs mo.fs ++ [_, .slice A4 (dt.take nn).length c4, _]); rw [HNL.out]; exact HO6.out) HG6.out
              rw [HGO.out] at HPU
              have HFZ : Hid (Fr NoBlk w (w6.setCell ⟨w.heap.size, 1, none⟩ (.slice A6 (mo.fs.length + 1) c6))) := HFW.out.step HPU.out.2 fun k hk hc => by
                have := (HRO.out.own hc).1
                omega
              have HRZ := Lib.hid HPU.out.1
              have HMAP : Hid ((mo.fs ++ [(⟨⟨nm, dt.take nn, nn⟩, A4, c4⟩ : RF)]).map RF.pf = pcrashL (m.pfs.take (k + 1)) ks) := by
                show _ = _
                rw [List.map_append, HMO.out, HCR.out]
                rfl
              clear HPU HDY HO4 HO6 HG6 HBO HF4 HF5 HR5 HOO HSZ
              go_wp2_with fail
              go_roundw
              case rel => exact ⟨k + 1, _, by omega, by go_num, HRZ, HFZ, HMAP, by show (mo.fs ++ [_]).length = _; have := HMOL.out; rw [List.length_append]; simp; omega, rfl, HST⟩
              case measure => simp [intOf]; omega
            · refine step_app rfl _ _ 31 rfl wB.heap.size 5 i0 (.int .u8 0) 1 Try.underlying31 hi hz0 hz1 hz2 rfl (.slice (some ⟨wB.heap.size, 0, none⟩) 0 0) 0 [] rfl HNEW.out fa fc nn (cb (dt.take nn)) rfl HTL.out HDL.out.rd (cb_one _) HDL.out.nil (by unfold maxLen; omega) (by omega) HSL.out ?_
              intro v4 w4 ho4 hg4 _ _
              rw [Nat.zero_add, List.nil_append] at ho4
              obtain ⟨A4, c4, rfl, hc4, hA4⟩ := own_form ho4
              have HF4 : Hid (Fr NoBlk wB w4) := HFL.out.grown hg4 (fun k hk hlt => by
                have hk' : some wB.heap.size = some k := hk
                injection hk' with hk'
                omega)
              have HO4 := Lib.hid ho4
              have s4 := SF w4 HF4.out
              have o4 := OF w4 HF4.out
              clear ho4 hg4 hc4 hA4
              refine hK.out _ _ ?_ (fun hHeld => ?_)
              · exact s4
              clear hK K
              try simp only [Act.put, List.setIfInBounds_toArray, List.set_cons_zero, List.set_cons_succ]
              refine wpAnyH_take (i := 14) (oi := ⟨some 73, _, _, _, _, _⟩) (v := ?_) rfl (by kernel_rfl) (by kernel_rfl) (by kernel_rfl) (fun _ _ _ h => h) (Or.inl ⟨by rfl, ?_⟩) (by assumption) ?_
              rotate_left 1
              · (intro w hSw; (try dsimp only at hSw); go_simp) <;> (with_reducible rfl)
              try simp only [Act.put, List.setIfInBounds_toArray, List.set_cons_zero, List.set_cons_succ]
              refine wpAnyH_ready (rs := [4, 15]) (by kernel_rfl) (by simp) ?_
              refine AllReadyH.cons (o := ⟨some 63, _, _, _, _, _⟩) rfl (fun K hK => ?_) (AllReadyH.cons (o := ⟨some 74, _, _, _, _, _⟩) rfl (fun K hK => ?_) AllReadyH.nil)
              · go_simp
                refine hK.out _ _ ?_ (fun hHeld => ?_)
                · exact s4
                clear hK K
                try simp only [Act.put, List.setIfInBounds_toArray, List.set_cons_zero, List.set_cons_succ]
                refine wpAnyH_ready (rs := [15]) (by kernel_rfl) (by simp) ?_
                refine AllReadyH.cons (o := ⟨some 74, _, _, _, _, _⟩) rfl (fun K hK => ?_) AllReadyH.nil
                go_simp
                have HF5 : Hid (Fr NoBlk wB (w4.alloc (.cells #[.string (bstr nm), .slice A4 nn c4, .int .i64 nn] 68))) := HF4.out.alloc _
                have s5 := SF _ HF5.out
                have o5 := OF _ HF5.out
                refine hK.out _ _ ?_ (fun hHeld => ?_)
                · exact s5
                clear hK K
                try simp only [Act.put, List.setIfInBounds_toArray, List.set_cons_zero, List.set_cons_succ]
                refine wpAnyH_ready (rs := [16]) (by kernel_rfl) (by simp) ?_
                refine AllReadyH.cons (o := ⟨some 75, _, _, _, _, _⟩) rfl (fun K hK => ?_) AllReadyH.nil
                have HR5 : Hid (Rd (w4.alloc (.cells #[.string (bstr nm), .slice A4 nn c4, .int .i64 nn] 68)) (some ⟨w4.heap.size, 0, none⟩) [.string (bstr nm), .slice A4 nn c4, .int .i64 nn]) := Rd.of_cells (Bk.new _ _ _)
                have HOO : Hid ((w4.alloc (.cells #[.string (bstr nm), .slice A4 nn c4, .int .i64 nn] 68)).ownsRow w.heap.size 68 3 (.slice mo.FA mo.fs.length mo.FC) mo.fs.length (rfcs mo.fs)) := (HRO.out.nofr (HFB.out.trans HF5.out)).row
                have HSZ : Hid (w.heap.size ≤ (w4.alloc (.cells #[.string (bstr nm), .slice A4 nn c4, .int .i64 nn] 68)).heap.size) := Nat.le_trans HFW.out.size (HFB.out.trans HF5.out).size
                refine step_appO rfl _ _ 59 rfl w.heap.size 68 l0 _ 3 48 Try.underlying59 hl hl0 hl1 hl2 rfl (by decide) (.slice mo.FA mo.fs.length mo.FC) mo.fs.length (rfcs mo.fs) rfl HOO.out ⟨w4.heap.size, 0, none⟩ 1 1 [.string (bstr nm), .slice A4 nn c4, .int .i64 nn] rfl rfl HR5.out ?q1 ?q2 ?q3 HSZ.out ?_
                case q1 => intro u hu; simp only [List.mem_cons, List.not_mem_nil, or_false] at hu; rcases hu with rfl | rfl | rfl <;> rfl
                case q2 => have := HMOL.out; unfold maxLen; omega
                case q3 => have := HMOL.out; omega
                intro v6 w6 ho6 hg6 _
                obtain ⟨A6, c6, rfl, hc6, hA6⟩ := own_form ho6
                have HO6 := Lib.hid ho6
                have HG6 := Lib.hid hg6
                have HBO : Hid (Bk w6 w.heap.size 61 mo.cells) := by
                  have hb5 := (HRO.out.nofr (HFB.out.trans HF5.out)).bk
                  rw [HGO.out] at hb5
                  exact hb5.fr (Fr.ofGrown hg6) (fun e => own_apart HOO.out hb5 (by decide) e.symm)
                have o6 : w6.cell? ⟨w.heap.size, 1, none⟩ = some (.slice mo.FA mo.fs.length mo.FC) := HBO.out.cell 1
                have o6f := HBO.out.free 1
                have s6 := SG w6 (by
                  refine (HF5.out.mono (D := fun k => (Value.slice mo.FA mo.fs.length mo.FC).ownBlock = some k) (fun _ _ h => h.elim)).trans ?_
                  exact (Fr.ofGrown hg6).mono fun k _ hk => hk.symm)
                have s7 := SH w6 (.slice A6 (mo.fs.length + 1) c6) s6
                clear ho6 hg6 hc6 hA6
                refine hK.out _ _ ?_ (fun hHeld => ?_)
                · exact s6
                clear hK K
                try simp only [Act.put, List.setIfInBounds_toArray, List.set_cons_zero, List.set_cons_succ]
                refine wpAnyH_take (i := 17) (oi := ⟨some 76, _, _, _, _, _⟩) (v := ?_) rfl (by kernel_rfl) (by kernel_rfl) (by kernel_rfl) (fun _ _ _ h => h) (Or.inl ⟨by rfl, ?_⟩) (by assumption) ?_
                rotate_left 1
                · (intro w hSw; (try dsimp only at hSw); go_simp) <;> (with_reducible rfl)
                try simp only [Act.put, List.setIfInBounds_toArray, List.set_cons_zero, List.set_cons_succ]
                refine wpAnyH_take (i := 18) (oi := ⟨some 77, _, _, _, _, _⟩) (v := ?_) rfl (by kernel_rfl) (by kernel_rfl) (by kernel_rfl) (fun _ _ _ h => h) (Or.inl ⟨by rfl, ?_⟩) (by assumption) ?_
                rotate_left 1
                · (intro w hSw; (try dsimp only at hSw); go_simp) <;> (with_reducible rfl)
                try simp only [Act.put, List.setIfInBounds_toArray, List.set_cons_zero, List.set_cons_succ]
                refine wpAnyH_ready (rs := [19]) (by kernel_rfl) (by simp) ?_
                refine AllReadyH.cons (o := ⟨none, _, _, _, _, _⟩) rfl (fun K hK => ?_) AllReadyH.nil
                go_simp
                refine hK.out _ _ ?_ (fun hHeld => ?_)
                · exact s7
                clear hK K
                try simp only [Act.put, List.setIfInBounds_toArray, List.set_cons_zero, List.set_cons_succ]
                refine wpAnyH_done (by kernel_rfl) ?_ _
                have HDY : Hid (DOk w4 w.heap.size A4 c4 (dt.take nn)) := DOk.ofOwn (n := nn) (own_base HO4.out (Nat.le_trans HFW.out.size HFB.out.size)) HNL.out.symm
                have HPU : Hid (RIn (w6.setCell ⟨mo.g, 1, none⟩ (.slice A6 (mo.fs.length + 1) c6)) w.heap.size { mo with FA := A6, FC := c6, fs := mo.fs ++ [⟨⟨nm, dt.take nn, nn⟩, A4, c4⟩] } ∧ Fr mo.own wr (w6.setCell ⟨mo.g, 1, none⟩ (.slice A6 (mo.fs.length + 1) c6))) := HRO.out.push (HFB.out.trans HF5.out) ⟨⟨nm, dt.take nn, nn⟩, A4, c4⟩ (HDY.out.nofr ((Fr.refl _ _).alloc _)) (by show World.ownsRow _ _ _ _ _ _ (rfcs mo.fs ++ [_, .slice A4 (dt.take nn).length c4, _]); rw [HNL.out]; exact HO6.out) HG6.out
                rw [HGO.out] at HPU
                have HFZ : Hid (Fr NoBlk w (w6.setCell ⟨w.heap.size, 1, none⟩ (.slice A6 (mo.fs.length + 1) c6))) := HFW.out.step HPU.out.2 fun k hk hc => by
                  have := (HRO.out.own hc).1
                  omega
                have HRZ := Lib.hid HPU.out.1
                have HMAP : Hid ((mo.fs ++ [(⟨⟨nm, dt.take nn, nn⟩, A4, c4⟩ : RF)]).map RF.pf = pcrashL (m.pfs.take (k + 1)) ks) := by
                  show _ = _
                  rw [List.map_append, HMO.out, HCR.out]
                  rfl
                clear HPU HDY HO4 HO6 HG6 HBO HF4 HF5 HR5 HOO HSZ
                go_wp2_with fail
                go_roundw
                case rel => exact ⟨k + 1, _, by omega, by go_num, HRZ, HFZ, HMAP, by show (mo.fs ++ [_]).length = _; have := HMOL.out; rw [List.length_append]; simp; omega, rfl, HST⟩
                case measure => simp [intOf]; omega
              · go_simp
                have HF5 : Hid (Fr NoBlk wB (w4.alloc (.cells #[.string (bstr nm), .slice A4 nn c4, .int .i64 nn] 68))) := HF4.out.alloc _
                have s5 := SF _ HF5.out
                have o5 := OF _ HF5.out
                refine hK.out _ _ ?_ (fun hHeld => ?_)
                · exact s5
                clear hK K
                try simp only [Act.put, List.setIfInBounds_toArray, List.set_cons_zero, List.set_cons_succ]
                refine wpAnyH_ready (rs := [4]) (by kernel_rfl) (by simp) ?_
                refine AllReadyH.cons (o := ⟨some 63, _, _, _, _, _⟩) rfl (fun K hK => ?_) AllReadyH.nil
                go_simp
                refine hK.out _ _ ?_ (fun hHeld => ?_)
                · exact s5
                clear hK K
                try simp only [Act.put, List.setIfInBounds_toArray, List.set_cons_zero, List.set_cons_succ]
                refine wpAnyH_ready (rs := [16]) (by kernel_rfl) (by simp) ?_
                refine AllReadyH.cons (o := ⟨some 75, _, _, _, _, _⟩) rfl (fun K hK => ?_) AllReadyH.nil
                have HR5 : Hid (Rd (w4.alloc (.cells #[.string (bstr nm), .slice A4 nn c4, .int .i64 nn] 68)) (some ⟨w4.heap.size, 0, none⟩) [.string (bstr nm), .slice A4 nn c4, .int .i64 nn]) := Rd.of_cells (Bk.new _ _ _)
                have HOO : Hid ((w4.alloc (.cells #[.string (bstr nm), .slice A4 nn c4, .int .i64 nn] 68)).ownsRow w.heap.size 68 3 (.slice mo.FA mo.fs.length mo.FC) mo.fs.length (rfcs mo.fs)) := (HRO.out.nofr (HFB.out.trans HF5.out)).row
                have HSZ : Hid (w.heap.size ≤ (w4.alloc (.cells #[.string (bstr nm), .slice A4 nn c4, .int .i64 nn] 68)).heap.size) := Nat.le_trans HFW.out.size (HFB.out.trans HF5.out).size
                refine step_appO rfl _ _ 59 rfl w.heap.size 68 l0 _ 3 48 Try.underlying59 hl hl0 hl1 hl2 rfl (by decide) (.slice mo.FA mo.fs.length mo.FC) mo.fs.length (rfcs mo.fs) rfl HOO.out ⟨w4.heap.size, 0, none⟩ 1 1 [.string (bstr nm), .slice A4 nn c4, .int .i64 nn] rfl rfl HR5.out ?q1 ?q2 ?q3 HSZ.out ?_
                case q1 => intro u hu; simp only [List.mem_cons, List.not_mem_nil, or_false] at hu; rcases hu with rfl | rfl | rfl <;> rfl
                case q2 => have := HMOL.out; unfold maxLen; omega
                case q3 => have := HMOL.out; omega
                intro v6 w6 ho6 hg6 _
                obtain ⟨A6, c6, rfl, hc6, hA6⟩ := own_form ho6
                have HO6 := Lib.hid ho6
                have HG6 := Lib.hid hg6
                have HBO : Hid (Bk w6 w.heap.size 61 mo.cells) := by
                  have hb5 := (HRO.out.nofr (HFB.out.trans HF5.out)).bk
                  rw [HGO.out] at hb5
                  exact hb5.fr (Fr.ofGrown hg6) (fun e => own_apart HOO.out hb5 (by decide) e.symm)
                have o6 : w6.cell? ⟨w.heap.size, 1, none⟩ = some (.slice mo.FA mo.fs.length mo.FC) := HBO.out.cell 1
                have o6f := HBO.out.free 1
                have s6 := SG w6 (by
                  refine (HF5.out.mono (D := fun k => (Value.slice mo.FA mo.fs.length mo.FC).ownBlock = some k) (fun _ _ h => h.elim)).trans ?_
                  exact (Fr.ofGrown hg6).mono fun k _ hk => hk.symm)
                have s7 := SH w6 (.slice A6 (mo.fs.length + 1) c6) s6
                clear ho6 hg6 hc6 hA6
                refine hK.out _ _ ?_ (fun hHeld => ?_)
                · exact s6
                clear hK K
                try simp only [Act.put, List.setIfInBounds_toArray, List.set_cons_zero, List.set_cons_succ]
                refine wpAnyH_take (i := 17) (oi := ⟨some 76, _, _, _, _, _⟩) (v := ?_) rfl (by kernel_rfl) (by kernel_rfl) (by kernel_rfl) (fun _ _ _ h => h) (Or.inl ⟨by rfl, ?_⟩) (by assumption) ?_
                rotate_left 1
                · (intro w hSw; (try dsimp only at hSw); go_simp) <;> (with_reducible rfl)
                try simp only [Act.put, List.setIfInBounds_toArray, List.set_cons_zero, List.set_cons_succ]
                refine wpAnyH_take (i := 18) (oi := ⟨some 77, _, _, _, _, _⟩) (v := ?_) rfl (by kernel_rfl) (by kernel_rfl) (by kernel_rfl) (fun _ _ _ h => h) (Or.inl ⟨by rfl, ?_⟩) (by assumption) ?_
                rotate_left 1
                · (intro w hSw; (try dsimp only at hSw); go_simp) <;> (with_reducible rfl)
                try simp only [Act.put, List.setIfInBounds_toArray, List.set_cons_zero, List.set_cons_succ]
                refine wpAnyH_ready (rs := [19]) (by kernel_rfl) (by simp) ?_
                refine AllReadyH.cons (o := ⟨none, _, _, _, _, _⟩) rfl (fun K hK => ?_) AllReadyH.nil
                go_simp
                refine hK.out _ _ ?_ (fun hHeld => ?_)
                · exact s7
                clear hK K
                try simp only [Act.put, List.setIfInBounds_toArray, List.set_cons_zero, List.set_cons_succ]
                refine wpAnyH_done (by kernel_rfl) ?_ _
                have HDY : Hid (DOk w4 w.heap.size A4 c4 (dt.take nn)) := DOk.ofOwn (n := nn) (own_base HO4.out (Nat.le_trans HFW.out.size HFB.out.size)) HNL.out.symm
                have HPU : Hid (RIn (w6.setCell ⟨mo.g, 1, none⟩ (.slice A6 (mo.fs.length + 1) c6)) w.heap.size { mo with FA := A6, FC := c6, fs := mo.fs ++ [⟨⟨nm, dt.take nn, nn⟩, A4, c4⟩] } ∧ Fr mo.own wr (w6.setCell ⟨mo.g, 1, none⟩ (.slice A6 (mo.fs.length + 1) c6))) := HRO.out.push (HFB.out.trans HF5.out) ⟨⟨nm, dt.take nn, nn⟩, A4, c4⟩ (HDY.out.nofr ((Fr.refl _ _).alloc _)) (by show World.ownsRow _ _ _ _ _ _ (rfcs mo.fs ++ [_, .slice A4 (dt.take nn).length c4, _]); rw [HNL.out]; exact HO6.out) HG6.out
                rw [HGO.out] at HPU
                have HFZ : Hid (Fr NoBlk w (w6.setCell ⟨w.heap.size, 1, none⟩ (.slice A6 (mo.fs.length + 1) c6))) := HFW.out.step HPU.out.2 fun k hk hc => by
                  have := (HRO.out.own hc).1
                  omega
                have HRZ := Lib.hid HPU.out.1
                have HMAP : Hid ((mo.fs ++ [(⟨⟨nm, dt.take nn, nn⟩, A4, c4⟩ : RF)]).map RF.pf = pcrashL (m.pfs.take (k + 1)) ks) := by
                  show _ = _
                  rw [List.map_append, HMO.out, HCR.out]
                  rfl
                clear HPU HDY HO4 HO6 HG6 HBO HF4 HF5 HR5 HOO HSZ
                go_wp2_with fail
                go_roundw
                case rel => exact ⟨k + 1, _, by omega, by go_num, HRZ, HFZ, HMAP, by show (mo.fs ++ [_]).length = _; have := HMOL.out; rw [List.length_append]; simp; omega, rfl, HST⟩
                case measure => simp [intOf]; omega
      · have hx0 : x = 0 := by
          rw [HXX.out, List.getD_eq_getElem?_getD, List.getElem?_eq_none (by omega)]; rfl
        subst hx0
        rw [Int.zero_emod, Int.add_zero] at hnq
        obtain rfl : nn = la := by omega
        have e5 : IntKind.i64.wrap (nn : Int) = (nn : Int) := IntWalk.i64_in _ (by omega)
        have e6 : IntKind.i64.wrap ((nn : Int) + 0) = (nn : Int) := by rw [Int.add_zero]; exact e5
        clear hnq
        go_wp2_with fail
        rw [← HWB.out]
        clear HWB q0 q1 q2 b2 c1
        refine wp_region_held_drew (S := fun w' => w'.cell? ⟨wr.heap.size, 0, none⟩ = some (.string (bstr nm)) ∧ w'.cell? ⟨wr.heap.size, 1, none⟩ = some (.slice fa dt.length fc)) (by kernel_rfl) (by exact sD) (fun hHeld => ?_)
        refine wpAnyH_take (i := 0) (oi := ⟨some 59, _, _, _, _, _⟩) (v := ?_) rfl (by kernel_rfl) (by kernel_rfl) (by kernel_rfl) (fun _ _ _ h => h) (Or.inl ⟨by rfl, ?_⟩) (by assumption) ?_
        rotate_left 1
        · (intro w hSw; (try dsimp only at hSw); obtain ⟨hSa, hSb⟩ := hSw; go_simp) <;> (with_reducible rfl)
        try simp only [Act.put, List.setIfInBounds_toArray, List.set_cons_zero, List.set_cons_succ]
        refine wpAnyH_take (i := 1) (oi := ⟨some 60, _, _, _, _, _⟩) (v := ?_) rfl (by kernel_rfl) (by kernel_rfl) (by kernel_rfl) (fun _ _ _ h => h) (Or.inl ⟨by rfl, ?_⟩) (by assumption) ?_
        rotate_left 1
        · (intro w hSw; (try dsimp only at hSw); obtain ⟨hSa, hSb⟩ := hSw; go_simp) <;> (with_reducible rfl)
        try simp only [Act.put, List.setIfInBounds_toArray, List.set_cons_zero, List.set_cons_succ]
        refine wpAnyH_take (i := 2) (oi := ⟨some 61, _, _, _, _, _⟩) (v := ?_) rfl (by kernel_rfl) (by kernel_rfl) (by kernel_rfl) (fun _ _ _ h => h) (Or.inl ⟨by rfl, ?_⟩) (by assumption) ?_
        rotate_left 1
        · (intro w hSw; (try dsimp only at hSw); obtain ⟨hSa, hSb⟩ := hSw; go_simp) <;> (with_reducible rfl)
        try simp only [Act.put, List.setIfInBounds_toArray, List.set_cons_zero, List.set_cons_succ]
        refine wpAnyH_take (i := 3) (oi := ⟨some 62, _, _, _, _, _⟩) (v := ?_) rfl (by kernel_rfl) (by kernel_rfl) (by kernel_rfl) (fun _ _ _ h => h) (Or.inl ⟨by rfl, ?_⟩) (by assumption) ?_
        rotate_left 1
        · (intro w hSw; (try dsimp only at hSw); obtain ⟨hSa, hSb⟩ := hSw; go_simp) <;> (with_reducible rfl)
        try simp only [Act.put, List.setIfInBounds_toArray, List.set_cons_zero, List.set_cons_succ]
        refine wpAnyH_take (i := 5) (oi := ⟨some 64, _, _, _, _, _⟩) (v := ?_) rfl (by kernel_rfl) (by kernel_rfl) (by kernel_rfl) (fun _ _ _ h => h) (Or.inl ⟨by rfl, ?_⟩) (by assumption) ?_
        rotate_left 1
        · (intro w hSw; (try dsimp only at hSw); obtain ⟨hSa, hSb⟩ := hSw; go_simp) <;> (with_reducible rfl)
        try simp only [Act.put, List.setIfInBounds_toArray, List.set_cons_zero, List.set_cons_succ]
        refine wpAnyH_take (i := 6) (oi := ⟨some 65, _, _, _, _, _⟩) (v := ?_) rfl (by kernel_rfl) (by kernel_rfl) (by kernel_rfl) (fun _ _ _ h => h) (Or.inl ⟨by rfl, ?_⟩) (by assumption) ?_
        rotate_left 1
        · (intro w hSw; (try dsimp only at hSw); obtain ⟨hSa, hSb⟩ := hSw; go_simp) <;> (with_reducible rfl)
        try simp only [Act.put, List.setIfInBounds_toArray, List.set_cons_zero, List.set_cons_succ]
        refine wpAnyH_take (i := 8) (oi := ⟨some 67, _, _, _, _, _⟩) (v := ?_) rfl (by kernel_rfl) (by kernel_rfl) (by kernel_rfl) (fun _ _ _ h => h) (Or.inl ⟨by rfl, ?_⟩) (by assumption) ?_
        rotate_left 1
        · (intro w hSw; (try dsimp only at hSw); obtain ⟨hSa, hSb⟩ := hSw; go_simp) <;> (with_reducible rfl)
        try simp only [Act.put, List.setIfInBounds_toArray, List.set_cons_zero, List.set_cons_succ]
        refine wpAnyH_take (i := 9) (oi := ⟨some 68, _, _, _, _, _⟩) (v := ?_) rfl (by kernel_rfl) (by kernel_rfl) (by kernel_rfl) (fun _ _ _ h => h) (Or.inl ⟨by rfl, ?_⟩) (by assumption) ?_
        rotate_left 1
        · (intro w hSw; (try dsimp only at hSw); obtain ⟨hSa, hSb⟩ := hSw; go_simp) <;> (with_reducible rfl)
        try simp only [Act.put, List.setIfInBounds_toArray, List.set_cons_zero, List.set_cons_succ]
        refine wpAnyH_take (i := 10) (oi := ⟨some 69, _, _, _, _, _⟩) (v := ?_) rfl (by kernel_rfl) (by kernel_rfl) (by kernel_rfl) (fun _ _ _ h => h) (Or.inl ⟨by rfl, ?_⟩) (by assumption) ?_
        rotate_left 1
        · (intro w hSw; (try dsimp only at hSw); obtain ⟨hSa, hSb⟩ := hSw; go_simp) <;> (with_reducible rfl)
        try simp only [Act.put, List.setIfInBounds_toArray, List.set_cons_zero, List.set_cons_succ]
        refine wpAnyH_take (i := 11) (oi := ⟨some 70, _, _, _, _, _⟩) (v := ?_) rfl (by kernel_rfl) (by kernel_rfl) (by kernel_rfl) (fun _ _ _ h => h) (Or.inl ⟨by rfl, ?_⟩) (by assumption) ?_
        rotate_left 1
        · (intro w hSw; (try dsimp only at hSw); obtain ⟨hSa, hSb⟩ := hSw; go_simp) <;> (with_reducible rfl)
        try simp only [Act.put, List.setIfInBounds_toArray, List.set_cons_zero, List.set_cons_succ]
        refine wpAnyH_take (i := 13) (oi := ⟨some 72, _, _, _, _, _⟩) (v := ?_) rfl (by kernel_rfl) (by kernel_rfl) (by kernel_rfl) (fun _ _ _ h => h) (Or.inl ⟨by rfl, ?_⟩) (by assumption) ?_
        rotate_left 1
        · (intro w hSw; (try dsimp only at hSw); obtain ⟨hSa, hSb⟩ := hSw; go_simp) <;> (with_reducible rfl)
        try simp only [Act.put, List.setIfInBounds_toArray, List.set_cons_zero, List.set_cons_succ]
        refine wpAnyH_ready (rs := [4, 7]) (by kernel_rfl) (by simp) ?_
        refine AllReadyH.cons (o := ⟨some 63, _, _, _, _, _⟩) rfl (fun K hK => ?_) (AllReadyH.cons (o := ⟨some 66, _, _, _, _, _⟩) rfl (fun K hK => ?_) AllReadyH.nil)
        · go_simp
          refine hK.out _ _ ?_ (fun hHeld => ?_)
          · exact sD
          clear hK K
          try simp only [Act.put, List.setIfInBounds_toArray, List.set_cons_zero, List.set_cons_succ]
          refine wpAnyH_ready (rs := [7]) (by kernel_rfl) (by simp) ?_
          refine AllReadyH.cons (o := ⟨some 66, _, _, _, _, _⟩) rfl (fun K hK => ?_) AllReadyH.nil
          go_simp
          refine hK.out _ _ ?_ (fun hHeld => ?_)
          · exact sL
          clear hK K
          try simp only [Act.put, List.setIfInBounds_toArray, List.set_cons_zero, List.set_cons_succ]
          refine wpAnyH_ready (rs := [12]) (by kernel_rfl) (by simp) ?_
          refine AllReadyH.cons (o := ⟨some 71, _, _, _, _, _⟩) rfl (fun K hK => ?_) AllReadyH.nil
          refine step_app rfl _ _ 31 rfl wB.heap.size 5 i0 (.int .u8 0) 1 Try.underlying31 hi hz0 hz1 hz2 rfl (.slice (some ⟨wB.heap.size, 0, none⟩) 0 0) 0 [] rfl HNEW.out fa fc nn (cb (dt.take nn)) rfl HTL.out HDL.out.rd (cb_one _) HDL.out.nil (by unfold maxLen; omega) (by omega) HSL.out ?_
          intro v4 w4 ho4 hg4 _ _
          rw [Nat.zero_add, List.nil_append] at ho4
          obtain ⟨A4, c4, rfl, hc4, hA4⟩ := own_form ho4
          have HF4 : Hid (Fr NoBlk wB w4) := HFL.out.grown hg4 (fun k hk hlt => by
            have hk' : some wB.heap.size = some k := hk
            injection hk' with hk'
            omega)
          have HO4 := Lib.hid ho4
          have s4 := SF w4 HF4.out
          have o4 := OF w4 HF4.out
          clear ho4 hg4 hc4 hA4
          refine hK.out _ _ ?_ (fun hHeld => ?_)
          · exact s4
          clear hK K
          try simp only [Act.put, List.setIfInBounds_toArray, List.set_cons_zero, List.set_cons_succ]
          refine wpAnyH_take (i := 14) (oi := ⟨some 73, _, _, _, _, _⟩) (v := ?_) rfl (by kernel_rfl) (by kernel_rfl) (by kernel_rfl) (fun _ _ _ h => h) (Or.inl ⟨by rfl, ?_⟩) (by assumption) ?_
          rotate_left 1
          · (intro w hSw; (try dsimp only at hSw); go_simp) <;> (with_reducible rfl)
          try simp only [Act.put, List.setIfInBounds_toArray, List.set_cons_zero, List.set_cons_succ]
          refine wpAnyH_ready (rs := [15]) (by kernel_rfl) (by simp) ?_
          refine AllReadyH.cons (o := ⟨some 74, _, _, _, _, _⟩) rfl (fun K hK => ?_) AllReadyH.nil
          go_simp
          have HF5 : Hid (Fr NoBlk wB (w4.alloc (.cells #[.string (bstr nm), .slice A4 nn c4, .int .i64 nn] 68))) := HF4.out.alloc _
          have s5 := SF _ HF5.out
          have o5 := OF _ HF5.out
          refine hK.out _ _ ?_ (fun hHeld => ?_)
          · exact s5
          clear hK K
          try simp only [Act.put, List.setIfInBounds_toArray, List.set_cons_zero, List.set_cons_succ]
          refine wpAnyH_ready (rs := [16]) (by kernel_rfl) (by simp) ?_
          refine AllReadyH.cons (o := ⟨some 75, _, _, _, _, _⟩) rfl (fun K hK => ?_) AllReadyH.nil
          have HR5 : Hid (Rd (w4.alloc (.cells #[.string (bstr nm), .slice A4 nn c4, .int .i64 nn] 68)) (some ⟨w4.heap.size, 0, none⟩) [.string (bstr nm), .slice A4 nn c4, .int .i64 nn]) := Rd.of_cells (Bk.new _ _ _)
          have HOO : Hid ((w4.alloc (.cells #[.string (bstr nm), .slice A4 nn c4, .int .i64 nn] 68)).ownsRow w.heap.size 68 3 (.slice mo.FA mo.fs.length mo.FC) mo.fs.length (rfcs mo.fs)) := (HRO.out.nofr (HFB.out.trans HF5.out)).row
          have HSZ : Hid (w.heap.size ≤ (w4.alloc (.cells #[.string (bstr nm), .slice A4 nn c4, .int .i64 nn] 68)).heap.size) := Nat.le_trans HFW.out.size (HFB.out.trans HF5.out).size
          refine step_appO rfl _ _ 59 rfl w.heap.size 68 l0 _ 3 48 Try.underlying59 hl hl0 hl1 hl2 rfl (by decide) (.slice mo.FA mo.fs.length mo.FC) mo.fs.length (rfcs mo.fs) rfl HOO.out ⟨w4.heap.size, 0, none⟩ 1 1 [.string (bstr nm), .slice A4 nn c4, .int .i64 nn] rfl rfl HR5.out ?q1 ?q2 ?q3 HSZ.out ?_
          case q1 => intro u hu; simp only [List.mem_cons, List.not_mem_nil, or_false] at hu; rcases hu with rfl | rfl | rfl <;> rfl
          case q2 => have := HMOL.out; unfold maxLen; omega
          case q3 => have := HMOL.out; omega
          intro v6 w6 ho6 hg6 _
          obtain ⟨A6, c6, rfl, hc6, hA6⟩ := own_form ho6
          have HO6 := Lib.hid ho6
          have HG6 := Lib.hid hg6
          have HBO : Hid (Bk w6 w.heap.size 61 mo.cells) := by
            have hb5 := (HRO.out.nofr (HFB.out.trans HF5.out)).bk
            rw [HGO.out] at hb5
            exact hb5.fr (Fr.ofGrown hg6) (fun e => own_apart HOO.out hb5 (by decide) e.symm)
          have o6 : w6.cell? ⟨w.heap.size, 1, none⟩ = some (.slice mo.FA mo.fs.length mo.FC) := HBO.out.cell 1
          have o6f := HBO.out.free 1
          have s6 := SG w6 (by
            refine (HF5.out.mono (D := fun k => (Value.slice mo.FA mo.fs.length mo.FC).ownBlock = some k) (fun _ _ h => h.elim)).trans ?_
            exact (Fr.ofGrown hg6).mono fun k _ hk => hk.symm)
          have s7 := SH w6 (.slice A6 (mo.fs.length + 1) c6) s6
          clear ho6 hg6 hc6 hA6
          refine hK.out _ _ ?_ (fun hHeld => ?_)
          · exact s6
          clear hK K
          try simp only [Act.put, List.setIfInBounds_toArray, List.set_cons_zero, List.set_cons_succ]
          refine wpAnyH_take (i := 17) (oi := ⟨some 76, _, _, _, _, _⟩) (v := ?_) rfl (by kernel_rfl) (by kernel_rfl) (by kernel_rfl) (fun _ _ _ h => h) (Or.inl ⟨by rfl, ?_⟩) (by assumption) ?_
          rotate_left 1
          · (intro w hSw; (try dsimp only at hSw); go_simp) <;> (with_reducible rfl)
          try simp only [Act.put, List.setIfInBounds_toArray, List.set_cons_zero, List.set_cons_succ]
          refine wpAnyH_take (i := 18) (oi := ⟨some 77, _, _, _, _, _⟩) (v := ?_) rfl (by kernel_rfl) (by kernel_rfl) (by kernel_rfl) (fun _ _ _ h => h) (Or.inl ⟨by rfl, ?_⟩) (by assumption) ?_
          rotate_left 1
          · (intro w hSw; (try dsimp only at hSw); go_simp) <;> (with_reducible rfl)
          try simp only [Act.put, List.setIfInBounds_toArray, List.set_cons_zero, List.set_cons_succ]
          refine wpAnyH_ready (rs := [19]) (by kernel_rfl) (by simp) ?_
          refine AllReadyH.cons (o := ⟨none, _, _, _, _, _⟩) rfl (fun K hK => ?_) AllReadyH.nil
          go_simp
          refine hK.out _ _ ?_ (fun hHeld => ?_)
          · exact s7
          clear hK K
          try simp only [Act.put, List.setIfInBounds_toArray, List.set_cons_zero, List.set_cons_succ]
          refine wpAnyH_done (by kernel_rfl) ?_ _
          have HDY : Hid (DOk w4 w.heap.size A4 c4 (dt.take nn)) := DOk.ofOwn (n := nn) (own_base HO4.out (Nat.le_trans HFW.out.size HFB.out.size)) HNL.out.symm
          have HPU : Hid (RIn (w6.setCell ⟨mo.g, 1, none⟩ (.slice A6 (mo.fs.length + 1) c6)) w.heap.size { mo with FA := A6, FC := c6, fs := mo.fs ++ [⟨⟨nm, dt.take nn, nn⟩, A4, c4⟩] } ∧ Fr mo.own wr (w6.setCell ⟨mo.g, 1, none⟩ (.slice A6 (mo.fs.length + 1) c6))) := HRO.out.push (HFB.out.trans HF5.out) ⟨⟨nm, dt.take nn, nn⟩, A4, c4⟩ (HDY.out.nofr ((Fr.refl _ _).alloc _)) (by show World.ownsRow _ _ _ _ _ _ (rfcs mo.fs ++ [_, .slice A4 (dt.take nn).length c4, _]); rw [HNL.out]; exact HO6.out) HG6.out
          rw [HGO.out] at HPU
          have HFZ : Hid (Fr NoBlk w (w6.setCell ⟨w.heap.size, 1, none⟩ (.slice A6 (mo.fs.length + 1) c6))) := HFW.out.step HPU.out.2 fun k hk hc => by
            have := (HRO.out.own hc).1
            omega
          have HRZ := Lib.hid HPU.out.1
          have HMAP : Hid ((mo.fs ++ [(⟨⟨nm, dt.take nn, nn⟩, A4, c4⟩ : RF)]).map RF.pf = pcrashL (m.pfs.take (k + 1)) ks) := by
            show _ = _
            rw [List.map_append, HMO.out, HCR.out]
            rfl
          clear HPU HDY HO4 HO6 HG6 HBO HF4 HF5 HR5 HOO HSZ
          go_wp2_with fail
          go_roundw
          case rel => exact ⟨k + 1, _, by omega, by go_num, HRZ, HFZ, HMAP, by show (mo.fs ++ [_]).length = _; have := HMOL.out; rw [List.length_append]; simp; omega, rfl, HST⟩
          case measure => simp [intOf]; omega
        · go_simp
          refine hK.out _ _ ?_ (fun hHeld => ?_)
          · exact sL
          clear hK K
          try simp only [Act.put, List.setIfInBounds_toArray, List.set_cons_zero, List.set_cons_succ]
          refine wpAnyH_ready (rs := [4, 12]) (by kernel_rfl) (by simp) ?_
          refine AllReadyH.cons (o := ⟨some 63, _, _, _, _, _⟩) rfl (fun K hK => ?_) (AllReadyH.cons (o := ⟨some 71, _, _, _, _, _⟩) rfl (fun K hK => ?_) AllReadyH.nil)
          · go_simp
            refine hK.out _ _ ?_ (fun hHeld => ?_)
            · exact sL
            clear hK K
            try simp only [Act.put, List.setIfInBounds_toArray, List.set_cons_zero, List.set_cons_succ]
            refine wpAnyH_ready (rs := [12]) (by kernel_rfl) (by simp) ?_
            refine AllReadyH.cons (o := ⟨some 71, _, _, _, _, _⟩) rfl (fun K hK => ?_) AllReadyH.nil
            refine step_app rfl _ _ 31 rfl wB.heap.size 5 i0 (.int .u8 0) 1 Try.underlying31 hi hz0 hz1 hz2 rfl (.slice (some ⟨wB.heap.size, 0, none⟩) 0 0) 0 [] rfl HNEW.out fa fc nn (cb (dt.take nn)) rfl HTL.out HDL.out.rd (cb_one _) HDL.out.nil (by unfold maxLen; omega) (by omega) HSL.out ?_
            intro v4 w4 ho4 hg4 _ _
            rw [Nat.zero_add, List.nil_append] at ho4
            obtain ⟨A4, c4, rfl, hc4, hA4⟩ := own_form ho4
            have HF4 : Hid (Fr NoBlk wB w4) := HFL.out.grown hg4 (fun k hk hlt => by
              have hk' : some wB.heap.size = some k := hk
              injection hk' with hk'
              omega)
            have HO4 := Lib.hid ho4
            have s4 := SF w4 HF4.out
            have o4 := OF w4 HF4.out
            clear ho4 hg4 hc4 hA4
            refine hK.out _ _ ?_ (fun hHeld => ?_)
            · exact s4
            clear hK K
            try simp only [Act.put, List.setIfInBounds_toArray, List.set_cons_zero, List.set_cons_succ]
            refine wpAnyH_take (i := 14) (oi := ⟨some 73, _, _, _, _, _⟩) (v := ?_) rfl (by kernel_rfl) (by kernel_rfl) (by kernel_rfl) (fun _ _ _ h => h) (Or.inl ⟨by rfl, ?_⟩) (by assumption) ?_
            rotate_left 1
            · (intro w hSw; (try dsimp only at hSw); go_simp) <;> (with_reducible rfl)
            try simp only [Act.put, List.setIfInBounds_toArray, List.set_cons_zero, List.set_cons_succ]
            refine wpAnyH_ready (rs := [15]) (by kernel_rfl) (by simp) ?_
            refine AllReadyH.cons (o := ⟨some 74, _, _, _, _, _⟩) rfl (fun K hK => ?_) AllReadyH.nil
            go_simp
            have HF5 : Hid (Fr NoBlk wB (w4.alloc (.cells #[.string (bstr nm), .slice A4 nn c4, .int .i64 nn] 68))) := HF4.out.alloc _
            have s5 := SF _ HF5.out
            have o5 := OF _ HF5.out
            refine hK.out _ _ ?_ (fun hHeld => ?_)
            · exact s5
            clear hK K
            try simp only [Act.put, List.setIfInBounds_toArray, List.set_cons_zero, List.set_cons_succ]
            refine wpAnyH_ready (rs := [16]) (by kernel_rfl) (by simp) ?_
            refine AllReadyH.cons (o := ⟨some 75, _, _, _, _, _⟩) rfl (fun K hK => ?_) AllReadyH.nil
            have HR5 : Hid (Rd (w4.alloc (.cells #[.string (bstr nm), .slice A4 nn c4, .int .i64 nn] 68)) (some ⟨w4.heap.size, 0, none⟩) [.string (bstr nm), .slice A4 nn c4, .int .i64 nn]) := Rd.of_cells (Bk.new _ _ _)
            have HOO : Hid ((w4.alloc (.cells #[.string (bstr nm), .slice A4 nn c4, .int .i64 nn] 68)).ownsRow w.heap.size 68 3 (.slice mo.FA mo.fs.length mo.FC) mo.fs.length (rfcs mo.fs)) := (HRO.out.nofr (HFB.out.trans HF5.out)).row
            have HSZ : Hid (w.heap.size ≤ (w4.alloc (.cells #[.string (bstr nm), .slice A4 nn c4, .int .i64 nn] 68)).heap.size) := Nat.le_trans HFW.out.size (HFB.out.trans HF5.out).size
            refine step_appO rfl _ _ 59 rfl w.heap.size 68 l0 _ 3 48 Try.underlying59 hl hl0 hl1 hl2 rfl (by decide) (.slice mo.FA mo.fs.length mo.FC) mo.fs.length (rfcs mo.fs) rfl HOO.out ⟨w4.heap.size, 0, none⟩ 1 1 [.string (bstr nm), .slice A4 nn c4, .int .i64 nn] rfl rfl HR5.out ?q1 ?q2 ?q3 HSZ.out ?_
            case q1 => intro u hu; simp only [List.mem_cons, List.not_mem_nil, or_false] at hu; rcases hu with rfl | rfl | rfl <;> rfl
            case q2 => have := HMOL.out; unfold maxLen; omega
            case q3 => have := HMOL.out; omega
            intro v6 w6 ho6 hg6 _
            obtain ⟨A6, c6, rfl, hc6, hA6⟩ := own_form ho6
            have HO6 := Lib.hid ho6
            have HG6 := Lib.hid hg6
            have HBO : Hid (Bk w6 w.heap.size 61 mo.cells) := by
              have hb5 := (HRO.out.nofr (HFB.out.trans HF5.out)).bk
              rw [HGO.out] at hb5
              exact hb5.fr (Fr.ofGrown hg6) (fun e => own_apart HOO.out hb5 (by decide) e.symm)
            have o6 : w6.cell? ⟨w.heap.size, 1, none⟩ = some (.slice mo.FA mo.fs.length mo.FC) := HBO.out.cell 1
            have o6f := HBO.out.free 1
            have s6 := SG w6 (by
              refine (HF5.out.mono (D := fun k => (Value.slice mo.FA mo.fs.length mo.FC).ownBlock = some k) (fun _ _ h => h.elim)).trans ?_
              exact (Fr.ofGrown hg6).mono fun k _ hk => hk.symm)
            have s7 := SH w6 (.slice A6 (mo.fs.length + 1) c6) s6
            clear ho6 hg6 hc6 hA6
            refine hK.out _ _ ?_ (fun hHeld => ?_)
            · exact s6
            clear hK K
            try simp only [Act.put, List.setIfInBounds_toArray, List.set_cons_zero, List.set_cons_succ]
            refine wpAnyH_take (i := 17) (oi := ⟨some 76, _, _, _, _, _⟩) (v := ?_) rfl (by kernel_rfl) (by kernel_rfl) (by kernel_rfl) (fun _ _ _ h => h) (Or.inl ⟨by rfl, ?_⟩) (by assumption) ?_
            rotate_left 1
            · (intro w hSw; (try dsimp only at hSw); go_simp) <;> (with_reducible rfl)
            try simp only [Act.put, List.setIfInBounds_toArray, List.set_cons_zero, List.set_cons_succ]
            refine wpAnyH_take (i := 18) (oi := ⟨some 77, _, _, _, _, _⟩) (v := ?_) rfl (by kernel_rfl) (by kernel_rfl) (by kernel_rfl) (fun _ _ _ h => h) (Or.inl ⟨by rfl, ?_⟩) (by assumption) ?_
            rotate_left 1
            · (intro w hSw; (try dsimp only at hSw); go_simp) <;> (with_reducible rfl)
            try simp only [Act.put, List.setIfInBounds_toArray, List.set_cons_zero, List.set_cons_succ]
            refine wpAnyH_ready (rs := [19]) (by kernel_rfl) (by simp) ?_
            refine AllReadyH.cons (o := ⟨none, _, _, _, _, _⟩) rfl (fun K hK => ?_) AllReadyH.nil
            go_simp
            refine hK.out _ _ ?_ (fun hHeld => ?_)
            · exact s7
            clear hK K
            try simp only [Act.put, List.setIfInBounds_toArray, List.set_cons_zero, List.set_cons_succ]
            refine wpAnyH_done (by kernel_rfl) ?_ _
            have HDY : Hid (DOk w4 w.heap.size A4 c4 (dt.take nn)) := DOk.ofOwn (n := nn) (own_base HO4.out (Nat.le_trans HFW.out.size HFB.out.size)) HNL.out.symm
            have HPU : Hid (RIn (w6.setCell ⟨mo.g, 1, none⟩ (.slice A6 (mo.fs.length + 1) c6)) w.heap.size { mo with FA := A6, FC := c6, fs := mo.fs ++ [⟨⟨nm, dt.take nn, nn⟩, A4, c4⟩] } ∧ Fr mo.own wr (w6.setCell ⟨mo.g, 1, none⟩ (.slice A6 (mo.fs.length + 1) c6))) := HRO.out.push (HFB.out.trans HF5.out) ⟨⟨nm, dt.take nn, nn⟩, A4, c4⟩ (HDY.out.nofr ((Fr.refl _ _).alloc _)) (by show World.ownsRow _ _ _ _ _ _ (rfcs mo.fs ++ [_, .slice A4 (dt.take nn).length c4, _]); rw [HNL.out]; exact HO6.out) HG6.out
            rw [HGO.out] at HPU
            have HFZ : Hid (Fr NoBlk w (w6.setCell ⟨w.heap.size, 1, none⟩ (.slice A6 (mo.fs.length + 1) c6))) := HFW.out.step HPU.out.2 fun k hk hc => by
              have := (HRO.out.own hc).1
              omega
            have HRZ := Lib.hid HPU.out.1
            have HMAP : Hid ((mo.fs ++ [(⟨⟨nm, dt.take nn, nn⟩, A4, c4⟩ : RF)]).map RF.pf = pcrashL (m.pfs.take (k + 1)) ks) := by
              show _ = _
              rw [List.map_append, HMO.out, HCR.out]
              rfl
            clear HPU HDY HO4 HO6 HG6 HBO HF4 HF5 HR5 HOO HSZ
            go_wp2_with fail
            go_roundw
            case rel => exact ⟨k + 1, _, by omega, by go_num, HRZ, HFZ, HMAP, by show (mo.fs ++ [_]).length = _; have := HMOL.out; rw [List.length_append]; simp; omega, rfl, HST⟩
            case measure => simp [intOf]; omega
          · refine step_app rfl _ _ 31 rfl wB.heap.size 5 i0 (.int .u8 0) 1 Try.underlying31 hi hz0 hz1 hz2 rfl (.slice (some ⟨wB.heap.size, 0, none⟩) 0 0) 0 [] rfl HNEW.out fa fc nn (cb (dt.take nn)) rfl HTL.out HDL.out.rd (cb_one _) HDL.out.nil (by unfold maxLen; omega) (by omega) HSL.out ?_
            intro v4 w4 ho4 hg4 _ _
            rw [Nat.zero_add, List.nil_append] at ho4
            obtain ⟨A4, c4, rfl, hc4, hA4⟩ := own_form ho4
            have HF4 : Hid (Fr NoBlk wB w4) := HFL.out.grown hg4 (fun k hk hlt => by
              have hk' : some wB.heap.size = some k := hk
              injection hk' with hk'
              omega)
            have HO4 := Lib.hid ho4
            have s4 := SF w4 HF4.out
            have o4 := OF w4 HF4.out
            clear ho4 hg4 hc4 hA4
            refine hK.out _ _ ?_ (fun hHeld => ?_)
            · exact s4
            clear hK K
            try simp only [Act.put, List.setIfInBounds_toArray, List.set_cons_zero, List.set_cons_succ]
            refine wpAnyH_take (i := 14) (oi := ⟨some 73, _, _, _, _, _⟩) (v := ?_) rfl (by kernel_rfl) (by kernel_rfl) (by kernel_rfl) (fun _ _ _ h => h) (Or.inl ⟨by rfl, ?_⟩) (by assumption) ?_
            rotate_left 1
            · (intro w hSw; (try dsimp only at hSw); go_simp) <;> (with_reducible rfl)
            try simp only [Act.put, List.setIfInBounds_toArray, List.set_cons_zero, List.set_cons_succ]
            refine wpAnyH_ready (rs := [4, 15]) (by kernel_rfl) (by simp) ?_
            refine AllReadyH.cons (o := ⟨some 63, _, _, _, _, _⟩) rfl (fun K hK => ?_) (AllReadyH.cons (o := ⟨some 74, _, _, _, _, _⟩) rfl (fun K hK => ?_) AllReadyH.nil)
            · go_simp
              refine hK.out _ _ ?_ (fun hHeld => ?_)
              · exact s4
              clear hK K
              try simp only [Act.put, List.setIfInBounds_toArray, List.set_cons_zero, List.set_cons_succ]
              refine wpAnyH_ready (rs := [15]) (by kernel_rfl) (by simp) ?_
              refine AllReadyH.cons (o := ⟨some 74, _, _, _, _, _⟩) rfl (fun K hK => ?_) AllReadyH.nil
              go_simp
              have HF5 : Hid (Fr NoBlk wB (w4.alloc (.cells #[.string (bstr nm), .slice A4 nn c4, .int .i64 nn] 68))) := HF4.out.alloc _
              have s5 := SF _ HF5.out
              have o5 := OF _ HF5.out
              refine hK.out _ _ ?_ (fun hHeld => ?_)
              · exact s5
              clear hK K
              try simp only [Act.put, List.setIfInBounds_toArray, List.set_cons_zero, List.set_cons_succ]
              refine wpAnyH_ready (rs := [16]) (by kernel_rfl) (by simp) ?_
              refine AllReadyH.cons (o := ⟨some 75, _, _, _, _, _⟩) rfl (fun K hK => ?_) AllReadyH.nil
              have HR5 : Hid (Rd (w4.alloc (.cells #[.string (bstr nm), .slice A4 nn c4, .int .i64 nn] 68)) (some ⟨w4.heap.size, 0, none⟩) [.string (bstr nm), .slice A4 nn c4, .int .i64 nn]) := Rd.of_cells (Bk.new _ _ _)
              have HOO : Hid ((w4.alloc (.cells #[.string (bstr nm), .slice A4 nn c4, .int .i64 nn] 68)).ownsRow w.heap.size 68 3 (.slice mo.FA mo.fs.length mo.FC) mo.fs.length (rfcs mo.fs)) := (HRO.out.nofr (HFB.out.trans HF5.out)).row
              have HSZ : Hid (w.heap.size ≤ (w4.alloc (.cells #[.string (bstr nm), .slice A4 nn c4, .int .i64 nn] 68)).heap.size) := Nat.le_trans HFW.out.size (HFB.out.trans HF5.out).size
              refine step_appO rfl _ _ 59 rfl w.heap.size 68 l0 _ 3 48 Try.underlying59 hl hl0 hl1 hl2 rfl (by decide) (.slice mo.FA mo.fs.length mo.FC) mo.fs.length (rfcs mo.fs) rfl HOO.out ⟨w4.heap.size, 0, none⟩ 1 1 [.string (bstr nm), .slice A4 nn c4, .int .i64 nn] rfl rfl HR5.out ?q1 ?q2 ?q3 HSZ.out ?_
              case q1 => intro u hu; simp only [List.mem_cons, List.not_mem_nil, or_false] at hu; rcases hu with rfl | rfl | rfl <;> rfl
              case q2 => have := HMOL.out; unfold maxLen; omega
              case q3 => have := HMOL.out; omega
              intro v6 w6 ho6 hg6 _
              obtain ⟨A6, c6, rfl, hc6, hA6⟩ := own_form ho6
              have HO6 := Lib.hid ho6
              have HG6 := Lib.hid hg6
              have HBO : Hid (Bk w6 w.heap.size 61 mo.cells) := by
                have hb5 := (HRO.out.nofr (HFB.out.trans HF5.out)).bk
                rw [HGO.out] at hb5
                exact hb5.fr (Fr.ofGrown hg6) (fun e => own_apart HOO.out hb5 (by decide) e.symm)
              have o6 : w6.cell? ⟨w.heap.size, 1, none⟩ = some (.slice mo.FA mo.fs.length mo.FC) := HBO.out.cell 1
              have o6f := HBO.out.free 1
              have s6 := SG w6 (by
                refine (HF5.out.mono (D := fun k => (Value.slice mo.FA mo.fs.length mo.FC).ownBlock = some k) (fun _ _ h => h.elim)).trans ?_
                exact (Fr.ofGrown hg6).mono fun k _ hk => hk.symm)
              have s7 := SH w6 (.slice A6 (mo.fs.length + 1) c6) s6
              clear ho6 hg6 hc6 hA6
              refine hK.out _ _ ?_ (fun hHeld => ?_)
              · exact s6
              clear hK K
              try simp only [Act.put, List.setIfInBounds_toArray, List.set_cons_zero, List.set_cons_succ]
              refine wpAnyH_take (i := 17) (oi := ⟨some 76, _, _, _, _, _⟩) (v := ?_) rfl (by kernel_rfl) (by kernel_rfl) (by kernel_rfl) (fun _ _ _ h => h) (Or.inl ⟨by rfl, ?_⟩) (by assumption) ?_
              rotate_left 1
              · (intro w hSw; (try dsimp only at hSw); go_simp) <;> (with_reducible rfl)
              try simp only [Act.put, List.setIfInBounds_toArray, List.set_cons_zero, List.set_cons_succ]
              refine wpAnyH_take (i := 18) (oi := ⟨some 77, _, _, _, _, _⟩) (v := ?_) rfl (by kernel_rfl) (by kernel_rfl) (by kernel_rfl) (fun _ _ _ h => h) (Or.inl ⟨by rfl, ?_⟩) (by assumption) ?_
              rotate_left 1
              · (intro w hSw; (try dsimp only at hSw); go_simp) <;> (with_reducible rfl)
              try simp only [Act.put, List.setIfInBounds_toArray, List.set_cons_zero, List.set_cons_succ]
              refine wpAnyH_ready (rs := [19]) (by kernel_rfl) (by simp) ?_
              refine AllReadyH.cons (o := ⟨none, _, _, _, _, _⟩) rfl (fun K hK => ?_) AllReadyH.nil
              go_simp
              refine hK.out _ _ ?_ (fun hHeld => ?_)
              · exact s7
              clear hK K
              try simp only [Act.put, List.setIfInBounds_toArray, List.set_cons_zero, List.set_cons_succ]
              refine wpAnyH_done (by kernel_rfl) ?_ _
              have HDY : Hid (DOk w4 w.heap.size A4 c4 (dt.take nn)) := DOk.ofOwn (n := nn) (own_base HO4.out (Nat.le_trans HFW.out.size HFB.out.size)) HNL.out.symm
              have HPU : Hid (RIn (w6.setCell ⟨mo.g, 1, none⟩ (.slice A6 (mo.fs.length + 1) c6)) w.heap.size { mo with FA := A6, FC := c6, fs := mo.fs ++ [⟨⟨nm, dt.take nn, nn⟩, A4, c4⟩] } ∧ Fr mo.own wr (w6.setCell ⟨mo.g, 1, none⟩ (.slice A6 (mo.fs.length + 1) c6))) := HRO.out.push (HFB.out.trans HF5.out) ⟨⟨nm, dt.take nn, nn⟩, A4, c4⟩ (HDY.out.nofr ((Fr.refl _ _).alloc _)) (by show World.ownsRow _ _ _ _ _ _ (rfcs mo.fs ++ [_, .slice A4 (dt.take nn).length c4, _]); rw [HNL.out]; exact HO6.out) HG6.out
              rw [HGO.out] at HPU
              have HFZ : Hid (Fr NoBlk w (w6.setCell ⟨w.heap.size, 1, none⟩ (.slice A6 (mo.fs.length + 1) c6))) := HFW.out.step HPU.out.2 fun k hk hc => by
                have := (HRO.out.own hc).1
                omega
              have HRZ := Lib.hid HPU.out.1
              have HMAP : Hid ((mo.fs ++ [(⟨⟨nm, dt.take nn, nn⟩, A4, c4⟩ : RF)]).map RF.pf = pcrashL (m.pfs.take (k + 1)) ks) := by
                show _ = _
                rw [List.map_append, HMO.out, HCR.out]
                rfl
              clear HPU HDY HO4 HO6 HG6 HBO HF4 HF5 HR5 HOO HSZ
              go_wp2_with fail
              go_roundw
              case rel => exact ⟨k + 1, _, by omega, by go_num, HRZ, HFZ, HMAP, by show (mo.fs ++ [_]).length = _; have := HMOL.out; rw [List.length_append]; simp; omega, rfl, HST⟩
              case measure => simp [intOf]; omega
            · go_simp
              have HF5 : Hid (Fr NoBlk wB (w4.alloc (.cells #[.string (bstr nm), .slice A4 nn c4, .int .i64 nn] 68))) := HF4.out.alloc _
              have s5 := SF _ HF5.out
              have o5 := OF _ HF5.out
              refine hK.out _ _ ?_ (fun hHeld => ?_)
              · exact s5
              clear hK K
              try simp only [Act.put, List.setIfInBounds_toArray, List.set_cons_zero, List.set_cons_succ]
              refine wpAnyH_ready (rs := [4]) (by kernel_rfl) (by simp) ?_
              refine AllReadyH.cons (o := ⟨some 63, _, _, _, _, _⟩) rfl (fun K hK => ?_) AllReadyH.nil
              go_simp
              refine hK.out _ _ ?_ (fun hHeld => ?_)
              · exact s5
              clear hK K
              try simp only [Act.put, List.setIfInBounds_toArray, List.set_cons_zero, List.set_cons_succ]
              refine wpAnyH_ready (rs := [16]) (by kernel_rfl) (by simp) ?_
              refine AllReadyH.cons (o := ⟨some 75, _, _, _, _, _⟩) rfl (fun K hK => ?_) AllReadyH.nil
              have HR5 : Hid (Rd (w4.alloc (.cells #[.string (bstr nm), .slice A4 nn c4, .int .i64 nn] 68)) (some ⟨w4.heap.size, 0, none⟩) [.string (bstr nm), .slice A4 nn c4, .int .i64 nn]) := Rd.of_cells (Bk.new _ _ _)
              have HOO : Hid ((w4.alloc (.cells #[.string (bstr nm), .slice A4 nn c4, .int .i64 nn] 68)).ownsRow w.heap.size 68 3 (.slice mo.FA mo.fs.length mo.FC) mo.fs.length (rfcs mo.fs)) := (HRO.out.nofr (HFB.out.trans HF5.out)).row
              have HSZ : Hid (w.heap.size ≤ (w4.alloc (.cells #[.string (bstr nm), .slice A4 nn c4, .int .i64 nn] 68)).heap.size) := Nat.le_trans HFW.out.size (HFB.out.trans HF5.out).size
              refine step_appO rfl _ _ 59 rfl w.heap.size 68 l0 _ 3 48 Try.underlying59 hl hl0 hl1 hl2 rfl (by decide) (.slice mo.FA mo.fs.length mo.FC) mo.fs.length (rfcs mo.fs) rfl HOO.out ⟨w4.heap.size, 0, none⟩ 1 1 [.string (bstr nm), .slice A4 nn c4, .int .i64 nn] rfl rfl HR5.out ?q1 ?q2 ?q3 HSZ.out ?_
              case q1 => intro u hu; simp only [List.mem_cons, List.not_mem_nil, or_false] at hu; rcases hu with rfl | rfl | rfl <;> rfl
              case q2 => have := HMOL.out; unfold maxLen; omega
              case q3 => have := HMOL.out; omega
              intro v6 w6 ho6 hg6 _
              obtain ⟨A6, c6, rfl, hc6, hA6⟩ := own_form ho6
              have HO6 := Lib.hid ho6
              have HG6 := Lib.hid hg6
              have HBO : Hid (Bk w6 w.heap.size 61 mo.cells) := by
                have hb5 := (HRO.out.nofr (HFB.out.trans HF5.out)).bk
                rw [HGO.out] at hb5
                exact hb5.fr (Fr.ofGrown hg6) (fun e => own_apart HOO.out hb5 (by decide) e.symm)
              have o6 : w6.cell? ⟨w.heap.size, 1, none⟩ = some (.slice mo.FA mo.fs.length mo.FC) := HBO.out.cell 1
              have o6f := HBO.out.free 1
              have s6 := SG w6 (by
                refine (HF5.out.mono (D := fun k => (Value.slice mo.FA mo.fs.length mo.FC).ownBlock = some k) (fun _ _ h => h.elim)).trans ?_
                exact (Fr.ofGrown hg6).mono fun k _ hk => hk.symm)
              have s7 := SH w6 (.slice A6 (mo.fs.length + 1) c6) s6
              clear ho6 hg6 hc6 hA6
              refine hK.out _ _ ?_ (fun hHeld => ?_)
              · exact s6
              clear hK K
              try simp only [Act.put, List.setIfInBounds_toArray, List.set_cons_zero, List.set_cons_succ]
              refine wpAnyH_take (i := 17) (oi := ⟨some 76, _, _, _, _, _⟩) (v := ?_) rfl (by kernel_rfl) (by kernel_rfl) (by kernel_rfl) (fun _ _ _ h => h) (Or.inl ⟨by rfl, ?_⟩) (by assumption) ?_
              rotate_left 1
              · (intro w hSw; (try dsimp only at hSw); go_simp) <;> (with_reducible rfl)
              try simp only [Act.put, List.setIfInBounds_toArray, List.set_cons_zero, List.set_cons_succ]
              refine wpAnyH_take (i := 18) (oi := ⟨some 77, _, _, _, _, _⟩) (v := ?_) rfl (by kernel_rfl) (by kernel_rfl) (by kernel_rfl) (fun _ _ _ h => h) (Or.inl ⟨by rfl, ?_⟩) (by assumption) ?_
              rotate_left 1
              · (intro w hSw; (try dsimp only at hSw); go_simp) <;> (with_reducible rfl)
              try simp only [Act.put, List.setIfInBounds_toArray, List.set_cons_zero, List.set_cons_succ]
              refine wpAnyH_ready (rs := [19]) (by kernel_rfl) (by simp) ?_
              refine AllReadyH.cons (o := ⟨none, _, _, _, _, _⟩) rfl (fun K hK => ?_) AllReadyH.nil
              go_simp
              refine hK.out _ _ ?_ (fun hHeld => ?_)
              · exact s7
              clear hK K
              try simp only [Act.put, List.setIfInBounds_toArray, List.set_cons_zero, List.set_cons_succ]
              refine wpAnyH_done (by kernel_rfl) ?_ _
              have HDY : Hid (DOk w4 w.heap.size A4 c4 (dt.take nn)) := DOk.ofOwn (n := nn) (own_base HO4.out (Nat.le_trans HFW.out.size HFB.out.size)) HNL.out.symm
              have HPU : Hid (RIn (w6.setCell ⟨mo.g, 1, none⟩ (.slice A6 (mo.fs.length + 1) c6)) w.heap.size { mo with FA := A6, FC := c6, fs := mo.fs ++ [⟨⟨nm, dt.take nn, nn⟩, A4, c4⟩] } ∧ Fr mo.own wr (w6.setCell ⟨mo.g, 1, none⟩ (.slice A6 (mo.fs.length + 1) c6))) := HRO.out.push (HFB.out.trans HF5.out) ⟨⟨nm, dt.take nn, nn⟩, A4, c4⟩ (HDY.out.nofr ((Fr.refl _ _).alloc _)) (by show World.ownsRow _ _ _ _ _ _ (rfcs mo.fs ++ [_, .slice A4 (dt.take nn).length c4, _]); rw [HNL.out]; exact HO6.out) HG6.out
              rw [HGO.out] at HPU
              have HFZ : Hid (Fr NoBlk w (w6.setCell ⟨w.heap.size, 1, none⟩ (.slice A6 (mo.fs.length + 1) c6))) := HFW.out.step HPU.out.2 fun k hk hc => by
                have := (HRO.out.own hc).1
                omega
              have HRZ := Lib.hid HPU.out.1
              have HMAP : Hid ((mo.fs ++ [(⟨⟨nm, dt.take nn, nn⟩, A4, c4⟩ : RF)]).map RF.pf = pcrashL (m.pfs.take (k + 1)) ks) := by
                show _ = _
                rw [List.map_append, HMO.out, HCR.out]
                rfl
              clear HPU HDY HO4 HO6 HG6 HBO HF4 HF5 HR5 HOO HSZ
              go_wp2_with fail
              go_roundw
              case rel => exact ⟨k + 1, _, by omega, by go_num, HRZ, HFZ, HMAP, by show (mo.fs ++ [_]).length = _; have := HMOL.out; rw [List.length_append]; simp; omega, rfl, HST⟩
              case measure => simp [intOf]; omega
    · obtain rfl : k = m.fs.length := by omega
      have HZ : Hid (RCrash w (pCrash m.pd ks) (.returned (.pointer (some ⟨w.heap.size, 0, none⟩))) wr) := by
        refine ⟨mo, by rw [HGO.out], ?_, HRO.out, HFW.out⟩
        obtain ⟨a1, a2, a3⟩ := HST.out
        have := HMO.out
        rw [show m.pfs.take m.fs.length = m.pfs from List.take_of_length_le (by rw [List.length_map]; exact Nat.le_refl _)] at this
        show (⟨mo.room, mo.left, mo.down, mo.fs.map RF.pf⟩ : PD) = _
        rw [this, a1, a2, a3]
        rfl
      go_wp2_with fail
      go_ret
      exact HZ.out
end Go.Proofs.Ytnmemdhajjibgaa
