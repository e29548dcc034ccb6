/- The document's put. No condition but lengths. -/
import Derived.Test.YtnmemdhajjibgaaRefM
namespace Go.Proofs.Ytnmemdhajjibgaa
open Go.RowKit

theorem gt_less (a b : Bs) : (!Op.bytesLess a b && !a == b) = Op.bytesLess b a := by
  cases h : Op.bytesLess b a
  · cases h2 : Op.bytesLess a b
    · have := less_total h2 h
      subst this
      simp
    · rfl
  · have h1 := less_asymm h
    have h2 : (a == b) = false := by
      cases e : a == b
      · rfl
      · have e' : a = b := by simpa using e
        rw [e', less_irrefl] at h
        cases h
    rw [h1, h2]
    rfl
def rfv (f : RF) : Value := .agg #[st f.pf.name, .slice f.A f.pf.data.length f.c, .int .i64 f.pf.last]
set_option maxRecDepth 100000 in
set_option maxHeartbeats 4000000 in
theorem rput_any (w : World) (base : Nat) (m : RM) (h : RIn w base m) (x : RF) (hx : DOk w base x.A x.c x.pf.data) (hl : m.fs.length ≤ 1000) (hb : base ≤ w.heap.size) :
    Calls Try.prog 53 #[.pointer (some ⟨m.g, 0, none⟩), rfv x] w fun e w' => e = .returned (.tuple #[]) ∧ RowPost w w' base m (rins x m.fs) := by
  obtain ⟨l0, hi, hz0, hz1, hz2⟩ := info_parts fileInfo
  have HR := Lib.hid h
  have HB := Lib.hid hb
  have HXD := Lib.hid hx
  have hgw := h.bk.lt
  obtain ⟨⟨xn, xd, xl⟩, xa, xc⟩ := x
  obtain ⟨w1, hw1⟩ : ∃ w1, w1 = w.alloc (.cells #[.string (bstr xn), .slice xa xd.length xc, .int .i64 xl] 68) := ⟨_, rfl⟩
  have HF1 : Hid (Fr NoBlk w w1) := by show Fr _ _ _; rw [hw1]; exact (Fr.refl _ _).alloc _
  have HBX : Hid (Bk w1 w.heap.size 68 #[.string (bstr xn), .slice xa xd.length xc, .int .i64 xl]) := by show Bk _ _ _ _; rw [hw1]; exact Bk.new _ _ _
  have HS1 : Hid (w1.heap.size = w.heap.size + 1) := by show _ = _; rw [hw1]; simp
  have HO0 := Lib.hid (Outs.new w1 (g := w1.heap.size) rfl)
  have e3 := bstr_toList xn
  have HW1 := Lib.hid hw1
  clear h hb hx hw1
  unfold rfv st
  dsimp only
  go_enter Try.func53, Try.ntmps53
  go_wp2_with fail
  rw [← HW1.out]
  clear HW1
  have hs1 := HS1.out
  rw [← hs1]
  clear hs1
  go_wp2_with fail
  go_loopw [4, 5, 6] (fun v d z wr => ∃ (k : Nat) (os : List RF) (b : Bool), k ≤ m.fs.length ∧ z = .int .i64 k ∧ d = .bool b ∧ Hid (Outs w1 wr v os) ∧ Hid (os ++ (if b then m.fs.drop k else rins ⟨⟨xn, xd, xl⟩, xa, xc⟩ (m.fs.drop k)) = rins ⟨⟨xn, xd, xl⟩, xa, xc⟩ m.fs) ∧ os.length ≤ 2 * k + 1) (fun _ _ z _ => m.fs.length - (intOf z).toNat)
  case atStart => exact ⟨0, [], false, by omega, rfl, rfl, HO0, rfl, by simp⟩
  case round =>
    clear HO0
    obtain ⟨k, os, done, hk, rfl, rfl, HO, HQ, hon⟩ := hrel
    have HFw : Hid (Fr NoBlk w wr) := HF1.out.trans HO.out.fr
    have HRr := Lib.hid (HR.out.nofr HFw.out)
    obtain ⟨_, c1, _, _⟩ := HRr.out.cell
    have hgl := HRr.out.bk.lt
    have hg1 := HRr.out.bk.free 1
    have HBr : Hid (Bk wr w.heap.size 68 #[.string (bstr xn), .slice xa xd.length xc, .int .i64 xl]) := HBX.out.fr HO.out.fr fun h => h
    have hwl : w.heap.size < wr.heap.size := HBr.out.lt
    have x0 : wr.cell? ⟨w.heap.size, 0, none⟩ = some (.string (bstr xn)) := HBr.out.cell 0
    have x1 : wr.cell? ⟨w.heap.size, 1, none⟩ = some (.slice xa xd.length xc) := HBr.out.cell 1
    have x2 : wr.cell? ⟨w.heap.size, 2, none⟩ = some (.int .i64 xl) := HBr.out.cell 2
    have i0' : (0 : Int) ≤ (k : Int) := by omega
    by_cases hlt : k < m.fs.length
    · obtain ⟨f, hf⟩ : ∃ f, m.fs[k]? = some f := ⟨_, List.getElem?_eq_getElem hlt⟩
      obtain ⟨b, hA, hne, q0, q1, q2, hfz⟩ := HRr.out.file hf
      have HD := Lib.hid (drop_at _ k f hf)
      rw [hA] at c1
      have i1' : (k : Int) < (m.fs.length : Int) := by omega
      have e4 := bstr_toList f.pf.name
      clear hf hA hne hfz
      obtain ⟨⟨nm, dt, la⟩, fa, fc⟩ := f
      dsimp only at q0 q1 q2 e4 HD
      cases done
      · have e5 := gt_less nm xn
        cases hc : Op.bytesLess xn nm
        · rw [hc] at e5
          have HY : Hid ((os ++ [⟨⟨nm, dt, la⟩, fa, fc⟩]) ++ (if false then m.fs.drop (k + 1) else rins ⟨⟨xn, xd, xl⟩, xa, xc⟩ (m.fs.drop (k + 1))) = rins ⟨⟨xn, xd, xl⟩, xa, xc⟩ m.fs) := by
            show _ = _
            rw [← HQ.out, HD.out, List.append_assoc]
            show _ = os ++ (if Op.bytesLess xn nm = true then _ else _)
            rw [hc]
            rfl
          go_wp2_with fail
          go_quiet (fail)
          have HFq : Hid (Fr NoBlk wr (wr.drewN nq)) := (Fr.refl _ _).drewN nq
          have y1 : (wr.drewN nq).cell? ⟨m.g, 1, none⟩ = some (.slice (some ⟨b, 0, none⟩) m.fs.length m.FC) := c1
          have z0 : (wr.drewN nq).cell? ⟨b, k * 3, none⟩ = some (.string (bstr nm)) := q0
          have z1 : (wr.drewN nq).cell? ⟨b, k * 3 + 1, none⟩ = some (.slice fa dt.length fc) := q1
          have z2 : (wr.drewN nq).cell? ⟨b, k * 3 + 2, none⟩ = some (.int .i64 la) := q2
          have hql : m.g < (wr.drewN nq).heap.size := hgl
          clear c1 q0 q1 q2 x0 x1 x2
          generalize wr.drewN nq = wq at *
          have HF7 : Hid (Fr NoBlk wr (wq.alloc (.cells #[.string (bstr nm), .slice fa dt.length fc, .int .i64 la] 68))) := HFq.out.alloc _
          have HO7 := Lib.hid (HO.out.nofr HF7.out)
          have HR7 : Hid (Rd (wq.alloc (.cells #[.string (bstr nm), .slice fa dt.length fc, .int .i64 la] 68)) (some ⟨wq.heap.size, 0, none⟩) (rfc ⟨⟨nm, dt, la⟩, fa, fc⟩)) := Rd.of_cells (Bk.new _ _ _)
          have HSZ : Hid (w1.heap.size ≤ (wq.alloc (.cells #[.string (bstr nm), .slice fa dt.length fc, .int .i64 la] 68)).heap.size) := HO7.out.fr.size
          go_wp2_with (at_builtin; refine wpList_appO rfl (.tmp 36) (.tmp 44) 59 rfl w1.heap.size 68 l0 _ 3 48 Try.underlying59 hi hz0 hz1 hz2 rfl (by decide) _ os.length (rfcs os) rfl HO7.out.own ⟨wq.heap.size, 0, none⟩ 1 1 (rfc ⟨⟨nm, dt, la⟩, fa, fc⟩) rfl rfl HR7.out ?q1 ?q2 ?q3 HSZ.out ?_)
          case q1 => exact fun u hu => rfcs_one [⟨⟨nm, dt, la⟩, fa, fc⟩] u (by show u ∈ rfc _ ++ []; rw [List.append_nil]; exact hu)
          case q2 => unfold maxLen; omega
          case q3 => omega
          intro v8 w8 ho8 hg8 _
          have HO8 := Lib.hid (HO.out.next _ HF7.out ho8 hg8)
          clear ho8 hg8 HO7 HR7 HSZ
          go_wp2_with fail
          go_roundw
          case rel => exact ⟨k + 1, _, false, by omega, by go_num, rfl, HO8, HY, by rw [List.length_append]; simp; omega⟩
          case measure => simp [intOf]; omega
        · rw [hc] at e5
          have HY : Hid (((os ++ [⟨⟨xn, xd, xl⟩, xa, xc⟩]) ++ [⟨⟨nm, dt, la⟩, fa, fc⟩]) ++ (if true then m.fs.drop (k + 1) else rins ⟨⟨xn, xd, xl⟩, xa, xc⟩ (m.fs.drop (k + 1))) = rins ⟨⟨xn, xd, xl⟩, xa, xc⟩ m.fs) := by
            show _ = _
            rw [← HQ.out, HD.out, List.append_assoc, List.append_assoc]
            show _ = os ++ (if Op.bytesLess xn nm = true then _ else _)
            rw [hc]
            rfl
          go_wp2_with fail
          go_quiet (fail)
          have HFq : Hid (Fr NoBlk wr (wr.drewN nq)) := (Fr.refl _ _).drewN nq
          have hBq := HBr.out.fr HFq.out fun h => h
          have x0' : (wr.drewN nq).cell? ⟨w.heap.size, 0, none⟩ = some (.string (bstr xn)) := hBq.cell 0
          have x1' : (wr.drewN nq).cell? ⟨w.heap.size, 1, none⟩ = some (.slice xa xd.length xc) := hBq.cell 1
          have x2' : (wr.drewN nq).cell? ⟨w.heap.size, 2, none⟩ = some (.int .i64 xl) := hBq.cell 2
          have hbl : b < wr.heap.size := World.block_lt_of_cell? wr _ q0
          have y1 : (wr.drewN nq).cell? ⟨m.g, 1, none⟩ = some (.slice (some ⟨b, 0, none⟩) m.fs.length m.FC) := c1
          have z0 : (wr.drewN nq).cell? ⟨b, k * 3, none⟩ = some (.string (bstr nm)) := q0
          have z1 : (wr.drewN nq).cell? ⟨b, k * 3 + 1, none⟩ = some (.slice fa dt.length fc) := q1
          have z2 : (wr.drewN nq).cell? ⟨b, k * 3 + 2, none⟩ = some (.int .i64 la) := q2
          have hql : m.g < (wr.drewN nq).heap.size := hgl
          have hbq : b < (wr.drewN nq).heap.size := hbl
          clear c1 q0 q1 q2 x0 x1 x2 hBq hbl
          generalize wr.drewN nq = wq at *
          have HF7 : Hid (Fr NoBlk wr (wq.alloc (.cells #[.string (bstr xn), .slice xa xd.length xc, .int .i64 xl] 68))) := HFq.out.alloc _
          have HO7 := Lib.hid (HO.out.nofr HF7.out)
          have HR7 : Hid (Rd (wq.alloc (.cells #[.string (bstr xn), .slice xa xd.length xc, .int .i64 xl] 68)) (some ⟨wq.heap.size, 0, none⟩) (rfc ⟨⟨xn, xd, xl⟩, xa, xc⟩)) := Rd.of_cells (Bk.new _ _ _)
          have HSZ : Hid (w1.heap.size ≤ (wq.alloc (.cells #[.string (bstr xn), .slice xa xd.length xc, .int .i64 xl] 68)).heap.size) := HO7.out.fr.size
          go_wp2_with (at_builtin; refine wpList_appO rfl (.tmp 32) (.tmp 34) 59 rfl w1.heap.size 68 l0 _ 3 48 Try.underlying59 hi hz0 hz1 hz2 rfl (by decide) _ os.length (rfcs os) rfl HO7.out.own ⟨wq.heap.size, 0, none⟩ 1 1 (rfc ⟨⟨xn, xd, xl⟩, xa, xc⟩) rfl rfl HR7.out ?q1 ?q2 ?q3 HSZ.out ?_)
          case q1 => exact fun u hu => rfcs_one [⟨⟨xn, xd, xl⟩, xa, xc⟩] u (by show u ∈ rfc _ ++ []; rw [List.append_nil]; exact hu)
          case q2 => unfold maxLen; omega
          case q3 => omega
          intro v8 w8 ho8 hg8 _
          have HO8 := Lib.hid (HO.out.next _ HF7.out ho8 hg8)
          have HRz := Lib.hid (HR.out.nofr (HF1.out.trans HO8.out.fr))
          obtain ⟨_, p1, _, _⟩ := HRz.out.cell
          have hgz := HRz.out.bk.lt
          clear ho8 hg8 HO7 HR7 HSZ y1 z0 z1 z2 hql hbq x0' x1' x2'
          obtain ⟨f', hf'⟩ : ∃ f, m.fs[k]? = some f := ⟨_, List.getElem?_eq_getElem hlt⟩
          obtain ⟨b', hA', _, q0, q1, q2, _⟩ := HRz.out.file hf'
          have hff : f' = ⟨⟨nm, dt, la⟩, fa, fc⟩ := by
            have := drop_at _ k f' hf'
            rw [HD.out] at this
            injection this with this
            exact this.symm
          subst hff
          dsimp only at q0 q1 q2
          rw [hA'] at p1
          clear hf' hA'
          have HF9 : Hid (Fr NoBlk w8 (w8.alloc (.cells #[.string (bstr nm), .slice fa dt.length fc, .int .i64 la] 68))) := (Fr.refl _ _).alloc _
          have HO7 := Lib.hid (HO8.out.nofr HF9.out)
          have HR7 : Hid (Rd (w8.alloc (.cells #[.string (bstr nm), .slice fa dt.length fc, .int .i64 la] 68)) (some ⟨w8.heap.size, 0, none⟩) (rfc ⟨⟨nm, dt, la⟩, fa, fc⟩)) := Rd.of_cells (Bk.new _ _ _)
          have HSZ : Hid (w1.heap.size ≤ (w8.alloc (.cells #[.string (bstr nm), .slice fa dt.length fc, .int .i64 la] 68)).heap.size) := HO7.out.fr.size
          have hol : (os ++ [(⟨⟨xn, xd, xl⟩, xa, xc⟩ : RF)]).length = os.length + 1 := by simp
          generalize os ++ [(⟨⟨xn, xd, xl⟩, xa, xc⟩ : RF)] = os2 at *
          go_wp2_with (at_builtin; refine wpList_appO rfl (.tmp 36) (.tmp 44) 59 rfl w1.heap.size 68 l0 _ 3 48 Try.underlying59 hi hz0 hz1 hz2 rfl (by decide) _ os2.length (rfcs os2) rfl HO7.out.own ⟨w8.heap.size, 0, none⟩ 1 1 (rfc ⟨⟨nm, dt, la⟩, fa, fc⟩) rfl rfl HR7.out ?q1 ?q2 ?q3 HSZ.out ?_)
          case q1 => exact fun u hu => rfcs_one [⟨⟨nm, dt, la⟩, fa, fc⟩] u (by show u ∈ rfc _ ++ []; rw [List.append_nil]; exact hu)
          case q2 => unfold maxLen; omega
          case q3 => omega
          intro v9 w9 ho9 hg9 _
          have HO9 := Lib.hid (HO8.out.next _ HF9.out (by rw [hol]; exact ho9) hg9)
          clear ho9 hg9 HO7 HR7 HSZ
          go_wp2_with fail
          go_roundw
          case rel => exact ⟨k + 1, _, true, by omega, by go_num, rfl, HO9, HY, by rw [List.length_append]; simp; omega⟩
          case measure => simp [intOf]; omega
      · have HY : Hid ((os ++ [⟨⟨nm, dt, la⟩, fa, fc⟩]) ++ (if true then m.fs.drop (k + 1) else rins ⟨⟨xn, xd, xl⟩, xa, xc⟩ (m.fs.drop (k + 1))) = rins ⟨⟨xn, xd, xl⟩, xa, xc⟩ m.fs) := by
          show _ = _
          rw [← HQ.out, HD.out, List.append_assoc]
          rfl
        go_wp2_with fail
        go_quiet (fail)
        have HFq : Hid (Fr NoBlk wr (wr.drewN nq)) := (Fr.refl _ _).drewN nq
        have y1 : (wr.drewN nq).cell? ⟨m.g, 1, none⟩ = some (.slice (some ⟨b, 0, none⟩) m.fs.length m.FC) := c1
        have z0 : (wr.drewN nq).cell? ⟨b, k * 3, none⟩ = some (.string (bstr nm)) := q0
        have z1 : (wr.drewN nq).cell? ⟨b, k * 3 + 1, none⟩ = some (.slice fa dt.length fc) := q1
        have z2 : (wr.drewN nq).cell? ⟨b, k * 3 + 2, none⟩ = some (.int .i64 la) := q2
        have hql : m.g < (wr.drewN nq).heap.size := hgl
        clear c1 q0 q1 q2 x0 x1 x2
        generalize wr.drewN nq = wq at *
        have HF7 : Hid (Fr NoBlk wr (wq.alloc (.cells #[.string (bstr nm), .slice fa dt.length fc, .int .i64 la] 68))) := HFq.out.alloc _
        have HO7 := Lib.hid (HO.out.nofr HF7.out)
        have HR7 : Hid (Rd (wq.alloc (.cells #[.string (bstr nm), .slice fa dt.length fc, .int .i64 la] 68)) (some ⟨wq.heap.size, 0, none⟩) (rfc ⟨⟨nm, dt, la⟩, fa, fc⟩)) := Rd.of_cells (Bk.new _ _ _)
        have HSZ : Hid (w1.heap.size ≤ (wq.alloc (.cells #[.string (bstr nm), .slice fa dt.length fc, .int .i64 la] 68)).heap.size) := HO7.out.fr.size
        go_wp2_with (at_builtin; refine wpList_appO rfl (.tmp 36) (.tmp 44) 59 rfl w1.heap.size 68 l0 _ 3 48 Try.underlying59 hi hz0 hz1 hz2 rfl (by decide) _ os.length (rfcs os) rfl HO7.out.own ⟨wq.heap.size, 0, none⟩ 1 1 (rfc ⟨⟨nm, dt, la⟩, fa, fc⟩) rfl rfl HR7.out ?q1 ?q2 ?q3 HSZ.out ?_)
        case q1 => exact fun u hu => rfcs_one [⟨⟨nm, dt, la⟩, fa, fc⟩] u (by show u ∈ rfc _ ++ []; rw [List.append_nil]; exact hu)
        case q2 => unfold maxLen; omega
        case q3 => omega
        intro v8 w8 ho8 hg8 _
        have HO8 := Lib.hid (HO.out.next _ HF7.out ho8 hg8)
        clear ho8 hg8 HO7 HR7 HSZ
        go_wp2_with fail
        go_roundw
        case rel => exact ⟨k + 1, _, true, by omega, by go_num, rfl, HO8, HY, by rw [List.length_append]; simp; omega⟩
        case measure => simp [intOf]; omega
    · have HMEM : Hid (∀ f ∈ rins ⟨⟨xn, xd, xl⟩, xa, xc⟩ m.fs, DOk w base f.A f.c f.pf.data) := fun f hf => by
        rcases rins_mem hf with rfl | hf
        · exact HXD.out
        · exact HR.out.dat f hf
      cases done
      · have HE : Hid (os ++ [⟨⟨xn, xd, xl⟩, xa, xc⟩] = rins ⟨⟨xn, xd, xl⟩, xa, xc⟩ m.fs) := by
          show _ = _
          have := HQ.out
          rw [List.drop_eq_nil_of_le (by omega)] at this
          exact this
        have HF7 : Hid (Fr NoBlk wr (wr.alloc (.cells #[.string (bstr xn), .slice xa xd.length xc, .int .i64 xl] 68))) := (Fr.refl _ _).alloc _
        have HO7 := Lib.hid (HO.out.nofr HF7.out)
        have HR7 : Hid (Rd (wr.alloc (.cells #[.string (bstr xn), .slice xa xd.length xc, .int .i64 xl] 68)) (some ⟨wr.heap.size, 0, none⟩) (rfc ⟨⟨xn, xd, xl⟩, xa, xc⟩)) := Rd.of_cells (Bk.new _ _ _)
        have HSZ : Hid (w1.heap.size ≤ (wr.alloc (.cells #[.string (bstr xn), .slice xa xd.length xc, .int .i64 xl] 68)).heap.size) := HO7.out.fr.size
        go_wp2_with (at_builtin; refine wpList_appO rfl (.tmp 48) (.tmp 50) 59 rfl w1.heap.size 68 l0 _ 3 48 Try.underlying59 hi hz0 hz1 hz2 rfl (by decide) _ os.length (rfcs os) rfl HO7.out.own ⟨wr.heap.size, 0, none⟩ 1 1 (rfc ⟨⟨xn, xd, xl⟩, xa, xc⟩) rfl rfl HR7.out ?q1 ?q2 ?q3 HSZ.out ?_)
        case q1 => exact fun u hu => rfcs_one [⟨⟨xn, xd, xl⟩, xa, xc⟩] u (by show u ∈ rfc _ ++ []; rw [List.append_nil]; exact hu)
        case q2 => unfold maxLen; omega
        case q3 => omega
        intro v8 w8 ho8 hg8 _
        have HO8 := Lib.hid (HO.out.next _ HF7.out ho8 hg8)
        clear ho8 hg8 HO7 HR7 HSZ
        have HRz := Lib.hid (HR.out.nofr (HF1.out.trans HO8.out.fr))
        obtain ⟨_, p1, _, _⟩ := HRz.out.cell
        have hgz := HRz.out.bk.lt
        have hpz := HRz.out.bk.free 1
        obtain ⟨A, c, rfl, _, _⟩ := own_form HO8.out.own
        have HZ := Lib.hid (RowPost.of HR.out HF1.out HO8.out (by rw [HE.out]; exact HMEM.out) HB.out)
        rw [HE.out] at HZ
        rw [HE.out]
        go_wp2_with fail
        go_end0
        exact ⟨rfl, HZ.out⟩
      · have HE : Hid (os = rins ⟨⟨xn, xd, xl⟩, xa, xc⟩ m.fs) := by
          show _ = _
          have := HQ.out
          rw [List.drop_eq_nil_of_le (by omega)] at this
          simpa using this
        obtain ⟨A, c, rfl, _, _⟩ := own_form HO.out.own
        have HZ := Lib.hid (RowPost.of HR.out HF1.out HO.out (by rw [HE.out]; exact HMEM.out) HB.out)
        go_wp2_with fail
        go_end0
        exact ⟨rfl, by rw [← HE.out]; exact HZ.out⟩
end Go.Proofs.Ytnmemdhajjibgaa
