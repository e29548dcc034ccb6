/- The document's list of keys and values: Put. Conditions: at most 100000 keys. -/
import Derived.Test.YtcpgonioobgpoaaDt
namespace Go.Proofs.Ytcpgonioobgpoaa
open Go.RowKit
section
/- append to a row of the call's own, elements of several cells, whatever is appended: nil, empty or not. -/
variable {P : Program}
theorem run_appW (w : World) (base : Nat) (t ty e : TypeId) (i : TypeInfo) (z : Value) (size bytes : Nat) (ht : P.underlying t = some (.slice e)) (hi : P.info? e = some i) (hz : i.zero = some z)
    (hsize : i.size = size) (hby : i.bytes = bytes) (hzs : z.cells.size = size) (hpos : 0 < size)
    (v : Value) (n : Nat) (xs : List Value) (hown : w.ownsRow base e size v n xs)
    (A : Option Addr) (c m : Nat) (news : List Value) (hm : news.length = m * size) (hr : Rd w A news) (h1 : ∀ u ∈ news, u.oneCell' = true)
    (hA : A = none → c = 0)
    (h63 : n + m ≤ maxLen) (hbytes : (n + m) * bytes ≤ 140737488355328) (hbase : base ≤ w.heap.size) :
    ∃ v' w', (Builtin.append_ #[t, t] ty #[v, .slice A m c]).run P w = .ok v' w' ∧ w'.ownsRow base e size v' (n + m) (xs ++ news) ∧ w.grownBy w' v.ownBlock ∧
      (v'.ownBlock = v.ownBlock ∨ v'.ownBlock = some w.heap.size) := by
  rcases A with _ | ad
  · have hn : news = [] := by
      rcases Nat.eq_zero_or_pos news.length with h0 | h0
      · exact List.eq_nil_of_length_eq_zero h0
      · obtain ⟨_, _, h, _⟩ := hr h0
        cases h
    subst hn
    obtain rfl := hA rfl
    obtain rfl : m = 0 := by
      rcases Nat.eq_zero_or_pos m with h0 | h0
      · exact h0
      · have := Nat.mul_pos h0 hpos
        simp only [List.length_nil] at hm
        omega
    exact ⟨v, w, run_append_owned_none w base t ty e i size ht hi v n xs hown, by simpa using hown, World.grownBy.refl w _, .inl rfl⟩
  · obtain ⟨v', w', h2, h3, h4, _, h6⟩ := run_append_own_at (P := P) w base t ty e i z size bytes ht hi hz hsize hby hzs hpos v n xs hown ad m c news hm
      (fun j u hu => by
        obtain ⟨b, o, e', hc⟩ := hr (by have := (List.getElem?_eq_some_iff.1 hu).1; omega)
        injection e' with e'
        subst e'
        have := hc j u hu
        unfold Addr.add
        split
        · subst j; simpa using this
        · exact this) h1 h63 hbytes hbase
    exact ⟨v', w', h2, h3, h4, h6⟩

theorem wpList_appW {w : World} {ops : Array Oper} {rest : List Oper} {o : Oper} {a : Act} {Q : Exit → Act → World → Prop} (hgd : o.guard = none) (s x : Operand) (t : TypeId)
    (ho : o.op = .call { callee := .builtin .append, args := #[s, x], argTypes := #[t, t] })
    (base : Nat) (e : TypeId) (i : TypeInfo) (z : Value) (size bytes : Nat) (ht : P.underlying t = some (.slice e)) (hi : P.info? e = some i) (hz : i.zero = some z)
    (hsize : i.size = size) (hby : i.bytes = bytes) (hzs : z.cells.size = size) (hpos : 0 < size)
    (v : Value) (n : Nat) (xs : List Value) (hs : a.eval s = v) (hown : w.ownsRow base e size v n xs)
    (A : Option Addr) (c m : Nat) (news : List Value) (hx : a.eval x = .slice A m c) (hm : news.length = m * size) (hr : Rd w A news) (h1 : ∀ u ∈ news, u.oneCell' = true)
    (hA : A = none → c = 0)
    (h63 : n + m ≤ maxLen) (hbytes : (n + m) * bytes ≤ 140737488355328) (hbase : base ≤ w.heap.size)
    (h : ∀ v' w', w'.ownsRow base e size v' (n + m) (xs ++ news) → w.grownBy w' v.ownBlock → (v'.ownBlock = v.ownBlock ∨ v'.ownBlock = some w.heap.size) →
      wpList P ops Q rest (a.put o.dst v') w') : wpList P ops Q (o :: rest) a w :=
  wpList_plain hgd fun K hK => by
    obtain ⟨v', w', hrun, h2, h3, h5⟩ := run_appW (P := P) w base t o.type e i z size bytes ht hi hz hsize hby hzs hpos v n xs hown A c m news hm hr h1 hA h63 hbytes hbase
    unfold Oper.wp execOp
    simp only [ho, resolve, invoke, builtin, Sem.run_bind, Sem.run_pure, Result.andThen_ok, List.map_toArray, List.map_cons, List.map_nil, hs, hx, hrun]
    exact hK _ _ (h v' w' h2 h3 h5)
end
theorem own_litW {w : World} {g base : Nat} {e : TypeId} (size : Nat) (h : Bk w g e #[]) (hb : base ≤ g) : w.ownsRow base e size (.slice (some ⟨g, 0, none⟩) 0 0) 0 [] :=
  ⟨by simp, .inr ⟨g, 0, #[], rfl, hb, h, Nat.le_refl _, Nat.zero_le _, by simp, by simp⟩⟩
theorem Rd.of_ownW {w : World} {A : Option Addr} {xs : List Value} {base : Nat} {e : TypeId} {size n c : Nat} (h : w.ownsRow base e size (.slice A n c) n xs) : Rd w A xs := by
  intro hx
  rcases h.2 with ⟨hv, rfl⟩ | ⟨g, cap, cur, hv, _, hh, hnc, _, hcs, htake⟩
  · have := h.1; rw [Nat.zero_mul] at this; omega
  · have hA : A = some ⟨g, 0, none⟩ := by injection hv
    refine ⟨g, 0, hA, fun j v hj => ?_⟩
    rw [cell_of_row w g _ cur e (0, 0) hh, ← hj, ← htake, List.getElem?_take]
    have hl := (List.getElem?_eq_some_iff.1 hj).1
    rw [if_pos (by have := h.1; omega)]
    simp
theorem grown_no {w0 w w' : World} {e : TypeId} {size n : Nat} {v : Value} {xs : List Value} (h : Fr NoBlk w0 w) (ho : w.ownsRow w0.heap.size e size v n xs) (hg : w.grownBy w' v.ownBlock) : Fr NoBlk w0 w' :=
  h.grown hg (fun k hk hl => by have := (ho.lt k hk).1; omega)
theorem step_appW {P : Program} {w : World} {ops : Array Oper} {o : Oper} {a : Act} {K : Act → World → Prop} {Q : Exit → Act → World → Prop} {E : Prop} (hgd : o.guard = none) (s x : Operand) (t : TypeId)
    (ho : o.op = .call { callee := .builtin .append, args := #[s, x], argTypes := #[t, t] })
    (base : Nat) (e : TypeId) (i : TypeInfo) (z : Value) (size bytes : Nat) (ht : P.underlying t = some (.slice e)) (hi : P.info? e = some i) (hz : i.zero = some z)
    (hsize : i.size = size) (hby : i.bytes = bytes) (hzs : z.cells.size = size) (hpos : 0 < size)
    (v : Value) (n : Nat) (xs : List Value) (hs : a.eval s = v) (hown : w.ownsRow base e size v n xs)
    (A : Option Addr) (c m : Nat) (news : List Value) (hx : a.eval x = .slice A m c) (hm : news.length = m * size) (hr : Rd w A news) (h1 : ∀ u ∈ news, u.oneCell' = true)
    (hA : A = none → c = 0)
    (h63 : n + m ≤ maxLen) (hbytes : (n + m) * bytes ≤ 140737488355328) (hbase : base ≤ w.heap.size)
    (h : ∀ v' w', w'.ownsRow base e size v' (n + m) (xs ++ news) → w.grownBy w' v.ownBlock → (v'.ownBlock = v.ownBlock ∨ v'.ownBlock = some w.heap.size) → K (a.put o.dst v') w') :
    if Region.wanted o (yielded ops a.tmps) = true then Oper.wp P o a w K Q else E := by
  have hw : Region.wanted o (yielded ops a.tmps) = true := by simp [Region.wanted, hgd]
  rw [if_pos hw]
  obtain ⟨v', w', hrun, h2, h3, h5⟩ := run_appW (P := P) w base t o.type e i z size bytes ht hi hz hsize hby hzs hpos v n xs hown A c m news hm hr h1 hA h63 hbytes hbase
  unfold Oper.wp execOp
  simp only [ho, resolve, invoke, builtin, Sem.run_bind, Sem.run_pure, Result.andThen_ok, List.map_toArray, List.map_cons, List.map_nil, hs, hx, hrun]
  exact h v' w' h2 h3 h5
theorem ritemInfo : (Try.prog.info? 43).map (fun i => (i.zero, i.size, i.bytes)) = some (some (.agg #[.string ByteArray.empty, .int .i64 0]), 2, 24) := by kernel_rfl
theorem info_partsR {o : Option TypeInfo} {z : Value} {n b : Nat} (h : o.map (fun i => (i.zero, i.size, i.bytes)) = some (some z, n, b)) : ∃ i, o = some i ∧ i.zero = some z ∧ i.size = n ∧ i.bytes = b := by
  cases o with
  | none => cases h
  | some i =>
    simp only [Option.map_some, Option.some.injEq, Prod.mk.injEq] at h
    exact ⟨i, rfl, h.1, h.2.1, h.2.2⟩
theorem RT.none_ {w : World} {base g c : Nat} {A : Option Addr} {xs : List ItS} (h : RT w base g A c xs) : A = none → c = 0 := by
  obtain ⟨A', c', e, _, h2⟩ := h.row.form
  injection e with e1 e2 e3
  rw [e1, e3]
  exact h2
theorem RT.cap {w : World} {base g c : Nat} {A : Option Addr} {xs : List ItS} (h : RT w base g A c xs) : xs.length ≤ c := by
  obtain ⟨A', c', e, h2, _⟩ := h.row.form
  injection e with e1 e2 e3
  rw [e3]
  exact h2
/-- a new row of items in the document's tree. -/
theorem RPut.of {w w1 w6 : World} {base g c : Nat} {A : Option Addr} {xs ys : List ItS} (h : RT w base g A c xs) (h1 : Fr NoBlk w w1) (h6 : Fr NoBlk w1 w6) {A' : Option Addr} {n' c' : Nat} {L : List Value} (hn : n' = ys.length) (hL : L = itsS ys)
    (ho : w6.ownsRow w1.heap.size 43 2 (.slice A' n' c') n' L) (hb : base ≤ w.heap.size) : RPut w (w6.setCell ⟨g, 0, none⟩ (.slice A' n' c')) base g A ys := by
  subst hn hL
  have hf : Fr (fun b => b = g) w6 (w6.setCell ⟨g, 0, none⟩ (.slice A' ys.length c')) := (Fr.refl (fun b => b = g) w6).setCell (p := ⟨g, 0, none⟩) (fun _ => rfl) _
  have hg6 : Bk w6 g 30 #[.slice A xs.length c] := h.bk.fr (h1.trans h6) fun e => e
  have hr : RowW w6 w1.heap.size 43 2 (.slice A' ys.length c') ys.length (itsS ys) := RowW.ofOwn ho (itsS_one _)
  have hs := h1.size
  refine ⟨A', c', ⟨hg6.put 0 _, h.gb, (hr.fr hf fun k hk e => ?_).low (by omega)⟩, ((h1.trans h6).mono fun _ _ e => e.elim).step hf fun k _ e => .inl e, fun b hb => ?_⟩
  · subst e
    have := (hr.lt hk).1
    have := h.bk.lt
    omega
  · rcases hb with rfl | hb
    · exact .inl (.inl rfl)
    · have := (hr.lt (ablk_own hb)).1
      exact .inr (by omega)
def TreeRPut (w : World) (base g : Nat) (A : Option Addr) (xs ys : List ItS) (key : Bs) (e : Ending) (w' : World) : Prop :=
  ∃ (old : Int) (had : Bool), e = .returned (.tuple #[.int .i64 old, .bool had]) ∧ Lk (0 : Int) key xs had old ∧ RPut w w' base g A ys

set_option maxRecDepth 100000 in
set_option maxHeartbeats 2000000 in
theorem rput_any (w : World) (base g : Nat) (A : Option Addr) (c : Nat) (xs : List ItS) (h : RT w base g A c xs) (hu : UpI Op.bytesLess xs) (hn : xs.length ≤ 100000) (hb : base ≤ w.heap.size) (key : Bs) (v : Int) :
    Calls Try.prog 17 #[.pointer (some ⟨g, 0, none⟩), .string (bstr key), .int .i64 v] w (TreeRPut w base g A xs (putL Op.bytesLess key v xs) key) := by
  obtain ⟨i0, hi, hz0, hz1, hz2⟩ := info_partsR ritemInfo
  have HP := Lib.hid (rplace_any w base g A c xs h hu hn key)
  have HH := Lib.hid h
  have HU := Lib.hid hu
  have HB := Lib.hid hb
  obtain ⟨n, hnn⟩ : ∃ n, n = xs.length := ⟨_, rfl⟩
  have HN := Lib.hid hnn
  have HN5 : Hid (n ≤ 100000) := by show n ≤ _; rw [hnn]; exact hn
  clear h hu hn hnn hb
  go_enter Try.func17, Try.ntmps17
  go_wp2_with fail
  refine HP.out.mono ?_
  clear HP
  rintro e w1 ⟨i, fd, rfl, hi', hfd, hf⟩
  have HF := Lib.hid hf
  have HI := Lib.hid hi'
  have H1 := Lib.hid (HH.out.nofr hf)
  have c1 : w1.cell? ⟨g, 0, none⟩ = some (.slice A n c) := by rw [HN.out]; exact H1.out.bk.cell 0
  cases fd with
  | true =>
    obtain ⟨u, hx⟩ := hfd.1 rfl
    have hin : i < n := by rw [HN.out]; exact (List.getElem?_eq_some_iff.1 hx).1
    have hiN : (i : Int) < (n : Int) := by omega
    obtain ⟨b, rfl⟩ := H1.out.row.addr (by rw [← HN.out]; omega)
    have hcl := H1.out.row.cellS hx
    have d1 : w1.cell? ⟨b, i * 2 + 1, none⟩ = some (.int .i64 u) := hcl.2
    have f1 : w1.frozen? ⟨b, i * 2 + 1, none⟩ = false := by
      obtain ⟨cur, hb⟩ := H1.out.row.blk
      exact hb.free _
    have HX := Lib.hid hx
    clear hi' hfd hf hx hcl
    go_wp2_with fail
    go_ret2
    refine ⟨u, true, rfl, IsAt.lk_yes 0 HX.out, some ⟨b, 0, none⟩, c, ⟨?_, H1.out.gb, ?_⟩, (HF.out.mono fun _ _ e => e.elim).setCell (p := ⟨b, i * 2 + 1, none⟩) (fun _ => .inr ⟨_, rfl, rfl⟩) _, fun k hk => .inl hk⟩
    · rw [HI.out.set linS HU.out HX.out, List.length_set]
      exact H1.out.bk.far (p := ⟨b, i * 2 + 1, none⟩) (fun e => H1.out.ne ⟨_, rfl, e.symm⟩) _
    · rw [HI.out.set linS HU.out HX.out, List.length_set, itsS_setv xs i key u v HX.out]
      exact H1.out.row.put (i * 2 + 1) _ (by rw [itsS_len]; have := HN.out; omega) rfl
  | false =>
    have HNO : Hid (¬ ∃ v, xs[i]? = some (key, v)) := fun h => by have := hfd.2 h; cases this
    have hle : i ≤ n := by rw [HN.out]; exact hi'.le
    have hiN : (i : Int) ≤ (n : Int) := by omega
    have hcap : n ≤ c := by rw [HN.out]; exact H1.out.cap
    have hic : i ≤ c := by omega
    have HAC := Lib.hid H1.out.none_
    have HRD := Lib.hid H1.out.row.rd
    clear hi' hfd hf
    obtain ⟨q, hq⟩ : ∃ q, q = w1.heap.size := ⟨_, rfl⟩
    obtain ⟨w2, hw2⟩ : ∃ w2, w2 = w1.alloc (.cells #[] 43) := ⟨_, rfl⟩
    have HF2 : Hid (Fr NoBlk w1 w2) := by show Fr _ _ _; rw [hw2]; exact (Fr.refl _ _).alloc _
    have HO2 : Hid (w2.ownsRow w1.heap.size 43 2 (.slice (some ⟨q, 0, none⟩) 0 0) 0 []) := own_litW 2 (by rw [hw2, hq]; exact Bk.new _ _ _) (by rw [hq]; exact Nat.le_refl _)
    have HR2 : Hid (Rd w2 A (itsS (xs.take i))) := by show Rd _ _ _; rw [itsS_take]; exact (HRD.out.nofr HF2.out).take _
    have HLT : Hid ((itsS (xs.take i)).length = i * 2) := by show _ = _; rw [itsS_len, List.length_take, ← HN.out, Nat.min_eq_left hle]
    have HLD : Hid ((itsS (xs.drop i)).length = (n - i) * 2) := by show _ = _; rw [itsS_len, List.length_drop, ← HN.out]
    have c2 : (w1.alloc (.cells #[] 43)).cell? ⟨g, 0, none⟩ = some (.slice A n c) := by rw [← hw2]; exact (HF2.out.cell (p := ⟨g, 0, none⟩) H1.out.bk.lt (fun e => e)).trans c1
    go_wp2_with (at_builtin; rw [← hw2, ← hq]; clear hw2 hq; go_loud (refine wpList_appW rfl _ _ 28 rfl w1.heap.size 43 i0 _ 2 24 Try.underlying28 hi hz0 hz1 hz2 rfl (by decide) (.slice (some ⟨q, 0, none⟩) 0 0) 0 [] rfl HO2.out A c i (itsS (xs.take i)) rfl HLT.out HR2.out (itsS_one _) HAC.out (by unfold maxLen; have := HN5.out; omega) (by have := HN5.out; omega) HF2.out.size ?_))
    intro v3 w3 ho3 hg3 _
    try rw [List.nil_append, Nat.zero_add] at ho3
    obtain ⟨A3, c3, rfl, _, _⟩ := own_form ho3
    have HF3 : Hid (Fr NoBlk w1 w3) := grown_no HF2.out HO2.out hg3
    have HFA : Hid (Fr NoBlk w1 (w3.alloc (.cells #[.string (bstr key), .int .i64 v] 43))) := HF3.out.alloc _
    have HO4 := Lib.hid (own_fr ho3 ((Fr.refl NoBlk w3).alloc (.cells #[.string (bstr key), .int .i64 v] 43)) fun _ _ e => e)
    have HR4 : Hid (Rd (w3.alloc (.cells #[.string (bstr key), .int .i64 v] 43)) (some ⟨w3.heap.size, 0, none⟩) (itsS [(key, v)])) := Rd.of_cells (Bk.new w3 43 #[.string (bstr key), .int .i64 v])
    clear ho3 hg3 c2 HO2
    go_wp2_with (at_builtin; go_loud (refine wpList_appW rfl _ _ 28 rfl w1.heap.size 43 i0 _ 2 24 Try.underlying28 hi hz0 hz1 hz2 rfl (by decide) (.slice A3 i c3) i (itsS (xs.take i)) rfl HO4.out (some ⟨w3.heap.size, 0, none⟩) 1 1 (itsS [(key, v)]) rfl rfl HR4.out (itsS_one _) (fun e => by cases e) (by unfold maxLen; have := HN5.out; omega) (by have := HN5.out; omega) HFA.out.size ?_))
    intro v5 w5 ho5 hg5 _
    obtain ⟨A5, c5, rfl, _, _⟩ := own_form ho5
    have HF5 : Hid (Fr NoBlk w1 w5) := grown_no HFA.out HO4.out hg5
    have HO5 := Lib.hid ho5
    have H5 := Lib.hid (H1.out.nofr HF5.out)
    have c5' : w5.cell? ⟨g, 0, none⟩ = some (.slice A n c) := by rw [HN.out]; exact H5.out.bk.cell 0
    have hgl : g < w5.heap.size := H5.out.bk.lt
    have HR5 : Hid (Rd w5 A (itsS xs)) := HRD.out.nofr HF5.out
    clear ho5 hg5 HR4 HO4
    by_cases hci : c = i
    · have hin : n = i := by omega
      obtain ⟨b5, rfl⟩ := (RowW.ofOwn HO5.out (fun u hu => by rcases List.mem_append.1 hu with hu | hu; exact itsS_one _ u hu; exact itsS_one _ u hu)).addr (Nat.succ_pos i)
      have f5 := H5.out.bk.free 0
      have HD0 : Hid (xs.drop i = []) := List.drop_eq_nil_of_le (by have := HN.out; omega)
      cases A with
      | none =>
        go_wp2_with fail
        go_ret2
        refine ⟨0, false, rfl, HI.out.lk_no linS 0 HU.out HNO.out, RPut.of HH.out HF.out HF5.out ?_ ?_ HO5.out HB.out⟩
        · rw [HI.out.put linS HU.out HNO.out, HD0.out]
          simp only [List.length_append, List.length_cons, List.length_take, List.length_nil]
          have := HN.out
          omega
        · rw [HI.out.put linS HU.out HNO.out, HD0.out, itsS_append]
      | some ad =>
        go_wp2_with fail
        go_ret2
        refine ⟨0, false, rfl, HI.out.lk_no linS 0 HU.out HNO.out, RPut.of HH.out HF.out HF5.out ?_ ?_ HO5.out HB.out⟩
        · rw [HI.out.put linS HU.out HNO.out, HD0.out]
          simp only [List.length_append, List.length_cons, List.length_take, List.length_nil]
          have := HN.out
          omega
        · rw [HI.out.put linS HU.out HNO.out, HD0.out, itsS_append]
    · have HRX : Hid (Rd w5 (A.map fun x => x.add (i * 2)) (itsS (xs.drop i))) := by show Rd _ _ _; rw [itsS_drop]; exact HR5.out.cut_ (by rw [itsS_len, ← HN.out]; omega)
      go_wp2_with (at_builtin; go_loud (refine wpList_appW rfl _ _ 28 rfl w1.heap.size 43 i0 _ 2 24 Try.underlying28 hi hz0 hz1 hz2 rfl (by decide) (.slice A5 (i + 1) c5) (i + 1) (itsS (xs.take i) ++ itsS [(key, v)]) rfl HO5.out (A.map fun x => x.add (i * 2)) (c - i) (n - i) (itsS (xs.drop i)) rfl HLD.out HRX.out (itsS_one _) (fun e => by have := HAC.out (by cases A with | none => rfl | some a => cases e); omega) (by unfold maxLen; have := HN5.out; omega) (by have := HN5.out; omega) HF5.out.size ?_))
      intro v6 w6 ho6 hg6 _
      obtain ⟨A6, c6, rfl, _, _⟩ := own_form ho6
      have HF6 : Hid (Fr NoBlk w1 w6) := grown_no HF5.out HO5.out hg6
      have HO6 := Lib.hid ho6
      have H6 := Lib.hid (H1.out.nofr HF6.out)
      have c6' : w6.cell? ⟨g, 0, none⟩ = some (.slice A n c) := by rw [HN.out]; exact H6.out.bk.cell 0
      have f6 := H6.out.bk.free 0
      have hgl6 : g < w6.heap.size := H6.out.bk.lt
      clear ho6 hg6
      go_wp2_with fail
      go_ret2
      refine ⟨0, false, rfl, HI.out.lk_no linS 0 HU.out HNO.out, RPut.of HH.out HF.out HF6.out ?_ ?_ HO6.out HB.out⟩
      · rw [HI.out.put linS HU.out HNO.out]
        simp only [List.length_append, List.length_cons, List.length_take, List.length_drop]
        have := HN.out
        omega
      · rw [HI.out.put linS HU.out HNO.out, itsS_append, show (key, v) :: xs.drop i = [(key, v)] ++ xs.drop i from rfl, itsS_append]
end Go.Proofs.Ytcpgonioobgpoaa
