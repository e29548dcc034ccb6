/- A link's Packets. Conditions: the link lies in blocks of its own. -/
import Derived.Test.YtchlafhmoncldaaPkt
namespace Go.Proofs.Ytchlafhmoncldaa
open Go.RowKit Go.Maps Go.ChangeMaps Go.MapKept Go.WideShapes

theorem wpList_appO {P : Program} {w : World} {ops : Array Oper} {rest : List Oper} {o : Oper} {a : Act} {Q : Exit → Act → World → Prop} (hgd : o.guard = none) (s x : Operand) (t : TypeId)
    (ho : o.op = .call { callee := .builtin .append, args := #[s, x], argTypes := #[t, t] })
    (base : Nat) (e : TypeId) (i : TypeInfo) (z : Value) (size bytes : Nat) (ht : P.underlying t = some (.slice e)) (hi : P.info? e = some i) (hz : i.zero = some z)
    (hsize : i.size = size) (hby : i.bytes = bytes) (hzs : z.cells.size = size) (hpos : 0 < size)
    (v : Value) (n : Nat) (xs : List Value) (hs : a.eval s = v) (hown : w.ownsRow base e size v n xs)
    (ad : Addr) (c m : Nat) (news : List Value) (hx : a.eval x = .slice (some ad) m c) (hm : news.length = m * size) (hr : Rd w (some ad) news) (h1 : ∀ u ∈ news, u.oneCell' = true)
    (h63 : n + m ≤ maxLen) (hbytes : (n + m) * bytes ≤ 140737488355328) (hbase : base ≤ w.heap.size)
    (h : ∀ v' w', w'.ownsRow base e size v' (n + m) (xs ++ news) → w.grownBy w' v.ownBlock → (v'.ownBlock = v.ownBlock ∨ v'.ownBlock = some w.heap.size) →
      wpList P ops Q rest (a.put o.dst v') w') : wpList P ops Q (o :: rest) a w :=
  wpList_plain hgd fun K hK => by
    obtain ⟨v', w', hrun, h2, h3, _, h5⟩ := run_append_own_at (P := P) w base t o.type e i z size bytes ht hi hz hsize hby hzs hpos v n xs hown ad m c news hm
      (fun j u hu => by
        obtain ⟨b, o, e', hc⟩ := hr (by have := (List.getElem?_eq_some_iff.1 hu).1; omega)
        injection e' with e'
        subst e'
        have := hc j u hu
        unfold Addr.add
        split
        · subst j; simpa using this
        · exact this) h1 h63 hbytes hbase
    unfold Oper.wp execOp
    simp only [ho, resolve, invoke, builtin, Sem.run_bind, Sem.run_pure, Result.andThen_ok, List.map_toArray, List.map_cons, List.map_nil, hs, hx, hrun]
    exact hK _ _ (h v' w' h2 h3 h5)

theorem PksIn.nofr {W W1 W2 : World} {A : Option Addr} {c : Nat} {xs : List Pk} (h : PksIn W W1 A c xs) (hf : Fr NoBlk W1 W2) : PksIn W W2 A c xs := ⟨own_fr h.own hf (fun _ _ h => h), fun x hx => own_fr (h.data x hx) hf (fun _ _ h => h)⟩
theorem PksIn.snoc {W w3 w4 : World} {A A4 : Option Addr} {c c4 : Nat} {xs : List Pk} {x : Pk} (h : PksIn W w3 A c xs) (hd : w3.ownsRow W.heap.size 5 1 (sl x.d) x.d.2.2.length (cb x.d.2.2))
    (ho : w4.ownsRow W.heap.size 32 5 (.slice A4 (xs.length + 1) c4) (xs.length + 1) (pksc xs ++ pkc x)) (hg : w3.grownBy w4 (Value.slice A xs.length c).ownBlock) : PksIn W w4 A4 c4 (xs ++ [x]) := by
  have hlen : (xs ++ [x]).length = xs.length + 1 := by simp
  have hcs : pksc (xs ++ [x]) = pksc xs ++ pkc x := by rw [pksc_append]; simp [pksc]
  refine ⟨by rw [hlen, hcs]; exact ho, fun y hy => ?_⟩
  rcases List.mem_append.1 hy with hy | hy
  · exact own_fr (h.data y hy) (Fr.ofGrown hg) fun _ hk e => own_ne h.own (h.data y hy) (by decide) hk e.symm
  · rw [List.mem_singleton.1 hy]
    exact own_fr hd (Fr.ofGrown hg) fun _ hk e => own_ne h.own hd (by decide) hk e.symm
/-- the packets of the data sent, from the first one on. -/
def PkL (L : Lk) (xs : List Pk) : Prop := ∀ j x, xs[j]? = some x → x.ep = L.epoch ∧ x.pe = L.peer ∧ x.sq = (L.base + j) % 2 ^ 64 ∧ x.ak = akN L.expects ∧ ∃ p, L.sent[j]? = some p ∧ x.d.2.2 = p.2.2
def PacketsAre (L : Lk) (xs : List Pk) : Prop :=
  if L.sent = [] then xs = [] else if L.peer = 0 then ∃ x : Pk, xs = [x] ∧ x.ep = L.epoch ∧ x.pe = 0 ∧ x.sq = 0 ∧ x.ak = akN L.expects ∧ x.d.2.2 = [] else xs.length = L.sent.length ∧ PkL L xs
def PacketsPost (W : World) (L : Lk) (e : Ending) (W' : World) : Prop :=
  ∃ (A : Option Addr) (c : Nat) (xs : List Pk), e = .returned (.slice A xs.length c) ∧ PksIn W W' A c xs ∧ Fr NoBlk W W' ∧ PacketsAre L xs

set_option maxRecDepth 100000 in
set_option maxHeartbeats 4000000 in
theorem packets_any (W : World) (O : Nat → Prop) (g : Nat) (L : Lk) (h : LkIn O W g L) (hd : ∀ p ∈ L.sent, p.2.2.length ≤ 1000000) :
    Calls Try.prog 18 #[.pointer (some ⟨g, 0, none⟩)] W (PacketsPost W L) := by
  obtain ⟨i0, hi, hz0, hz1, hz2⟩ := info_parts pkInfo
  obtain ⟨c0, c1, c2, c3, c4, c5⟩ := h.cells
  have HL := Lib.hid h
  have HD := Lib.hid hd
  have hfew := h.few
  have HP : Hid (∀ e W', PacketsPost W L e W' = ∃ (A : Option Addr) (c : Nat) (xs : List Pk), e = .returned (.slice A xs.length c) ∧ PksIn W W' A c xs ∧ Fr NoBlk W W' ∧ PacketsAre L xs) := fun _ _ => rfl
  have HA : Hid (∀ xs, PacketsAre L xs = if L.sent = [] then xs = [] else if L.peer = 0 then ∃ x : Pk, xs = [x] ∧ x.ep = L.epoch ∧ x.pe = 0 ∧ x.sq = 0 ∧ x.ak = akN L.expects ∧ x.d.2.2 = [] else xs.length = L.sent.length ∧ PkL L xs) := fun _ => rfl
  clear h hd
  by_cases hs : L.sent.length = 0
  · have HS : Hid (L.sent = []) := List.eq_nil_of_length_eq_zero hs
    have hs' : ((L.sent.length : Int) == 0) = true := by simp [hs]
    clear hs
    go_enter Try.func18, Try.ntmps18
    go_wp2_with fail
    go_ret
    rw [HP.out]
    exact ⟨none, 0, [], rfl, ⟨World.ownsRow_nil _ _ _ _, fun _ h => by cases h⟩, Fr.refl _ _, by rw [HA.out, if_pos HS.out]⟩
  have HS : Hid (¬ L.sent = []) := fun h => hs (by rw [h]; rfl)
  have hs' : ((L.sent.length : Int) == 0) = false := beq_eq_false_iff_ne.2 (by omega)
  by_cases hp : L.peer = 0
  · have HP0 := Lib.hid hp
    have hp' : ((L.peer : Int) == 0) = true := by simp [hp]
    have HK := Lib.hid (packet_any W O g L HL.out 0 none 0 [] (Rd.none_ _ _) (fun _ => rfl) (by simp))
    clear hs hp
    go_enter Try.func18, Try.ntmps18
    go_wp2_with fail
    refine HK.out.mono ?_
    rintro e w2 ⟨p, rfl, hpd, ho, hf⟩
    have HX := Lib.hid (PksIn.one (x := ⟨L.epoch, L.peer, 0, akN L.expects, p⟩) ho hf.size)
    have HF := Lib.hid (hf.alloc (.cells (pka ⟨L.epoch, L.peer, 0, akN L.expects, p⟩) 32))
    have HPD := Lib.hid hpd
    unfold pka at HX HF ⊢
    clear hpd ho hf HK
    go_wp2_with fail
    go_ret
    rw [HP.out]
    exact ⟨_, _, [⟨L.epoch, L.peer, 0, akN L.expects, p⟩], rfl, HX.out, HF.out, by rw [HA.out, if_neg HS.out, if_pos HP0.out]; exact ⟨_, rfl, rfl, HP0.out, rfl, rfl, HPD.out⟩⟩
  have HP0 : Hid (¬ L.peer = 0) := hp
  have hp' : ((L.peer : Int) == 0) = false := by simp; omega
  clear hs hp
  go_enter Try.func18, Try.ntmps18
  go_wp2_with fail
  clear c0 c1 c2 c3 c4 c5
  go_loopw [3, 25] (fun s t wr => ∃ (k : Nat) (A : Option Addr) (c : Nat) (xs : List Pk), k ≤ L.sent.length ∧ s = .slice A xs.length c ∧ t = .int .i64 (k : Int) ∧ Hid (xs.length = k ∧ PkL L xs) ∧ Hid (PksIn W wr A c xs) ∧ Hid (Fr NoBlk W wr)) (fun _ t _ => L.sent.length - (intOf t).toNat)
  case atStart => exact ⟨0, none, 0, [], by omega, rfl, rfl, ⟨rfl, fun j x h => by cases h⟩, ⟨World.ownsRow_nil _ _ _ _, fun _ h => by cases h⟩, Fr.refl _ _⟩
  case round =>
    obtain ⟨k, A, c, xs, hk, rfl, rfl, HXS, HX, HF⟩ := hrel
    have HLr := Lib.hid (HL.out.nofr HF.out)
    obtain ⟨c0, c1, c2, c3, c4, c5⟩ := HLr.out.cells
    by_cases hlt : k < L.sent.length
    · obtain ⟨p, hp⟩ : ∃ p, L.sent[k]? = some p := ⟨_, List.getElem?_eq_getElem hlt⟩
      have hpo := HLr.out.parts p (List.mem_of_getElem? hp)
      have hpm := HD.out p (List.mem_of_getElem? hp)
      obtain ⟨Ap, cp, dp⟩ := p
      obtain ⟨b, o, hA, hc⟩ := (Rd.of_own HLr.out.own).at_ (k := k) (v := .slice Ap dp.length cp) (by rw [List.getElem?_map, hp]; rfl)
      have hml : dp.length ≤ 1000000 := hpm
      have HK := Lib.hid (packet_any wr O g L HLr.out ((L.base + k) % 2 ^ 64) Ap cp dp (Rd.of_own hpo.1) (own_lens hpo.1).2.2 hml)
      obtain ⟨sq, hsq⟩ : ∃ sq, sq = (L.base + k) % 2 ^ 64 := ⟨_, rfl⟩
      rw [← hsq] at HK
      have e1 : ((k : Int) % 18446744073709551616) = k := by omega
      have e2 : IntKind.u64.wrap ((L.base : Int) + (k : Int)) = (sq : Int) := by
        simp only [IntKind.wrap, IntKind.bits, IntKind.signed]
        simp
        omega
      have e3 : ((L.base : Int) + (k : Int)) % 18446744073709551616 = (sq : Int) := by omega
      have HSQ := Lib.hid hsq
      have HPK := Lib.hid hp
      rw [hA] at c3 ⊢
      have HAA := Lib.hid hA
      clear hp hpo hpm hA hsq
      go_wp2_with fail
      refine HK.out.mono ?_
      clear HK
      rintro e w2 ⟨q, rfl, hq, ho, hf⟩
      obtain ⟨x, hx⟩ : ∃ x : Pk, x = ⟨L.epoch, L.peer, sq, akN L.expects, q⟩ := ⟨_, rfl⟩
      have HO2 : Hid ((w2.alloc (.cells (pka x) 32)).ownsRow W.heap.size 5 1 (sl x.d) x.d.2.2.length (cb x.d.2.2)) := by
        show World.ownsRow _ _ _ _ _ _ _
        rw [hx]
        exact own_fr (own_base ho HF.out.size) ((Fr.refl NoBlk w2).alloc _) (fun _ _ h => h)
      have HX3 : Hid (PksIn W (w2.alloc (.cells (pka x) 32)) A c xs) := (HX.out.nofr hf).nofr ((Fr.refl _ _).alloc _)
      have HF3 : Hid (Fr NoBlk W (w2.alloc (.cells (pka x) 32))) := (HF.out.trans hf).alloc _
      have HR3 : Hid (Rd (w2.alloc (.cells (pka x) 32)) (some ⟨w2.heap.size, 0, none⟩) (pkc x)) := Rd.of_cells (Bk.new w2 _ _)
      have HXL : Hid (xs.length = k ∧ xs.length ≤ 16) := ⟨HXS.out.1, by have := HXS.out.1; omega⟩
      have HNX : Hid ((xs ++ [x]).length = k + 1 ∧ PkL L (xs ++ [x])) := by
        refine ⟨by rw [List.length_append, HXS.out.1]; rfl, fun j y hy => ?_⟩
        by_cases hj : j < xs.length
        · rw [List.getElem?_append_left hj] at hy
          exact HXS.out.2 j y hy
        · have hjl := (List.getElem?_eq_some_iff.1 hy).1
          rw [List.length_append] at hjl
          have hjk : j = k := by have := HXS.out.1; simp at hjl; omega
          have hxl := HXS.out.1
          rw [List.getElem?_append_right (by omega), show j - xs.length = 0 by omega] at hy
          simp only [List.getElem?_cons_zero, Option.some.injEq] at hy
          subst hjk
          rw [← hy, hx]
          exact ⟨rfl, rfl, HSQ.out, rfl, _, HPK.out, hq⟩
      have hxe : (Value.agg (pka ⟨L.epoch, L.peer, sq, akN L.expects, q⟩)) = .agg (pka x) := by rw [hx]
      rw [hxe]
      have hpk : pka x = #[.int .u64 (x.ep : Int), .int .u64 (x.pe : Int), .int .u64 (x.sq : Int), .int .u64 (x.ak : Int), .slice x.d.1 x.d.2.2.length x.d.2.1] := rfl
      rw [hpk] at HO2 HX3 HF3 HR3 ⊢
      clear hx hq ho hf hxe hpk HX HXS e1 e2 e3 c0 c1 c2 c3 c4 c5 hc
      go_wp2_with (at_builtin; refine wpList_appO rfl _ _ 39 rfl W.heap.size 32 i0 _ 5 56 Try.underlying39 hi hz0 hz1 hz2 rfl (by decide) (.slice A xs.length c) xs.length (pksc xs) rfl HX3.out.own ⟨w2.heap.size, 0, none⟩ 1 1 (pkc x) rfl rfl HR3.out ?q1 ?q2 ?q3 HF3.out.size ?_)
      case q1 => intro y hy; simp only [pkc, List.mem_cons, List.not_mem_nil, or_false] at hy; rcases hy with rfl | rfl | rfl | rfl | rfl <;> rfl
      case q2 => have := HXL.out; unfold maxLen; omega
      case q3 => have := HXL.out; omega
      intro v4 w4 ho4 hg4 _
      obtain ⟨A4, c4, rfl, _, _⟩ := own_form ho4
      have HZ := Lib.hid (HX3.out.snoc HO2.out ho4 hg4)
      have HFZ : Hid (Fr NoBlk W w4) := HF3.out.grown hg4 (fun k hk hlt => absurd (own_blk HX3.out.own hk).1 (by omega))
      have hl4 : xs.length + 1 = (xs ++ [x]).length := by simp
      rw [hl4] at *
      clear ho4 hg4 HX3 HO2 HR3 HF3 hl4
      go_wp2_with fail
      go_roundw
      case rel => exact ⟨k + 1, A4, c4, xs ++ [x], by omega, rfl, by go_num, HNX, HZ, HFZ⟩
      case measure => simp [intOf]; omega
    · have HKE : Hid (k = L.sent.length) := by show _ = _; omega
      go_wp2_with fail
      go_ret
      rw [HP.out]
      exact ⟨A, c, xs, rfl, HX.out, HF.out, by rw [HA.out, if_neg HS.out, if_neg HP0.out]; exact ⟨HXS.out.1.trans HKE.out, HXS.out.2⟩⟩
end Go.Proofs.Ytchlafhmoncldaa
