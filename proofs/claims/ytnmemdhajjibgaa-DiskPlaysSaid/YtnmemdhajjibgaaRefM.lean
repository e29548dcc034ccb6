/- The document's put and drop. No condition but lengths. -/
import Derived.Test.YtnmemdhajjibgaaRefD
import Derived.BigQuiet
namespace Go.Proofs.Ytnmemdhajjibgaa
open Go.RowKit

/- append to a row of the call's own, elements of several cells, the source read as a list. -/
theorem wpList_appO {P : Program} {w : World} {ops : Array Oper} {rest : List Oper} {o : Oper} {a : Act} {Q : Exit → Act → World → Prop} (hgd : o.guard = none) (s x : Operand) (t : TypeId)
    (ho : o.op = .call { callee := .builtin .append, args := #[s, x], argTypes := #[t, t] })
    (base : Nat) (e : TypeId) (i : TypeInfo) (z : Value) (size bytes : Nat) (ht : P.underlying t = some (.slice e)) (hi : P.info? e = some i) (hz : i.zero = some z)
    (hsize : i.size = size) (hby : i.bytes = bytes) (hzs : z.cells.size = size) (hpos : 0 < size)
    (v : Value) (n : Nat) (xs : List Value) (hs : a.eval s = v) (hown : w.ownsRow base e size v n xs)
    (ad : Addr) (c m : Nat) (news : List Value) (hx : a.eval x = .slice (some ad) m c) (hm : news.length = m * size) (hr : Rd w (some ad) news) (h1 : ∀ u ∈ news, u.oneCell' = true)
    (h63 : n + m ≤ maxLen) (hbytes : (n + m) * bytes ≤ 140737488355328) (hbase : base ≤ w.heap.size)
    (h : ∀ v' w', w'.ownsRow base e size v' (n + m) (xs ++ news) → w.grownBy w' v.ownBlock → (v'.ownBlock = v.ownBlock ∨ v'.ownBlock = some w.heap.size) →
      wpList P ops Q rest (a.put o.dst v') w') : wpList P ops Q (o :: rest) a w :=
  wpList_plain hgd fun K hK => by
    obtain ⟨v', w', hrun, h2, h3, _, h5⟩ := run_append_own_at (P := P) w base t o.type e i z size bytes ht hi hz hsize hby hzs hpos v n xs hown ad m c news hm
      (fun j u hu => by
        obtain ⟨b, o, e', hc⟩ := hr (by have := (List.getElem?_eq_some_iff.1 hu).1; omega)
        injection e' with e'
        subst e'
        have := hc j u hu
        unfold Addr.add
        split
        · subst j; simpa using this
        · exact this) h1 h63 hbytes hbase
    unfold Oper.wp execOp
    simp only [ho, resolve, invoke, builtin, Sem.run_bind, Sem.run_pure, Result.andThen_ok, List.map_toArray, List.map_cons, List.map_nil, hs, hx, hrun]
    exact hK _ _ (h v' w' h2 h3 h5)

theorem fileInfo : (Try.prog.info? 68).map (fun i => (i.zero, i.size, i.bytes)) = some (some (.agg #[.string ByteArray.empty, .slice none 0 0, .int .i64 0]), 3, 48) := by kernel_rfl
/-- files gathered in memory of the call's own. -/
structure Outs (w1 wr : World) (v : Value) (os : List RF) : Prop where
  fr : Fr NoBlk w1 wr
  own : wr.ownsRow w1.heap.size 68 3 v os.length (rfcs os)
theorem Outs.new (w1 : World) {g : Nat} (hg : g = w1.heap.size) : Outs w1 (w1.alloc (.cells #[] 68)) (.slice (some ⟨g, 0, none⟩) 0 0) [] := by
  subst hg
  exact ⟨(Fr.refl _ _).alloc _, own_base (World.ownsRow_made w1 #[] 0 (Nat.le_refl _) (by decide) rfl) (Nat.le_refl _)⟩
theorem Outs.nofr {w1 wr wa : World} {v : Value} {os : List RF} (h : Outs w1 wr v os) (hf : Fr NoBlk wr wa) : Outs w1 wa v os := ⟨h.fr.trans hf, own_fr h.own hf fun _ _ h => h⟩
theorem Outs.next {w1 wr wa w8 : World} {v v8 : Value} {os : List RF} (h : Outs w1 wr v os) (x : RF) (hf : Fr NoBlk wr wa) (ho : w8.ownsRow w1.heap.size 68 3 v8 (os.length + 1) (rfcs os ++ rfc x)) (hg : wa.grownBy w8 v.ownBlock) : Outs w1 w8 v8 (os ++ [x]) := by
  refine ⟨(h.fr.trans hf).grown hg fun k hk hlt => ?_, ?_⟩
  · exact absurd (own_lt h.own hk).1 (by omega)
  · rw [List.length_append, rfcs_append]
    show World.ownsRow _ _ _ _ _ _ (rfcs os ++ (rfc x ++ []))
    rw [List.append_nil]
    exact ho
/-- the disk's files lie in a new row. -/
def RowPost (w w' : World) (base : Nat) (m : RM) (os : List RF) : Prop := ∃ A c, RIn w' base { m with FA := A, FC := c, fs := os } ∧ Fr m.own w w' ∧ ∀ k, ablk A k → w.heap.size ≤ k
theorem RowPost.of {w w1 wr : World} {base : Nat} {m : RM} (h : RIn w base m) (hw : Fr NoBlk w w1) {A : Option Addr} {c : Nat} {os : List RF} (ho : Outs w1 wr (.slice A os.length c) os) (hd : ∀ f ∈ os, DOk w base f.A f.c f.pf.data) (hb : base ≤ w.heap.size) :
    RowPost w (wr.setCell ⟨m.g, 1, none⟩ (.slice A os.length c)) base m os := by
  have hwr := hw.trans ho.fr
  have hbk := h.bk.fr hwr fun h => h
  have hf : Fr (fun k => k = m.g) wr (wr.setCell ⟨m.g, 1, none⟩ (.slice A os.length c)) := (Fr.refl (fun k => k = m.g) wr).setCell (p := ⟨m.g, 1, none⟩) (fun _ => rfl) _
  have hs := hw.size
  refine ⟨A, c, ⟨hbk.put 1 (.slice A os.length c), h.gb, own_base (own_fr ho.own hf fun k hk e => own_apart ho.own hbk (by decide) (e ▸ hk)) (by omega), fun f hff => ((hd f hff).nofr hwr).fr hf fun hp k hk e => ?_⟩, (hwr.mono fun _ _ h => h.elim).trans (hf.mono fun k _ hk => .inl hk), fun k hk => ?_⟩
  · exact h.apart (hd f hff) hp k hk (.inl e)
  · have := (own_abl ho.own hk).1
    omega
theorem RowPost.post {w w' : World} {base : Nat} {m : RM} {os : List RF} (h : RowPost w w' base m os) (hs : ∀ f ∈ os, 0 < f.pf.data.length → ∀ k, ablk f.A k → m.blk k ∨ w.heap.size ≤ k) :
    ∃ m', RPost w w' base m m' ∧ m'.fs = os ∧ m'.room = m.room ∧ m'.left = m.left ∧ m'.down = m.down := by
  obtain ⟨A, c, h1, h2, h3⟩ := h
  refine ⟨_, ⟨h1, rfl, h2, fun k hk => ?_, fun k hk => ?_⟩, rfl, rfl, rfl, rfl⟩
  · rcases hk with hk | hk
    · exact .inl (.inl hk)
    · exact .inr (h3 k hk)
  · rcases hk with (hk | hk) | ⟨f, hf, hp, hk⟩
    · exact .inl (.inl (.inl hk))
    · exact .inr (h3 k hk)
    · exact hs f hf hp k hk
def rins (x : RF) : List RF → List RF
  | [] => [x]
  | y :: r => if Op.bytesLess x.pf.name y.pf.name then x :: y :: r else y :: rins x r
theorem rins_pf (x : RF) (L : List RF) : (rins x L).map RF.pf = pins x.pf (L.map RF.pf) := by
  induction L with
  | nil => rfl
  | cons y r ih =>
    show (if _ then _ else _ : List RF).map RF.pf = if _ then _ else _
    split
    · rfl
    · show _ :: (rins x r).map RF.pf = _
      rw [ih]
theorem rins_mem {x y : RF} {L : List RF} (h : y ∈ rins x L) : y = x ∨ y ∈ L := by
  induction L with
  | nil => exact .inl (List.mem_singleton.1 h)
  | cons z r ih =>
    unfold rins at h
    split at h
    · exact List.mem_cons.1 h
    · rcases List.mem_cons.1 h with h | h
      · exact .inr (h ▸ List.mem_cons_self ..)
      · exact (ih h).imp id fun h => List.mem_cons_of_mem _ h
theorem rins_len (x : RF) (L : List RF) : (rins x L).length = L.length + 1 := by
  induction L with
  | nil => rfl
  | cons z r ih =>
    unfold rins
    split
    · rfl
    · show (rins x r).length + 1 = _
      rw [ih]; rfl
def rdel (L : List RF) (key : Bs) : List RF := L.filter fun f => !(f.pf.name == key)
theorem rdel_pf (L : List RF) (key : Bs) : (rdel L key).map RF.pf = pdel (L.map RF.pf) key := by
  unfold rdel pdel
  rw [List.filter_map]
  congr 1
  apply List.filter_congr
  intro x _
  show (!(x.pf.name == key)) = !decide (x.pf.name = key)
  congr 1
  exact Bool.eq_iff_iff.2 (by simp)
theorem drop_at {α : Type} (L : List α) (k : Nat) (x : α) (h : L[k]? = some x) : L.drop k = x :: L.drop (k + 1) := by
  obtain ⟨hl, he⟩ := List.getElem?_eq_some_iff.1 h
  rw [← he]
  exact List.drop_eq_getElem_cons hl

set_option maxRecDepth 100000 in
theorem rdrop_any (w : World) (base : Nat) (m : RM) (h : RIn w base m) (key : Bs) (hl : m.fs.length ≤ 1000) (hb : base ≤ w.heap.size) :
    Calls Try.prog 52 #[.pointer (some ⟨m.g, 0, none⟩), .string (bstr key)] w fun e w' => e = .returned (.tuple #[]) ∧ RowPost w w' base m (rdel m.fs key) := by
  obtain ⟨l0, hi, hz0, hz1, hz2⟩ := info_parts fileInfo
  have HR := Lib.hid h
  have HB := Lib.hid hb
  have HO0 := Lib.hid (Outs.new w rfl)
  clear h hb
  go_enter Try.func52, Try.ntmps52
  go_wp2_with fail
  go_loopw [4, 5] (fun v z wr => ∃ (k : Nat) (os : List RF), k ≤ m.fs.length ∧ z = .int .i64 k ∧ Hid (Outs w wr v os) ∧ Hid (os ++ rdel (m.fs.drop k) key = rdel m.fs key) ∧ os.length ≤ k) (fun _ z _ => m.fs.length - (intOf z).toNat)
  case atStart => exact ⟨0, [], by omega, rfl, HO0, rfl, by simp⟩
  case round =>
    clear HO0
    obtain ⟨k, os, hk, rfl, HO, HQ, hon⟩ := hrel
    have HRr := Lib.hid (HR.out.nofr HO.out.fr)
    obtain ⟨_, c1, _, _⟩ := HRr.out.cell
    have hgl := HRr.out.bk.lt
    have hg1 := HRr.out.bk.free 1
    by_cases hlt : k < m.fs.length
    · obtain ⟨f, hf⟩ : ∃ f, m.fs[k]? = some f := ⟨_, List.getElem?_eq_getElem hlt⟩
      obtain ⟨b, hA, hne, q0, q1, q2, hfz⟩ := HRr.out.file hf
      have HD := Lib.hid (drop_at _ k f hf)
      rw [hA] at c1
      have e3 := bstr_toList key
      have e4 := bstr_toList f.pf.name
      clear hf hA hne hfz
      obtain ⟨⟨nm, dt, la⟩, fa, fc⟩ := f
      dsimp only at q0 q1 q2 e4 HD
      cases hc : nm == key
      · have HY : Hid ((os ++ [⟨⟨nm, dt, la⟩, fa, fc⟩]) ++ rdel (m.fs.drop (k + 1)) key = rdel m.fs key) := by
          show _ = _
          rw [← HQ.out, HD.out]
          unfold rdel
          rw [List.filter_cons_of_pos (by simpa using hc), List.append_assoc]
          rfl
        have HF7 : Hid (Fr NoBlk wr (wr.alloc (.cells #[.string (bstr nm), .slice fa dt.length fc, .int .i64 la] 68))) := (Fr.refl _ _).alloc _
        have HO7 := Lib.hid (HO.out.nofr HF7.out)
        have HR7 : Hid (Rd (wr.alloc (.cells #[.string (bstr nm), .slice fa dt.length fc, .int .i64 la] 68)) (some ⟨wr.heap.size, 0, none⟩) (rfc ⟨⟨nm, dt, la⟩, fa, fc⟩)) := Rd.of_cells (Bk.new _ _ _)
        have HSZ : Hid (w.heap.size ≤ (wr.alloc (.cells #[.string (bstr nm), .slice fa dt.length fc, .int .i64 la] 68)).heap.size) := HO7.out.fr.size
        have HRf := Lib.hid (@id _ HR7.out)
        obtain ⟨dn, hdn⟩ : ∃ dn, dn = dt.length := ⟨_, rfl⟩
        have HDN := Lib.hid hdn
        go_wp2_with (at_builtin; refine wpList_appO rfl (.tmp 26) (.tmp 34) 59 rfl w.heap.size 68 l0 _ 3 48 Try.underlying59 hi hz0 hz1 hz2 rfl (by decide) _ os.length (rfcs os) rfl HO7.out.own ⟨wr.heap.size, 0, none⟩ 1 1 (rfc ⟨⟨nm, dt, la⟩, fa, fc⟩) rfl rfl HR7.out ?q1 ?q2 ?q3 HSZ.out ?_)
        case q1 => exact fun u hu => rfcs_one [⟨⟨nm, dt, la⟩, fa, fc⟩] u (by show u ∈ rfc _ ++ []; rw [List.append_nil]; exact hu)
        case q2 => unfold maxLen; omega
        case q3 => omega
        intro v8 w8 ho8 hg8 _
        have HO8 := Lib.hid (HO.out.next _ HF7.out ho8 hg8)
        clear ho8 hg8 HO7 HR7 HSZ HRf
        go_wp2_with fail
        go_roundw
        case rel => exact ⟨k + 1, _, by omega, by go_num, HO8, HY, by rw [List.length_append]; simp; omega⟩
        case measure => simp [intOf]; omega
      · have HY : Hid (os ++ rdel (m.fs.drop (k + 1)) key = rdel m.fs key) := by
          show _ = _
          rw [← HQ.out, HD.out]
          unfold rdel
          rw [List.filter_cons_of_neg (by simpa using hc)]
        go_wp2_with fail
        go_roundw
        case rel => exact ⟨k + 1, _, by omega, by go_num, HO, HY, by omega⟩
        case measure => simp [intOf]; omega
    · have HE : Hid (os = rdel m.fs key) := by
        show _ = _
        have := HQ.out
        rw [List.drop_eq_nil_of_le (by omega)] at this
        simpa [rdel] using this
      obtain ⟨A, c, rfl, _, _⟩ := own_form HO.out.own
      have HZ := Lib.hid (RowPost.of HR.out (Fr.refl _ _) HO.out (by rw [HE.out]; exact fun f hf => HR.out.dat f (List.mem_filter.1 hf).1) HB.out)
      go_wp2_with fail
      go_end0
      exact ⟨rfl, by rw [← HE.out]; exact HZ.out⟩
end Go.Proofs.Ytnmemdhajjibgaa
