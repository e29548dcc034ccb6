/- The document's Copy, and that its operations lie apart from its lists. Conditions: the transaction is small. -/
import Derived.Test.YtdgjjkmgdjiliaaCopyL
namespace Go.Proofs.Ytdgjjkmgdjiliaa
open Go.RowKit

/-- the row of operations lies apart from the lists of keys. -/
def Apart (u : Tx) : Prop := ∀ k, (Value.slice u.oa u.ops.length u.oc).ownBlock = some k → (0 < u.reads.length → ¬ ablk u.ra k) ∧ (0 < u.writes.length → ¬ ablk u.wa k)
def CopyPostA (w : World) (t : Tx) (e : Ending) (w' : World) : Prop := ∃ u, e = .returned (txv u) ∧ Copied w w' t u ∧ Apart u
theorem Loop.lies {w wc wr : World} {t : Tx} {g : Nat} {A1 A2 : Option Addr} {c1 c2 : Nat} {Av : Option Addr} {cv : Nat} {os : List Opn} (h0 : Half w wc t g A1 c1 A2 c2 (.slice none 0 0) []) (h : Loop wc wr t g A1 c1 A2 c2 (.slice Av os.length cv) os) :
    Apart ⟨t.kind, A1, c1, t.reads, A2, c2, t.writes, Av, cv, os, t.to⟩ := by
  intro k hk
  have hb := (own_blk h.own hk).1
  refine ⟨fun hp ha => ?_, fun hp ha => ?_⟩
  · have := h0.rd1.lt (by rw [sts_len]; exact hp) ha
    omega
  · have := h0.rd2.lt (by rw [sts_len]; exact hp) ha
    omega

set_option maxRecDepth 100000 in
set_option maxHeartbeats 40000000 in
theorem copy_anyA (w : World) (t : Tx) (ht : TxIn w t) (hs : Small t) :
    Calls Try.prog 51 #[txv t] w (CopyPostA w t) := by
  obtain ⟨i0, hi, hz0, hz1, hz2⟩ := info_parts strInfo
  obtain ⟨j0, hj, hy0, hy1, hy2⟩ := info_parts byteInfo
  obtain ⟨l0, hl, hl0, hl1, hl2⟩ := info_parts opInfo
  have HT := Lib.hid ht
  have HS := Lib.hid hs
  have hrl := hs.r
  have hwl := hs.w
  clear ht hs
  unfold txv txa
  go_enter Try.func51, Try.ntmps51
  go_upto_region 1 with fail
  go_cut [3] (fun s3 wx => ∃ (g : Nat) (A1 : Option Addr) (c1 : Nat) (A2 : Option Addr) (c2 : Nat), s3 = .pointer (some ⟨g, 0, none⟩) ∧ Hid (Half w wx t g A1 c1 A2 c2 (.slice none 0 0) []))
  case first =>
    go_region_held3 (fun w' => w'.cell? ⟨w.heap.size, 0, none⟩ = some (.int .i64 t.kind) ∧ w'.cell? ⟨w.heap.size, 4, none⟩ = some (.int .i64 t.to) ∧ w'.cell? ⟨w.heap.size, 1, none⟩ = some (.slice t.ra t.reads.length t.rc) ∧ w'.cell? ⟨w.heap.size, 2, none⟩ = some (.slice t.wa t.writes.length t.wc))
      ((first | with_reducible exact hk2 | with_reducible exact hk1 | ((with_reducible refine kAlloc ?_); assumption) | ((with_reducible refine kAllocD ?_); assumption) | ((with_reducible refine kLitD (o := Obj.cells #[.int .i64 0, .slice none 0 0, .slice none 0 0, .slice none 0 0, .int .i64 0] 35) ?_ ?_); assumption; (simp; done)) | ((with_reducible refine kLit (o := Obj.cells #[.int .i64 0, .slice none 0 0, .slice none 0 0, .slice none 0 0, .int .i64 0] 35) ?_ ?_); assumption; (first | omega | (simp; omega))) | ((with_reducible refine kSet ?_ (kSet ?_ (kSet ?_ (kSet ?_ (kSet ?_ ?_))))) <;> first | assumption | (simp; omega)) | with_reducible exact kStart)) (first
      | (refine step_appE rfl (.tmp 10) (.tmp 12) 32 rfl 9 i0 _ 1 16 Try.underlying32 hi hz0 hz1 hz2 rfl (by decide) _ rfl t.ra t.rc t.reads.length (sts t.reads) rfl (by rw [sts_len, Nat.mul_one]) ?_ (sts_one _) HT.out.rl.2.2 (by unfold maxLen; omega) (by omega) ?_
         rotate_left
         intro A1 c1 w1 hg1
         have hf1 := hg1.fr
         have HG1 := Lib.hid hg1
         have hk1 := kFr (w := w) (t := t) hf1 (by first | assumption | go_keep)
         obtain ⟨ha1, hb1, hd1, he1⟩ := hk1
         have hk1 := And.intro ha1 (And.intro hb1 (And.intro hd1 he1))
         have hsz1 := hf1.size
         try simp at hsz1
         have ka1 : w.heap.size < w1.heap.size := by omega
         have kb1 : w.heap.size + 1 < w1.heap.size := by omega
         have kn1 : ¬ w1.heap.size = w.heap.size := by omega
         have km1 : ¬ w1.heap.size + 1 = w.heap.size := by omega
         try have kc1 : w.heap.size + 1 + 1 < w1.heap.size := by omega
         try have kd1 : w.heap.size + 1 + 1 + 1 < w1.heap.size := by omega
         try have ke1 : w.heap.size + 1 + 1 + 1 + 1 < w1.heap.size := by omega
         obtain ⟨hc1, hfz1⟩ := hf1.old
         try simp at hc1
         try simp at hfz1
         clear hg1 hf1
         rotate_left
         refine HT.out.reads.nofr (?_ : Fr NoBlk w _)
         (repeat (first | with_reducible exact Fr.refl _ _ | with_reducible refine Fr.alloc ?_ _ | with_reducible refine Fr.drew ?_ | with_reducible refine Fr.trans ?_ HG2.out.fr | with_reducible refine Fr.trans ?_ HG1.out.fr | ((with_reducible refine Fr.setCell ?_ (fun h => absurd h ?_) _); rotate_left; (simp; omega)))))
      | (refine step_appE rfl (.tmp 14) (.tmp 16) 32 rfl 9 i0 _ 1 16 Try.underlying32 hi hz0 hz1 hz2 rfl (by decide) _ rfl t.wa t.wc t.writes.length (sts t.writes) rfl (by rw [sts_len, Nat.mul_one]) ?_ (sts_one _) HT.out.wl.2.2 (by unfold maxLen; omega) (by omega) ?_
         rotate_left
         intro A2 c2 w2 hg2
         have hf2 := hg2.fr
         have HG2 := Lib.hid hg2
         have hk2 := kFr (w := w) (t := t) hf2 (by first | assumption | go_keep)
         obtain ⟨ha2, hb2, hd2, he2⟩ := hk2
         have hk2 := And.intro ha2 (And.intro hb2 (And.intro hd2 he2))
         have hsz2 := hf2.size
         try simp at hsz2
         have ka2 : w.heap.size < w2.heap.size := by omega
         have kb2 : w.heap.size + 1 < w2.heap.size := by omega
         have kn2 : ¬ w2.heap.size = w.heap.size := by omega
         have km2 : ¬ w2.heap.size + 1 = w.heap.size := by omega
         try have kc2 : w.heap.size + 1 + 1 < w2.heap.size := by omega
         try have kd2 : w.heap.size + 1 + 1 + 1 < w2.heap.size := by omega
         try have ke2 : w.heap.size + 1 + 1 + 1 + 1 < w2.heap.size := by omega
         obtain ⟨hc2, hfz2⟩ := hf2.old
         try simp at hc2
         try simp at hfz2
         clear hg2 hf2
         rotate_left
         refine HT.out.writes.nofr (?_ : Fr NoBlk w _)
         (repeat (first | with_reducible exact Fr.refl _ _ | with_reducible refine Fr.alloc ?_ _ | with_reducible refine Fr.drew ?_ | with_reducible refine Fr.trans ?_ HG2.out.fr | with_reducible refine Fr.trans ?_ HG1.out.fr | ((with_reducible refine Fr.setCell ?_ (fun h => absurd h ?_) _); rotate_left; (simp; omega))))))
    all_goals
      go_wp2_with fail
      go_meet
      clear hc1 hfz1 hc2 hfz2 hk1 hk2
      refine ⟨_, A1, c1, A2, c2, rfl, ?_⟩
      unfold Hid
      first | with_reducible apply close_put (h1 := HG1.out) (h2 := HG2.out) | with_reducible apply close_lit (h1 := HG1.out) (h2 := HG2.out)
      case f1 => (repeat (first | with_reducible exact Fr.refl _ _ | with_reducible refine Fr.alloc ?_ _ | with_reducible refine Fr.drew ?_ | with_reducible refine Fr.via ?_ HG2.out.fr | with_reducible refine Fr.via ?_ HG1.out.fr))
      case f2 => (repeat (first | with_reducible exact Fr.refl _ _ | with_reducible refine Fr.alloc ?_ _ | with_reducible refine Fr.drew ?_ | with_reducible refine Fr.via ?_ HG2.out.fr | with_reducible refine Fr.via ?_ HG1.out.fr))
      case f => (repeat (first | with_reducible exact Fr.refl _ _ | with_reducible refine Fr.alloc ?_ _ | with_reducible refine Fr.drew ?_ | with_reducible refine Fr.via ?_ HG2.out.fr | with_reducible refine Fr.via ?_ HG1.out.fr))
      case v1 => first | (left; omega) | (right; omega) | (left; simp; omega) | (right; simp; omega) | (left; simp; done) | (right; simp; done)
      case v2 => first | (left; omega) | (right; omega) | (left; simp; omega) | (right; simp; omega) | (left; simp; done) | (right; simp; done)
      case hlt => first | omega | (simp; omega)
      case hbk => (repeat (first | ((with_reducible refine Bk.new' _ _ _ ?_); (simp; done)) | with_reducible refine Bk.alloc ?_ _ | with_reducible refine Bk.drew ?_ | with_reducible refine Bk.fr0 ?_ HG2.out.fr | with_reducible refine Bk.fr0 ?_ HG1.out.fr))
  case rest =>
    obtain ⟨g, A1, c1, A2, c2, rfl, HH0⟩ := hcut
    go_wp2_with fail
    have HL0 : Hid (Loop wc wc t g A1 c1 A2 c2 (.slice none 0 0) []) := ⟨HH0.out.bk, HH0.out.bk.lt, World.ownsRow_nil _ _ _ _, (fun _ h => by cases h), (fun _ h => by cases h), (fun _ _ h => by cases h), Fr.refl _ _⟩
    have hg := HH0.out.lt
    have hon : t.ops.length ≤ 60 := HS.out.o
    go_loopw [4] (fun z wr => ∃ (k : Nat) (v : Value) (os : List Opn), k ≤ t.ops.length ∧ z = .int .i64 k ∧ Hid (os.length = k) ∧ Hid (Loop wc wr t g A1 c1 A2 c2 v os)) (fun z _ => t.ops.length - (intOf z).toNat)
    case atStart => exact ⟨0, _, [], by omega, rfl, rfl, HL0⟩
    case round =>
      obtain ⟨k, v, os, hk, rfl, HOL, HH⟩ := hrel
      have hgl : g < wr.heap.size := HH.out.bk.lt
      have HBX : Hid (Bk wr w.heap.size 35 (txa t)) := HH0.out.box.fr HH.out.fr (by omega)
      have hwl : w.heap.size < wr.heap.size := HBX.out.lt
      have hwl' : w.heap.size < wr.heap.size + 1 := by omega
      have HFw : Hid (Fr NoBlk w wr) := HH0.out.fr.step HH.out.fr (fun i hi e => by omega)
      have q3 : wr.cell? ⟨w.heap.size, 3, none⟩ = some (.slice t.oa t.ops.length t.oc) := HBX.out.cell 3
      have g3 : wr.cell? ⟨g, 3, none⟩ = some v := HH.out.bk.cell 3
      by_cases hlt : k < t.ops.length
      · obtain ⟨x, hx⟩ : ∃ x, t.ops[k]? = some x := ⟨_, List.getElem?_eq_getElem hlt⟩
        obtain ⟨b, o, hA, x0, x1, x2, x3⟩ := (HT.out.ops.nofr HFw.out).opn hx
        have hbl : b < wr.heap.size := World.block_lt_of_cell? wr _ x0
        have hbl' : b < wr.heap.size + 1 := by omega
        rw [hA] at q3
        have HV := Lib.hid (HT.out.vals x (List.mem_of_getElem? hx))
        have hvl : x.val.2.2.length ≤ 200 := (HS.out.ok x (List.mem_of_getElem? hx)).2
        have HX := Lib.hid hx
        have HVA : Hid (x.val.1 = none → x.val.2.1 = 0) := HV.out.1.2
        clear hx hA
        unfold st at x1
        unfold sl at x2
        have i0' : (0 : Int) ≤ (k : Int) := by omega
        have i1' : (k : Int) < (t.ops.length : Int) := by omega
        have HFA : Hid (Fr NoBlk wr ((wr.alloc (.cells #[.int .i64 x.kind, .string (bstr x.key), .slice x.val.1 x.val.2.2.length x.val.2.1, .int .i64 x.n] 98)).alloc (.cells #[] 5))) := ((Fr.refl _ _).alloc _).alloc _
        have HBO := Lib.hid ((Bk.new wr 98 #[.int .i64 x.kind, .string (bstr x.key), .slice x.val.1 x.val.2.2.length x.val.2.1, .int .i64 x.n]).alloc (.cells #[] 5))
        have HRV : Hid (Rd ((wr.alloc (.cells #[.int .i64 x.kind, .string (bstr x.key), .slice x.val.1 x.val.2.2.length x.val.2.1, .int .i64 x.n] 98)).alloc (.cells #[] 5)) x.val.1 (cb x.val.2.2)) := HV.out.1.1.nofr (HFw.out.trans HFA.out)
        generalize hvn : x.val.2.2.length = vl at *
        generalize x.val.1 = va at *
        generalize x.val.2.1 = vc at *
        have HVN := Lib.hid hvn
        clear hvn
        go_wp2_with (at_builtin; refine wpList_appE rfl (.tmp 31) (.tmp 37) 96 rfl 5 j0 _ 1 1 Try.underlying96 hj hy0 hy1 hy2 rfl (by decide) _ rfl va vc vl (cb x.val.2.2) rfl (by rw [cb_length, HVN.out, Nat.mul_one]) HRV.out (cb_one _) HVA.out (by unfold maxLen; omega) (by omega) ?_)
        intro A5 c5 w5 hg5
        have HG5 := Lib.hid hg5
        have hsz := hg5.fr.size
        simp at hsz
        have HF5 := Lib.hid (HFA.out.trans hg5.fr)
        have HB5 := Lib.hid (HBO.out.fr hg5.fr (fun h => h))
        have y0 : w5.cell? ⟨wr.heap.size, 0, none⟩ = some (.int .i64 x.kind) := HB5.out.cell 0
        have y1 : w5.cell? ⟨wr.heap.size, 1, none⟩ = some (.string (bstr x.key)) := HB5.out.cell 1
        have y2 : w5.cell? ⟨wr.heap.size, 2, none⟩ = some (.slice va vl vc) := HB5.out.cell 2
        have y3 : w5.cell? ⟨wr.heap.size, 3, none⟩ = some (.int .i64 x.n) := HB5.out.cell 3
        have y4 := HB5.out.free 2
        have z3 : w5.cell? ⟨g, 3, none⟩ = some v := (HF5.out.cell (p := ⟨g, 3, none⟩) hgl (fun h => h)).trans g3
        have ne1 : ¬ wr.heap.size = g := by omega
        have ne2 : ¬ g = wr.heap.size := by omega
        clear hg5 HBO HRV HFA x0 x1 x2 x3 q3 g3
        have HF7 : Hid (Fr NoBlk wr ((w5.setCell ⟨wr.heap.size, 2, none⟩ (.slice A5 vl c5)).alloc (.cells #[.int .i64 x.kind, .string (bstr x.key), .slice A5 vl c5, .int .i64 x.n] 98))) := (HF5.out.setCell (p := ⟨wr.heap.size, 2, none⟩) (fun h => absurd h (Nat.lt_irrefl _)) _).alloc _
        have HO7 : Hid (((w5.setCell ⟨wr.heap.size, 2, none⟩ (.slice A5 vl c5)).alloc (.cells #[.int .i64 x.kind, .string (bstr x.key), .slice A5 vl c5, .int .i64 x.n] 98)).ownsRow wc.heap.size 98 4 v os.length (opsc os)) := own_fr HH.out.own HF7.out (fun _ _ h => h)
        have HR7 : Hid (Rd ((w5.setCell ⟨wr.heap.size, 2, none⟩ (.slice A5 vl c5)).alloc (.cells #[.int .i64 x.kind, .string (bstr x.key), .slice A5 vl c5, .int .i64 x.n] 98)) (some ⟨w5.heap.size, 0, none⟩) [.int .i64 x.kind, .string (bstr x.key), .slice A5 vl c5, .int .i64 x.n]) := Rd.of_cells (Bk.new' _ _ _ (by simp [World.setCell]))
        have HSZ : Hid (wc.heap.size ≤ ((w5.setCell ⟨wr.heap.size, 2, none⟩ (.slice A5 vl c5)).alloc (.cells #[.int .i64 x.kind, .string (bstr x.key), .slice A5 vl c5, .int .i64 x.n] 98)).heap.size) := Nat.le_trans HH.out.fr.size HF7.out.size
        have HR5 : Hid (Rd ((w5.setCell ⟨wr.heap.size, 2, none⟩ (.slice A5 vl c5)).alloc (.cells #[.int .i64 x.kind, .string (bstr x.key), .slice A5 vl c5, .int .i64 x.n] 98)) A5 (cb x.val.2.2)) := HG5.out.rd.fr' (((Fr.refl (fun k => k = wr.heap.size) w5).setCell (p := ⟨wr.heap.size, 2, none⟩) (fun _ => rfl) _).alloc _) (fun hp k hk e => by
          subst e
          obtain ⟨a, ea, hk⟩ := hk
          obtain ⟨g5, eg, hgl5⟩ := HG5.out.new (by rw [cb_length, HVN.out] at hp; exact hp)
          rw [ea] at eg
          injection eg with eg
          subst eg
          simp at hgl5 hk
          omega)
        go_wp2_with (at_builtin; refine wpList_appO rfl (.tmp 41) (.tmp 43) 33 rfl wc.heap.size 98 l0 _ 4 56 Try.underlying33 hl hl0 hl1 hl2 rfl (by decide) v os.length (opsc os) rfl HO7.out ⟨w5.heap.size, 0, none⟩ 1 1 [.int .i64 x.kind, .string (bstr x.key), .slice A5 vl c5, .int .i64 x.n] rfl rfl HR7.out ?q1 ?q2 ?q3 HSZ.out ?_)
        case q1 => intro u hu; simp only [List.mem_cons, List.not_mem_nil, or_false] at hu; rcases hu with rfl | rfl | rfl | rfl <;> rfl
        case q2 => have := HOL.out; unfold maxLen; omega
        case q3 => have := HOL.out; omega
        intro v8 w8 ho8 hg8 hb8
        obtain ⟨A8, c8, rfl, _, _⟩ := own_form ho8
        have hb := HH.out.g8 HF7.out hg8
        have z8 : w8.cell? ⟨g, 3, none⟩ = some v := hb.cell 3
        have z9 := hb.free 3
        have HO8 := Lib.hid ho8
        have HG8 := Lib.hid hg8
        have HB8 := Lib.hid hb8
        clear ho8 hg8 hb8 hb
        go_wp2_with fail
        go_roundw
        case rel =>
          refine ⟨k + 1, .slice A8 (os.length + 1) c8, os ++ [⟨x.kind, x.key, (A5, c5, x.val.2.2), x.n⟩], by omega, by go_num, ?_, ?_⟩
          · show _ = _
            rw [List.length_append, List.length_singleton, HOL.out]
          · refine HH.out.next (by rw [HOL.out]; exact HX.out) HF7.out HR5.out (by rw [HVN.out]; exact HG5.out.le) HG5.out.max HG5.out.nil (fun h => ?_) ?_ HG8.out ?_
            · obtain ⟨g5, eg, hgl5⟩ := HG5.out.new (by rw [← HVN.out]; exact h)
              simp at hgl5
              exact ⟨g5, eg, by omega⟩
            · have h := HO8.out
              show World.ownsRow _ _ _ _ _ _ (opsc os ++ [.int .i64 x.kind, .string (bstr x.key), .slice A5 x.val.2.2.length c5, .int .i64 x.n])
              rw [HVN.out]
              exact h
            · have h := HB8.out
              simpa [World.setCell] using h
        case measure => simp [intOf]; omega
      · have HTK : Hid (k = t.ops.length) := by show k = _; omega
        have HBR : Hid (Bk wr (w.heap.size + 1) 35 #[.int .i64 0, .slice none 0 0, .slice none 0 0, .slice none 0 0, .int .i64 0]) := HH0.out.res.fr HH.out.fr (by omega)
        obtain ⟨Av, cv, rfl, hcv, hAv⟩ := own_form HH.out.own
        have HCV := Lib.hid hcv
        have HAV := Lib.hid hAv
        clear hcv hAv
        have p0 : wr.cell? ⟨g, 0, none⟩ = some (.int .i64 t.kind) := HH.out.bk.cell 0
        have p1 : wr.cell? ⟨g, 1, none⟩ = some (.slice A1 t.reads.length c1) := HH.out.bk.cell 1
        have p2 : wr.cell? ⟨g, 2, none⟩ = some (.slice A2 t.writes.length c2) := HH.out.bk.cell 2
        have p4 : wr.cell? ⟨g, 4, none⟩ = some (.int .i64 t.to) := HH.out.bk.cell 4
        have r0 : wr.cell? ⟨w.heap.size + 1, 0, none⟩ = some (.int .i64 0) := HBR.out.cell 0
        have r1 : wr.cell? ⟨w.heap.size + 1, 1, none⟩ = some (.slice none 0 0) := HBR.out.cell 1
        have r2 : wr.cell? ⟨w.heap.size + 1, 2, none⟩ = some (.slice none 0 0) := HBR.out.cell 2
        have r3 : wr.cell? ⟨w.heap.size + 1, 3, none⟩ = some (.slice none 0 0) := HBR.out.cell 3
        have r4 : wr.cell? ⟨w.heap.size + 1, 4, none⟩ = some (.int .i64 0) := HBR.out.cell 4
        have s0 := HBR.out.free 0
        have s1 := HBR.out.free 1
        have s2 := HBR.out.free 2
        have s3 := HBR.out.free 3
        have s4 := HBR.out.free 4
        have HLN : Hid (os.length = t.ops.length) := by show _ = _; rw [HOL.out, HTK.out]
        go_wp2_with fail
        have hbz := (((((HBR.out.put 0 (.int .i64 t.kind)).put 1 (.slice A1 t.reads.length c1)).put 2 (.slice A2 t.writes.length c2)).put 3 (.slice Av os.length cv)).put 4 (.int .i64 t.to))
        have z0 : (((((wr.setCell ⟨w.heap.size + 1, 0, none⟩ (.int .i64 t.kind)).setCell ⟨w.heap.size + 1, 1, none⟩ (.slice A1 t.reads.length c1)).setCell ⟨w.heap.size + 1, 2, none⟩ (.slice A2 t.writes.length c2)).setCell ⟨w.heap.size + 1, 3, none⟩ (.slice Av os.length cv)).setCell ⟨w.heap.size + 1, 4, none⟩ (.int .i64 t.to)).cell? ⟨w.heap.size + 1, 0, none⟩ = some (.int .i64 t.kind) := hbz.cell 0
        have z1 : (((((wr.setCell ⟨w.heap.size + 1, 0, none⟩ (.int .i64 t.kind)).setCell ⟨w.heap.size + 1, 1, none⟩ (.slice A1 t.reads.length c1)).setCell ⟨w.heap.size + 1, 2, none⟩ (.slice A2 t.writes.length c2)).setCell ⟨w.heap.size + 1, 3, none⟩ (.slice Av os.length cv)).setCell ⟨w.heap.size + 1, 4, none⟩ (.int .i64 t.to)).cell? ⟨w.heap.size + 1, 1, none⟩ = some (.slice A1 t.reads.length c1) := hbz.cell 1
        have z2 : (((((wr.setCell ⟨w.heap.size + 1, 0, none⟩ (.int .i64 t.kind)).setCell ⟨w.heap.size + 1, 1, none⟩ (.slice A1 t.reads.length c1)).setCell ⟨w.heap.size + 1, 2, none⟩ (.slice A2 t.writes.length c2)).setCell ⟨w.heap.size + 1, 3, none⟩ (.slice Av os.length cv)).setCell ⟨w.heap.size + 1, 4, none⟩ (.int .i64 t.to)).cell? ⟨w.heap.size + 1, 2, none⟩ = some (.slice A2 t.writes.length c2) := hbz.cell 2
        have z3 : (((((wr.setCell ⟨w.heap.size + 1, 0, none⟩ (.int .i64 t.kind)).setCell ⟨w.heap.size + 1, 1, none⟩ (.slice A1 t.reads.length c1)).setCell ⟨w.heap.size + 1, 2, none⟩ (.slice A2 t.writes.length c2)).setCell ⟨w.heap.size + 1, 3, none⟩ (.slice Av os.length cv)).setCell ⟨w.heap.size + 1, 4, none⟩ (.int .i64 t.to)).cell? ⟨w.heap.size + 1, 3, none⟩ = some (.slice Av os.length cv) := hbz.cell 3
        have z4 : (((((wr.setCell ⟨w.heap.size + 1, 0, none⟩ (.int .i64 t.kind)).setCell ⟨w.heap.size + 1, 1, none⟩ (.slice A1 t.reads.length c1)).setCell ⟨w.heap.size + 1, 2, none⟩ (.slice A2 t.writes.length c2)).setCell ⟨w.heap.size + 1, 3, none⟩ (.slice Av os.length cv)).setCell ⟨w.heap.size + 1, 4, none⟩ (.int .i64 t.to)).cell? ⟨w.heap.size + 1, 4, none⟩ = some (.int .i64 t.to) := hbz.cell 4
        refine bodyPost_ret (v := txv ⟨t.kind, A1, c1, t.reads, A2, c2, t.writes, Av, cv, os, t.to⟩) ?_ rfl ⟨_, rfl, Loop.fin HH0.out HH.out HLN.out HT.out.texts (fun x hx => (HT.out.vals x hx).2.2.2) HCV.out ?_ HAV.out ?_, Loop.lies HH0.out HH.out⟩
        · unfold txv txa
          simp [results, Try.results51, go_sem, z0, z1, z2, z3, z4]
        · exact own_cap HH.out.own
        · exact (((((Fr.refl (fun k => k = w.heap.size + 1) wr).setCell (p := ⟨w.heap.size + 1, 0, none⟩) (fun _ => rfl) _).setCell (p := ⟨w.heap.size + 1, 1, none⟩) (fun _ => rfl) _).setCell (p := ⟨w.heap.size + 1, 2, none⟩) (fun _ => rfl) _).setCell (p := ⟨w.heap.size + 1, 3, none⟩) (fun _ => rfl) _).setCell (p := ⟨w.heap.size + 1, 4, none⟩) (fun _ => rfl) _
end Go.Proofs.Ytdgjjkmgdjiliaa
