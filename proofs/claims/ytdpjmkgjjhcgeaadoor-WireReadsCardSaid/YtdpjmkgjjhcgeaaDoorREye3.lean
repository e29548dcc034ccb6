/- The contract of the document's own eye for texts. Conditions: the bytes lie elsewhere than the eye; lengths are short. -/
import Derived.Test.YtdpjmkgjjhcgeaaDoorREye2
import Derived.Test.YtdpjmkgjjhcgeaaDoorRow
import Derived.RegionTactic
import Derived.Deep.RegionLaw
namespace Go.Proofs.YtdpjmkgjjhcgeaaDoor
open Go.RowKit

theorem step_app {P : Program} {w : World} {ops : Array Oper} {o : Oper} {a : Act} {K : Act → World → Prop} {Q : Exit → Act → World → Prop} {E : Prop} (hgd : o.guard = none) (s x : Operand) (t : TypeId)
    (ho : o.op = .call { callee := .builtin .append, args := #[s, x], argTypes := #[t, t] })
    (base : Nat) (e : TypeId) (i : TypeInfo) (z : Value) (bytes : Nat) (ht : P.underlying t = some (.slice e)) (hi : P.info? e = some i) (hz : i.zero = some z)
    (hsize : i.size = 1) (hby : i.bytes = bytes) (hzs : z.cells.size = 1)
    (v : Value) (n : Nat) (xs : List Value) (hs : a.eval s = v) (hown : w.ownsRow base e 1 v n xs)
    (A : Option Addr) (c m : Nat) (news : List Value) (hx : a.eval x = .slice A m c) (hm : news.length = m) (hr : Rd w A news) (h1 : ∀ u ∈ news, u.oneCell' = true)
    (hA : A = none → c = 0)
    (h63 : n + m ≤ maxLen) (hbytes : (n + m) * bytes ≤ 140737488355328) (hbase : base ≤ w.heap.size)
    (h : ∀ v' w', w'.ownsRow base e 1 v' (n + m) (xs ++ news) → w.grownBy w' v.ownBlock → (v' = .slice none 0 0 ↔ v = .slice none 0 0 ∧ m = 0) → (v'.ownBlock = v.ownBlock ∨ v'.ownBlock = some w.heap.size) →
      K (a.put o.dst v') w') :
    if Region.wanted o (yielded ops a.tmps) = true then Oper.wp P o a w K Q else E := by
  have hw : Region.wanted o (yielded ops a.tmps) = true := by simp [Region.wanted, hgd]
  rw [if_pos hw]
  obtain ⟨v', w', hrun, h2, h3, h4, h5⟩ := run_app (P := P) w base t o.type e i z bytes ht hi hz hsize hby hzs v n xs hown A c m news hm hr h1 hA h63 hbytes hbase
  unfold Oper.wp execOp
  simp only [ho, resolve, invoke, builtin, Sem.run_bind, Sem.run_pure, Result.andThen_ok, List.map_toArray, List.map_cons, List.map_nil, hs, hx, hrun]
  exact h v' w' h2 h3 h4 h5

theorem numGo_err (t : List UInt8) : ∀ k n, (numGo k n t).2.2 ≠ 0 → (numGo k n t).2.1 = 0 := by
  induction t with
  | nil => intro k n _; rfl
  | cons b t ih =>
    intro k n h
    rw [numGo] at h ⊢
    split
    · rfl
    · rename_i h1
      rw [if_neg h1] at h
      split
      · rename_i h2
        rw [if_pos h2] at h
        exact ih _ _ h
      · rename_i h2
        rw [if_neg h2] at h
        split
        · rfl
        · rename_i h3
          rw [if_neg h3] at h
          exact absurd rfl h

def RTextPost (w : World) (g : Nat) (A : Option Addr) (c : Nat) (l : List UInt8) (i : Nat) (e : Ending) (w' : World) : Prop :=
  ∃ v', e = .returned (.tuple #[v', .int .i64 ((rdText (l.drop i)).2.2 : Int)]) ∧ w'.ownsRow w.heap.size 5 1 v' (rdText (l.drop i)).1.length (cb (rdText (l.drop i)).1) ∧ REyed w w' g A c l (i + (rdText (l.drop i)).2.1)

theorem RTextPost.fail {w w' : World} {g : Nat} {A : Option Addr} {c : Nat} {l : List UInt8} {i k : Nat} {kv : Int} {v' : Value} (hr : rdText (l.drop i) = ([], 0, k)) (hk : kv = (k : Int)) (hy : REyed w w' g A c l i)
    (hv : w'.ownsRow w.heap.size 5 1 v' 0 []) : RTextPost w g A c l i (.returned (.tuple #[v', .int .i64 kv])) w' := by
  subst hk
  exact ⟨v', by rw [hr], by rw [hr]; exact hv, by rw [hr]; exact hy⟩
theorem RTextPost.done {w w' : World} {g : Nat} {A : Option Addr} {c : Nat} {l t : List UInt8} {i s : Nat} {v' : Value} (hr : rdText (l.drop i) = (t, s, 0)) (hy : REyed w w' g A c l (i + s))
    (hv : w'.ownsRow w.heap.size 5 1 v' t.length (cb t)) : RTextPost w g A c l i (.returned (.tuple #[v', .int .i64 0])) w' :=
  ⟨v', by rw [hr]; rfl, by rw [hr]; exact hv, by rw [hr]; exact hy⟩

theorem RTextPost.fin {w w2 w3 : World} {g : Nat} {A : Option Addr} {c : Nat} {l : List UInt8} {i j m s : Nat} {v3 : Value} (hr : rdText (l.drop i) = (((l.drop i).drop s).take m, s + m, 0)) (hj : j = i + s) (hy : REyed w w2 g A c l (j + m))
    (ho' : w3.ownsRow w2.heap.size 5 1 v3 (0 + m) ([] ++ cb ((l.drop j).take m))) (hg : ((w2.alloc (.cells #[] 5)).drew).grownBy w3 (some w2.heap.size)) (hm : m = ((l.drop j).take m).length) :
    RTextPost w g A c l i (.returned (.tuple #[v3, .int .i64 0])) w3 := by
  have ho : w3.ownsRow w2.heap.size 5 1 v3 m (cb ((l.drop j).take m)) := by simpa using ho'
  have hf : Fr NoBlk w2 w3 := (((Fr.refl NoBlk w2).alloc _).drew).grown hg (fun k hk hlt => by injection hk with hk; omega)
  rw [List.drop_drop, ← hj] at hr
  refine RTextPost.done hr ⟨?_, ?_⟩ ?_
  · rw [show i + (s + m) = j + m by omega]
    exact hy.eye.keep hf (fun h => h) (fun _ _ _ h => h)
  · exact hy.fr.step hf (fun _ _ h => h.elim)
  · rw [← hm]
    exact own_base ho hy.fr.size

set_option maxRecDepth 100000 in
set_option maxHeartbeats 6000000 in
theorem reyeText_any (w : World) (g : Nat) (A : Option Addr) (c : Nat) (l : List UInt8) (i : Nat) (he : REye w g A c l i) (hA : A = none → c = 0) (hl : l.length ≤ 1000000000) :
    Calls Tryd.prog 33 #[.pointer (some ⟨g, 0, none⟩)] w (RTextPost w g A c l i) := by
  obtain ⟨i0, hi, hz0, hz1, hz2⟩ := info_parts byteInfo
  obtain ⟨hc0, hc1, hf1⟩ := he.cells
  have HE := Lib.hid he
  have hil := he.at_
  have HAn := Lib.hid hA
  have hcap := he.cap
  clear he hA
  go_enter Tryd.func33, Tryd.ntmps33
  go_wp2_with fail
  refine (reyeNum_any w g A c l i HE.out hl).mono ?_
  rintro e w1 ⟨rfl, hy⟩
  obtain ⟨m, s, k, hx⟩ : ∃ m s k, rdNum (l.drop i) = (m, s, k) := ⟨_, _, _, rfl⟩
  have hs := rdNum_size (l.drop i)
  have hlt := rdNum_lt (l.drop i)
  rw [List.length_drop] at hs
  have herr := numGo_err (l.drop i) 0 0
  rw [show numGo 0 0 (l.drop i) = rdNum (l.drop i) from rfl] at herr
  rw [hx] at hs hlt hy herr ⊢
  have HT : Hid (rdText (l.drop i) = if k = 0 then (if (l.drop i).length - s < m then ([], 0, 30) else (((l.drop i).drop s).take m, s + m, 0)) else ([], 0, k)) := by
    unfold Hid rdText; rw [hx]
  clear hx hc0 hc1 hf1
  simp only at hs hlt hy herr ⊢
  rw [List.length_drop] at HT
  have HErr := Lib.hid herr
  clear herr
  obtain ⟨j, hj⟩ : ∃ j, j = i + s := ⟨_, rfl⟩
  rw [← hj] at hy
  have hjl := hy.eye.at_
  have hlj : l.length - i - s = l.length - j := by omega
  rw [hlj] at HT
  have HJ := Lib.hid hj
  clear hj hlj hs
  obtain ⟨hc0, hc1, hf1⟩ := hy.eye.cells
  have HY := Lib.hid hy
  have HM := Lib.hid hlt
  clear hy hlt
  by_cases hk : k = 0
  · subst hk
    by_cases hlen : l.length - j < m
    · have HR := Lib.hid (HT.out.trans (by rw [if_pos rfl, if_pos hlen]))
      have HZ := Lib.hid (fun q => (HY.out.drewN q).trans ((HY.out.drewN q).eye.put (j := i) hil (i : Int) rfl))
      clear HT
      go_wp2
      go_quiet (fail)
      go_wp2
      go_ret2
      refine RTextPost.fail HR.out rfl ⟨(HZ.out _).eye.keep ((Fr.refl NoBlk _).alloc _) (fun h => h) (fun _ _ _ h => h), (HZ.out _).fr.alloc _⟩ ?_
      exact own_new (by simp [World.setCell]) (HZ.out _).fr.size
    · have HR := Lib.hid (HT.out.trans (by rw [if_pos rfl, if_neg hlen]))
      clear HT
      go_wp2
      go_quiet (fail)
      go_wp2
      have HZ := Lib.hid ((HY.out.drewN nq).trans ((HY.out.drewN nq).eye.put (j := j + m) (by omega) ((j : Int) + (m : Int)) (by omega)))
      clear hc0 hc1 hf1
      generalize (w1.drewN nq).setCell ⟨g, 1, none⟩ (.int .i64 ((j : Int) + (m : Int))) = w2 at *
      obtain ⟨hc0, hc1, hf1⟩ := HZ.out.eye.cells
      rw [show (((j + m : Nat) : Int)) = (j : Int) + (m : Int) by omega] at hc1
      by_cases hcj : c = j
      · have hm0 : m = 0 := by omega
        subst hm0
        subst hcj
        have ha0 := (HZ.out.eye.bk.alloc (.cells #[] 5)).cell 0
        have ha1 := (HZ.out.eye.bk.alloc (.cells #[] 5)).cell 1
        simp only [List.getElem?_toArray, List.getElem?_cons_zero, List.getElem?_cons_succ, Nat.add_zero] at ha0 ha1
        have HO : Hid ((w2.alloc (.cells #[] 5)).drew.ownsRow w2.heap.size 5 1 (.slice (some ⟨w2.heap.size, 0, none⟩) 0 0) 0 []) := (own_new rfl (Nat.le_refl _) : (w2.alloc (.cells #[] 5)).ownsRow w2.heap.size 5 1 _ 0 [])
        have g8 : IntKind.i64.wrap (c : Int) = (c : Int) := IntWalk.i64_in _ (by omega)
        have g9 : IntKind.i64.wrap ((c : Int) - IntKind.i64.wrap 0) = (c : Int) := by rw [show IntKind.i64.wrap 0 = 0 by decide, Int.sub_zero]; exact IntWalk.i64_in _ (by omega)
        have g3 : (0 : Int) ≤ (c : Int) ∧ (c : Int) ≤ (c : Int) := by omega
        have g6 : max (c : Int) 0 = (c : Int) := by omega
        simp only [Int.natCast_zero, Int.add_zero] at hc1
        go_region_law ((refine step_app rfl (.tmp 47) (.tmp 63) 28 rfl w2.heap.size 5 i0 (.int .u8 0) 1 Tryd.underlying28 hi hz0 hz1 hz2 rfl (.slice (some ⟨w2.heap.size, 0, none⟩) 0 0) 0 [] rfl HO.out A 0 0 (cb []) rfl rfl (Rd.none_ _ _) (cb_one _) (fun _ => rfl) (by decide) (by decide) (by simp) ?_); intro v3 w3 hown3 hgr3 _ _; have HX3 := Lib.hid (And.intro hown3 hgr3); clear hown3 hgr3)
        all_goals
          go_wp2
          go_ret2
          exact RTextPost.fin HR.out HJ.out HZ.out HX3.out.1 HX3.out.2 rfl
      · have hr1 := HZ.out.eye.rd.cut (k := j) (cap := c) (by rw [cb_length]; exact hjl) (by rw [cb_length]; exact hcap)
        rw [if_neg hcj, ← cb_drop] at hr1
        have HR1 := Lib.hid (hr1.take m)
        clear hr1
        have ha0 := (HZ.out.eye.bk.alloc (.cells #[] 5)).cell 0
        have ha1 := (HZ.out.eye.bk.alloc (.cells #[] 5)).cell 1
        simp only [List.getElem?_toArray, List.getElem?_cons_zero, List.getElem?_cons_succ] at ha0 ha1
        rw [show (((j + m : Nat) : Int)) = (j : Int) + (m : Int) by omega] at ha1
        have HO : Hid ((w2.alloc (.cells #[] 5)).drew.ownsRow w2.heap.size 5 1 (.slice (some ⟨w2.heap.size, 0, none⟩) 0 0) 0 []) := (own_new rfl (Nat.le_refl _) : (w2.alloc (.cells #[] 5)).ownsRow w2.heap.size 5 1 _ 0 [])
        have HR2 : Hid (Rd (w2.alloc (.cells #[] 5)).drew (Option.map (fun x => x.add j) A) (cb ((l.drop j).take m))) := by
          unfold Hid
          rw [cb_take]
          exact HR1.out.nofr (((Fr.refl NoBlk w2).alloc _).drew)
        have HLm : Hid ((cb ((l.drop j).take m)).length = m) := by
          unfold Hid
          rw [cb_length, List.length_take, List.length_drop]; omega
        have HAm : Hid (Option.map (fun x : Addr => x.add j) A = none → c - j = 0) := by
          intro hn
          cases A with
          | none => have := HAn.out rfl; omega
          | some a => cases hn
        have g1 : IntKind.i64.wrap (m : Int) = (m : Int) := IntWalk.i64_in _ (by omega)
        have g2 : IntKind.i64.wrap ((j : Int) + (m : Int) - (m : Int)) = (j : Int) := by rw [Int.add_sub_cancel]; exact IntWalk.i64_in _ (by omega)
        have g8 : IntKind.i64.wrap (j : Int) = (j : Int) := IntWalk.i64_in _ (by omega)
        have g3 : (0 : Int) ≤ (j : Int) + (m : Int) ∧ (j : Int) + (m : Int) ≤ (c : Int) := by omega
        have g4 : ((j : Int) + (m : Int)).toNat = j + m := by omega
        have g5 : max ((j : Int) + (m : Int)) 0 = (j : Int) + (m : Int) := by omega
        have g6 : (0 : Int) ≤ (j : Int) ∧ (j : Int) ≤ (j : Int) + (m : Int) := by omega
        have g7 : j + m - j = m := by omega
        go_region_law ((refine step_app rfl (.tmp 47) (.tmp 63) 28 rfl w2.heap.size 5 i0 (.int .u8 0) 1 Tryd.underlying28 hi hz0 hz1 hz2 rfl (.slice (some ⟨w2.heap.size, 0, none⟩) 0 0) 0 [] rfl HO.out (Option.map (fun x => x.add j) A) (c - j) m (cb ((l.drop j).take m)) rfl HLm.out HR2.out (cb_one _) HAm.out (by unfold maxLen; omega) (by omega) (by simp) ?_); intro v3 w3 hown3 hgr3 _ _; have HX3 := Lib.hid (And.intro hown3 hgr3); clear hown3 hgr3)
        all_goals
          go_wp2
          go_ret2
          exact RTextPost.fin HR.out HJ.out HZ.out HX3.out.1 HX3.out.2 (by rw [List.length_take, List.length_drop]; omega)
  · have f1 : ((k : Int) == 0) = false := beq_eq_false_iff_ne.2 (by omega)
    have f2 : ((k : Int) != 0) = true := by rw [bne, f1]; rfl
    have HR := Lib.hid (HT.out.trans (by rw [if_neg hk]))
    have hji : j = i := by rw [HJ.out, HErr.out hk]; rfl
    subst hji
    clear hk HT
    go_wp2_with fail
    go_ret2
    refine RTextPost.fail HR.out rfl ⟨HY.out.eye.keep ((Fr.refl NoBlk _).alloc _) (fun h => h) (fun _ _ _ h => h), HY.out.fr.alloc _⟩ ?_
    exact own_base (World.ownsRow_made w1 #[] 0 (Nat.le_refl _) (by decide) rfl) HY.out.fr.size
end Go.Proofs.YtdpjmkgjjhcgeaaDoor
