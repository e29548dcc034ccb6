/- The law's Read. Conditions: there are few bytes. -/
import Derived.Test.YtdpjmkgjjhcgeaaDoorDRdQ
import Derived.Test.YtdpjmkgjjhcgeaaDoorREye3
import Derived.Test.YtdpjmkgjjhcgeaaDoorRight18
import Derived.Test.YtdpjmkgjjhcgeaaDoorDSum
import Derived.IntWalk
namespace Go.Proofs.YtdpjmkgjjhcgeaaDoor
open Go.RowKit

theorem few_any (w : World) (n most : Nat) (hn : n < 2 ^ 64) (hm : most ≤ 1000) : Calls Tryd.prog 32 #[.int .u64 (n : Int), .int .u64 (most : Int)] w fun e w' => e = .returned (.int .i64 (fewI n most)) ∧ w = w' := by
  unfold fewI
  by_cases h : most < n
  · rw [if_pos h]
    have h' : (most : Int) < (n : Int) := by omega
    have e1 : IntKind.i64.wrap (most : Int) = (most : Int) := IntWalk.i64_in _ (by omega)
    have e2 : IntKind.i64.wrap ((most : Int) + 1) = (most : Int) + 1 := IntWalk.i64_in _ (by omega)
    clear h
    go_enter Tryd.func32, Tryd.ntmps32
    go_wp2_with fail
    go_ret
    exact ⟨rfl, rfl⟩
  · rw [if_neg h]
    have h' : ¬ (most : Int) < (n : Int) := by omega
    have e1 : IntKind.i64.wrap (n : Int) = (n : Int) := IntWalk.i64_in _ (by omega)
    clear h
    go_enter Tryd.func32, Tryd.ntmps32
    go_wp2_with fail
    go_ret
    exact ⟨rfl, rfl⟩

def lst (l : List UInt8) (k : Nat) : Array Value :=
  #[.int .u64 (((if 0 < k then vl 0 l else 0) : Nat) : Int), .int .u64 (((if 1 < k then vl 1 l else 0) : Nat) : Int), .int .u64 (((if 2 < k then vl 2 l else 0) : Nat) : Int), .int .u64 (((if 3 < k then vl 3 l else 0) : Nat) : Int), .int .u64 (((if 4 < k then vl 4 l else 0) : Nat) : Int), .int .u64 (((if 5 < k then vl 5 l else 0) : Nat) : Int)]

/-- the law's eye, its row of numbers, the result's place. -/
structure RR (w wr : World) (ge gl : Nat) (A : Option Addr) (c : Nat) (l : List UInt8) (p : Nat) (ls : Array Value) : Prop where
  eye : REye wr ge A c l p
  li : Bk wr gl 59 ls
  res : Bk wr w.heap.size 36 zRef
  fr : Fr NoBlk w wr
  lt : w.heap.size < ge ∧ ge < gl
  old : 0 < l.length → ∀ k, ablk A k → k < w.heap.size
theorem RR.eyed {w wr w' : World} {ge gl : Nat} {A : Option Addr} {c : Nat} {l : List UInt8} {p q : Nat} {ls : Array Value} (h : RR w wr ge gl A c l p ls) (hy : REyed wr w' ge A c l q) : RR w w' ge gl A c l q ls :=
  ⟨hy.eye, h.li.fr hy.fr (by have := h.lt; omega), h.res.fr hy.fr (by have := h.lt; omega), h.fr.step hy.fr (fun k hk e => by have := h.lt; omega), h.lt, h.old⟩
theorem RR.put {w wr : World} {ge gl : Nat} {A : Option Addr} {c : Nat} {l : List UInt8} {p : Nat} {ls ls' : Array Value} (h : RR w wr ge gl A c l p ls) (i : Nat) (v : Value) (hu : ls.setIfInBounds i v = ls') : RR w (wr.setCell ⟨gl, i, none⟩ v) ge gl A c l p ls' := by
  have hf : Fr (fun k => k = gl) wr (wr.setCell ⟨gl, i, none⟩ v) := (Fr.refl (fun k => k = gl) wr).setCell (p := ⟨gl, i, none⟩) (fun _ => rfl) v
  have hl := h.lt
  exact ⟨h.eye.keep hf (by omega) (fun h0 k hk e => by have := h.old h0 k hk; omega), hu ▸ h.li.put i v, h.res.fr hf (by omega), h.fr.step hf (fun k hk e => by omega), h.lt, h.old⟩
theorem REye.num_ {w : World} {g : Nat} {A : Option Addr} {c : Nat} {l r : List UInt8} {p : Nat} (he : REye w g A c l p) (hl : l.length ≤ 1000000) (hp : l.drop p = r) :
    Calls Tryd.prog 31 #[.pointer (some ⟨g, 0, none⟩)] w fun e w' => e = .returned (.tuple #[.int .u64 ((rN r).1 : Int), .int .i64 ((errN r : Nat) : Int)]) ∧ ∃ q, l.drop q = (rN r).2 ∧ REyed w w' g A c l q := by
  subst hp
  refine (reyeNum_any w g A c l p he (by omega)).mono fun e w' h => ?_
  unfold RNumPost at h
  exact ⟨h.1, p + (rdNum (l.drop p)).2.1, by unfold rN; rw [List.drop_drop], h.2⟩
theorem REye.text_ {w : World} {g : Nat} {A : Option Addr} {c : Nat} {l r : List UInt8} {p : Nat} (he : REye w g A c l p) (hA : A = none → c = 0) (hl : l.length ≤ 1000000) (hp : l.drop p = r) :
    Calls Tryd.prog 33 #[.pointer (some ⟨g, 0, none⟩)] w fun e w' => ∃ v', e = .returned (.tuple #[v', .int .i64 ((errT r : Nat) : Int)]) ∧ w'.ownsRow w.heap.size 5 1 v' (rT r).1.length (cb (rT r).1) ∧ ∃ q, l.drop q = (rT r).2 ∧ REyed w w' g A c l q := by
  subst hp
  refine (reyeText_any w g A c l p he hA (by omega)).mono fun e w' h => ?_
  unfold RTextPost at h
  obtain ⟨v', h1, h2, h3⟩ := h
  exact ⟨v', h1, h2, p + (rdText (l.drop p)).2.1, by unfold rT; rw [List.drop_drop], h3⟩

/-- behind the numbers: the eye, the message in block gm. -/
structure RD (w wr : World) (ge : Nat) (A : Option Addr) (c : Nat) (l : List UInt8) (p gm : Nat) (m : Mg) : Prop where
  eye : REye wr ge A c l p
  res : Bk wr w.heap.size 36 zRef
  bm : Bk wr gm 36 (mga m)
  vo : wr.ownsRow w.heap.size 62 3 (.slice m.va m.votes.length m.vc) m.votes.length (vtsc m.votes)
  fr : Fr NoBlk w wr
  lt : w.heap.size < ge ∧ ge < gm
  old : 0 < l.length → ∀ k, ablk A k → k < w.heap.size
theorem RR.ltw {w wr : World} {ge gl : Nat} {A : Option Addr} {c : Nat} {l : List UInt8} {p : Nat} {ls : Array Value} (h : RR w wr ge gl A c l p ls) : ge < wr.heap.size := h.eye.bk.lt
theorem RR.mk' {w wr wz : World} {ge gl : Nat} {A : Option Addr} {c : Nat} {l : List UInt8} {p : Nat} {ls : Array Value} (h : RR w wr ge gl A c l p ls) (hf : Fr NoBlk wr wz) {gm : Nat} {m : Mg} (hb : Bk wz gm 36 (mga m)) (hg : ge < gm) (hm : (m.va, m.vc, m.votes) = (none, 0, [])) : RD w wz ge A c l p gm m := by
  obtain ⟨a1, a2, a3, a4, a5, a6, a7, va, vc, vs⟩ := m
  simp only [Prod.mk.injEq] at hm
  obtain ⟨rfl, rfl, rfl⟩ := hm
  exact ⟨h.eye.keep hf (fun h => h) (fun _ _ _ h => h), h.res.fr hf (fun h => h), hb, World.ownsRow_nil _ _ _ _, h.fr.trans hf, ⟨h.lt.1, hg⟩, h.old⟩
theorem RD.eyed {w wr w' : World} {ge : Nat} {A : Option Addr} {c : Nat} {l : List UInt8} {p q gm : Nat} {m : Mg} (h : RD w wr ge A c l p gm m) (hy : REyed wr w' ge A c l q) : RD w w' ge A c l q gm m :=
  ⟨hy.eye, h.res.fr hy.fr (by have := h.lt; omega), h.bm.fr hy.fr (by have := h.lt; omega), own_fr h.vo hy.fr (fun k hk e => own_apart h.vo h.eye.bk (by decide) (e ▸ hk)), h.fr.step hy.fr (fun k hk e => by have := h.lt; omega), h.lt, h.old⟩
theorem RD.nofr {w wr w' : World} {ge : Nat} {A : Option Addr} {c : Nat} {l : List UInt8} {p gm : Nat} {m : Mg} (h : RD w wr ge A c l p gm m) (hf : Fr NoBlk wr w') : RD w w' ge A c l p gm m :=
  ⟨h.eye.keep hf (fun h => h) (fun _ _ _ h => h), h.res.fr hf (fun h => h), h.bm.fr hf (fun h => h), own_fr h.vo hf (fun _ _ h => h), h.fr.trans hf, h.lt, h.old⟩
theorem RD.put {w wr : World} {ge : Nat} {A : Option Addr} {c : Nat} {l : List UInt8} {p gm : Nat} {m u : Mg} (h : RD w wr ge A c l p gm m) (i : Nat) (v : Value) (hu : (mga m).setIfInBounds i v = mga u) (h1 : u.va = m.va) (h2 : u.vc = m.vc) (h3 : u.votes = m.votes) : RD w (wr.setCell ⟨gm, i, none⟩ v) ge A c l p gm u := by
  have hl := h.lt
  have hf : Fr (fun k => k = gm) wr (wr.setCell ⟨gm, i, none⟩ v) := (Fr.refl (fun k => k = gm) wr).setCell (p := ⟨gm, i, none⟩) (fun _ => rfl) v
  refine ⟨h.eye.keep hf (by omega) (fun h0 k hk e => by have := h.old h0 k hk; omega), h.res.fr hf (by omega), hu ▸ h.bm.put i v, ?_, h.fr.step hf (fun k hk e => by omega), h.lt, h.old⟩
  rw [h1, h2, h3]
  exact own_set h.vo h.bm (by decide)
theorem RD.grown {w wr w' : World} {ge : Nat} {A : Option Addr} {c : Nat} {l : List UInt8} {p gm : Nat} {m : Mg} (h : RD w wr ge A c l p gm m) (hg : wr.grownBy w' (Value.slice m.va m.votes.length m.vc).ownBlock) : Bk w' gm 36 (mga m) :=
  h.bm.fr (Fr.ofGrown hg) (fun e => own_apart h.vo h.bm (by decide) e.symm)
theorem RD.push {w wr w' : World} {ge : Nat} {A : Option Addr} {c : Nat} {l : List UInt8} {p gm : Nat} {m : Mg} (h : RD w wr ge A c l p gm m) (hg : wr.grownBy w' (Value.slice m.va m.votes.length m.vc).ownBlock) {A' : Option Addr} {c' : Nat} {x : Vt}
    (hm : w'.ownsRow w.heap.size 62 3 (.slice A' (m.votes.length + 1) c') (m.votes.length + 1) (vtsc m.votes ++ vtc x)) :
    RD w (w'.setCell ⟨gm, 7, none⟩ (.slice A' (m.votes.length + 1) c')) ge A c l p gm { m with va := A', vc := c', votes := m.votes ++ [x] } := by
  have hl := h.lt
  have hfg := Fr.ofGrown hg
  have hf2 : Fr (fun k => k = gm) w' (w'.setCell ⟨gm, 7, none⟩ (.slice A' (m.votes.length + 1) c')) := (Fr.refl (fun k => k = gm) w').setCell (p := ⟨gm, 7, none⟩) (fun _ => rfl) _
  have hmb : ∀ k, some k = (Value.slice m.va m.votes.length m.vc).ownBlock → w.heap.size ≤ k ∧ k < wr.heap.size := fun k hk => own_blk h.vo hk.symm
  have k2 := h.grown hg
  have hlen : (m.votes ++ [x]).length = m.votes.length + 1 := by simp
  have hcs : vtsc (m.votes ++ [x]) = vtsc m.votes ++ vtc x := by rw [vtsc_append]; simp [vtsc]
  have e1 : REye w' ge A c l p := h.eye.keep hfg (fun e => own_apart h.vo h.eye.bk (by decide) e.symm) (fun h0 k hk e => by have := h.old h0 k hk; have := (hmb k e).1; omega)
  refine ⟨e1.keep hf2 (by omega) (fun h0 k hk e => by have := h.old h0 k hk; omega), (h.res.fr hfg (fun e => own_apart h.vo h.res (by decide) e.symm)).fr hf2 (by omega), ?_, ?_, ?_, h.lt, h.old⟩
  · refine Bk.cast (k2.put 7 (.slice A' (m.votes.length + 1) c')) ?_
    unfold mga
    simp only [List.setIfInBounds_toArray, List.set_cons_zero, List.set_cons_succ, hlen]
  · show World.ownsRow _ _ _ _ (.slice A' (m.votes ++ [x]).length c') (m.votes ++ [x]).length (vtsc (m.votes ++ [x]))
    rw [hlen, hcs]
    exact own_set hm k2 (by decide)
  · exact (h.fr.grown hg (fun k hk hlt => absurd (hmb k hk.symm).1 (by omega))).step hf2 (fun k hk e => by omega)
/-- what a row of bytes needs: nothing but the votes' row and the message's block was turned. -/
def SV (we : World) (_base gm : Nat) (m : Mg) (w' : World) : Prop := Fr (fun k => (Value.slice m.va m.votes.length m.vc).ownBlock = some k ∨ k = gm) we w'
theorem SV.refl (we : World) (b gm : Nat) (m : Mg) : SV we b gm m we := Fr.refl _ _
theorem SV.drew {we w' : World} {b gm : Nat} {m : Mg} (h : SV we b gm m w') : SV we b gm m w'.drew := Fr.drew h
theorem SV.alloc_drew {we w' : World} {b gm : Nat} {m : Mg} (h : SV we b gm m w') (o : Obj) : SV we b gm m (w'.alloc o).drew := Fr.drew (Fr.alloc h o)
theorem SV.grown {we w1 w2 : World} {b gm : Nat} {m : Mg} (h : SV we b gm m w1) (hg : w1.grownBy w2 (Value.slice m.va m.votes.length m.vc).ownBlock) : SV we b gm m w2 := Fr.grown h hg (fun _ hk _ => .inl hk)
theorem SV.put {we w1 : World} {b gm : Nat} {m : Mg} (h : SV we b gm m w1) (i : Nat) (v : Value) : SV we b gm m (w1.setCell ⟨gm, i, none⟩ v) := Fr.setCell h (p := ⟨gm, i, none⟩) (fun _ => .inr rfl) v

theorem errs_0 (r : List UInt8) : errs 0 r = 0 := by simp only [errs]
theorem errs_succ (k : Nat) (r : List UInt8) : errs (k + 1) r = errs k r + errV (rep rVote k r).2 := by simp only [errs]
theorem restK_0 (l : List UInt8) : restK l 0 = rest8 l := by simp only [restK, rep]
theorem restK_eq (l : List UInt8) (k : Nat) : (rep rVote k (rest8 l)).2 = restK l k := by simp only [restK]
theorem restK_succ (l : List UInt8) (k : Nat) : restK l (k + 1) = (rVote (restK l k)).2 := by simp only [restK, rep_snoc]
theorem rVote_1 (r : List UInt8) : (rVote r).1 = ⟨(rN r).1, (rN (rN r).2).1, (rT (rN (rN r).2).2).1⟩ := by simp only [rVote]
theorem rVote_2 (r : List UInt8) : (rVote r).2 = (rT (rN (rN r).2).2).2 := by simp only [rVote]
theorem errV_eq (r : List UInt8) : errV r = errN r + errN (rN r).2 + errT (rN (rN r).2).2 := by simp only [errV, r1]
theorem own_ne' {w : World} {base base' : Nat} {e e' : TypeId} {size size' n n' : Nat} {v v' : Value} {xs xs' : List Value} (h : w.ownsRow base e size v n xs) (h' : w.ownsRow base' e' size' v' n' xs') (hne : e ≠ e') {k : Nat} (hk : v'.ownBlock = some k) : v.ownBlock ≠ some k := own_ne h h' hne hk
theorem it_len (l : List UInt8) : ∀ k, (it k l).length ≤ l.length
  | 0 => Nat.le_refl _
  | k + 1 => Nat.le_trans (rN_len (it k l)) (it_len l k)
theorem rest8_len (l : List UInt8) : (rest8 l).length ≤ l.length := Nat.le_trans (rN_len _) (Nat.le_trans (rT_len _).2 (it_len l 6))
theorem fewI_nB (n most : Nat) (h : most ≤ 1000) : nB (fewI n most) := by
  unfold nB fewI
  split <;> omega
theorem mR_inn {w : World} {base : Nat} {l : List UInt8} {k : Nat} {A : Option Addr} {c : Nat} (hl : l.length ≤ 1000000) (ho : w.ownsRow base 62 3 (.slice (mR l k A c).va (mR l k A c).votes.length (mR l k A c).vc) (mR l k A c).votes.length (vtsc (mR l k A c).votes)) : MgIn w (mR l k A c) := by
  have hall := (rep_all rVote (fun v => v.ballot < 2 ^ 64 ∧ v.value.length ≤ 1000000) 1000000 (fun l hl => by
    have h1 : (r1 l).length ≤ 1000000 := Nat.le_trans (rN_len _) hl
    have h2 : (r1 (r1 l)).length ≤ 1000000 := Nat.le_trans (rN_len _) h1
    have h3 := rT_len (r1 (r1 l))
    exact ⟨⟨rN_lt _, Nat.le_trans h3.1 h2⟩, Nat.le_trans h3.2 h2⟩) k (rest8 l) (Nat.le_trans (rest8_len l) hl)).1
  have hv : ∀ v ∈ (mR l k A c).votes, ∃ p : PV, (p.ballot < 2 ^ 64 ∧ p.value.length ≤ 1000000) ∧ v = vr p := fun v hv => by
    rw [mR_votes] at hv
    obtain ⟨p, hp, e⟩ := List.mem_map.1 hv
    exact ⟨p, hall p hp, e.symm⟩
  refine ⟨Rd.of_ownN ho, own_lens ho, ⟨?_, fun v h => ?_⟩, ⟨?_, fun v h => ?_⟩, ?_, ?_, ?_, ?_, ?_, fun v h => ?_⟩
  · rw [mR_value]; exact Nat.le_trans (rT_len _).1 (Nat.le_trans (it_len l 6) (Nat.le_trans hl (by decide)))
  · obtain ⟨p, hp, rfl⟩ := hv v h; exact Nat.le_trans hp.2 (by decide)
  · rw [mR_ballot]; have : vl 5 l < 2 ^ 64 := rN_lt _; unfold two64; omega
  · obtain ⟨p, hp, rfl⟩ := hv v h; show p.ballot < two64; unfold two64; omega
  · rw [mR_kind]; exact fewI_nB _ _ (by omega)
  · rw [mR_frm]; exact fewI_nB _ _ (by omega)
  · rw [mR_dst]; exact fewI_nB _ _ (by omega)
  · rw [mR_grp]; exact fewI_nB _ _ (by omega)
  · rw [mR_slot]; exact fewI_nB _ _ (by omega)
  · obtain ⟨p, hp, rfl⟩ := hv v h; exact fewI_nB _ _ (by omega)
def DReadPost (w : World) (l : List UInt8) (e : Ending) (w' : World) : Prop :=
  ∃ (m : Mg) (C : Bool), MgIn w' m ∧ Fr NoBlk w w' ∧ e = .returned (if C = true then .tuple #[mgv m, .int .i64 0] else .tuple #[.agg zRef, .int .i64 31]) ∧ (C = true → rightM m = true ∧ NumsOk m ∧ l = msgB m) ∧ ∀ q, rightM q = true → NumsOk q → l = msgB q → C = true

set_option maxRecDepth 100000 in
set_option maxHeartbeats 16000000 in
theorem dread_any (w : World) (A : Option Addr) (n c : Nat) (l : List UInt8) (hn : n = l.length) (hr : Rd w A (cb l)) (hA : A = none → c = 0) (hc : l.length ≤ c) (hl : l.length ≤ 20000) :
    Calls Tryd.prog 16 #[.slice A n c] w (DReadPost w l) := by
  obtain ⟨i0, hi, hz0, hz1, hz2⟩ := info_parts rvInfo
  subst hn
  obtain ⟨w1, hw1⟩ : ∃ w1, w1 = ((w.alloc (.cells zRef 36)).alloc (.cells #[.slice A l.length c, .int .i64 0] 71)).alloc (.cells #[.int .u64 0, .int .u64 0, .int .u64 0, .int .u64 0, .int .u64 0, .int .u64 0] 59) := ⟨_, rfl⟩
  obtain ⟨ge, hge⟩ : ∃ ge, ge = w.heap.size + 1 := ⟨_, rfl⟩
  obtain ⟨gl, hgl⟩ : ∃ gl, gl = w.heap.size + 1 + 1 := ⟨_, rfl⟩
  have hold : 0 < l.length → ∀ k, ablk A k → k < w.heap.size := fun h0 k hk => hr.lt (by rw [cb_length]; exact h0) hk
  have HX1 : Hid (RR w w1 ge gl A c l 0 (lst l 0)) := by
    have hf : Fr NoBlk w w1 := by rw [hw1]; exact (((Fr.refl _ _).alloc _).alloc _).alloc _
    refine ⟨⟨?_, hr.nofr hf, hc, Nat.zero_le _, fun h0 k hk e => by have := hold h0 k hk; omega⟩, ?_, ?_, hf, by omega, hold⟩
    · rw [hw1, hge]; exact (Bk.new' _ _ _ (by simp)).alloc _
    · rw [hw1, hgl]; exact Bk.new' _ _ _ (by simp)
    · rw [hw1]; exact ((Bk.new w _ _).alloc _).alloc _
  have HL := Lib.hid hl
  have HA := Lib.hid hA
  have HCP := Lib.hid hc
  have HFEW := Lib.hid fun W n most h1 h2 => few_any W n most h1 h2
  clear hr hold hA hl
  unfold zRef at hw1
  go_enter Tryd.func16, Tryd.ntmps16
  go_upto_region 3 with fail
  rw [← hw1, ← hgl, ← hge]
  clear hw1 hgl hge
  go_wp2_with fail
  go_loopw [5, 7] (fun s t wr => ∃ (k p B : Nat), k ≤ 6 ∧ s = .int .i64 (B : Int) ∧ t = .int .i64 (k : Int) ∧ Hid (B = ers k l) ∧ B ≤ 31 * k ∧ Hid (l.drop p = it k l) ∧ Hid (RR w wr ge gl A c l p (lst l k))) (fun _ t _ => 6 - (intOf t).toNat)
  case atStart => exact ⟨0, 0, 0, by omega, rfl, rfl, rfl, by omega, rfl, HX1⟩
  case round =>
    clear HX1
    obtain ⟨k, p, B, hk, rfl, rfl, HB, hBb, HP, HX⟩ := hrel
    have hk6 : k = 0 ∨ k = 1 ∨ k = 2 ∨ k = 3 ∨ k = 4 ∨ k = 5 ∨ k = 6 := by omega
    clear hk
    rcases hk6 with rfl | rfl | rfl | rfl | rfl | rfl | rfl
    · have HK := Lib.hid (HX.out.eye.num_ (by have := HL.out; omega) HP.out)
      obtain ⟨E, hE⟩ : ∃ E, E = errN (it 0 l) := ⟨_, rfl⟩
      have hE31 : E ≤ 31 := by rw [hE]; exact errN_le _
      have ew : IntKind.i64.wrap ((B : Int) + (E : Int)) = ((B + E : Nat) : Int) := (IntWalk.i64_in ((B : Int) + (E : Int)) (by omega)).trans (by omega)
      obtain ⟨V, hV⟩ : ∃ V, V = vl 0 l := ⟨_, rfl⟩
      have hV2 : V = (rN (it 0 l)).1 := hV
      rw [← hE, ← hV2] at HK
      have HE := Lib.hid hE
      have HV := Lib.hid hV
      clear hE hV hV2
      go_wp2_with fail
      refine HK.out.mono ?_
      rintro e w2 ⟨rfl, q, hq, hy⟩
      have HQ := Lib.hid hq
      have HX2 := Lib.hid (HX.out.eyed hy)
      have t1 : w2.cell? ⟨gl, 0, none⟩ = some (.int .u64 0) := HX2.out.li.cell 0
      have t2 := HX2.out.li.free 0
      have HX3 := Lib.hid (HX2.out.put (ls' := lst l 1) 0 (.int .u64 (V : Int)) (by rw [HV.out]; unfold lst; simp))
      have HB2 : Hid (B + E = ers 1 l) := by show _ = _; rw [HB.out, HE.out]; rfl
      clear hq hy HK HX HX2 HE HV
      go_wp2_with fail
      go_roundw
      case rel => exact ⟨1, q, B + E, by omega, by first | rfl | rw [ew], by go_num, HB2, by omega, HQ, HX3⟩
      case measure => simp [intOf]
    · have HK := Lib.hid (HX.out.eye.num_ (by have := HL.out; omega) HP.out)
      obtain ⟨E, hE⟩ : ∃ E, E = errN (it 1 l) := ⟨_, rfl⟩
      have hE31 : E ≤ 31 := by rw [hE]; exact errN_le _
      have ew : IntKind.i64.wrap ((B : Int) + (E : Int)) = ((B + E : Nat) : Int) := (IntWalk.i64_in ((B : Int) + (E : Int)) (by omega)).trans (by omega)
      obtain ⟨V, hV⟩ : ∃ V, V = vl 1 l := ⟨_, rfl⟩
      have hV2 : V = (rN (it 1 l)).1 := hV
      rw [← hE, ← hV2] at HK
      have HE := Lib.hid hE
      have HV := Lib.hid hV
      clear hE hV hV2
      go_wp2_with fail
      refine HK.out.mono ?_
      rintro e w2 ⟨rfl, q, hq, hy⟩
      have HQ := Lib.hid hq
      have HX2 := Lib.hid (HX.out.eyed hy)
      have t1 : w2.cell? ⟨gl, 1, none⟩ = some (.int .u64 0) := HX2.out.li.cell 1
      have t2 := HX2.out.li.free 1
      have HX3 := Lib.hid (HX2.out.put (ls' := lst l 2) 1 (.int .u64 (V : Int)) (by rw [HV.out]; unfold lst; simp))
      have HB2 : Hid (B + E = ers 2 l) := by show _ = _; rw [HB.out, HE.out]; rfl
      clear hq hy HK HX HX2 HE HV
      go_wp2_with fail
      go_roundw
      case rel => exact ⟨2, q, B + E, by omega, by first | rfl | rw [ew], by go_num, HB2, by omega, HQ, HX3⟩
      case measure => simp [intOf]
    · have HK := Lib.hid (HX.out.eye.num_ (by have := HL.out; omega) HP.out)
      obtain ⟨E, hE⟩ : ∃ E, E = errN (it 2 l) := ⟨_, rfl⟩
      have hE31 : E ≤ 31 := by rw [hE]; exact errN_le _
      have ew : IntKind.i64.wrap ((B : Int) + (E : Int)) = ((B + E : Nat) : Int) := (IntWalk.i64_in ((B : Int) + (E : Int)) (by omega)).trans (by omega)
      obtain ⟨V, hV⟩ : ∃ V, V = vl 2 l := ⟨_, rfl⟩
      have hV2 : V = (rN (it 2 l)).1 := hV
      rw [← hE, ← hV2] at HK
      have HE := Lib.hid hE
      have HV := Lib.hid hV
      clear hE hV hV2
      go_wp2_with fail
      refine HK.out.mono ?_
      rintro e w2 ⟨rfl, q, hq, hy⟩
      have HQ := Lib.hid hq
      have HX2 := Lib.hid (HX.out.eyed hy)
      have t1 : w2.cell? ⟨gl, 2, none⟩ = some (.int .u64 0) := HX2.out.li.cell 2
      have t2 := HX2.out.li.free 2
      have HX3 := Lib.hid (HX2.out.put (ls' := lst l 3) 2 (.int .u64 (V : Int)) (by rw [HV.out]; unfold lst; simp))
      have HB2 : Hid (B + E = ers 3 l) := by show _ = _; rw [HB.out, HE.out]; rfl
      clear hq hy HK HX HX2 HE HV
      go_wp2_with fail
      go_roundw
      case rel => exact ⟨3, q, B + E, by omega, by first | rfl | rw [ew], by go_num, HB2, by omega, HQ, HX3⟩
      case measure => simp [intOf]
    · have HK := Lib.hid (HX.out.eye.num_ (by have := HL.out; omega) HP.out)
      obtain ⟨E, hE⟩ : ∃ E, E = errN (it 3 l) := ⟨_, rfl⟩
      have hE31 : E ≤ 31 := by rw [hE]; exact errN_le _
      have ew : IntKind.i64.wrap ((B : Int) + (E : Int)) = ((B + E : Nat) : Int) := (IntWalk.i64_in ((B : Int) + (E : Int)) (by omega)).trans (by omega)
      obtain ⟨V, hV⟩ : ∃ V, V = vl 3 l := ⟨_, rfl⟩
      have hV2 : V = (rN (it 3 l)).1 := hV
      rw [← hE, ← hV2] at HK
      have HE := Lib.hid hE
      have HV := Lib.hid hV
      clear hE hV hV2
      go_wp2_with fail
      refine HK.out.mono ?_
      rintro e w2 ⟨rfl, q, hq, hy⟩
      have HQ := Lib.hid hq
      have HX2 := Lib.hid (HX.out.eyed hy)
      have t1 : w2.cell? ⟨gl, 3, none⟩ = some (.int .u64 0) := HX2.out.li.cell 3
      have t2 := HX2.out.li.free 3
      have HX3 := Lib.hid (HX2.out.put (ls' := lst l 4) 3 (.int .u64 (V : Int)) (by rw [HV.out]; unfold lst; simp))
      have HB2 : Hid (B + E = ers 4 l) := by show _ = _; rw [HB.out, HE.out]; rfl
      clear hq hy HK HX HX2 HE HV
      go_wp2_with fail
      go_roundw
      case rel => exact ⟨4, q, B + E, by omega, by first | rfl | rw [ew], by go_num, HB2, by omega, HQ, HX3⟩
      case measure => simp [intOf]
    · have HK := Lib.hid (HX.out.eye.num_ (by have := HL.out; omega) HP.out)
      obtain ⟨E, hE⟩ : ∃ E, E = errN (it 4 l) := ⟨_, rfl⟩
      have hE31 : E ≤ 31 := by rw [hE]; exact errN_le _
      have ew : IntKind.i64.wrap ((B : Int) + (E : Int)) = ((B + E : Nat) : Int) := (IntWalk.i64_in ((B : Int) + (E : Int)) (by omega)).trans (by omega)
      obtain ⟨V, hV⟩ : ∃ V, V = vl 4 l := ⟨_, rfl⟩
      have hV2 : V = (rN (it 4 l)).1 := hV
      rw [← hE, ← hV2] at HK
      have HE := Lib.hid hE
      have HV := Lib.hid hV
      clear hE hV hV2
      go_wp2_with fail
      refine HK.out.mono ?_
      rintro e w2 ⟨rfl, q, hq, hy⟩
      have HQ := Lib.hid hq
      have HX2 := Lib.hid (HX.out.eyed hy)
      have t1 : w2.cell? ⟨gl, 4, none⟩ = some (.int .u64 0) := HX2.out.li.cell 4
      have t2 := HX2.out.li.free 4
      have HX3 := Lib.hid (HX2.out.put (ls' := lst l 5) 4 (.int .u64 (V : Int)) (by rw [HV.out]; unfold lst; simp))
      have HB2 : Hid (B + E = ers 5 l) := by show _ = _; rw [HB.out, HE.out]; rfl
      clear hq hy HK HX HX2 HE HV
      go_wp2_with fail
      go_roundw
      case rel => exact ⟨5, q, B + E, by omega, by first | rfl | rw [ew], by go_num, HB2, by omega, HQ, HX3⟩
      case measure => simp [intOf]
    · have HK := Lib.hid (HX.out.eye.num_ (by have := HL.out; omega) HP.out)
      obtain ⟨E, hE⟩ : ∃ E, E = errN (it 5 l) := ⟨_, rfl⟩
      have hE31 : E ≤ 31 := by rw [hE]; exact errN_le _
      have ew : IntKind.i64.wrap ((B : Int) + (E : Int)) = ((B + E : Nat) : Int) := (IntWalk.i64_in ((B : Int) + (E : Int)) (by omega)).trans (by omega)
      obtain ⟨V, hV⟩ : ∃ V, V = vl 5 l := ⟨_, rfl⟩
      have hV2 : V = (rN (it 5 l)).1 := hV
      rw [← hE, ← hV2] at HK
      have HE := Lib.hid hE
      have HV := Lib.hid hV
      clear hE hV hV2
      go_wp2_with fail
      refine HK.out.mono ?_
      rintro e w2 ⟨rfl, q, hq, hy⟩
      have HQ := Lib.hid hq
      have HX2 := Lib.hid (HX.out.eyed hy)
      have t1 : w2.cell? ⟨gl, 5, none⟩ = some (.int .u64 0) := HX2.out.li.cell 5
      have t2 := HX2.out.li.free 5
      have HX3 := Lib.hid (HX2.out.put (ls' := lst l 6) 5 (.int .u64 (V : Int)) (by rw [HV.out]; unfold lst; simp))
      have HB2 : Hid (B + E = ers 6 l) := by show _ = _; rw [HB.out, HE.out]; rfl
      clear hq hy HK HX HX2 HE HV
      go_wp2_with fail
      go_roundw
      case rel => exact ⟨6, q, B + E, by omega, by first | rfl | rw [ew], by go_num, HB2, by omega, HQ, HX3⟩
      case measure => simp [intOf]
    · have hX : RR w wr ge gl A c l p #[.int .u64 ((vl 0 l : Nat) : Int), .int .u64 ((vl 1 l : Nat) : Int), .int .u64 ((vl 2 l : Nat) : Int), .int .u64 ((vl 3 l : Nat) : Int), .int .u64 ((vl 4 l : Nat) : Int), .int .u64 ((vl 5 l : Nat) : Int)] := HX.out
      have HX := Lib.hid hX
      have hP : l.drop p = it 6 l := HP.out
      have HSK : Hid (∀ W, Fr NoBlk wr W → W.cell? ⟨gl, 0, none⟩ = some (.int .u64 ((vl 0 l : Nat) : Int)) ∧ W.cell? ⟨gl, 1, none⟩ = some (.int .u64 ((vl 1 l : Nat) : Int)) ∧ W.cell? ⟨gl, 2, none⟩ = some (.int .u64 ((vl 2 l : Nat) : Int)) ∧ W.cell? ⟨gl, 3, none⟩ = some (.int .u64 ((vl 3 l : Nat) : Int)) ∧ W.cell? ⟨gl, 4, none⟩ = some (.int .u64 ((vl 4 l : Nat) : Int)) ∧ W.cell? ⟨gl, 5, none⟩ = some (.int .u64 ((vl 5 l : Nat) : Int))) := fun W hf => by
        have hb := HX.out.li.fr hf (fun h => h)
        exact ⟨hb.cell 0, hb.cell 1, hb.cell 2, hb.cell 3, hb.cell 4, hb.cell 5⟩
      have HP := Lib.hid hP
      clear hX hP
      go_upto_region 9 with fail
      go_cut [10] from 42 to 59 (fun s10 wx => ∃ gm : Nat, s10 = .pointer (some ⟨gm, 0, none⟩) ∧ RD w wx ge A c l p gm (⟨fewI (vl 0 l) 9, fewI (vl 1 l) 8, fewI (vl 2 l) 8, fewI (vl 3 l) 3, fewI (vl 4 l) 64, vl 5 l, [], none, 0, []⟩ : Mg))
      case first =>
        refine wp_region_held_drew (S := fun w' => Fr NoBlk wr w') (by kernel_rfl) ((Fr.refl NoBlk wr).drew) (fun hHeld => ?_)
        refine wpAnyH_take (i := 0) (oi := ⟨some 42, _, _, _, _, _⟩) (v := ?_) rfl (by kernel_rfl) (by kernel_rfl) (by kernel_rfl) (fun _ _ _ h => h) (Or.inl ⟨by rfl, ?_⟩) (by assumption) ?_
        rotate_left 1
        · (intro w hSw; (try dsimp only at hSw); have hfS := HSK.out _ hSw; obtain ⟨s0, s1, s2, s3, s4, s5⟩ := hfS; go_simp) <;> (with_reducible rfl)
        try simp only [Act.put, List.setIfInBounds_toArray, List.set_cons_zero, List.set_cons_succ]
        refine wpAnyH_take (i := 1) (oi := ⟨some 43, _, _, _, _, _⟩) (v := ?_) rfl (by kernel_rfl) (by kernel_rfl) (by kernel_rfl) (fun _ _ _ h => h) (Or.inl ⟨by rfl, ?_⟩) (by assumption) ?_
        rotate_left 1
        · (intro w hSw; (try dsimp only at hSw); have hfS := HSK.out _ hSw; obtain ⟨s0, s1, s2, s3, s4, s5⟩ := hfS; go_simp) <;> (with_reducible rfl)
        try simp only [Act.put, List.setIfInBounds_toArray, List.set_cons_zero, List.set_cons_succ]
        refine wpAnyH_take (i := 3) (oi := ⟨some 45, _, _, _, _, _⟩) (v := ?_) rfl (by kernel_rfl) (by kernel_rfl) (by kernel_rfl) (fun _ _ _ h => h) (Or.inl ⟨by rfl, ?_⟩) (by assumption) ?_
        rotate_left 1
        · (intro w hSw; (try dsimp only at hSw); have hfS := HSK.out _ hSw; obtain ⟨s0, s1, s2, s3, s4, s5⟩ := hfS; go_simp) <;> (with_reducible rfl)
        try simp only [Act.put, List.setIfInBounds_toArray, List.set_cons_zero, List.set_cons_succ]
        refine wpAnyH_take (i := 4) (oi := ⟨some 46, _, _, _, _, _⟩) (v := ?_) rfl (by kernel_rfl) (by kernel_rfl) (by kernel_rfl) (fun _ _ _ h => h) (Or.inl ⟨by rfl, ?_⟩) (by assumption) ?_
        rotate_left 1
        · (intro w hSw; (try dsimp only at hSw); have hfS := HSK.out _ hSw; obtain ⟨s0, s1, s2, s3, s4, s5⟩ := hfS; go_simp) <;> (with_reducible rfl)
        try simp only [Act.put, List.setIfInBounds_toArray, List.set_cons_zero, List.set_cons_succ]
        refine wpAnyH_take (i := 6) (oi := ⟨some 48, _, _, _, _, _⟩) (v := ?_) rfl (by kernel_rfl) (by kernel_rfl) (by kernel_rfl) (fun _ _ _ h => h) (Or.inl ⟨by rfl, ?_⟩) (by assumption) ?_
        rotate_left 1
        · (intro w hSw; (try dsimp only at hSw); have hfS := HSK.out _ hSw; obtain ⟨s0, s1, s2, s3, s4, s5⟩ := hfS; go_simp) <;> (with_reducible rfl)
        try simp only [Act.put, List.setIfInBounds_toArray, List.set_cons_zero, List.set_cons_succ]
        refine wpAnyH_take (i := 7) (oi := ⟨some 49, _, _, _, _, _⟩) (v := ?_) rfl (by kernel_rfl) (by kernel_rfl) (by kernel_rfl) (fun _ _ _ h => h) (Or.inl ⟨by rfl, ?_⟩) (by assumption) ?_
        rotate_left 1
        · (intro w hSw; (try dsimp only at hSw); have hfS := HSK.out _ hSw; obtain ⟨s0, s1, s2, s3, s4, s5⟩ := hfS; go_simp) <;> (with_reducible rfl)
        try simp only [Act.put, List.setIfInBounds_toArray, List.set_cons_zero, List.set_cons_succ]
        refine wpAnyH_take (i := 9) (oi := ⟨some 51, _, _, _, _, _⟩) (v := ?_) rfl (by kernel_rfl) (by kernel_rfl) (by kernel_rfl) (fun _ _ _ h => h) (Or.inl ⟨by rfl, ?_⟩) (by assumption) ?_
        rotate_left 1
        · (intro w hSw; (try dsimp only at hSw); have hfS := HSK.out _ hSw; obtain ⟨s0, s1, s2, s3, s4, s5⟩ := hfS; go_simp) <;> (with_reducible rfl)
        try simp only [Act.put, List.setIfInBounds_toArray, List.set_cons_zero, List.set_cons_succ]
        refine wpAnyH_take (i := 10) (oi := ⟨some 52, _, _, _, _, _⟩) (v := ?_) rfl (by kernel_rfl) (by kernel_rfl) (by kernel_rfl) (fun _ _ _ h => h) (Or.inl ⟨by rfl, ?_⟩) (by assumption) ?_
        rotate_left 1
        · (intro w hSw; (try dsimp only at hSw); have hfS := HSK.out _ hSw; obtain ⟨s0, s1, s2, s3, s4, s5⟩ := hfS; go_simp) <;> (with_reducible rfl)
        try simp only [Act.put, List.setIfInBounds_toArray, List.set_cons_zero, List.set_cons_succ]
        refine wpAnyH_take (i := 12) (oi := ⟨some 54, _, _, _, _, _⟩) (v := ?_) rfl (by kernel_rfl) (by kernel_rfl) (by kernel_rfl) (fun _ _ _ h => h) (Or.inl ⟨by rfl, ?_⟩) (by assumption) ?_
        rotate_left 1
        · (intro w hSw; (try dsimp only at hSw); have hfS := HSK.out _ hSw; obtain ⟨s0, s1, s2, s3, s4, s5⟩ := hfS; go_simp) <;> (with_reducible rfl)
        try simp only [Act.put, List.setIfInBounds_toArray, List.set_cons_zero, List.set_cons_succ]
        refine wpAnyH_take (i := 13) (oi := ⟨some 55, _, _, _, _, _⟩) (v := ?_) rfl (by kernel_rfl) (by kernel_rfl) (by kernel_rfl) (fun _ _ _ h => h) (Or.inl ⟨by rfl, ?_⟩) (by assumption) ?_
        rotate_left 1
        · (intro w hSw; (try dsimp only at hSw); have hfS := HSK.out _ hSw; obtain ⟨s0, s1, s2, s3, s4, s5⟩ := hfS; go_simp) <;> (with_reducible rfl)
        try simp only [Act.put, List.setIfInBounds_toArray, List.set_cons_zero, List.set_cons_succ]
        refine wpAnyH_take (i := 15) (oi := ⟨some 57, _, _, _, _, _⟩) (v := ?_) rfl (by kernel_rfl) (by kernel_rfl) (by kernel_rfl) (fun _ _ _ h => h) (Or.inl ⟨by rfl, ?_⟩) (by assumption) ?_
        rotate_left 1
        · (intro w hSw; (try dsimp only at hSw); have hfS := HSK.out _ hSw; obtain ⟨s0, s1, s2, s3, s4, s5⟩ := hfS; go_simp) <;> (with_reducible rfl)
        try simp only [Act.put, List.setIfInBounds_toArray, List.set_cons_zero, List.set_cons_succ]
        refine wpAnyH_take (i := 16) (oi := ⟨some 58, _, _, _, _, _⟩) (v := ?_) rfl (by kernel_rfl) (by kernel_rfl) (by kernel_rfl) (fun _ _ _ h => h) (Or.inl ⟨by rfl, ?_⟩) (by assumption) ?_
        rotate_left 1
        · (intro w hSw; (try dsimp only at hSw); have hfS := HSK.out _ hSw; obtain ⟨s0, s1, s2, s3, s4, s5⟩ := hfS; go_simp) <;> (with_reducible rfl)
        try simp only [Act.put, List.setIfInBounds_toArray, List.set_cons_zero, List.set_cons_succ]
        refine wpAnyH_ready (rs := [2, 18]) (by kernel_rfl) (by simp) ?_
        refine AllReadyH.cons (o := ⟨some 44, _, _, _, _, _⟩) rfl (fun K hK => ?_) (AllReadyH.cons (o := ⟨some 10, _, _, _, _, _⟩) rfl (fun K hK => ?_) AllReadyH.nil)
        · go_simp
          go_at_call 32
          refine (HFEW.out _ (vl 0 l) 9 (rN_lt _) (by omega)).mono ?_
          rintro e _ ⟨rfl, rfl⟩
          clear hHeld
          refine hK.out _ _ ?_ (fun hHeld => ?_)
          · exact (Fr.refl NoBlk wr).drew
          clear hK K
          try simp only [Act.put, List.setIfInBounds_toArray, List.set_cons_zero, List.set_cons_succ]
          refine wpAnyH_ready (rs := [5, 18]) (by kernel_rfl) (by simp) ?_
          refine AllReadyH.cons (o := ⟨some 47, _, _, _, _, _⟩) rfl (fun K hK => ?_) (AllReadyH.cons (o := ⟨some 10, _, _, _, _, _⟩) rfl (fun K hK => ?_) AllReadyH.nil)
          · go_simp
            go_at_call 32
            refine (HFEW.out _ (vl 1 l) 8 (rN_lt _) (by omega)).mono ?_
            rintro e _ ⟨rfl, rfl⟩
            clear hHeld
            refine hK.out _ _ ?_ (fun hHeld => ?_)
            · exact (Fr.refl NoBlk wr).drew
            clear hK K
            try simp only [Act.put, List.setIfInBounds_toArray, List.set_cons_zero, List.set_cons_succ]
            refine wpAnyH_ready (rs := [8, 18]) (by kernel_rfl) (by simp) ?_
            refine AllReadyH.cons (o := ⟨some 50, _, _, _, _, _⟩) rfl (fun K hK => ?_) (AllReadyH.cons (o := ⟨some 10, _, _, _, _, _⟩) rfl (fun K hK => ?_) AllReadyH.nil)
            · go_simp
              go_at_call 32
              refine (HFEW.out _ (vl 2 l) 8 (rN_lt _) (by omega)).mono ?_
              rintro e _ ⟨rfl, rfl⟩
              clear hHeld
              refine hK.out _ _ ?_ (fun hHeld => ?_)
              · exact (Fr.refl NoBlk wr).drew
              clear hK K
              try simp only [Act.put, List.setIfInBounds_toArray, List.set_cons_zero, List.set_cons_succ]
              refine wpAnyH_ready (rs := [11, 18]) (by kernel_rfl) (by simp) ?_
              refine AllReadyH.cons (o := ⟨some 53, _, _, _, _, _⟩) rfl (fun K hK => ?_) (AllReadyH.cons (o := ⟨some 10, _, _, _, _, _⟩) rfl (fun K hK => ?_) AllReadyH.nil)
              · go_simp
                go_at_call 32
                refine (HFEW.out _ (vl 3 l) 3 (rN_lt _) (by omega)).mono ?_
                rintro e _ ⟨rfl, rfl⟩
                clear hHeld
                refine hK.out _ _ ?_ (fun hHeld => ?_)
                · exact (Fr.refl NoBlk wr).drew
                clear hK K
                try simp only [Act.put, List.setIfInBounds_toArray, List.set_cons_zero, List.set_cons_succ]
                refine wpAnyH_ready (rs := [14, 18]) (by kernel_rfl) (by simp) ?_
                refine AllReadyH.cons (o := ⟨some 56, _, _, _, _, _⟩) rfl (fun K hK => ?_) (AllReadyH.cons (o := ⟨some 10, _, _, _, _, _⟩) rfl (fun K hK => ?_) AllReadyH.nil)
                · go_simp
                  go_at_call 32
                  refine (HFEW.out _ (vl 4 l) 64 (rN_lt _) (by omega)).mono ?_
                  rintro e _ ⟨rfl, rfl⟩
                  clear hHeld
                  refine hK.out _ _ ?_ (fun hHeld => ?_)
                  · exact (Fr.refl NoBlk wr).drew
                  clear hK K
                  try simp only [Act.put, List.setIfInBounds_toArray, List.set_cons_zero, List.set_cons_succ]
                  refine wpAnyH_take (i := 17) (oi := ⟨some 59, _, _, _, _, _⟩) (v := ?_) rfl (by kernel_rfl) (by kernel_rfl) (by kernel_rfl) (fun _ _ _ h => h) (Or.inl ⟨by rfl, ?_⟩) (by assumption) ?_
                  rotate_left 1
                  · (intro w hSw; (try dsimp only at hSw); have hfS := HSK.out _ hSw; obtain ⟨s0, s1, s2, s3, s4, s5⟩ := hfS; go_simp) <;> (with_reducible rfl)
                  try simp only [Act.put, List.setIfInBounds_toArray, List.set_cons_zero, List.set_cons_succ]
                  refine wpAnyH_ready (rs := [18]) (by kernel_rfl) (by simp) ?_
                  refine AllReadyH.cons (o := ⟨some 10, _, _, _, _, _⟩) rfl (fun K hK => ?_) AllReadyH.nil
                  go_simp
                  clear hHeld
                  refine hK.out _ _ ?_ (fun hHeld => ?_)
                  · exact ((Fr.refl NoBlk wr).alloc _).drew
                  clear hK K
                  try simp only [Act.put, List.setIfInBounds_toArray, List.set_cons_zero, List.set_cons_succ]
                  obtain ⟨gm, hgm⟩ : ∃ gm, gm = wr.heap.size := ⟨_, rfl⟩
                  obtain ⟨wy, hwy⟩ : ∃ wy, wy = (wr.alloc (.cells #[.int .i64 0, .int .i64 0, .int .i64 0, .int .i64 0, .int .i64 0, .int .u64 0, .string { data := #[] }, .slice none 0 0] 36)).drew := ⟨_, rfl⟩
                  have hfy : Fr NoBlk wr wy := by rw [hwy]; exact ((Fr.refl NoBlk wr).alloc _).drew
                  rw [← hwy]
                  have hbt : Bk wy gm 36 #[.int .i64 0, .int .i64 0, .int .i64 0, .int .i64 0, .int .i64 0, .int .u64 0, .string { data := #[] }, .slice none 0 0] := by rw [hwy, hgm]; exact Bk.new wr _ _
                  have q0 : wy.cell? ⟨gm, 0, none⟩ = some (.int .i64 0) := hbt.cell 0
                  have g0 := hbt.free 0
                  have q1 : wy.cell? ⟨gm, 1, none⟩ = some (.int .i64 0) := hbt.cell 1
                  have g1 := hbt.free 1
                  have q2 : wy.cell? ⟨gm, 2, none⟩ = some (.int .i64 0) := hbt.cell 2
                  have g2 := hbt.free 2
                  have q3 : wy.cell? ⟨gm, 3, none⟩ = some (.int .i64 0) := hbt.cell 3
                  have g3 := hbt.free 3
                  have q4 : wy.cell? ⟨gm, 4, none⟩ = some (.int .i64 0) := hbt.cell 4
                  have g4 := hbt.free 4
                  have q5 : wy.cell? ⟨gm, 5, none⟩ = some (.int .u64 0) := hbt.cell 5
                  have g5 := hbt.free 5
                  have q6 : wy.cell? ⟨gm, 6, none⟩ = some (.string { data := #[] }) := hbt.cell 6
                  have g6 := hbt.free 6
                  have q7 : wy.cell? ⟨gm, 7, none⟩ = some (.slice none 0 0) := hbt.cell 7
                  have g7 := hbt.free 7
                  obtain ⟨wz, hwz⟩ : ∃ wz, wz = ((((((((wy.setCell ⟨gm, 0, none⟩ (.int .i64 (fewI (vl 0 l) 9))).setCell ⟨gm, 1, none⟩ (.int .i64 (fewI (vl 1 l) 8))).setCell ⟨gm, 2, none⟩ (.int .i64 (fewI (vl 2 l) 8))).setCell ⟨gm, 3, none⟩ (.int .i64 (fewI (vl 3 l) 3))).setCell ⟨gm, 4, none⟩ (.int .i64 (fewI (vl 4 l) 64))).setCell ⟨gm, 5, none⟩ (.int .u64 ((vl 5 l : Nat) : Int))).setCell ⟨gm, 6, none⟩ (.string { data := #[] })).setCell ⟨gm, 7, none⟩ (.slice none 0 0)) := ⟨_, rfl⟩
                  have hfz : Fr (fun k => k = gm) wy wz := by
                    rw [hwz]
                    exact (((((((((Fr.refl (fun k => k = gm) wy).setCell (p := ⟨gm, 0, none⟩) (fun _ => rfl) _).setCell (p := ⟨gm, 1, none⟩) (fun _ => rfl) _).setCell (p := ⟨gm, 2, none⟩) (fun _ => rfl) _).setCell (p := ⟨gm, 3, none⟩) (fun _ => rfl) _).setCell (p := ⟨gm, 4, none⟩) (fun _ => rfl) _).setCell (p := ⟨gm, 5, none⟩) (fun _ => rfl) _).setCell (p := ⟨gm, 6, none⟩) (fun _ => rfl) _).setCell (p := ⟨gm, 7, none⟩) (fun _ => rfl) _)
                  have hbz : Bk wz gm 36 (mga (⟨fewI (vl 0 l) 9, fewI (vl 1 l) 8, fewI (vl 2 l) 8, fewI (vl 3 l) 3, fewI (vl 4 l) 64, vl 5 l, [], none, 0, []⟩ : Mg)) := by
                    rw [hwz]
                    refine Bk.cast ((((((((hbt.put 0 (.int .i64 (fewI (vl 0 l) 9))).put 1 (.int .i64 (fewI (vl 1 l) 8))).put 2 (.int .i64 (fewI (vl 2 l) 8))).put 3 (.int .i64 (fewI (vl 3 l) 3))).put 4 (.int .i64 (fewI (vl 4 l) 64))).put 5 (.int .u64 ((vl 5 l : Nat) : Int))).put 6 (.string { data := #[] })).put 7 (.slice none 0 0)) ?_
                    unfold mga bstr
                    simp only [List.setIfInBounds_toArray, List.set_cons_zero, List.set_cons_succ, List.length_nil]
                    try rfl
                  have hfw : Fr NoBlk wr wz := hfy.step hfz (fun k hk e => by omega)
                  have HXZ : Hid (RD w wz ge A c l p gm (⟨fewI (vl 0 l) 9, fewI (vl 1 l) 8, fewI (vl 2 l) 8, fewI (vl 3 l) 3, fewI (vl 4 l) 64, vl 5 l, [], none, 0, []⟩ : Mg)) := HX.out.mk' hfw hbz (by rw [hgm]; exact HX.out.ltw) rfl
                  have HFZ := Lib.hid hfw
                  have HWZ := Lib.hid hwz
                  clear hbt hfz hbz hwz hfw hfy hwy
                  rw [← hgm]
                  clear hgm
                  refine wpAnyH_ready (rs := [19]) (by kernel_rfl) (by simp) ?_
                  refine AllReadyH.cons (o := ⟨none, _, _, _, _, _⟩) rfl (fun K hK => ?_) AllReadyH.nil
                  go_simp
                  rw [← HWZ.out]
                  clear hHeld
                  refine hK.out _ _ ?_ (fun hHeld => ?_)
                  · exact HFZ.out
                  clear hK K
                  try simp only [Act.put, List.setIfInBounds_toArray, List.set_cons_zero, List.set_cons_succ]
                  refine wpAnyH_done (by kernel_rfl) ?_ _
                  clear HWZ hHeld
                  go_wp2_with fail
                  go_meet
                  exact ⟨gm, rfl, HXZ.out⟩
                · go_simp
                  clear hHeld
                  refine hK.out _ _ ?_ (fun hHeld => ?_)
                  · exact ((Fr.refl NoBlk wr).alloc _).drew
                  clear hK K
                  try simp only [Act.put, List.setIfInBounds_toArray, List.set_cons_zero, List.set_cons_succ]
                  refine wpAnyH_ready (rs := [14]) (by kernel_rfl) (by simp) ?_
                  refine AllReadyH.cons (o := ⟨some 56, _, _, _, _, _⟩) rfl (fun K hK => ?_) AllReadyH.nil
                  go_simp
                  go_at_call 32
                  refine (HFEW.out _ (vl 4 l) 64 (rN_lt _) (by omega)).mono ?_
                  rintro e _ ⟨rfl, rfl⟩
                  clear hHeld
                  refine hK.out _ _ ?_ (fun hHeld => ?_)
                  · exact ((Fr.refl NoBlk wr).alloc _).drew
                  clear hK K
                  try simp only [Act.put, List.setIfInBounds_toArray, List.set_cons_zero, List.set_cons_succ]
                  refine wpAnyH_take (i := 17) (oi := ⟨some 59, _, _, _, _, _⟩) (v := ?_) rfl (by kernel_rfl) (by kernel_rfl) (by kernel_rfl) (fun _ _ _ h => h) (Or.inl ⟨by rfl, ?_⟩) (by assumption) ?_
                  rotate_left 1
                  · (intro w hSw; (try dsimp only at hSw); have hfS := HSK.out _ hSw; obtain ⟨s0, s1, s2, s3, s4, s5⟩ := hfS; go_simp) <;> (with_reducible rfl)
                  try simp only [Act.put, List.setIfInBounds_toArray, List.set_cons_zero, List.set_cons_succ]
                  obtain ⟨gm, hgm⟩ : ∃ gm, gm = wr.heap.size := ⟨_, rfl⟩
                  obtain ⟨wy, hwy⟩ : ∃ wy, wy = (wr.alloc (.cells #[.int .i64 0, .int .i64 0, .int .i64 0, .int .i64 0, .int .i64 0, .int .u64 0, .string { data := #[] }, .slice none 0 0] 36)).drew := ⟨_, rfl⟩
                  have hfy : Fr NoBlk wr wy := by rw [hwy]; exact ((Fr.refl NoBlk wr).alloc _).drew
                  rw [← hwy]
                  have hbt : Bk wy gm 36 #[.int .i64 0, .int .i64 0, .int .i64 0, .int .i64 0, .int .i64 0, .int .u64 0, .string { data := #[] }, .slice none 0 0] := by rw [hwy, hgm]; exact Bk.new wr _ _
                  have q0 : wy.cell? ⟨gm, 0, none⟩ = some (.int .i64 0) := hbt.cell 0
                  have g0 := hbt.free 0
                  have q1 : wy.cell? ⟨gm, 1, none⟩ = some (.int .i64 0) := hbt.cell 1
                  have g1 := hbt.free 1
                  have q2 : wy.cell? ⟨gm, 2, none⟩ = some (.int .i64 0) := hbt.cell 2
                  have g2 := hbt.free 2
                  have q3 : wy.cell? ⟨gm, 3, none⟩ = some (.int .i64 0) := hbt.cell 3
                  have g3 := hbt.free 3
                  have q4 : wy.cell? ⟨gm, 4, none⟩ = some (.int .i64 0) := hbt.cell 4
                  have g4 := hbt.free 4
                  have q5 : wy.cell? ⟨gm, 5, none⟩ = some (.int .u64 0) := hbt.cell 5
                  have g5 := hbt.free 5
                  have q6 : wy.cell? ⟨gm, 6, none⟩ = some (.string { data := #[] }) := hbt.cell 6
                  have g6 := hbt.free 6
                  have q7 : wy.cell? ⟨gm, 7, none⟩ = some (.slice none 0 0) := hbt.cell 7
                  have g7 := hbt.free 7
                  obtain ⟨wz, hwz⟩ : ∃ wz, wz = ((((((((wy.setCell ⟨gm, 0, none⟩ (.int .i64 (fewI (vl 0 l) 9))).setCell ⟨gm, 1, none⟩ (.int .i64 (fewI (vl 1 l) 8))).setCell ⟨gm, 2, none⟩ (.int .i64 (fewI (vl 2 l) 8))).setCell ⟨gm, 3, none⟩ (.int .i64 (fewI (vl 3 l) 3))).setCell ⟨gm, 4, none⟩ (.int .i64 (fewI (vl 4 l) 64))).setCell ⟨gm, 5, none⟩ (.int .u64 ((vl 5 l : Nat) : Int))).setCell ⟨gm, 6, none⟩ (.string { data := #[] })).setCell ⟨gm, 7, none⟩ (.slice none 0 0)) := ⟨_, rfl⟩
                  have hfz : Fr (fun k => k = gm) wy wz := by
                    rw [hwz]
                    exact (((((((((Fr.refl (fun k => k = gm) wy).setCell (p := ⟨gm, 0, none⟩) (fun _ => rfl) _).setCell (p := ⟨gm, 1, none⟩) (fun _ => rfl) _).setCell (p := ⟨gm, 2, none⟩) (fun _ => rfl) _).setCell (p := ⟨gm, 3, none⟩) (fun _ => rfl) _).setCell (p := ⟨gm, 4, none⟩) (fun _ => rfl) _).setCell (p := ⟨gm, 5, none⟩) (fun _ => rfl) _).setCell (p := ⟨gm, 6, none⟩) (fun _ => rfl) _).setCell (p := ⟨gm, 7, none⟩) (fun _ => rfl) _)
                  have hbz : Bk wz gm 36 (mga (⟨fewI (vl 0 l) 9, fewI (vl 1 l) 8, fewI (vl 2 l) 8, fewI (vl 3 l) 3, fewI (vl 4 l) 64, vl 5 l, [], none, 0, []⟩ : Mg)) := by
                    rw [hwz]
                    refine Bk.cast ((((((((hbt.put 0 (.int .i64 (fewI (vl 0 l) 9))).put 1 (.int .i64 (fewI (vl 1 l) 8))).put 2 (.int .i64 (fewI (vl 2 l) 8))).put 3 (.int .i64 (fewI (vl 3 l) 3))).put 4 (.int .i64 (fewI (vl 4 l) 64))).put 5 (.int .u64 ((vl 5 l : Nat) : Int))).put 6 (.string { data := #[] })).put 7 (.slice none 0 0)) ?_
                    unfold mga bstr
                    simp only [List.setIfInBounds_toArray, List.set_cons_zero, List.set_cons_succ, List.length_nil]
                    try rfl
                  have hfw : Fr NoBlk wr wz := hfy.step hfz (fun k hk e => by omega)
                  have HXZ : Hid (RD w wz ge A c l p gm (⟨fewI (vl 0 l) 9, fewI (vl 1 l) 8, fewI (vl 2 l) 8, fewI (vl 3 l) 3, fewI (vl 4 l) 64, vl 5 l, [], none, 0, []⟩ : Mg)) := HX.out.mk' hfw hbz (by rw [hgm]; exact HX.out.ltw) rfl
                  have HFZ := Lib.hid hfw
                  have HWZ := Lib.hid hwz
                  clear hbt hfz hbz hwz hfw hfy hwy
                  rw [← hgm]
                  clear hgm
                  refine wpAnyH_ready (rs := [19]) (by kernel_rfl) (by simp) ?_
                  refine AllReadyH.cons (o := ⟨none, _, _, _, _, _⟩) rfl (fun K hK => ?_) AllReadyH.nil
                  go_simp
                  rw [← HWZ.out]
                  clear hHeld
                  refine hK.out _ _ ?_ (fun hHeld => ?_)
                  · exact HFZ.out
                  clear hK K
                  try simp only [Act.put, List.setIfInBounds_toArray, List.set_cons_zero, List.set_cons_succ]
                  refine wpAnyH_done (by kernel_rfl) ?_ _
                  clear HWZ hHeld
                  go_wp2_with fail
                  go_meet
                  exact ⟨gm, rfl, HXZ.out⟩
              · go_simp
                clear hHeld
                refine hK.out _ _ ?_ (fun hHeld => ?_)
                · exact ((Fr.refl NoBlk wr).alloc _).drew
                clear hK K
                try simp only [Act.put, List.setIfInBounds_toArray, List.set_cons_zero, List.set_cons_succ]
                refine wpAnyH_ready (rs := [11]) (by kernel_rfl) (by simp) ?_
                refine AllReadyH.cons (o := ⟨some 53, _, _, _, _, _⟩) rfl (fun K hK => ?_) AllReadyH.nil
                go_simp
                go_at_call 32
                refine (HFEW.out _ (vl 3 l) 3 (rN_lt _) (by omega)).mono ?_
                rintro e _ ⟨rfl, rfl⟩
                clear hHeld
                refine hK.out _ _ ?_ (fun hHeld => ?_)
                · exact ((Fr.refl NoBlk wr).alloc _).drew
                clear hK K
                try simp only [Act.put, List.setIfInBounds_toArray, List.set_cons_zero, List.set_cons_succ]
                refine wpAnyH_ready (rs := [14]) (by kernel_rfl) (by simp) ?_
                refine AllReadyH.cons (o := ⟨some 56, _, _, _, _, _⟩) rfl (fun K hK => ?_) AllReadyH.nil
                go_simp
                go_at_call 32
                refine (HFEW.out _ (vl 4 l) 64 (rN_lt _) (by omega)).mono ?_
                rintro e _ ⟨rfl, rfl⟩
                clear hHeld
                refine hK.out _ _ ?_ (fun hHeld => ?_)
                · exact ((Fr.refl NoBlk wr).alloc _).drew
                clear hK K
                try simp only [Act.put, List.setIfInBounds_toArray, List.set_cons_zero, List.set_cons_succ]
                refine wpAnyH_take (i := 17) (oi := ⟨some 59, _, _, _, _, _⟩) (v := ?_) rfl (by kernel_rfl) (by kernel_rfl) (by kernel_rfl) (fun _ _ _ h => h) (Or.inl ⟨by rfl, ?_⟩) (by assumption) ?_
                rotate_left 1
                · (intro w hSw; (try dsimp only at hSw); have hfS := HSK.out _ hSw; obtain ⟨s0, s1, s2, s3, s4, s5⟩ := hfS; go_simp) <;> (with_reducible rfl)
                try simp only [Act.put, List.setIfInBounds_toArray, List.set_cons_zero, List.set_cons_succ]
                obtain ⟨gm, hgm⟩ : ∃ gm, gm = wr.heap.size := ⟨_, rfl⟩
                obtain ⟨wy, hwy⟩ : ∃ wy, wy = (wr.alloc (.cells #[.int .i64 0, .int .i64 0, .int .i64 0, .int .i64 0, .int .i64 0, .int .u64 0, .string { data := #[] }, .slice none 0 0] 36)).drew := ⟨_, rfl⟩
                have hfy : Fr NoBlk wr wy := by rw [hwy]; exact ((Fr.refl NoBlk wr).alloc _).drew
                rw [← hwy]
                have hbt : Bk wy gm 36 #[.int .i64 0, .int .i64 0, .int .i64 0, .int .i64 0, .int .i64 0, .int .u64 0, .string { data := #[] }, .slice none 0 0] := by rw [hwy, hgm]; exact Bk.new wr _ _
                have q0 : wy.cell? ⟨gm, 0, none⟩ = some (.int .i64 0) := hbt.cell 0
                have g0 := hbt.free 0
                have q1 : wy.cell? ⟨gm, 1, none⟩ = some (.int .i64 0) := hbt.cell 1
                have g1 := hbt.free 1
                have q2 : wy.cell? ⟨gm, 2, none⟩ = some (.int .i64 0) := hbt.cell 2
                have g2 := hbt.free 2
                have q3 : wy.cell? ⟨gm, 3, none⟩ = some (.int .i64 0) := hbt.cell 3
                have g3 := hbt.free 3
                have q4 : wy.cell? ⟨gm, 4, none⟩ = some (.int .i64 0) := hbt.cell 4
                have g4 := hbt.free 4
                have q5 : wy.cell? ⟨gm, 5, none⟩ = some (.int .u64 0) := hbt.cell 5
                have g5 := hbt.free 5
                have q6 : wy.cell? ⟨gm, 6, none⟩ = some (.string { data := #[] }) := hbt.cell 6
                have g6 := hbt.free 6
                have q7 : wy.cell? ⟨gm, 7, none⟩ = some (.slice none 0 0) := hbt.cell 7
                have g7 := hbt.free 7
                obtain ⟨wz, hwz⟩ : ∃ wz, wz = ((((((((wy.setCell ⟨gm, 0, none⟩ (.int .i64 (fewI (vl 0 l) 9))).setCell ⟨gm, 1, none⟩ (.int .i64 (fewI (vl 1 l) 8))).setCell ⟨gm, 2, none⟩ (.int .i64 (fewI (vl 2 l) 8))).setCell ⟨gm, 3, none⟩ (.int .i64 (fewI (vl 3 l) 3))).setCell ⟨gm, 4, none⟩ (.int .i64 (fewI (vl 4 l) 64))).setCell ⟨gm, 5, none⟩ (.int .u64 ((vl 5 l : Nat) : Int))).setCell ⟨gm, 6, none⟩ (.string { data := #[] })).setCell ⟨gm, 7, none⟩ (.slice none 0 0)) := ⟨_, rfl⟩
                have hfz : Fr (fun k => k = gm) wy wz := by
                  rw [hwz]
                  exact (((((((((Fr.refl (fun k => k = gm) wy).setCell (p := ⟨gm, 0, none⟩) (fun _ => rfl) _).setCell (p := ⟨gm, 1, none⟩) (fun _ => rfl) _).setCell (p := ⟨gm, 2, none⟩) (fun _ => rfl) _).setCell (p := ⟨gm, 3, none⟩) (fun _ => rfl) _).setCell (p := ⟨gm, 4, none⟩) (fun _ => rfl) _).setCell (p := ⟨gm, 5, none⟩) (fun _ => rfl) _).setCell (p := ⟨gm, 6, none⟩) (fun _ => rfl) _).setCell (p := ⟨gm, 7, none⟩) (fun _ => rfl) _)
                have hbz : Bk wz gm 36 (mga (⟨fewI (vl 0 l) 9, fewI (vl 1 l) 8, fewI (vl 2 l) 8, fewI (vl 3 l) 3, fewI (vl 4 l) 64, vl 5 l, [], none, 0, []⟩ : Mg)) := by
                  rw [hwz]
                  refine Bk.cast ((((((((hbt.put 0 (.int .i64 (fewI (vl 0 l) 9))).put 1 (.int .i64 (fewI (vl 1 l) 8))).put 2 (.int .i64 (fewI (vl 2 l) 8))).put 3 (.int .i64 (fewI (vl 3 l) 3))).put 4 (.int .i64 (fewI (vl 4 l) 64))).put 5 (.int .u64 ((vl 5 l : Nat) : Int))).put 6 (.string { data := #[] })).put 7 (.slice none 0 0)) ?_
                  unfold mga bstr
                  simp only [List.setIfInBounds_toArray, List.set_cons_zero, List.set_cons_succ, List.length_nil]
                  try rfl
                have hfw : Fr NoBlk wr wz := hfy.step hfz (fun k hk e => by omega)
                have HXZ : Hid (RD w wz ge A c l p gm (⟨fewI (vl 0 l) 9, fewI (vl 1 l) 8, fewI (vl 2 l) 8, fewI (vl 3 l) 3, fewI (vl 4 l) 64, vl 5 l, [], none, 0, []⟩ : Mg)) := HX.out.mk' hfw hbz (by rw [hgm]; exact HX.out.ltw) rfl
                have HFZ := Lib.hid hfw
                have HWZ := Lib.hid hwz
                clear hbt hfz hbz hwz hfw hfy hwy
                rw [← hgm]
                clear hgm
                refine wpAnyH_ready (rs := [19]) (by kernel_rfl) (by simp) ?_
                refine AllReadyH.cons (o := ⟨none, _, _, _, _, _⟩) rfl (fun K hK => ?_) AllReadyH.nil
                go_simp
                rw [← HWZ.out]
                clear hHeld
                refine hK.out _ _ ?_ (fun hHeld => ?_)
                · exact HFZ.out
                clear hK K
                try simp only [Act.put, List.setIfInBounds_toArray, List.set_cons_zero, List.set_cons_succ]
                refine wpAnyH_done (by kernel_rfl) ?_ _
                clear HWZ hHeld
                go_wp2_with fail
                go_meet
                exact ⟨gm, rfl, HXZ.out⟩
            · go_simp
              clear hHeld
              refine hK.out _ _ ?_ (fun hHeld => ?_)
              · exact ((Fr.refl NoBlk wr).alloc _).drew
              clear hK K
              try simp only [Act.put, List.setIfInBounds_toArray, List.set_cons_zero, List.set_cons_succ]
              refine wpAnyH_ready (rs := [8]) (by kernel_rfl) (by simp) ?_
              refine AllReadyH.cons (o := ⟨some 50, _, _, _, _, _⟩) rfl (fun K hK => ?_) AllReadyH.nil
              go_simp
              go_at_call 32
              refine (HFEW.out _ (vl 2 l) 8 (rN_lt _) (by omega)).mono ?_
              rintro e _ ⟨rfl, rfl⟩
              clear hHeld
              refine hK.out _ _ ?_ (fun hHeld => ?_)
              · exact ((Fr.refl NoBlk wr).alloc _).drew
              clear hK K
              try simp only [Act.put, List.setIfInBounds_toArray, List.set_cons_zero, List.set_cons_succ]
              refine wpAnyH_ready (rs := [11]) (by kernel_rfl) (by simp) ?_
              refine AllReadyH.cons (o := ⟨some 53, _, _, _, _, _⟩) rfl (fun K hK => ?_) AllReadyH.nil
              go_simp
              go_at_call 32
              refine (HFEW.out _ (vl 3 l) 3 (rN_lt _) (by omega)).mono ?_
              rintro e _ ⟨rfl, rfl⟩
              clear hHeld
              refine hK.out _ _ ?_ (fun hHeld => ?_)
              · exact ((Fr.refl NoBlk wr).alloc _).drew
              clear hK K
              try simp only [Act.put, List.setIfInBounds_toArray, List.set_cons_zero, List.set_cons_succ]
              refine wpAnyH_ready (rs := [14]) (by kernel_rfl) (by simp) ?_
              refine AllReadyH.cons (o := ⟨some 56, _, _, _, _, _⟩) rfl (fun K hK => ?_) AllReadyH.nil
              go_simp
              go_at_call 32
              refine (HFEW.out _ (vl 4 l) 64 (rN_lt _) (by omega)).mono ?_
              rintro e _ ⟨rfl, rfl⟩
              clear hHeld
              refine hK.out _ _ ?_ (fun hHeld => ?_)
              · exact ((Fr.refl NoBlk wr).alloc _).drew
              clear hK K
              try simp only [Act.put, List.setIfInBounds_toArray, List.set_cons_zero, List.set_cons_succ]
              refine wpAnyH_take (i := 17) (oi := ⟨some 59, _, _, _, _, _⟩) (v := ?_) rfl (by kernel_rfl) (by kernel_rfl) (by kernel_rfl) (fun _ _ _ h => h) (Or.inl ⟨by rfl, ?_⟩) (by assumption) ?_
              rotate_left 1
              · (intro w hSw; (try dsimp only at hSw); have hfS := HSK.out _ hSw; obtain ⟨s0, s1, s2, s3, s4, s5⟩ := hfS; go_simp) <;> (with_reducible rfl)
              try simp only [Act.put, List.setIfInBounds_toArray, List.set_cons_zero, List.set_cons_succ]
              obtain ⟨gm, hgm⟩ : ∃ gm, gm = wr.heap.size := ⟨_, rfl⟩
              obtain ⟨wy, hwy⟩ : ∃ wy, wy = (wr.alloc (.cells #[.int .i64 0, .int .i64 0, .int .i64 0, .int .i64 0, .int .i64 0, .int .u64 0, .string { data := #[] }, .slice none 0 0] 36)).drew := ⟨_, rfl⟩
              have hfy : Fr NoBlk wr wy := by rw [hwy]; exact ((Fr.refl NoBlk wr).alloc _).drew
              rw [← hwy]
              have hbt : Bk wy gm 36 #[.int .i64 0, .int .i64 0, .int .i64 0, .int .i64 0, .int .i64 0, .int .u64 0, .string { data := #[] }, .slice none 0 0] := by rw [hwy, hgm]; exact Bk.new wr _ _
              have q0 : wy.cell? ⟨gm, 0, none⟩ = some (.int .i64 0) := hbt.cell 0
              have g0 := hbt.free 0
              have q1 : wy.cell? ⟨gm, 1, none⟩ = some (.int .i64 0) := hbt.cell 1
              have g1 := hbt.free 1
              have q2 : wy.cell? ⟨gm, 2, none⟩ = some (.int .i64 0) := hbt.cell 2
              have g2 := hbt.free 2
              have q3 : wy.cell? ⟨gm, 3, none⟩ = some (.int .i64 0) := hbt.cell 3
              have g3 := hbt.free 3
              have q4 : wy.cell? ⟨gm, 4, none⟩ = some (.int .i64 0) := hbt.cell 4
              have g4 := hbt.free 4
              have q5 : wy.cell? ⟨gm, 5, none⟩ = some (.int .u64 0) := hbt.cell 5
              have g5 := hbt.free 5
              have q6 : wy.cell? ⟨gm, 6, none⟩ = some (.string { data := #[] }) := hbt.cell 6
              have g6 := hbt.free 6
              have q7 : wy.cell? ⟨gm, 7, none⟩ = some (.slice none 0 0) := hbt.cell 7
              have g7 := hbt.free 7
              obtain ⟨wz, hwz⟩ : ∃ wz, wz = ((((((((wy.setCell ⟨gm, 0, none⟩ (.int .i64 (fewI (vl 0 l) 9))).setCell ⟨gm, 1, none⟩ (.int .i64 (fewI (vl 1 l) 8))).setCell ⟨gm, 2, none⟩ (.int .i64 (fewI (vl 2 l) 8))).setCell ⟨gm, 3, none⟩ (.int .i64 (fewI (vl 3 l) 3))).setCell ⟨gm, 4, none⟩ (.int .i64 (fewI (vl 4 l) 64))).setCell ⟨gm, 5, none⟩ (.int .u64 ((vl 5 l : Nat) : Int))).setCell ⟨gm, 6, none⟩ (.string { data := #[] })).setCell ⟨gm, 7, none⟩ (.slice none 0 0)) := ⟨_, rfl⟩
              have hfz : Fr (fun k => k = gm) wy wz := by
                rw [hwz]
                exact (((((((((Fr.refl (fun k => k = gm) wy).setCell (p := ⟨gm, 0, none⟩) (fun _ => rfl) _).setCell (p := ⟨gm, 1, none⟩) (fun _ => rfl) _).setCell (p := ⟨gm, 2, none⟩) (fun _ => rfl) _).setCell (p := ⟨gm, 3, none⟩) (fun _ => rfl) _).setCell (p := ⟨gm, 4, none⟩) (fun _ => rfl) _).setCell (p := ⟨gm, 5, none⟩) (fun _ => rfl) _).setCell (p := ⟨gm, 6, none⟩) (fun _ => rfl) _).setCell (p := ⟨gm, 7, none⟩) (fun _ => rfl) _)
              have hbz : Bk wz gm 36 (mga (⟨fewI (vl 0 l) 9, fewI (vl 1 l) 8, fewI (vl 2 l) 8, fewI (vl 3 l) 3, fewI (vl 4 l) 64, vl 5 l, [], none, 0, []⟩ : Mg)) := by
                rw [hwz]
                refine Bk.cast ((((((((hbt.put 0 (.int .i64 (fewI (vl 0 l) 9))).put 1 (.int .i64 (fewI (vl 1 l) 8))).put 2 (.int .i64 (fewI (vl 2 l) 8))).put 3 (.int .i64 (fewI (vl 3 l) 3))).put 4 (.int .i64 (fewI (vl 4 l) 64))).put 5 (.int .u64 ((vl 5 l : Nat) : Int))).put 6 (.string { data := #[] })).put 7 (.slice none 0 0)) ?_
                unfold mga bstr
                simp only [List.setIfInBounds_toArray, List.set_cons_zero, List.set_cons_succ, List.length_nil]
                try rfl
              have hfw : Fr NoBlk wr wz := hfy.step hfz (fun k hk e => by omega)
              have HXZ : Hid (RD w wz ge A c l p gm (⟨fewI (vl 0 l) 9, fewI (vl 1 l) 8, fewI (vl 2 l) 8, fewI (vl 3 l) 3, fewI (vl 4 l) 64, vl 5 l, [], none, 0, []⟩ : Mg)) := HX.out.mk' hfw hbz (by rw [hgm]; exact HX.out.ltw) rfl
              have HFZ := Lib.hid hfw
              have HWZ := Lib.hid hwz
              clear hbt hfz hbz hwz hfw hfy hwy
              rw [← hgm]
              clear hgm
              refine wpAnyH_ready (rs := [19]) (by kernel_rfl) (by simp) ?_
              refine AllReadyH.cons (o := ⟨none, _, _, _, _, _⟩) rfl (fun K hK => ?_) AllReadyH.nil
              go_simp
              rw [← HWZ.out]
              clear hHeld
              refine hK.out _ _ ?_ (fun hHeld => ?_)
              · exact HFZ.out
              clear hK K
              try simp only [Act.put, List.setIfInBounds_toArray, List.set_cons_zero, List.set_cons_succ]
              refine wpAnyH_done (by kernel_rfl) ?_ _
              clear HWZ hHeld
              go_wp2_with fail
              go_meet
              exact ⟨gm, rfl, HXZ.out⟩
          · go_simp
            clear hHeld
            refine hK.out _ _ ?_ (fun hHeld => ?_)
            · exact ((Fr.refl NoBlk wr).alloc _).drew
            clear hK K
            try simp only [Act.put, List.setIfInBounds_toArray, List.set_cons_zero, List.set_cons_succ]
            refine wpAnyH_ready (rs := [5]) (by kernel_rfl) (by simp) ?_
            refine AllReadyH.cons (o := ⟨some 47, _, _, _, _, _⟩) rfl (fun K hK => ?_) AllReadyH.nil
            go_simp
            go_at_call 32
            refine (HFEW.out _ (vl 1 l) 8 (rN_lt _) (by omega)).mono ?_
            rintro e _ ⟨rfl, rfl⟩
            clear hHeld
            refine hK.out _ _ ?_ (fun hHeld => ?_)
            · exact ((Fr.refl NoBlk wr).alloc _).drew
            clear hK K
            try simp only [Act.put, List.setIfInBounds_toArray, List.set_cons_zero, List.set_cons_succ]
            refine wpAnyH_ready (rs := [8]) (by kernel_rfl) (by simp) ?_
            refine AllReadyH.cons (o := ⟨some 50, _, _, _, _, _⟩) rfl (fun K hK => ?_) AllReadyH.nil
            go_simp
            go_at_call 32
            refine (HFEW.out _ (vl 2 l) 8 (rN_lt _) (by omega)).mono ?_
            rintro e _ ⟨rfl, rfl⟩
            clear hHeld
            refine hK.out _ _ ?_ (fun hHeld => ?_)
            · exact ((Fr.refl NoBlk wr).alloc _).drew
            clear hK K
            try simp only [Act.put, List.setIfInBounds_toArray, List.set_cons_zero, List.set_cons_succ]
            refine wpAnyH_ready (rs := [11]) (by kernel_rfl) (by simp) ?_
            refine AllReadyH.cons (o := ⟨some 53, _, _, _, _, _⟩) rfl (fun K hK => ?_) AllReadyH.nil
            go_simp
            go_at_call 32
            refine (HFEW.out _ (vl 3 l) 3 (rN_lt _) (by omega)).mono ?_
            rintro e _ ⟨rfl, rfl⟩
            clear hHeld
            refine hK.out _ _ ?_ (fun hHeld => ?_)
            · exact ((Fr.refl NoBlk wr).alloc _).drew
            clear hK K
            try simp only [Act.put, List.setIfInBounds_toArray, List.set_cons_zero, List.set_cons_succ]
            refine wpAnyH_ready (rs := [14]) (by kernel_rfl) (by simp) ?_
            refine AllReadyH.cons (o := ⟨some 56, _, _, _, _, _⟩) rfl (fun K hK => ?_) AllReadyH.nil
            go_simp
            go_at_call 32
            refine (HFEW.out _ (vl 4 l) 64 (rN_lt _) (by omega)).mono ?_
            rintro e _ ⟨rfl, rfl⟩
            clear hHeld
            refine hK.out _ _ ?_ (fun hHeld => ?_)
            · exact ((Fr.refl NoBlk wr).alloc _).drew
            clear hK K
            try simp only [Act.put, List.setIfInBounds_toArray, List.set_cons_zero, List.set_cons_succ]
            refine wpAnyH_take (i := 17) (oi := ⟨some 59, _, _, _, _, _⟩) (v := ?_) rfl (by kernel_rfl) (by kernel_rfl) (by kernel_rfl) (fun _ _ _ h => h) (Or.inl ⟨by rfl, ?_⟩) (by assumption) ?_
            rotate_left 1
            · (intro w hSw; (try dsimp only at hSw); have hfS := HSK.out _ hSw; obtain ⟨s0, s1, s2, s3, s4, s5⟩ := hfS; go_simp) <;> (with_reducible rfl)
            try simp only [Act.put, List.setIfInBounds_toArray, List.set_cons_zero, List.set_cons_succ]
            obtain ⟨gm, hgm⟩ : ∃ gm, gm = wr.heap.size := ⟨_, rfl⟩
            obtain ⟨wy, hwy⟩ : ∃ wy, wy = (wr.alloc (.cells #[.int .i64 0, .int .i64 0, .int .i64 0, .int .i64 0, .int .i64 0, .int .u64 0, .string { data := #[] }, .slice none 0 0] 36)).drew := ⟨_, rfl⟩
            have hfy : Fr NoBlk wr wy := by rw [hwy]; exact ((Fr.refl NoBlk wr).alloc _).drew
            rw [← hwy]
            have hbt : Bk wy gm 36 #[.int .i64 0, .int .i64 0, .int .i64 0, .int .i64 0, .int .i64 0, .int .u64 0, .string { data := #[] }, .slice none 0 0] := by rw [hwy, hgm]; exact Bk.new wr _ _
            have q0 : wy.cell? ⟨gm, 0, none⟩ = some (.int .i64 0) := hbt.cell 0
            have g0 := hbt.free 0
            have q1 : wy.cell? ⟨gm, 1, none⟩ = some (.int .i64 0) := hbt.cell 1
            have g1 := hbt.free 1
            have q2 : wy.cell? ⟨gm, 2, none⟩ = some (.int .i64 0) := hbt.cell 2
            have g2 := hbt.free 2
            have q3 : wy.cell? ⟨gm, 3, none⟩ = some (.int .i64 0) := hbt.cell 3
            have g3 := hbt.free 3
            have q4 : wy.cell? ⟨gm, 4, none⟩ = some (.int .i64 0) := hbt.cell 4
            have g4 := hbt.free 4
            have q5 : wy.cell? ⟨gm, 5, none⟩ = some (.int .u64 0) := hbt.cell 5
            have g5 := hbt.free 5
            have q6 : wy.cell? ⟨gm, 6, none⟩ = some (.string { data := #[] }) := hbt.cell 6
            have g6 := hbt.free 6
            have q7 : wy.cell? ⟨gm, 7, none⟩ = some (.slice none 0 0) := hbt.cell 7
            have g7 := hbt.free 7
            obtain ⟨wz, hwz⟩ : ∃ wz, wz = ((((((((wy.setCell ⟨gm, 0, none⟩ (.int .i64 (fewI (vl 0 l) 9))).setCell ⟨gm, 1, none⟩ (.int .i64 (fewI (vl 1 l) 8))).setCell ⟨gm, 2, none⟩ (.int .i64 (fewI (vl 2 l) 8))).setCell ⟨gm, 3, none⟩ (.int .i64 (fewI (vl 3 l) 3))).setCell ⟨gm, 4, none⟩ (.int .i64 (fewI (vl 4 l) 64))).setCell ⟨gm, 5, none⟩ (.int .u64 ((vl 5 l : Nat) : Int))).setCell ⟨gm, 6, none⟩ (.string { data := #[] })).setCell ⟨gm, 7, none⟩ (.slice none 0 0)) := ⟨_, rfl⟩
            have hfz : Fr (fun k => k = gm) wy wz := by
              rw [hwz]
              exact (((((((((Fr.refl (fun k => k = gm) wy).setCell (p := ⟨gm, 0, none⟩) (fun _ => rfl) _).setCell (p := ⟨gm, 1, none⟩) (fun _ => rfl) _).setCell (p := ⟨gm, 2, none⟩) (fun _ => rfl) _).setCell (p := ⟨gm, 3, none⟩) (fun _ => rfl) _).setCell (p := ⟨gm, 4, none⟩) (fun _ => rfl) _).setCell (p := ⟨gm, 5, none⟩) (fun _ => rfl) _).setCell (p := ⟨gm, 6, none⟩) (fun _ => rfl) _).setCell (p := ⟨gm, 7, none⟩) (fun _ => rfl) _)
            have hbz : Bk wz gm 36 (mga (⟨fewI (vl 0 l) 9, fewI (vl 1 l) 8, fewI (vl 2 l) 8, fewI (vl 3 l) 3, fewI (vl 4 l) 64, vl 5 l, [], none, 0, []⟩ : Mg)) := by
              rw [hwz]
              refine Bk.cast ((((((((hbt.put 0 (.int .i64 (fewI (vl 0 l) 9))).put 1 (.int .i64 (fewI (vl 1 l) 8))).put 2 (.int .i64 (fewI (vl 2 l) 8))).put 3 (.int .i64 (fewI (vl 3 l) 3))).put 4 (.int .i64 (fewI (vl 4 l) 64))).put 5 (.int .u64 ((vl 5 l : Nat) : Int))).put 6 (.string { data := #[] })).put 7 (.slice none 0 0)) ?_
              unfold mga bstr
              simp only [List.setIfInBounds_toArray, List.set_cons_zero, List.set_cons_succ, List.length_nil]
              try rfl
            have hfw : Fr NoBlk wr wz := hfy.step hfz (fun k hk e => by omega)
            have HXZ : Hid (RD w wz ge A c l p gm (⟨fewI (vl 0 l) 9, fewI (vl 1 l) 8, fewI (vl 2 l) 8, fewI (vl 3 l) 3, fewI (vl 4 l) 64, vl 5 l, [], none, 0, []⟩ : Mg)) := HX.out.mk' hfw hbz (by rw [hgm]; exact HX.out.ltw) rfl
            have HFZ := Lib.hid hfw
            have HWZ := Lib.hid hwz
            clear hbt hfz hbz hwz hfw hfy hwy
            rw [← hgm]
            clear hgm
            refine wpAnyH_ready (rs := [19]) (by kernel_rfl) (by simp) ?_
            refine AllReadyH.cons (o := ⟨none, _, _, _, _, _⟩) rfl (fun K hK => ?_) AllReadyH.nil
            go_simp
            rw [← HWZ.out]
            clear hHeld
            refine hK.out _ _ ?_ (fun hHeld => ?_)
            · exact HFZ.out
            clear hK K
            try simp only [Act.put, List.setIfInBounds_toArray, List.set_cons_zero, List.set_cons_succ]
            refine wpAnyH_done (by kernel_rfl) ?_ _
            clear HWZ hHeld
            go_wp2_with fail
            go_meet
            exact ⟨gm, rfl, HXZ.out⟩
        · go_simp
          clear hHeld
          refine hK.out _ _ ?_ (fun hHeld => ?_)
          · exact ((Fr.refl NoBlk wr).alloc _).drew
          clear hK K
          try simp only [Act.put, List.setIfInBounds_toArray, List.set_cons_zero, List.set_cons_succ]
          refine wpAnyH_ready (rs := [2]) (by kernel_rfl) (by simp) ?_
          refine AllReadyH.cons (o := ⟨some 44, _, _, _, _, _⟩) rfl (fun K hK => ?_) AllReadyH.nil
          go_simp
          go_at_call 32
          refine (HFEW.out _ (vl 0 l) 9 (rN_lt _) (by omega)).mono ?_
          rintro e _ ⟨rfl, rfl⟩
          clear hHeld
          refine hK.out _ _ ?_ (fun hHeld => ?_)
          · exact ((Fr.refl NoBlk wr).alloc _).drew
          clear hK K
          try simp only [Act.put, List.setIfInBounds_toArray, List.set_cons_zero, List.set_cons_succ]
          refine wpAnyH_ready (rs := [5]) (by kernel_rfl) (by simp) ?_
          refine AllReadyH.cons (o := ⟨some 47, _, _, _, _, _⟩) rfl (fun K hK => ?_) AllReadyH.nil
          go_simp
          go_at_call 32
          refine (HFEW.out _ (vl 1 l) 8 (rN_lt _) (by omega)).mono ?_
          rintro e _ ⟨rfl, rfl⟩
          clear hHeld
          refine hK.out _ _ ?_ (fun hHeld => ?_)
          · exact ((Fr.refl NoBlk wr).alloc _).drew
          clear hK K
          try simp only [Act.put, List.setIfInBounds_toArray, List.set_cons_zero, List.set_cons_succ]
          refine wpAnyH_ready (rs := [8]) (by kernel_rfl) (by simp) ?_
          refine AllReadyH.cons (o := ⟨some 50, _, _, _, _, _⟩) rfl (fun K hK => ?_) AllReadyH.nil
          go_simp
          go_at_call 32
          refine (HFEW.out _ (vl 2 l) 8 (rN_lt _) (by omega)).mono ?_
          rintro e _ ⟨rfl, rfl⟩
          clear hHeld
          refine hK.out _ _ ?_ (fun hHeld => ?_)
          · exact ((Fr.refl NoBlk wr).alloc _).drew
          clear hK K
          try simp only [Act.put, List.setIfInBounds_toArray, List.set_cons_zero, List.set_cons_succ]
          refine wpAnyH_ready (rs := [11]) (by kernel_rfl) (by simp) ?_
          refine AllReadyH.cons (o := ⟨some 53, _, _, _, _, _⟩) rfl (fun K hK => ?_) AllReadyH.nil
          go_simp
          go_at_call 32
          refine (HFEW.out _ (vl 3 l) 3 (rN_lt _) (by omega)).mono ?_
          rintro e _ ⟨rfl, rfl⟩
          clear hHeld
          refine hK.out _ _ ?_ (fun hHeld => ?_)
          · exact ((Fr.refl NoBlk wr).alloc _).drew
          clear hK K
          try simp only [Act.put, List.setIfInBounds_toArray, List.set_cons_zero, List.set_cons_succ]
          refine wpAnyH_ready (rs := [14]) (by kernel_rfl) (by simp) ?_
          refine AllReadyH.cons (o := ⟨some 56, _, _, _, _, _⟩) rfl (fun K hK => ?_) AllReadyH.nil
          go_simp
          go_at_call 32
          refine (HFEW.out _ (vl 4 l) 64 (rN_lt _) (by omega)).mono ?_
          rintro e _ ⟨rfl, rfl⟩
          clear hHeld
          refine hK.out _ _ ?_ (fun hHeld => ?_)
          · exact ((Fr.refl NoBlk wr).alloc _).drew
          clear hK K
          try simp only [Act.put, List.setIfInBounds_toArray, List.set_cons_zero, List.set_cons_succ]
          refine wpAnyH_take (i := 17) (oi := ⟨some 59, _, _, _, _, _⟩) (v := ?_) rfl (by kernel_rfl) (by kernel_rfl) (by kernel_rfl) (fun _ _ _ h => h) (Or.inl ⟨by rfl, ?_⟩) (by assumption) ?_
          rotate_left 1
          · (intro w hSw; (try dsimp only at hSw); have hfS := HSK.out _ hSw; obtain ⟨s0, s1, s2, s3, s4, s5⟩ := hfS; go_simp) <;> (with_reducible rfl)
          try simp only [Act.put, List.setIfInBounds_toArray, List.set_cons_zero, List.set_cons_succ]
          obtain ⟨gm, hgm⟩ : ∃ gm, gm = wr.heap.size := ⟨_, rfl⟩
          obtain ⟨wy, hwy⟩ : ∃ wy, wy = (wr.alloc (.cells #[.int .i64 0, .int .i64 0, .int .i64 0, .int .i64 0, .int .i64 0, .int .u64 0, .string { data := #[] }, .slice none 0 0] 36)).drew := ⟨_, rfl⟩
          have hfy : Fr NoBlk wr wy := by rw [hwy]; exact ((Fr.refl NoBlk wr).alloc _).drew
          rw [← hwy]
          have hbt : Bk wy gm 36 #[.int .i64 0, .int .i64 0, .int .i64 0, .int .i64 0, .int .i64 0, .int .u64 0, .string { data := #[] }, .slice none 0 0] := by rw [hwy, hgm]; exact Bk.new wr _ _
          have q0 : wy.cell? ⟨gm, 0, none⟩ = some (.int .i64 0) := hbt.cell 0
          have g0 := hbt.free 0
          have q1 : wy.cell? ⟨gm, 1, none⟩ = some (.int .i64 0) := hbt.cell 1
          have g1 := hbt.free 1
          have q2 : wy.cell? ⟨gm, 2, none⟩ = some (.int .i64 0) := hbt.cell 2
          have g2 := hbt.free 2
          have q3 : wy.cell? ⟨gm, 3, none⟩ = some (.int .i64 0) := hbt.cell 3
          have g3 := hbt.free 3
          have q4 : wy.cell? ⟨gm, 4, none⟩ = some (.int .i64 0) := hbt.cell 4
          have g4 := hbt.free 4
          have q5 : wy.cell? ⟨gm, 5, none⟩ = some (.int .u64 0) := hbt.cell 5
          have g5 := hbt.free 5
          have q6 : wy.cell? ⟨gm, 6, none⟩ = some (.string { data := #[] }) := hbt.cell 6
          have g6 := hbt.free 6
          have q7 : wy.cell? ⟨gm, 7, none⟩ = some (.slice none 0 0) := hbt.cell 7
          have g7 := hbt.free 7
          obtain ⟨wz, hwz⟩ : ∃ wz, wz = ((((((((wy.setCell ⟨gm, 0, none⟩ (.int .i64 (fewI (vl 0 l) 9))).setCell ⟨gm, 1, none⟩ (.int .i64 (fewI (vl 1 l) 8))).setCell ⟨gm, 2, none⟩ (.int .i64 (fewI (vl 2 l) 8))).setCell ⟨gm, 3, none⟩ (.int .i64 (fewI (vl 3 l) 3))).setCell ⟨gm, 4, none⟩ (.int .i64 (fewI (vl 4 l) 64))).setCell ⟨gm, 5, none⟩ (.int .u64 ((vl 5 l : Nat) : Int))).setCell ⟨gm, 6, none⟩ (.string { data := #[] })).setCell ⟨gm, 7, none⟩ (.slice none 0 0)) := ⟨_, rfl⟩
          have hfz : Fr (fun k => k = gm) wy wz := by
            rw [hwz]
            exact (((((((((Fr.refl (fun k => k = gm) wy).setCell (p := ⟨gm, 0, none⟩) (fun _ => rfl) _).setCell (p := ⟨gm, 1, none⟩) (fun _ => rfl) _).setCell (p := ⟨gm, 2, none⟩) (fun _ => rfl) _).setCell (p := ⟨gm, 3, none⟩) (fun _ => rfl) _).setCell (p := ⟨gm, 4, none⟩) (fun _ => rfl) _).setCell (p := ⟨gm, 5, none⟩) (fun _ => rfl) _).setCell (p := ⟨gm, 6, none⟩) (fun _ => rfl) _).setCell (p := ⟨gm, 7, none⟩) (fun _ => rfl) _)
          have hbz : Bk wz gm 36 (mga (⟨fewI (vl 0 l) 9, fewI (vl 1 l) 8, fewI (vl 2 l) 8, fewI (vl 3 l) 3, fewI (vl 4 l) 64, vl 5 l, [], none, 0, []⟩ : Mg)) := by
            rw [hwz]
            refine Bk.cast ((((((((hbt.put 0 (.int .i64 (fewI (vl 0 l) 9))).put 1 (.int .i64 (fewI (vl 1 l) 8))).put 2 (.int .i64 (fewI (vl 2 l) 8))).put 3 (.int .i64 (fewI (vl 3 l) 3))).put 4 (.int .i64 (fewI (vl 4 l) 64))).put 5 (.int .u64 ((vl 5 l : Nat) : Int))).put 6 (.string { data := #[] })).put 7 (.slice none 0 0)) ?_
            unfold mga bstr
            simp only [List.setIfInBounds_toArray, List.set_cons_zero, List.set_cons_succ, List.length_nil]
            try rfl
          have hfw : Fr NoBlk wr wz := hfy.step hfz (fun k hk e => by omega)
          have HXZ : Hid (RD w wz ge A c l p gm (⟨fewI (vl 0 l) 9, fewI (vl 1 l) 8, fewI (vl 2 l) 8, fewI (vl 3 l) 3, fewI (vl 4 l) 64, vl 5 l, [], none, 0, []⟩ : Mg)) := HX.out.mk' hfw hbz (by rw [hgm]; exact HX.out.ltw) rfl
          have HFZ := Lib.hid hfw
          have HWZ := Lib.hid hwz
          clear hbt hfz hbz hwz hfw hfy hwy
          rw [← hgm]
          clear hgm
          refine wpAnyH_ready (rs := [19]) (by kernel_rfl) (by simp) ?_
          refine AllReadyH.cons (o := ⟨none, _, _, _, _, _⟩) rfl (fun K hK => ?_) AllReadyH.nil
          go_simp
          rw [← HWZ.out]
          clear hHeld
          refine hK.out _ _ ?_ (fun hHeld => ?_)
          · exact HFZ.out
          clear hK K
          try simp only [Act.put, List.setIfInBounds_toArray, List.set_cons_zero, List.set_cons_succ]
          refine wpAnyH_done (by kernel_rfl) ?_ _
          clear HWZ hHeld
          go_wp2_with fail
          go_meet
          exact ⟨gm, rfl, HXZ.out⟩
      case rest =>
        obtain ⟨gm, rfl, hx⟩ := hcut
        have HX2 := Lib.hid hx
        clear hx HX HSK
        obtain ⟨a1, ha1⟩ : ∃ a, a = fewI (vl 0 l) 9 := ⟨_, rfl⟩
        obtain ⟨a2, ha2⟩ : ∃ a, a = fewI (vl 1 l) 8 := ⟨_, rfl⟩
        obtain ⟨a3, ha3⟩ : ∃ a, a = fewI (vl 2 l) 8 := ⟨_, rfl⟩
        obtain ⟨a4, ha4⟩ : ∃ a, a = fewI (vl 3 l) 3 := ⟨_, rfl⟩
        obtain ⟨a5, ha5⟩ : ∃ a, a = fewI (vl 4 l) 64 := ⟨_, rfl⟩
        obtain ⟨a6, ha6⟩ : ∃ a, a = vl 5 l := ⟨_, rfl⟩
        obtain ⟨l6, hl6⟩ : ∃ a, a = it 6 l := ⟨_, rfl⟩
        rw [← ha1, ← ha2, ← ha3, ← ha4, ← ha5, ← ha6] at HX2
        have HMR : Hid (∀ k A c vs, vs = (rep rVote k (rest8 l)).1.map vr → (⟨a1, a2, a3, a4, a5, a6, (rT l6).1, A, c, vs⟩ : Mg) = mR l k A c) := fun k A c vs hv => by
          rw [ha1, ha2, ha3, ha4, ha5, ha6, hl6, hv]
          simp only [mR, rest8]
        have HL6 := Lib.hid hl6
        rw [← hl6] at HP
        clear ha1 ha2 ha3 ha4 ha5 ha6 hl6
        have HK := Lib.hid (HX2.out.eye.text_ HA.out (by have := HL.out; omega) HP.out)
        obtain ⟨E1, hE1⟩ : ∃ E, E = errT l6 := ⟨_, rfl⟩
        have hE1b : E1 ≤ 31 := by rw [hE1]; exact errT_le _
        obtain ⟨X, hX⟩ : ∃ X, X = (rT l6).1 := ⟨_, rfl⟩
        obtain ⟨l7, hl7⟩ : ∃ X, X = (rT l6).2 := ⟨_, rfl⟩
        rw [← hE1, ← hX, ← hl7] at HK
        rw [← hX] at HMR
        have HE1 := Lib.hid (And.intro hE1 hl7)
        clear hE1 hX hl7
        go_wp2_with fail
        refine HK.out.mono ?_
        clear HK
        rintro e w3 ⟨v3, rfl, ho3, q3, hq3, hy3⟩
        obtain ⟨A3, c3, rfl, _, _⟩ := own_form ho3
        have HX3 := Lib.hid (HX2.out.eyed hy3)
        have HO3 := Lib.hid ho3
        have HP3 := Lib.hid hq3
        have HG3 : Hid (ge < wc.heap.size) := HX2.out.eye.bk.lt
        clear ho3 hq3 hy3 HX2 HP
        have HK := Lib.hid (HX3.out.eye.num_ (by have := HL.out; omega) HP3.out)
        obtain ⟨E2, hE2⟩ : ∃ E, E = errN l7 := ⟨_, rfl⟩
        have hE2b : E2 ≤ 31 := by rw [hE2]; exact errN_le _
        obtain ⟨N, hN⟩ : ∃ X, X = (rN l7).1 := ⟨_, rfl⟩
        obtain ⟨l8, hl8⟩ : ∃ X, X = (rN l7).2 := ⟨_, rfl⟩
        have hN64 : N < 2 ^ 64 := by rw [hN]; exact rN_lt _
        rw [← hE2, ← hN, ← hl8] at HK
        have HE2 := Lib.hid (And.intro hE2 (And.intro hN hl8))
        have HR8 : Hid (l8 = rest8 l ∧ N = cntR l) := by
          obtain ⟨_, h2⟩ := HE1.out
          rw [HL6.out] at h2
          rw [h2] at hN hl8
          exact ⟨hl8, hN⟩
        have HB8 : Hid (B + (E1 + E2) = bad8 l) := by
          obtain ⟨h1, h2⟩ := HE1.out
          show _ = _
          rw [HB.out, h1, hE2, h2, HL6.out]
          rfl
        clear hE2 hN hl8
        have ew1 : IntKind.i64.wrap ((E1 : Int) + (E2 : Int)) = ((E1 + E2 : Nat) : Int) := (IntWalk.i64_in ((E1 : Int) + (E2 : Int)) (by omega)).trans (by omega)
        have ew2 : IntKind.i64.wrap ((B : Int) + ((E1 + E2 : Nat) : Int)) = ((B + (E1 + E2) : Nat) : Int) := (IntWalk.i64_in ((B : Int) + ((E1 + E2 : Nat) : Int)) (by omega)).trans (by omega)
        go_wp2_with fail
        refine HK.out.mono ?_
        clear HK
        rintro e w4 ⟨rfl, q4, hq4, hy4⟩
        have HX4 := Lib.hid (HX3.out.eyed hy4)
        have HP4 := Lib.hid hq4
        have hs4 := strBs w4 A3 X.length c3 X rfl (Rd.of_own (own_fr HO3.out hy4.fr (fun k hk e => by have := (own_blk HO3.out hk).1; have := HG3.out; omega)))
        have t1 : w4.cell? ⟨gm, 6, none⟩ = some (.string { data := #[] }) := HX4.out.bm.cell 6
        have t2 := HX4.out.bm.free 6
        obtain ⟨w5, hw5⟩ : ∃ w5, w5 = w4.setCell ⟨gm, 6, none⟩ (.string (bstr X)) := ⟨_, rfl⟩
        have HX5 : Hid (RD w w5 ge A c l q4 gm ⟨a1, a2, a3, a4, a5, a6, X, none, 0, []⟩) := by
          show RD _ _ _ _ _ _ _ _ _
          rw [hw5]
          exact HX4.out.put 6 _ (by unfold mga; simp only [List.setIfInBounds_toArray, List.set_cons_zero, List.set_cons_succ]) rfl rfl rfl
        have HW5 := Lib.hid hw5
        clear hw5 hq4 hy4 HX4 HX3 HO3 HP3 HG3
        obtain ⟨B0, hB0⟩ : ∃ B0, B0 = B + (E1 + E2) := ⟨_, rfl⟩
        have hB0b : B0 ≤ 400 := by omega
        have HEW5 : Hid (wrap64 ((B : Int) + ((E1 : Int) + (E2 : Int))) = (B0 : Int)) := by show _ = _; unfold wrap64; omega
        rw [← hB0] at ew2 HB8
        clear hB0 hE1b hE2b hBb HB HE1 HE2 HL6
        go_wp2_with fail
        rw [← HW5.out]
        clear HW5 hs4 t1 t2 ew1 ew2
        go_loopw [5, 13] (fun s t wr => ∃ (j p B nn : Nat) (A' : Option Addr) (c' : Nat), s = .int .i64 (B : Int) ∧ t = .int .u64 (nn : Int) ∧ B ≤ 400 ∧ Hid (B = bad8 l + errs j (rest8 l)) ∧ Hid (nn + j = cntR l ∧ j ≤ 20001 ∧ nn < 2 ^ 64) ∧ Hid (l.drop p = restK l j) ∧ Hid (RD w wr ge A c l p gm (mR l j A' c'))) (fun _ t _ => (intOf t).toNat)
        case atStart => exact ⟨0, q4, B0, N, none, 0, by first | rfl | rw [HEW5.out], rfl, hB0b, by show _ = _; rw [HB8.out, errs_0, Nat.add_zero], ⟨by rw [HR8.out.2, Nat.add_zero], by omega, hN64⟩, by show _ = _; rw [HP4.out, HR8.out.1, restK_0], by rw [← HMR.out 0 none 0 [] rfl]; exact HX5.out⟩
        case round =>
          clear HX5 HP4 HB8 HR8 hB0b hN64
          obtain ⟨j, p, B, nn, A', c', rfl, rfl, hB4, HBJ, HC, HPJ, HX⟩ := hrel
          have hn64 : nn < 2 ^ 64 := HC.out.2.2
          by_cases hn0 : nn = 0
          · have HEX : Hid (nn = 0 ∨ B ≠ 0) := Or.inl hn0
            have hnl : ¬ (0 : Int) < (nn : Int) := by omega
            clear hn0
            obtain ⟨m, hm⟩ : ∃ m, m = mR l j A' c' := ⟨_, rfl⟩
            rw [← hm] at HX
            have HIN : Hid (∀ W, W.ownsRow w.heap.size 62 3 (.slice m.va m.votes.length m.vc) m.votes.length (vtsc m.votes) → MgIn W m) := fun W h => by
              rw [hm] at h ⊢
              exact mR_inn (by have := HL.out; omega) h
            have HBACK : Hid (∀ q, rightM q = true → NumsOk q → l = msgB q → OkR l j p) := fun q h1 h2 h3 => by
              have r := reads_of h1 h2 h3
              have hc1 := HC.out.1
              have hj : j ≤ q.votes.length := by rw [← r.cnt]; omega
              have hb : B = 0 := by rw [HBJ.out, r.bad, r.errs j hj]
              have hn : nn = 0 := by
                rcases HEX.out with h | h
                · exact h
                · exact absurd hb h
              have hjq : j = q.votes.length := by rw [← r.cnt]; omega
              have hp := HPJ.out
              rw [hjq] at hp ⊢
              exact r.ok p hp
            have HLIKE : Hid (MLike (mR l j none 0) m) := by rw [hm]; exact mR_like _ _ _ _ _ _
            clear hm
            have hpl : p ≤ l.length := HX.out.eye.at_
            have hpc : p ≤ c := Nat.le_trans hpl hc
            obtain ⟨y0, y1, y2⟩ := HX.out.eye.cells
            have HK := Lib.hid (HX.out.eye.num_ (by have := HL.out; omega) HPJ.out)
            obtain ⟨E, hE⟩ : ∃ E, E = errN (restK l j) := ⟨_, rfl⟩
            have hE31 : E ≤ 31 := by rw [hE]; exact errN_le _
            obtain ⟨S, hS⟩ : ∃ X, X = (rN (restK l j)).1 := ⟨_, rfl⟩
            have hS64 : S < 2 ^ 64 := by rw [hS]; exact rN_lt _
            have ewz : IntKind.i64.wrap ((B : Int) + (E : Int)) = ((B + E : Nat) : Int) := (IntWalk.i64_in ((B : Int) + (E : Int)) (by omega)).trans (by omega)
            rw [← hE, ← hS] at HK
            have HE := Lib.hid hE
            have HS := Lib.hid hS
            clear hE hS
            by_cases hbe : B + E = 0
            rotate_left
            · have hbe1 : (((B + E : Nat) : Int) != 0) = true := by simp; omega
              have hbe2 : (((B : Int) + (E : Int)) != 0) = true := by simp; omega
              have HNOT : Hid (¬ OkR l j p) := fun h => by
                have h1 := h.bad
                have h2 := h.sum
                rw [← HBJ.out] at h1
                rw [← HE.out] at h2
                omega
              clear hbe
              go_wp2_with fail
              refine HK.out.mono ?_
              clear HK
              rintro e wf ⟨rfl, q, hq, hy⟩
              have HXF := Lib.hid (HX.out.eyed hy)
              clear hq hy HX y0 y1 y2
              obtain ⟨gr, hgr⟩ : ∃ gr, gr = w.heap.size := ⟨_, rfl⟩
              have hres : Bk wf gr 36 zRef := by rw [hgr]; exact HXF.out.res
              have r0 : wf.cell? ⟨gr, 0, none⟩ = some (.int .i64 0) := hres.cell 0
              have s0 := hres.free 0
              have r1 : wf.cell? ⟨gr, 1, none⟩ = some (.int .i64 0) := hres.cell 1
              have s1 := hres.free 1
              have r2 : wf.cell? ⟨gr, 2, none⟩ = some (.int .i64 0) := hres.cell 2
              have s2 := hres.free 2
              have r3 : wf.cell? ⟨gr, 3, none⟩ = some (.int .i64 0) := hres.cell 3
              have s3 := hres.free 3
              have r4 : wf.cell? ⟨gr, 4, none⟩ = some (.int .i64 0) := hres.cell 4
              have s4 := hres.free 4
              have r5 : wf.cell? ⟨gr, 5, none⟩ = some (.int .u64 0) := hres.cell 5
              have s5 := hres.free 5
              have r6 : wf.cell? ⟨gr, 6, none⟩ = some (.string { data := #[] }) := hres.cell 6
              have s6 := hres.free 6
              have r7 : wf.cell? ⟨gr, 7, none⟩ = some (.slice none 0 0) := hres.cell 7
              have s7 := hres.free 7
              obtain ⟨wz, hwz⟩ : ∃ wz, wz = ((((((((wf.setCell ⟨gr, 0, none⟩ (.int .i64 0)).setCell ⟨gr, 1, none⟩ (.int .i64 0)).setCell ⟨gr, 2, none⟩ (.int .i64 0)).setCell ⟨gr, 3, none⟩ (.int .i64 0)).setCell ⟨gr, 4, none⟩ (.int .i64 0)).setCell ⟨gr, 5, none⟩ (.int .u64 0)).setCell ⟨gr, 6, none⟩ (.string { data := #[] })).setCell ⟨gr, 7, none⟩ (.slice none 0 0)) := ⟨_, rfl⟩
              have hfz : Fr (fun k => k = gr) wf wz := by
                rw [hwz]
                exact (((((((((Fr.refl (fun k => k = gr) wf).setCell (p := ⟨gr, 0, none⟩) (fun _ => rfl) _).setCell (p := ⟨gr, 1, none⟩) (fun _ => rfl) _).setCell (p := ⟨gr, 2, none⟩) (fun _ => rfl) _).setCell (p := ⟨gr, 3, none⟩) (fun _ => rfl) _).setCell (p := ⟨gr, 4, none⟩) (fun _ => rfl) _).setCell (p := ⟨gr, 5, none⟩) (fun _ => rfl) _).setCell (p := ⟨gr, 6, none⟩) (fun _ => rfl) _).setCell (p := ⟨gr, 7, none⟩) (fun _ => rfl) _)
              have HBZ : Hid (Bk wz gr 36 #[.int .i64 0, .int .i64 0, .int .i64 0, .int .i64 0, .int .i64 0, .int .u64 0, .string { data := #[] }, .slice none 0 0]) := by
                show Bk _ _ _ _
                rw [hwz]
                refine Bk.cast ((((((((hres.put 0 (.int .i64 0)).put 1 (.int .i64 0)).put 2 (.int .i64 0)).put 3 (.int .i64 0)).put 4 (.int .i64 0)).put 5 (.int .u64 0)).put 6 (.string { data := #[] })).put 7 (.slice none 0 0)) ?_
                unfold zRef
                simp only [List.setIfInBounds_toArray, List.set_cons_zero, List.set_cons_succ]
              have HFIN : Hid (DReadPost w l (.returned (.tuple #[.agg zRef, .int .i64 31])) wz) :=
                ⟨m, false, HIN.out _ (own_fr HXF.out.vo hfz (fun k hk e => own_apart HXF.out.vo hres (by decide) (e ▸ hk))), HXF.out.fr.step hfz (fun k hk e => by omega), by rw [if_neg (by decide : ¬ false = true)], (fun h => by cases h), fun q h1 h2 h3 => absurd (HBACK.out q h1 h2 h3) HNOT.out⟩
              have HWZ := Lib.hid hwz
              clear hwz hfz hres HXF
              rw [← hgr]
              clear hgr
              go_wp2_with fail
              rw [← HWZ.out]
              clear HWZ
              have z0 : wz.cell? ⟨gr, 0, none⟩ = some (.int .i64 0) := HBZ.out.cell 0
              have z1 : wz.cell? ⟨gr, 1, none⟩ = some (.int .i64 0) := HBZ.out.cell 1
              have z2 : wz.cell? ⟨gr, 2, none⟩ = some (.int .i64 0) := HBZ.out.cell 2
              have z3 : wz.cell? ⟨gr, 3, none⟩ = some (.int .i64 0) := HBZ.out.cell 3
              have z4 : wz.cell? ⟨gr, 4, none⟩ = some (.int .i64 0) := HBZ.out.cell 4
              have z5 : wz.cell? ⟨gr, 5, none⟩ = some (.int .u64 0) := HBZ.out.cell 5
              have z6 : wz.cell? ⟨gr, 6, none⟩ = some (.string { data := #[] }) := HBZ.out.cell 6
              have z7 : wz.cell? ⟨gr, 7, none⟩ = some (.slice none 0 0) := HBZ.out.cell 7
              refine bodyPost_ret (v := .tuple #[.agg zRef, .int .i64 31]) ?_ rfl HFIN.out
              unfold zRef
              simp [results, Tryd.results16, go_sem, z0, z1, z2, z3, z4, z5, z6, z7]
            obtain ⟨hbz, hez⟩ : B = 0 ∧ E = 0 := ⟨by omega, by omega⟩
            have HBZ0 := Lib.hid hbz
            have HEZ0 := Lib.hid hez
            have ewz0 : IntKind.i64.wrap ((B : Int) + (E : Int)) = 0 := ewz.trans (by omega)
            have ewz1 : wrap64 ((B : Int) + (E : Int)) = 0 := by unfold wrap64; omega
            clear hbz hez hbe ewz
            go_wp2_with fail
            refine HK.out.mono ?_
            clear HK
            rintro e w6 ⟨rfl, q, hq, hy⟩
            have HX6 := Lib.hid (HX.out.eyed hy)
            have hend := reyeEnd_any w6 ge A c l q HX6.out.eye (by have := HL.out; omega)
            rw [hq] at hend
            clear hq hy HX y0 y1 y2
            by_cases hf : (rN (restK l j)).2 = []
            rotate_left
            · rw [if_neg hf] at hend
              have HENDC := Lib.hid hend
              have HNOT : Hid (¬ OkR l j p) := fun h => hf h.fin
              clear hend hf
              go_wp2_with fail
              refine HENDC.out.mono ?_
              clear HENDC
              rintro e wf ⟨rfl, hff⟩
              have HXF := Lib.hid (HX6.out.nofr hff)
              clear hff HX6
              obtain ⟨gr, hgr⟩ : ∃ gr, gr = w.heap.size := ⟨_, rfl⟩
              have hres : Bk wf gr 36 zRef := by rw [hgr]; exact HXF.out.res
              have r0 : wf.cell? ⟨gr, 0, none⟩ = some (.int .i64 0) := hres.cell 0
              have s0 := hres.free 0
              have r1 : wf.cell? ⟨gr, 1, none⟩ = some (.int .i64 0) := hres.cell 1
              have s1 := hres.free 1
              have r2 : wf.cell? ⟨gr, 2, none⟩ = some (.int .i64 0) := hres.cell 2
              have s2 := hres.free 2
              have r3 : wf.cell? ⟨gr, 3, none⟩ = some (.int .i64 0) := hres.cell 3
              have s3 := hres.free 3
              have r4 : wf.cell? ⟨gr, 4, none⟩ = some (.int .i64 0) := hres.cell 4
              have s4 := hres.free 4
              have r5 : wf.cell? ⟨gr, 5, none⟩ = some (.int .u64 0) := hres.cell 5
              have s5 := hres.free 5
              have r6 : wf.cell? ⟨gr, 6, none⟩ = some (.string { data := #[] }) := hres.cell 6
              have s6 := hres.free 6
              have r7 : wf.cell? ⟨gr, 7, none⟩ = some (.slice none 0 0) := hres.cell 7
              have s7 := hres.free 7
              obtain ⟨wz, hwz⟩ : ∃ wz, wz = ((((((((wf.setCell ⟨gr, 0, none⟩ (.int .i64 0)).setCell ⟨gr, 1, none⟩ (.int .i64 0)).setCell ⟨gr, 2, none⟩ (.int .i64 0)).setCell ⟨gr, 3, none⟩ (.int .i64 0)).setCell ⟨gr, 4, none⟩ (.int .i64 0)).setCell ⟨gr, 5, none⟩ (.int .u64 0)).setCell ⟨gr, 6, none⟩ (.string { data := #[] })).setCell ⟨gr, 7, none⟩ (.slice none 0 0)) := ⟨_, rfl⟩
              have hfz : Fr (fun k => k = gr) wf wz := by
                rw [hwz]
                exact (((((((((Fr.refl (fun k => k = gr) wf).setCell (p := ⟨gr, 0, none⟩) (fun _ => rfl) _).setCell (p := ⟨gr, 1, none⟩) (fun _ => rfl) _).setCell (p := ⟨gr, 2, none⟩) (fun _ => rfl) _).setCell (p := ⟨gr, 3, none⟩) (fun _ => rfl) _).setCell (p := ⟨gr, 4, none⟩) (fun _ => rfl) _).setCell (p := ⟨gr, 5, none⟩) (fun _ => rfl) _).setCell (p := ⟨gr, 6, none⟩) (fun _ => rfl) _).setCell (p := ⟨gr, 7, none⟩) (fun _ => rfl) _)
              have HBZ : Hid (Bk wz gr 36 #[.int .i64 0, .int .i64 0, .int .i64 0, .int .i64 0, .int .i64 0, .int .u64 0, .string { data := #[] }, .slice none 0 0]) := by
                show Bk _ _ _ _
                rw [hwz]
                refine Bk.cast ((((((((hres.put 0 (.int .i64 0)).put 1 (.int .i64 0)).put 2 (.int .i64 0)).put 3 (.int .i64 0)).put 4 (.int .i64 0)).put 5 (.int .u64 0)).put 6 (.string { data := #[] })).put 7 (.slice none 0 0)) ?_
                unfold zRef
                simp only [List.setIfInBounds_toArray, List.set_cons_zero, List.set_cons_succ]
              have HFIN : Hid (DReadPost w l (.returned (.tuple #[.agg zRef, .int .i64 31])) wz) :=
                ⟨m, false, HIN.out _ (own_fr HXF.out.vo hfz (fun k hk e => own_apart HXF.out.vo hres (by decide) (e ▸ hk))), HXF.out.fr.step hfz (fun k hk e => by omega), by rw [if_neg (by decide : ¬ false = true)], (fun h => by cases h), fun q h1 h2 h3 => absurd (HBACK.out q h1 h2 h3) HNOT.out⟩
              have HWZ := Lib.hid hwz
              clear hwz hfz hres HXF
              rw [← hgr]
              clear hgr
              go_wp2_with fail
              rw [← HWZ.out]
              clear HWZ
              have z0 : wz.cell? ⟨gr, 0, none⟩ = some (.int .i64 0) := HBZ.out.cell 0
              have z1 : wz.cell? ⟨gr, 1, none⟩ = some (.int .i64 0) := HBZ.out.cell 1
              have z2 : wz.cell? ⟨gr, 2, none⟩ = some (.int .i64 0) := HBZ.out.cell 2
              have z3 : wz.cell? ⟨gr, 3, none⟩ = some (.int .i64 0) := HBZ.out.cell 3
              have z4 : wz.cell? ⟨gr, 4, none⟩ = some (.int .i64 0) := HBZ.out.cell 4
              have z5 : wz.cell? ⟨gr, 5, none⟩ = some (.int .u64 0) := HBZ.out.cell 5
              have z6 : wz.cell? ⟨gr, 6, none⟩ = some (.string { data := #[] }) := HBZ.out.cell 6
              have z7 : wz.cell? ⟨gr, 7, none⟩ = some (.slice none 0 0) := HBZ.out.cell 7
              refine bodyPost_ret (v := .tuple #[.agg zRef, .int .i64 31]) ?_ rfl HFIN.out
              unfold zRef
              simp [results, Tryd.results16, go_sem, z0, z1, z2, z3, z4, z5, z6, z7]
            rw [if_pos hf] at hend
            have HENDC := Lib.hid hend
            have HF0 := Lib.hid hf
            clear hend hf
            go_wp2_with fail
            refine HENDC.out.mono ?_
            clear HENDC
            rintro e w7 ⟨rfl, hff⟩
            have HX7 := Lib.hid (HX6.out.nofr hff)
            clear hff HX6
            have HSU := Lib.hid (dsum_any w7 A p c (l.take p) (by rw [List.length_take]; omega) (by rw [cb_take]; exact HX7.out.eye.rd.take p) (by rw [List.length_take]; have := HL.out; omega))
            obtain ⟨sv, hsv⟩ : ∃ sv, sv = sumN (l.take p) := ⟨_, rfl⟩
            have hsl : sv < 4294967296 := by rw [hsv]; exact sumN_lt _
            have hsv2 : ((Crc.crc (l.take p)).toNat : Nat) = sv := hsv.symm
            rw [hsv2] at HSU
            have HSV := Lib.hid hsv
            have em : ((sv : Int) % 18446744073709551616) = sv := by omega
            clear hsv hsv2
            by_cases hss : S = sv
            rotate_left
            · have hs1 : ((S : Int) != (sv : Int)) = true := by simp; omega
              have HNOT : Hid (¬ OkR l j p) := fun h => by
                have h1 := h.val
                rw [← HS.out, ← HSV.out] at h1
                exact hss h1
              clear hss
              go_wp2_with fail
              refine HSU.out.mono ?_
              clear HSU
              rintro e wf ⟨rfl, hff⟩
              have HXF := Lib.hid (HX7.out.nofr hff)
              clear hff HX7
              obtain ⟨gr, hgr⟩ : ∃ gr, gr = w.heap.size := ⟨_, rfl⟩
              have hres : Bk wf gr 36 zRef := by rw [hgr]; exact HXF.out.res
              have r0 : wf.cell? ⟨gr, 0, none⟩ = some (.int .i64 0) := hres.cell 0
              have s0 := hres.free 0
              have r1 : wf.cell? ⟨gr, 1, none⟩ = some (.int .i64 0) := hres.cell 1
              have s1 := hres.free 1
              have r2 : wf.cell? ⟨gr, 2, none⟩ = some (.int .i64 0) := hres.cell 2
              have s2 := hres.free 2
              have r3 : wf.cell? ⟨gr, 3, none⟩ = some (.int .i64 0) := hres.cell 3
              have s3 := hres.free 3
              have r4 : wf.cell? ⟨gr, 4, none⟩ = some (.int .i64 0) := hres.cell 4
              have s4 := hres.free 4
              have r5 : wf.cell? ⟨gr, 5, none⟩ = some (.int .u64 0) := hres.cell 5
              have s5 := hres.free 5
              have r6 : wf.cell? ⟨gr, 6, none⟩ = some (.string { data := #[] }) := hres.cell 6
              have s6 := hres.free 6
              have r7 : wf.cell? ⟨gr, 7, none⟩ = some (.slice none 0 0) := hres.cell 7
              have s7 := hres.free 7
              obtain ⟨wz, hwz⟩ : ∃ wz, wz = ((((((((wf.setCell ⟨gr, 0, none⟩ (.int .i64 0)).setCell ⟨gr, 1, none⟩ (.int .i64 0)).setCell ⟨gr, 2, none⟩ (.int .i64 0)).setCell ⟨gr, 3, none⟩ (.int .i64 0)).setCell ⟨gr, 4, none⟩ (.int .i64 0)).setCell ⟨gr, 5, none⟩ (.int .u64 0)).setCell ⟨gr, 6, none⟩ (.string { data := #[] })).setCell ⟨gr, 7, none⟩ (.slice none 0 0)) := ⟨_, rfl⟩
              have hfz : Fr (fun k => k = gr) wf wz := by
                rw [hwz]
                exact (((((((((Fr.refl (fun k => k = gr) wf).setCell (p := ⟨gr, 0, none⟩) (fun _ => rfl) _).setCell (p := ⟨gr, 1, none⟩) (fun _ => rfl) _).setCell (p := ⟨gr, 2, none⟩) (fun _ => rfl) _).setCell (p := ⟨gr, 3, none⟩) (fun _ => rfl) _).setCell (p := ⟨gr, 4, none⟩) (fun _ => rfl) _).setCell (p := ⟨gr, 5, none⟩) (fun _ => rfl) _).setCell (p := ⟨gr, 6, none⟩) (fun _ => rfl) _).setCell (p := ⟨gr, 7, none⟩) (fun _ => rfl) _)
              have HBZ : Hid (Bk wz gr 36 #[.int .i64 0, .int .i64 0, .int .i64 0, .int .i64 0, .int .i64 0, .int .u64 0, .string { data := #[] }, .slice none 0 0]) := by
                show Bk _ _ _ _
                rw [hwz]
                refine Bk.cast ((((((((hres.put 0 (.int .i64 0)).put 1 (.int .i64 0)).put 2 (.int .i64 0)).put 3 (.int .i64 0)).put 4 (.int .i64 0)).put 5 (.int .u64 0)).put 6 (.string { data := #[] })).put 7 (.slice none 0 0)) ?_
                unfold zRef
                simp only [List.setIfInBounds_toArray, List.set_cons_zero, List.set_cons_succ]
              have HFIN : Hid (DReadPost w l (.returned (.tuple #[.agg zRef, .int .i64 31])) wz) :=
                ⟨m, false, HIN.out _ (own_fr HXF.out.vo hfz (fun k hk e => own_apart HXF.out.vo hres (by decide) (e ▸ hk))), HXF.out.fr.step hfz (fun k hk e => by omega), by rw [if_neg (by decide : ¬ false = true)], (fun h => by cases h), fun q h1 h2 h3 => absurd (HBACK.out q h1 h2 h3) HNOT.out⟩
              have HWZ := Lib.hid hwz
              clear hwz hfz hres HXF
              rw [← hgr]
              clear hgr
              go_wp2_with fail
              rw [← HWZ.out]
              clear HWZ
              have z0 : wz.cell? ⟨gr, 0, none⟩ = some (.int .i64 0) := HBZ.out.cell 0
              have z1 : wz.cell? ⟨gr, 1, none⟩ = some (.int .i64 0) := HBZ.out.cell 1
              have z2 : wz.cell? ⟨gr, 2, none⟩ = some (.int .i64 0) := HBZ.out.cell 2
              have z3 : wz.cell? ⟨gr, 3, none⟩ = some (.int .i64 0) := HBZ.out.cell 3
              have z4 : wz.cell? ⟨gr, 4, none⟩ = some (.int .i64 0) := HBZ.out.cell 4
              have z5 : wz.cell? ⟨gr, 5, none⟩ = some (.int .u64 0) := HBZ.out.cell 5
              have z6 : wz.cell? ⟨gr, 6, none⟩ = some (.string { data := #[] }) := HBZ.out.cell 6
              have z7 : wz.cell? ⟨gr, 7, none⟩ = some (.slice none 0 0) := HBZ.out.cell 7
              refine bodyPost_ret (v := .tuple #[.agg zRef, .int .i64 31]) ?_ rfl HFIN.out
              unfold zRef
              simp [results, Tryd.results16, go_sem, z0, z1, z2, z3, z4, z5, z6, z7]
            have hs1 : ((S : Int) != (sv : Int)) = false := by simp; omega
            have HSS := Lib.hid hss
            clear hss
            go_wp2_with fail
            refine HSU.out.mono ?_
            clear HSU
            rintro e w8 ⟨rfl, hff⟩
            have HX8 := Lib.hid (HX7.out.nofr hff)
            clear hff HX7
            obtain ⟨d0, d1, d2, d3, d4, d5, d6, d7⟩ := HX8.out.bm.msg
            have HRG := Lib.hid (dright_any w8 m (HIN.out _ HX8.out.vo))
            unfold mgv mga at HRG
            by_cases hrg : rightM m = true
            rotate_left
            · rw [Bool.eq_false_iff.2 hrg] at HRG
              have HNOT : Hid (¬ OkR l j p) := fun h => hrg (by rw [← HLIKE.out.right]; exact h.rgt)
              clear hrg
              go_wp2_with fail
              refine HRG.out.mono ?_
              clear HRG
              rintro e wf ⟨rfl, hff⟩
              have HXF := Lib.hid (HX8.out.nofr hff)
              clear hff HX8 d0 d1 d2 d3 d4 d5 d6 d7
              obtain ⟨gr, hgr⟩ : ∃ gr, gr = w.heap.size := ⟨_, rfl⟩
              have hres : Bk wf gr 36 zRef := by rw [hgr]; exact HXF.out.res
              have r0 : wf.cell? ⟨gr, 0, none⟩ = some (.int .i64 0) := hres.cell 0
              have s0 := hres.free 0
              have r1 : wf.cell? ⟨gr, 1, none⟩ = some (.int .i64 0) := hres.cell 1
              have s1 := hres.free 1
              have r2 : wf.cell? ⟨gr, 2, none⟩ = some (.int .i64 0) := hres.cell 2
              have s2 := hres.free 2
              have r3 : wf.cell? ⟨gr, 3, none⟩ = some (.int .i64 0) := hres.cell 3
              have s3 := hres.free 3
              have r4 : wf.cell? ⟨gr, 4, none⟩ = some (.int .i64 0) := hres.cell 4
              have s4 := hres.free 4
              have r5 : wf.cell? ⟨gr, 5, none⟩ = some (.int .u64 0) := hres.cell 5
              have s5 := hres.free 5
              have r6 : wf.cell? ⟨gr, 6, none⟩ = some (.string { data := #[] }) := hres.cell 6
              have s6 := hres.free 6
              have r7 : wf.cell? ⟨gr, 7, none⟩ = some (.slice none 0 0) := hres.cell 7
              have s7 := hres.free 7
              obtain ⟨wz, hwz⟩ : ∃ wz, wz = ((((((((wf.setCell ⟨gr, 0, none⟩ (.int .i64 0)).setCell ⟨gr, 1, none⟩ (.int .i64 0)).setCell ⟨gr, 2, none⟩ (.int .i64 0)).setCell ⟨gr, 3, none⟩ (.int .i64 0)).setCell ⟨gr, 4, none⟩ (.int .i64 0)).setCell ⟨gr, 5, none⟩ (.int .u64 0)).setCell ⟨gr, 6, none⟩ (.string { data := #[] })).setCell ⟨gr, 7, none⟩ (.slice none 0 0)) := ⟨_, rfl⟩
              have hfz : Fr (fun k => k = gr) wf wz := by
                rw [hwz]
                exact (((((((((Fr.refl (fun k => k = gr) wf).setCell (p := ⟨gr, 0, none⟩) (fun _ => rfl) _).setCell (p := ⟨gr, 1, none⟩) (fun _ => rfl) _).setCell (p := ⟨gr, 2, none⟩) (fun _ => rfl) _).setCell (p := ⟨gr, 3, none⟩) (fun _ => rfl) _).setCell (p := ⟨gr, 4, none⟩) (fun _ => rfl) _).setCell (p := ⟨gr, 5, none⟩) (fun _ => rfl) _).setCell (p := ⟨gr, 6, none⟩) (fun _ => rfl) _).setCell (p := ⟨gr, 7, none⟩) (fun _ => rfl) _)
              have HBZ : Hid (Bk wz gr 36 #[.int .i64 0, .int .i64 0, .int .i64 0, .int .i64 0, .int .i64 0, .int .u64 0, .string { data := #[] }, .slice none 0 0]) := by
                show Bk _ _ _ _
                rw [hwz]
                refine Bk.cast ((((((((hres.put 0 (.int .i64 0)).put 1 (.int .i64 0)).put 2 (.int .i64 0)).put 3 (.int .i64 0)).put 4 (.int .i64 0)).put 5 (.int .u64 0)).put 6 (.string { data := #[] })).put 7 (.slice none 0 0)) ?_
                unfold zRef
                simp only [List.setIfInBounds_toArray, List.set_cons_zero, List.set_cons_succ]
              have HFIN : Hid (DReadPost w l (.returned (.tuple #[.agg zRef, .int .i64 31])) wz) :=
                ⟨m, false, HIN.out _ (own_fr HXF.out.vo hfz (fun k hk e => own_apart HXF.out.vo hres (by decide) (e ▸ hk))), HXF.out.fr.step hfz (fun k hk e => by omega), by rw [if_neg (by decide : ¬ false = true)], (fun h => by cases h), fun q h1 h2 h3 => absurd (HBACK.out q h1 h2 h3) HNOT.out⟩
              have HWZ := Lib.hid hwz
              clear hwz hfz hres HXF
              rw [← hgr]
              clear hgr
              go_wp2_with fail
              rw [← HWZ.out]
              clear HWZ
              have z0 : wz.cell? ⟨gr, 0, none⟩ = some (.int .i64 0) := HBZ.out.cell 0
              have z1 : wz.cell? ⟨gr, 1, none⟩ = some (.int .i64 0) := HBZ.out.cell 1
              have z2 : wz.cell? ⟨gr, 2, none⟩ = some (.int .i64 0) := HBZ.out.cell 2
              have z3 : wz.cell? ⟨gr, 3, none⟩ = some (.int .i64 0) := HBZ.out.cell 3
              have z4 : wz.cell? ⟨gr, 4, none⟩ = some (.int .i64 0) := HBZ.out.cell 4
              have z5 : wz.cell? ⟨gr, 5, none⟩ = some (.int .u64 0) := HBZ.out.cell 5
              have z6 : wz.cell? ⟨gr, 6, none⟩ = some (.string { data := #[] }) := HBZ.out.cell 6
              have z7 : wz.cell? ⟨gr, 7, none⟩ = some (.slice none 0 0) := HBZ.out.cell 7
              refine bodyPost_ret (v := .tuple #[.agg zRef, .int .i64 31]) ?_ rfl HFIN.out
              unfold zRef
              simp [results, Tryd.results16, go_sem, z0, z1, z2, z3, z4, z5, z6, z7]
            rw [hrg] at HRG
            have HYES : Hid (rightM m = true ∧ NumsOk m ∧ l = msgB m) := by
              have hok : OkR l j p := ⟨by rw [← HBJ.out]; exact HBZ0.out, by rw [← HE.out]; exact HEZ0.out, HF0.out, by rw [← HS.out, ← HSV.out]; exact HSS.out, by rw [HLIKE.out.right]; exact hrg⟩
              have hnn : nn = 0 := by
                rcases HEX.out with h | h
                · exact h
                · exact absurd HBZ0.out h
              obtain ⟨h1, h2⟩ := hok.eq (by have := HC.out.1; omega) HPJ.out
              refine ⟨hrg, ⟨by rw [← HLIKE.out.ballot]; exact h2.1, by rw [← HLIKE.out.votes]; exact h2.2⟩, ?_⟩
              rw [← HLIKE.out.msg]
              exact h1
            clear hrg
            go_wp2_with fail
            refine HRG.out.mono ?_
            clear HRG
            rintro e wf ⟨rfl, hff⟩
            have HXF := Lib.hid (HX8.out.nofr hff)
            clear hff HX8 d0 d1 d2 d3 d4 d5 d6 d7
            obtain ⟨gr, hgr⟩ : ∃ gr, gr = w.heap.size := ⟨_, rfl⟩
            have hres : Bk wf gr 36 zRef := by rw [hgr]; exact HXF.out.res
            have r0 : wf.cell? ⟨gr, 0, none⟩ = some (.int .i64 0) := hres.cell 0
            have s0 := hres.free 0
            have r1 : wf.cell? ⟨gr, 1, none⟩ = some (.int .i64 0) := hres.cell 1
            have s1 := hres.free 1
            have r2 : wf.cell? ⟨gr, 2, none⟩ = some (.int .i64 0) := hres.cell 2
            have s2 := hres.free 2
            have r3 : wf.cell? ⟨gr, 3, none⟩ = some (.int .i64 0) := hres.cell 3
            have s3 := hres.free 3
            have r4 : wf.cell? ⟨gr, 4, none⟩ = some (.int .i64 0) := hres.cell 4
            have s4 := hres.free 4
            have r5 : wf.cell? ⟨gr, 5, none⟩ = some (.int .u64 0) := hres.cell 5
            have s5 := hres.free 5
            have r6 : wf.cell? ⟨gr, 6, none⟩ = some (.string { data := #[] }) := hres.cell 6
            have s6 := hres.free 6
            have r7 : wf.cell? ⟨gr, 7, none⟩ = some (.slice none 0 0) := hres.cell 7
            have s7 := hres.free 7
            have p0 : wf.cell? ⟨gm, 0, none⟩ = some (.int .i64 m.kind) := HXF.out.bm.cell 0
            have p1 : wf.cell? ⟨gm, 1, none⟩ = some (.int .i64 m.frm) := HXF.out.bm.cell 1
            have p2 : wf.cell? ⟨gm, 2, none⟩ = some (.int .i64 m.dst) := HXF.out.bm.cell 2
            have p3 : wf.cell? ⟨gm, 3, none⟩ = some (.int .i64 m.grp) := HXF.out.bm.cell 3
            have p4 : wf.cell? ⟨gm, 4, none⟩ = some (.int .i64 m.slot) := HXF.out.bm.cell 4
            have p5 : wf.cell? ⟨gm, 5, none⟩ = some (.int .u64 (m.ballot : Int)) := HXF.out.bm.cell 5
            have p6 : wf.cell? ⟨gm, 6, none⟩ = some (.string (bstr m.value)) := HXF.out.bm.cell 6
            have p7 : wf.cell? ⟨gm, 7, none⟩ = some (.slice m.va m.votes.length m.vc) := HXF.out.bm.cell 7
            obtain ⟨wz, hwz⟩ : ∃ wz, wz = ((((((((wf.setCell ⟨gr, 0, none⟩ (.int .i64 m.kind)).setCell ⟨gr, 1, none⟩ (.int .i64 m.frm)).setCell ⟨gr, 2, none⟩ (.int .i64 m.dst)).setCell ⟨gr, 3, none⟩ (.int .i64 m.grp)).setCell ⟨gr, 4, none⟩ (.int .i64 m.slot)).setCell ⟨gr, 5, none⟩ (.int .u64 (m.ballot : Int))).setCell ⟨gr, 6, none⟩ (.string (bstr m.value))).setCell ⟨gr, 7, none⟩ (.slice m.va m.votes.length m.vc)) := ⟨_, rfl⟩
            have hfz : Fr (fun k => k = gr) wf wz := by
              rw [hwz]
              exact (((((((((Fr.refl (fun k => k = gr) wf).setCell (p := ⟨gr, 0, none⟩) (fun _ => rfl) _).setCell (p := ⟨gr, 1, none⟩) (fun _ => rfl) _).setCell (p := ⟨gr, 2, none⟩) (fun _ => rfl) _).setCell (p := ⟨gr, 3, none⟩) (fun _ => rfl) _).setCell (p := ⟨gr, 4, none⟩) (fun _ => rfl) _).setCell (p := ⟨gr, 5, none⟩) (fun _ => rfl) _).setCell (p := ⟨gr, 6, none⟩) (fun _ => rfl) _).setCell (p := ⟨gr, 7, none⟩) (fun _ => rfl) _)
            have HBZ : Hid (Bk wz gr 36 #[.int .i64 m.kind, .int .i64 m.frm, .int .i64 m.dst, .int .i64 m.grp, .int .i64 m.slot, .int .u64 (m.ballot : Int), .string (bstr m.value), .slice m.va m.votes.length m.vc]) := by
              show Bk _ _ _ _
              rw [hwz]
              refine Bk.cast ((((((((hres.put 0 (.int .i64 m.kind)).put 1 (.int .i64 m.frm)).put 2 (.int .i64 m.dst)).put 3 (.int .i64 m.grp)).put 4 (.int .i64 m.slot)).put 5 (.int .u64 (m.ballot : Int))).put 6 (.string (bstr m.value))).put 7 (.slice m.va m.votes.length m.vc)) ?_
              unfold zRef
              simp only [List.setIfInBounds_toArray, List.set_cons_zero, List.set_cons_succ]
            have HFIN : Hid (DReadPost w l (.returned (.tuple #[mgv m, .int .i64 0])) wz) :=
              ⟨m, true, HIN.out _ (own_fr HXF.out.vo hfz (fun k hk e => own_apart HXF.out.vo hres (by decide) (e ▸ hk))), HXF.out.fr.step hfz (fun k hk e => by omega), by rw [if_pos rfl], (fun _ => HYES.out), fun _ _ _ _ => rfl⟩
            have HWZ := Lib.hid hwz
            clear hwz hfz hres HXF
            rw [← hgr]
            clear hgr
            go_wp2_with fail
            rw [← HWZ.out]
            clear HWZ
            have z0 : wz.cell? ⟨gr, 0, none⟩ = some (.int .i64 m.kind) := HBZ.out.cell 0
            have z1 : wz.cell? ⟨gr, 1, none⟩ = some (.int .i64 m.frm) := HBZ.out.cell 1
            have z2 : wz.cell? ⟨gr, 2, none⟩ = some (.int .i64 m.dst) := HBZ.out.cell 2
            have z3 : wz.cell? ⟨gr, 3, none⟩ = some (.int .i64 m.grp) := HBZ.out.cell 3
            have z4 : wz.cell? ⟨gr, 4, none⟩ = some (.int .i64 m.slot) := HBZ.out.cell 4
            have z5 : wz.cell? ⟨gr, 5, none⟩ = some (.int .u64 (m.ballot : Int)) := HBZ.out.cell 5
            have z6 : wz.cell? ⟨gr, 6, none⟩ = some (.string (bstr m.value)) := HBZ.out.cell 6
            have z7 : wz.cell? ⟨gr, 7, none⟩ = some (.slice m.va m.votes.length m.vc) := HBZ.out.cell 7
            refine bodyPost_ret (v := .tuple #[mgv m, .int .i64 0]) ?_ rfl HFIN.out
            unfold mgv mga
            simp [results, Tryd.results16, go_sem, z0, z1, z2, z3, z4, z5, z6, z7]
          have hnl : (0 : Int) < (nn : Int) := by omega
          by_cases hB0 : B = 0
          rotate_left
          · have HEX : Hid (nn = 0 ∨ B ≠ 0) := Or.inr hB0
            have hbl : ((B : Int) == 0) = false := by simp; omega
            clear hB0 hn0
            obtain ⟨m, hm⟩ : ∃ m, m = mR l j A' c' := ⟨_, rfl⟩
            rw [← hm] at HX
            have HIN : Hid (∀ W, W.ownsRow w.heap.size 62 3 (.slice m.va m.votes.length m.vc) m.votes.length (vtsc m.votes) → MgIn W m) := fun W h => by
              rw [hm] at h ⊢
              exact mR_inn (by have := HL.out; omega) h
            have HBACK : Hid (∀ q, rightM q = true → NumsOk q → l = msgB q → OkR l j p) := fun q h1 h2 h3 => by
              have r := reads_of h1 h2 h3
              have hc1 := HC.out.1
              have hj : j ≤ q.votes.length := by rw [← r.cnt]; omega
              have hb : B = 0 := by rw [HBJ.out, r.bad, r.errs j hj]
              have hn : nn = 0 := by
                rcases HEX.out with h | h
                · exact h
                · exact absurd hb h
              have hjq : j = q.votes.length := by rw [← r.cnt]; omega
              have hp := HPJ.out
              rw [hjq] at hp ⊢
              exact r.ok p hp
            have HLIKE : Hid (MLike (mR l j none 0) m) := by rw [hm]; exact mR_like _ _ _ _ _ _
            clear hm
            have hpl : p ≤ l.length := HX.out.eye.at_
            have hpc : p ≤ c := Nat.le_trans hpl hc
            obtain ⟨y0, y1, y2⟩ := HX.out.eye.cells
            have HK := Lib.hid (HX.out.eye.num_ (by have := HL.out; omega) HPJ.out)
            obtain ⟨E, hE⟩ : ∃ E, E = errN (restK l j) := ⟨_, rfl⟩
            have hE31 : E ≤ 31 := by rw [hE]; exact errN_le _
            obtain ⟨S, hS⟩ : ∃ X, X = (rN (restK l j)).1 := ⟨_, rfl⟩
            have hS64 : S < 2 ^ 64 := by rw [hS]; exact rN_lt _
            have ewz : IntKind.i64.wrap ((B : Int) + (E : Int)) = ((B + E : Nat) : Int) := (IntWalk.i64_in ((B : Int) + (E : Int)) (by omega)).trans (by omega)
            rw [← hE, ← hS] at HK
            have HE := Lib.hid hE
            have HS := Lib.hid hS
            clear hE hS
            by_cases hbe : B + E = 0
            rotate_left
            · have hbe1 : (((B + E : Nat) : Int) != 0) = true := by simp; omega
              have hbe2 : (((B : Int) + (E : Int)) != 0) = true := by simp; omega
              have HNOT : Hid (¬ OkR l j p) := fun h => by
                have h1 := h.bad
                have h2 := h.sum
                rw [← HBJ.out] at h1
                rw [← HE.out] at h2
                omega
              clear hbe
              go_wp2_with fail
              refine HK.out.mono ?_
              clear HK
              rintro e wf ⟨rfl, q, hq, hy⟩
              have HXF := Lib.hid (HX.out.eyed hy)
              clear hq hy HX y0 y1 y2
              obtain ⟨gr, hgr⟩ : ∃ gr, gr = w.heap.size := ⟨_, rfl⟩
              have hres : Bk wf gr 36 zRef := by rw [hgr]; exact HXF.out.res
              have r0 : wf.cell? ⟨gr, 0, none⟩ = some (.int .i64 0) := hres.cell 0
              have s0 := hres.free 0
              have r1 : wf.cell? ⟨gr, 1, none⟩ = some (.int .i64 0) := hres.cell 1
              have s1 := hres.free 1
              have r2 : wf.cell? ⟨gr, 2, none⟩ = some (.int .i64 0) := hres.cell 2
              have s2 := hres.free 2
              have r3 : wf.cell? ⟨gr, 3, none⟩ = some (.int .i64 0) := hres.cell 3
              have s3 := hres.free 3
              have r4 : wf.cell? ⟨gr, 4, none⟩ = some (.int .i64 0) := hres.cell 4
              have s4 := hres.free 4
              have r5 : wf.cell? ⟨gr, 5, none⟩ = some (.int .u64 0) := hres.cell 5
              have s5 := hres.free 5
              have r6 : wf.cell? ⟨gr, 6, none⟩ = some (.string { data := #[] }) := hres.cell 6
              have s6 := hres.free 6
              have r7 : wf.cell? ⟨gr, 7, none⟩ = some (.slice none 0 0) := hres.cell 7
              have s7 := hres.free 7
              obtain ⟨wz, hwz⟩ : ∃ wz, wz = ((((((((wf.setCell ⟨gr, 0, none⟩ (.int .i64 0)).setCell ⟨gr, 1, none⟩ (.int .i64 0)).setCell ⟨gr, 2, none⟩ (.int .i64 0)).setCell ⟨gr, 3, none⟩ (.int .i64 0)).setCell ⟨gr, 4, none⟩ (.int .i64 0)).setCell ⟨gr, 5, none⟩ (.int .u64 0)).setCell ⟨gr, 6, none⟩ (.string { data := #[] })).setCell ⟨gr, 7, none⟩ (.slice none 0 0)) := ⟨_, rfl⟩
              have hfz : Fr (fun k => k = gr) wf wz := by
                rw [hwz]
                exact (((((((((Fr.refl (fun k => k = gr) wf).setCell (p := ⟨gr, 0, none⟩) (fun _ => rfl) _).setCell (p := ⟨gr, 1, none⟩) (fun _ => rfl) _).setCell (p := ⟨gr, 2, none⟩) (fun _ => rfl) _).setCell (p := ⟨gr, 3, none⟩) (fun _ => rfl) _).setCell (p := ⟨gr, 4, none⟩) (fun _ => rfl) _).setCell (p := ⟨gr, 5, none⟩) (fun _ => rfl) _).setCell (p := ⟨gr, 6, none⟩) (fun _ => rfl) _).setCell (p := ⟨gr, 7, none⟩) (fun _ => rfl) _)
              have HBZ : Hid (Bk wz gr 36 #[.int .i64 0, .int .i64 0, .int .i64 0, .int .i64 0, .int .i64 0, .int .u64 0, .string { data := #[] }, .slice none 0 0]) := by
                show Bk _ _ _ _
                rw [hwz]
                refine Bk.cast ((((((((hres.put 0 (.int .i64 0)).put 1 (.int .i64 0)).put 2 (.int .i64 0)).put 3 (.int .i64 0)).put 4 (.int .i64 0)).put 5 (.int .u64 0)).put 6 (.string { data := #[] })).put 7 (.slice none 0 0)) ?_
                unfold zRef
                simp only [List.setIfInBounds_toArray, List.set_cons_zero, List.set_cons_succ]
              have HFIN : Hid (DReadPost w l (.returned (.tuple #[.agg zRef, .int .i64 31])) wz) :=
                ⟨m, false, HIN.out _ (own_fr HXF.out.vo hfz (fun k hk e => own_apart HXF.out.vo hres (by decide) (e ▸ hk))), HXF.out.fr.step hfz (fun k hk e => by omega), by rw [if_neg (by decide : ¬ false = true)], (fun h => by cases h), fun q h1 h2 h3 => absurd (HBACK.out q h1 h2 h3) HNOT.out⟩
              have HWZ := Lib.hid hwz
              clear hwz hfz hres HXF
              rw [← hgr]
              clear hgr
              go_wp2_with fail
              rw [← HWZ.out]
              clear HWZ
              have z0 : wz.cell? ⟨gr, 0, none⟩ = some (.int .i64 0) := HBZ.out.cell 0
              have z1 : wz.cell? ⟨gr, 1, none⟩ = some (.int .i64 0) := HBZ.out.cell 1
              have z2 : wz.cell? ⟨gr, 2, none⟩ = some (.int .i64 0) := HBZ.out.cell 2
              have z3 : wz.cell? ⟨gr, 3, none⟩ = some (.int .i64 0) := HBZ.out.cell 3
              have z4 : wz.cell? ⟨gr, 4, none⟩ = some (.int .i64 0) := HBZ.out.cell 4
              have z5 : wz.cell? ⟨gr, 5, none⟩ = some (.int .u64 0) := HBZ.out.cell 5
              have z6 : wz.cell? ⟨gr, 6, none⟩ = some (.string { data := #[] }) := HBZ.out.cell 6
              have z7 : wz.cell? ⟨gr, 7, none⟩ = some (.slice none 0 0) := HBZ.out.cell 7
              refine bodyPost_ret (v := .tuple #[.agg zRef, .int .i64 31]) ?_ rfl HFIN.out
              unfold zRef
              simp [results, Tryd.results16, go_sem, z0, z1, z2, z3, z4, z5, z6, z7]
            obtain ⟨hbz, hez⟩ : B = 0 ∧ E = 0 := ⟨by omega, by omega⟩
            have HBZ0 := Lib.hid hbz
            have HEZ0 := Lib.hid hez
            have ewz0 : IntKind.i64.wrap ((B : Int) + (E : Int)) = 0 := ewz.trans (by omega)
            have ewz1 : wrap64 ((B : Int) + (E : Int)) = 0 := by unfold wrap64; omega
            clear hbz hez hbe ewz
            go_wp2_with fail
            refine HK.out.mono ?_
            clear HK
            rintro e w6 ⟨rfl, q, hq, hy⟩
            have HX6 := Lib.hid (HX.out.eyed hy)
            have hend := reyeEnd_any w6 ge A c l q HX6.out.eye (by have := HL.out; omega)
            rw [hq] at hend
            clear hq hy HX y0 y1 y2
            by_cases hf : (rN (restK l j)).2 = []
            rotate_left
            · rw [if_neg hf] at hend
              have HENDC := Lib.hid hend
              have HNOT : Hid (¬ OkR l j p) := fun h => hf h.fin
              clear hend hf
              go_wp2_with fail
              refine HENDC.out.mono ?_
              clear HENDC
              rintro e wf ⟨rfl, hff⟩
              have HXF := Lib.hid (HX6.out.nofr hff)
              clear hff HX6
              obtain ⟨gr, hgr⟩ : ∃ gr, gr = w.heap.size := ⟨_, rfl⟩
              have hres : Bk wf gr 36 zRef := by rw [hgr]; exact HXF.out.res
              have r0 : wf.cell? ⟨gr, 0, none⟩ = some (.int .i64 0) := hres.cell 0
              have s0 := hres.free 0
              have r1 : wf.cell? ⟨gr, 1, none⟩ = some (.int .i64 0) := hres.cell 1
              have s1 := hres.free 1
              have r2 : wf.cell? ⟨gr, 2, none⟩ = some (.int .i64 0) := hres.cell 2
              have s2 := hres.free 2
              have r3 : wf.cell? ⟨gr, 3, none⟩ = some (.int .i64 0) := hres.cell 3
              have s3 := hres.free 3
              have r4 : wf.cell? ⟨gr, 4, none⟩ = some (.int .i64 0) := hres.cell 4
              have s4 := hres.free 4
              have r5 : wf.cell? ⟨gr, 5, none⟩ = some (.int .u64 0) := hres.cell 5
              have s5 := hres.free 5
              have r6 : wf.cell? ⟨gr, 6, none⟩ = some (.string { data := #[] }) := hres.cell 6
              have s6 := hres.free 6
              have r7 : wf.cell? ⟨gr, 7, none⟩ = some (.slice none 0 0) := hres.cell 7
              have s7 := hres.free 7
              obtain ⟨wz, hwz⟩ : ∃ wz, wz = ((((((((wf.setCell ⟨gr, 0, none⟩ (.int .i64 0)).setCell ⟨gr, 1, none⟩ (.int .i64 0)).setCell ⟨gr, 2, none⟩ (.int .i64 0)).setCell ⟨gr, 3, none⟩ (.int .i64 0)).setCell ⟨gr, 4, none⟩ (.int .i64 0)).setCell ⟨gr, 5, none⟩ (.int .u64 0)).setCell ⟨gr, 6, none⟩ (.string { data := #[] })).setCell ⟨gr, 7, none⟩ (.slice none 0 0)) := ⟨_, rfl⟩
              have hfz : Fr (fun k => k = gr) wf wz := by
                rw [hwz]
                exact (((((((((Fr.refl (fun k => k = gr) wf).setCell (p := ⟨gr, 0, none⟩) (fun _ => rfl) _).setCell (p := ⟨gr, 1, none⟩) (fun _ => rfl) _).setCell (p := ⟨gr, 2, none⟩) (fun _ => rfl) _).setCell (p := ⟨gr, 3, none⟩) (fun _ => rfl) _).setCell (p := ⟨gr, 4, none⟩) (fun _ => rfl) _).setCell (p := ⟨gr, 5, none⟩) (fun _ => rfl) _).setCell (p := ⟨gr, 6, none⟩) (fun _ => rfl) _).setCell (p := ⟨gr, 7, none⟩) (fun _ => rfl) _)
              have HBZ : Hid (Bk wz gr 36 #[.int .i64 0, .int .i64 0, .int .i64 0, .int .i64 0, .int .i64 0, .int .u64 0, .string { data := #[] }, .slice none 0 0]) := by
                show Bk _ _ _ _
                rw [hwz]
                refine Bk.cast ((((((((hres.put 0 (.int .i64 0)).put 1 (.int .i64 0)).put 2 (.int .i64 0)).put 3 (.int .i64 0)).put 4 (.int .i64 0)).put 5 (.int .u64 0)).put 6 (.string { data := #[] })).put 7 (.slice none 0 0)) ?_
                unfold zRef
                simp only [List.setIfInBounds_toArray, List.set_cons_zero, List.set_cons_succ]
              have HFIN : Hid (DReadPost w l (.returned (.tuple #[.agg zRef, .int .i64 31])) wz) :=
                ⟨m, false, HIN.out _ (own_fr HXF.out.vo hfz (fun k hk e => own_apart HXF.out.vo hres (by decide) (e ▸ hk))), HXF.out.fr.step hfz (fun k hk e => by omega), by rw [if_neg (by decide : ¬ false = true)], (fun h => by cases h), fun q h1 h2 h3 => absurd (HBACK.out q h1 h2 h3) HNOT.out⟩
              have HWZ := Lib.hid hwz
              clear hwz hfz hres HXF
              rw [← hgr]
              clear hgr
              go_wp2_with fail
              rw [← HWZ.out]
              clear HWZ
              have z0 : wz.cell? ⟨gr, 0, none⟩ = some (.int .i64 0) := HBZ.out.cell 0
              have z1 : wz.cell? ⟨gr, 1, none⟩ = some (.int .i64 0) := HBZ.out.cell 1
              have z2 : wz.cell? ⟨gr, 2, none⟩ = some (.int .i64 0) := HBZ.out.cell 2
              have z3 : wz.cell? ⟨gr, 3, none⟩ = some (.int .i64 0) := HBZ.out.cell 3
              have z4 : wz.cell? ⟨gr, 4, none⟩ = some (.int .i64 0) := HBZ.out.cell 4
              have z5 : wz.cell? ⟨gr, 5, none⟩ = some (.int .u64 0) := HBZ.out.cell 5
              have z6 : wz.cell? ⟨gr, 6, none⟩ = some (.string { data := #[] }) := HBZ.out.cell 6
              have z7 : wz.cell? ⟨gr, 7, none⟩ = some (.slice none 0 0) := HBZ.out.cell 7
              refine bodyPost_ret (v := .tuple #[.agg zRef, .int .i64 31]) ?_ rfl HFIN.out
              unfold zRef
              simp [results, Tryd.results16, go_sem, z0, z1, z2, z3, z4, z5, z6, z7]
            rw [if_pos hf] at hend
            have HENDC := Lib.hid hend
            have HF0 := Lib.hid hf
            clear hend hf
            go_wp2_with fail
            refine HENDC.out.mono ?_
            clear HENDC
            rintro e w7 ⟨rfl, hff⟩
            have HX7 := Lib.hid (HX6.out.nofr hff)
            clear hff HX6
            have HSU := Lib.hid (dsum_any w7 A p c (l.take p) (by rw [List.length_take]; omega) (by rw [cb_take]; exact HX7.out.eye.rd.take p) (by rw [List.length_take]; have := HL.out; omega))
            obtain ⟨sv, hsv⟩ : ∃ sv, sv = sumN (l.take p) := ⟨_, rfl⟩
            have hsl : sv < 4294967296 := by rw [hsv]; exact sumN_lt _
            have hsv2 : ((Crc.crc (l.take p)).toNat : Nat) = sv := hsv.symm
            rw [hsv2] at HSU
            have HSV := Lib.hid hsv
            have em : ((sv : Int) % 18446744073709551616) = sv := by omega
            clear hsv hsv2
            by_cases hss : S = sv
            rotate_left
            · have hs1 : ((S : Int) != (sv : Int)) = true := by simp; omega
              have HNOT : Hid (¬ OkR l j p) := fun h => by
                have h1 := h.val
                rw [← HS.out, ← HSV.out] at h1
                exact hss h1
              clear hss
              go_wp2_with fail
              refine HSU.out.mono ?_
              clear HSU
              rintro e wf ⟨rfl, hff⟩
              have HXF := Lib.hid (HX7.out.nofr hff)
              clear hff HX7
              obtain ⟨gr, hgr⟩ : ∃ gr, gr = w.heap.size := ⟨_, rfl⟩
              have hres : Bk wf gr 36 zRef := by rw [hgr]; exact HXF.out.res
              have r0 : wf.cell? ⟨gr, 0, none⟩ = some (.int .i64 0) := hres.cell 0
              have s0 := hres.free 0
              have r1 : wf.cell? ⟨gr, 1, none⟩ = some (.int .i64 0) := hres.cell 1
              have s1 := hres.free 1
              have r2 : wf.cell? ⟨gr, 2, none⟩ = some (.int .i64 0) := hres.cell 2
              have s2 := hres.free 2
              have r3 : wf.cell? ⟨gr, 3, none⟩ = some (.int .i64 0) := hres.cell 3
              have s3 := hres.free 3
              have r4 : wf.cell? ⟨gr, 4, none⟩ = some (.int .i64 0) := hres.cell 4
              have s4 := hres.free 4
              have r5 : wf.cell? ⟨gr, 5, none⟩ = some (.int .u64 0) := hres.cell 5
              have s5 := hres.free 5
              have r6 : wf.cell? ⟨gr, 6, none⟩ = some (.string { data := #[] }) := hres.cell 6
              have s6 := hres.free 6
              have r7 : wf.cell? ⟨gr, 7, none⟩ = some (.slice none 0 0) := hres.cell 7
              have s7 := hres.free 7
              obtain ⟨wz, hwz⟩ : ∃ wz, wz = ((((((((wf.setCell ⟨gr, 0, none⟩ (.int .i64 0)).setCell ⟨gr, 1, none⟩ (.int .i64 0)).setCell ⟨gr, 2, none⟩ (.int .i64 0)).setCell ⟨gr, 3, none⟩ (.int .i64 0)).setCell ⟨gr, 4, none⟩ (.int .i64 0)).setCell ⟨gr, 5, none⟩ (.int .u64 0)).setCell ⟨gr, 6, none⟩ (.string { data := #[] })).setCell ⟨gr, 7, none⟩ (.slice none 0 0)) := ⟨_, rfl⟩
              have hfz : Fr (fun k => k = gr) wf wz := by
                rw [hwz]
                exact (((((((((Fr.refl (fun k => k = gr) wf).setCell (p := ⟨gr, 0, none⟩) (fun _ => rfl) _).setCell (p := ⟨gr, 1, none⟩) (fun _ => rfl) _).setCell (p := ⟨gr, 2, none⟩) (fun _ => rfl) _).setCell (p := ⟨gr, 3, none⟩) (fun _ => rfl) _).setCell (p := ⟨gr, 4, none⟩) (fun _ => rfl) _).setCell (p := ⟨gr, 5, none⟩) (fun _ => rfl) _).setCell (p := ⟨gr, 6, none⟩) (fun _ => rfl) _).setCell (p := ⟨gr, 7, none⟩) (fun _ => rfl) _)
              have HBZ : Hid (Bk wz gr 36 #[.int .i64 0, .int .i64 0, .int .i64 0, .int .i64 0, .int .i64 0, .int .u64 0, .string { data := #[] }, .slice none 0 0]) := by
                show Bk _ _ _ _
                rw [hwz]
                refine Bk.cast ((((((((hres.put 0 (.int .i64 0)).put 1 (.int .i64 0)).put 2 (.int .i64 0)).put 3 (.int .i64 0)).put 4 (.int .i64 0)).put 5 (.int .u64 0)).put 6 (.string { data := #[] })).put 7 (.slice none 0 0)) ?_
                unfold zRef
                simp only [List.setIfInBounds_toArray, List.set_cons_zero, List.set_cons_succ]
              have HFIN : Hid (DReadPost w l (.returned (.tuple #[.agg zRef, .int .i64 31])) wz) :=
                ⟨m, false, HIN.out _ (own_fr HXF.out.vo hfz (fun k hk e => own_apart HXF.out.vo hres (by decide) (e ▸ hk))), HXF.out.fr.step hfz (fun k hk e => by omega), by rw [if_neg (by decide : ¬ false = true)], (fun h => by cases h), fun q h1 h2 h3 => absurd (HBACK.out q h1 h2 h3) HNOT.out⟩
              have HWZ := Lib.hid hwz
              clear hwz hfz hres HXF
              rw [← hgr]
              clear hgr
              go_wp2_with fail
              rw [← HWZ.out]
              clear HWZ
              have z0 : wz.cell? ⟨gr, 0, none⟩ = some (.int .i64 0) := HBZ.out.cell 0
              have z1 : wz.cell? ⟨gr, 1, none⟩ = some (.int .i64 0) := HBZ.out.cell 1
              have z2 : wz.cell? ⟨gr, 2, none⟩ = some (.int .i64 0) := HBZ.out.cell 2
              have z3 : wz.cell? ⟨gr, 3, none⟩ = some (.int .i64 0) := HBZ.out.cell 3
              have z4 : wz.cell? ⟨gr, 4, none⟩ = some (.int .i64 0) := HBZ.out.cell 4
              have z5 : wz.cell? ⟨gr, 5, none⟩ = some (.int .u64 0) := HBZ.out.cell 5
              have z6 : wz.cell? ⟨gr, 6, none⟩ = some (.string { data := #[] }) := HBZ.out.cell 6
              have z7 : wz.cell? ⟨gr, 7, none⟩ = some (.slice none 0 0) := HBZ.out.cell 7
              refine bodyPost_ret (v := .tuple #[.agg zRef, .int .i64 31]) ?_ rfl HFIN.out
              unfold zRef
              simp [results, Tryd.results16, go_sem, z0, z1, z2, z3, z4, z5, z6, z7]
            have hs1 : ((S : Int) != (sv : Int)) = false := by simp; omega
            have HSS := Lib.hid hss
            clear hss
            go_wp2_with fail
            refine HSU.out.mono ?_
            clear HSU
            rintro e w8 ⟨rfl, hff⟩
            have HX8 := Lib.hid (HX7.out.nofr hff)
            clear hff HX7
            obtain ⟨d0, d1, d2, d3, d4, d5, d6, d7⟩ := HX8.out.bm.msg
            have HRG := Lib.hid (dright_any w8 m (HIN.out _ HX8.out.vo))
            unfold mgv mga at HRG
            by_cases hrg : rightM m = true
            rotate_left
            · rw [Bool.eq_false_iff.2 hrg] at HRG
              have HNOT : Hid (¬ OkR l j p) := fun h => hrg (by rw [← HLIKE.out.right]; exact h.rgt)
              clear hrg
              go_wp2_with fail
              refine HRG.out.mono ?_
              clear HRG
              rintro e wf ⟨rfl, hff⟩
              have HXF := Lib.hid (HX8.out.nofr hff)
              clear hff HX8 d0 d1 d2 d3 d4 d5 d6 d7
              obtain ⟨gr, hgr⟩ : ∃ gr, gr = w.heap.size := ⟨_, rfl⟩
              have hres : Bk wf gr 36 zRef := by rw [hgr]; exact HXF.out.res
              have r0 : wf.cell? ⟨gr, 0, none⟩ = some (.int .i64 0) := hres.cell 0
              have s0 := hres.free 0
              have r1 : wf.cell? ⟨gr, 1, none⟩ = some (.int .i64 0) := hres.cell 1
              have s1 := hres.free 1
              have r2 : wf.cell? ⟨gr, 2, none⟩ = some (.int .i64 0) := hres.cell 2
              have s2 := hres.free 2
              have r3 : wf.cell? ⟨gr, 3, none⟩ = some (.int .i64 0) := hres.cell 3
              have s3 := hres.free 3
              have r4 : wf.cell? ⟨gr, 4, none⟩ = some (.int .i64 0) := hres.cell 4
              have s4 := hres.free 4
              have r5 : wf.cell? ⟨gr, 5, none⟩ = some (.int .u64 0) := hres.cell 5
              have s5 := hres.free 5
              have r6 : wf.cell? ⟨gr, 6, none⟩ = some (.string { data := #[] }) := hres.cell 6
              have s6 := hres.free 6
              have r7 : wf.cell? ⟨gr, 7, none⟩ = some (.slice none 0 0) := hres.cell 7
              have s7 := hres.free 7
              obtain ⟨wz, hwz⟩ : ∃ wz, wz = ((((((((wf.setCell ⟨gr, 0, none⟩ (.int .i64 0)).setCell ⟨gr, 1, none⟩ (.int .i64 0)).setCell ⟨gr, 2, none⟩ (.int .i64 0)).setCell ⟨gr, 3, none⟩ (.int .i64 0)).setCell ⟨gr, 4, none⟩ (.int .i64 0)).setCell ⟨gr, 5, none⟩ (.int .u64 0)).setCell ⟨gr, 6, none⟩ (.string { data := #[] })).setCell ⟨gr, 7, none⟩ (.slice none 0 0)) := ⟨_, rfl⟩
              have hfz : Fr (fun k => k = gr) wf wz := by
                rw [hwz]
                exact (((((((((Fr.refl (fun k => k = gr) wf).setCell (p := ⟨gr, 0, none⟩) (fun _ => rfl) _).setCell (p := ⟨gr, 1, none⟩) (fun _ => rfl) _).setCell (p := ⟨gr, 2, none⟩) (fun _ => rfl) _).setCell (p := ⟨gr, 3, none⟩) (fun _ => rfl) _).setCell (p := ⟨gr, 4, none⟩) (fun _ => rfl) _).setCell (p := ⟨gr, 5, none⟩) (fun _ => rfl) _).setCell (p := ⟨gr, 6, none⟩) (fun _ => rfl) _).setCell (p := ⟨gr, 7, none⟩) (fun _ => rfl) _)
              have HBZ : Hid (Bk wz gr 36 #[.int .i64 0, .int .i64 0, .int .i64 0, .int .i64 0, .int .i64 0, .int .u64 0, .string { data := #[] }, .slice none 0 0]) := by
                show Bk _ _ _ _
                rw [hwz]
                refine Bk.cast ((((((((hres.put 0 (.int .i64 0)).put 1 (.int .i64 0)).put 2 (.int .i64 0)).put 3 (.int .i64 0)).put 4 (.int .i64 0)).put 5 (.int .u64 0)).put 6 (.string { data := #[] })).put 7 (.slice none 0 0)) ?_
                unfold zRef
                simp only [List.setIfInBounds_toArray, List.set_cons_zero, List.set_cons_succ]
              have HFIN : Hid (DReadPost w l (.returned (.tuple #[.agg zRef, .int .i64 31])) wz) :=
                ⟨m, false, HIN.out _ (own_fr HXF.out.vo hfz (fun k hk e => own_apart HXF.out.vo hres (by decide) (e ▸ hk))), HXF.out.fr.step hfz (fun k hk e => by omega), by rw [if_neg (by decide : ¬ false = true)], (fun h => by cases h), fun q h1 h2 h3 => absurd (HBACK.out q h1 h2 h3) HNOT.out⟩
              have HWZ := Lib.hid hwz
              clear hwz hfz hres HXF
              rw [← hgr]
              clear hgr
              go_wp2_with fail
              rw [← HWZ.out]
              clear HWZ
              have z0 : wz.cell? ⟨gr, 0, none⟩ = some (.int .i64 0) := HBZ.out.cell 0
              have z1 : wz.cell? ⟨gr, 1, none⟩ = some (.int .i64 0) := HBZ.out.cell 1
              have z2 : wz.cell? ⟨gr, 2, none⟩ = some (.int .i64 0) := HBZ.out.cell 2
              have z3 : wz.cell? ⟨gr, 3, none⟩ = some (.int .i64 0) := HBZ.out.cell 3
              have z4 : wz.cell? ⟨gr, 4, none⟩ = some (.int .i64 0) := HBZ.out.cell 4
              have z5 : wz.cell? ⟨gr, 5, none⟩ = some (.int .u64 0) := HBZ.out.cell 5
              have z6 : wz.cell? ⟨gr, 6, none⟩ = some (.string { data := #[] }) := HBZ.out.cell 6
              have z7 : wz.cell? ⟨gr, 7, none⟩ = some (.slice none 0 0) := HBZ.out.cell 7
              refine bodyPost_ret (v := .tuple #[.agg zRef, .int .i64 31]) ?_ rfl HFIN.out
              unfold zRef
              simp [results, Tryd.results16, go_sem, z0, z1, z2, z3, z4, z5, z6, z7]
            rw [hrg] at HRG
            have HYES : Hid (rightM m = true ∧ NumsOk m ∧ l = msgB m) := by
              have hok : OkR l j p := ⟨by rw [← HBJ.out]; exact HBZ0.out, by rw [← HE.out]; exact HEZ0.out, HF0.out, by rw [← HS.out, ← HSV.out]; exact HSS.out, by rw [HLIKE.out.right]; exact hrg⟩
              have hnn : nn = 0 := by
                rcases HEX.out with h | h
                · exact h
                · exact absurd HBZ0.out h
              obtain ⟨h1, h2⟩ := hok.eq (by have := HC.out.1; omega) HPJ.out
              refine ⟨hrg, ⟨by rw [← HLIKE.out.ballot]; exact h2.1, by rw [← HLIKE.out.votes]; exact h2.2⟩, ?_⟩
              rw [← HLIKE.out.msg]
              exact h1
            clear hrg
            go_wp2_with fail
            refine HRG.out.mono ?_
            clear HRG
            rintro e wf ⟨rfl, hff⟩
            have HXF := Lib.hid (HX8.out.nofr hff)
            clear hff HX8 d0 d1 d2 d3 d4 d5 d6 d7
            obtain ⟨gr, hgr⟩ : ∃ gr, gr = w.heap.size := ⟨_, rfl⟩
            have hres : Bk wf gr 36 zRef := by rw [hgr]; exact HXF.out.res
            have r0 : wf.cell? ⟨gr, 0, none⟩ = some (.int .i64 0) := hres.cell 0
            have s0 := hres.free 0
            have r1 : wf.cell? ⟨gr, 1, none⟩ = some (.int .i64 0) := hres.cell 1
            have s1 := hres.free 1
            have r2 : wf.cell? ⟨gr, 2, none⟩ = some (.int .i64 0) := hres.cell 2
            have s2 := hres.free 2
            have r3 : wf.cell? ⟨gr, 3, none⟩ = some (.int .i64 0) := hres.cell 3
            have s3 := hres.free 3
            have r4 : wf.cell? ⟨gr, 4, none⟩ = some (.int .i64 0) := hres.cell 4
            have s4 := hres.free 4
            have r5 : wf.cell? ⟨gr, 5, none⟩ = some (.int .u64 0) := hres.cell 5
            have s5 := hres.free 5
            have r6 : wf.cell? ⟨gr, 6, none⟩ = some (.string { data := #[] }) := hres.cell 6
            have s6 := hres.free 6
            have r7 : wf.cell? ⟨gr, 7, none⟩ = some (.slice none 0 0) := hres.cell 7
            have s7 := hres.free 7
            have p0 : wf.cell? ⟨gm, 0, none⟩ = some (.int .i64 m.kind) := HXF.out.bm.cell 0
            have p1 : wf.cell? ⟨gm, 1, none⟩ = some (.int .i64 m.frm) := HXF.out.bm.cell 1
            have p2 : wf.cell? ⟨gm, 2, none⟩ = some (.int .i64 m.dst) := HXF.out.bm.cell 2
            have p3 : wf.cell? ⟨gm, 3, none⟩ = some (.int .i64 m.grp) := HXF.out.bm.cell 3
            have p4 : wf.cell? ⟨gm, 4, none⟩ = some (.int .i64 m.slot) := HXF.out.bm.cell 4
            have p5 : wf.cell? ⟨gm, 5, none⟩ = some (.int .u64 (m.ballot : Int)) := HXF.out.bm.cell 5
            have p6 : wf.cell? ⟨gm, 6, none⟩ = some (.string (bstr m.value)) := HXF.out.bm.cell 6
            have p7 : wf.cell? ⟨gm, 7, none⟩ = some (.slice m.va m.votes.length m.vc) := HXF.out.bm.cell 7
            obtain ⟨wz, hwz⟩ : ∃ wz, wz = ((((((((wf.setCell ⟨gr, 0, none⟩ (.int .i64 m.kind)).setCell ⟨gr, 1, none⟩ (.int .i64 m.frm)).setCell ⟨gr, 2, none⟩ (.int .i64 m.dst)).setCell ⟨gr, 3, none⟩ (.int .i64 m.grp)).setCell ⟨gr, 4, none⟩ (.int .i64 m.slot)).setCell ⟨gr, 5, none⟩ (.int .u64 (m.ballot : Int))).setCell ⟨gr, 6, none⟩ (.string (bstr m.value))).setCell ⟨gr, 7, none⟩ (.slice m.va m.votes.length m.vc)) := ⟨_, rfl⟩
            have hfz : Fr (fun k => k = gr) wf wz := by
              rw [hwz]
              exact (((((((((Fr.refl (fun k => k = gr) wf).setCell (p := ⟨gr, 0, none⟩) (fun _ => rfl) _).setCell (p := ⟨gr, 1, none⟩) (fun _ => rfl) _).setCell (p := ⟨gr, 2, none⟩) (fun _ => rfl) _).setCell (p := ⟨gr, 3, none⟩) (fun _ => rfl) _).setCell (p := ⟨gr, 4, none⟩) (fun _ => rfl) _).setCell (p := ⟨gr, 5, none⟩) (fun _ => rfl) _).setCell (p := ⟨gr, 6, none⟩) (fun _ => rfl) _).setCell (p := ⟨gr, 7, none⟩) (fun _ => rfl) _)
            have HBZ : Hid (Bk wz gr 36 #[.int .i64 m.kind, .int .i64 m.frm, .int .i64 m.dst, .int .i64 m.grp, .int .i64 m.slot, .int .u64 (m.ballot : Int), .string (bstr m.value), .slice m.va m.votes.length m.vc]) := by
              show Bk _ _ _ _
              rw [hwz]
              refine Bk.cast ((((((((hres.put 0 (.int .i64 m.kind)).put 1 (.int .i64 m.frm)).put 2 (.int .i64 m.dst)).put 3 (.int .i64 m.grp)).put 4 (.int .i64 m.slot)).put 5 (.int .u64 (m.ballot : Int))).put 6 (.string (bstr m.value))).put 7 (.slice m.va m.votes.length m.vc)) ?_
              unfold zRef
              simp only [List.setIfInBounds_toArray, List.set_cons_zero, List.set_cons_succ]
            have HFIN : Hid (DReadPost w l (.returned (.tuple #[mgv m, .int .i64 0])) wz) :=
              ⟨m, true, HIN.out _ (own_fr HXF.out.vo hfz (fun k hk e => own_apart HXF.out.vo hres (by decide) (e ▸ hk))), HXF.out.fr.step hfz (fun k hk e => by omega), by rw [if_pos rfl], (fun _ => HYES.out), fun _ _ _ _ => rfl⟩
            have HWZ := Lib.hid hwz
            clear hwz hfz hres HXF
            rw [← hgr]
            clear hgr
            go_wp2_with fail
            rw [← HWZ.out]
            clear HWZ
            have z0 : wz.cell? ⟨gr, 0, none⟩ = some (.int .i64 m.kind) := HBZ.out.cell 0
            have z1 : wz.cell? ⟨gr, 1, none⟩ = some (.int .i64 m.frm) := HBZ.out.cell 1
            have z2 : wz.cell? ⟨gr, 2, none⟩ = some (.int .i64 m.dst) := HBZ.out.cell 2
            have z3 : wz.cell? ⟨gr, 3, none⟩ = some (.int .i64 m.grp) := HBZ.out.cell 3
            have z4 : wz.cell? ⟨gr, 4, none⟩ = some (.int .i64 m.slot) := HBZ.out.cell 4
            have z5 : wz.cell? ⟨gr, 5, none⟩ = some (.int .u64 (m.ballot : Int)) := HBZ.out.cell 5
            have z6 : wz.cell? ⟨gr, 6, none⟩ = some (.string (bstr m.value)) := HBZ.out.cell 6
            have z7 : wz.cell? ⟨gr, 7, none⟩ = some (.slice m.va m.votes.length m.vc) := HBZ.out.cell 7
            refine bodyPost_ret (v := .tuple #[mgv m, .int .i64 0]) ?_ rfl HFIN.out
            unfold mgv mga
            simp [results, Tryd.results16, go_sem, z0, z1, z2, z3, z4, z5, z6, z7]
          have hbl : ((B : Int) == 0) = true := by simp; omega
          have HB0 := Lib.hid hB0
          have HN0 : Hid (0 < nn) := by show _ < _; omega
          obtain ⟨ls, hls⟩ : ∃ ls, ls = restK l j := ⟨_, rfl⟩
          have HPL : Hid (l.drop p = ls) := by rw [hls]; exact HPJ.out
          have HK := Lib.hid (HX.out.eye.num_ (by have := HL.out; omega) HPL.out)
          obtain ⟨x1, hx1⟩ : ∃ x, x = (rN ls).1 := ⟨_, rfl⟩
          obtain ⟨ls1, hls1⟩ : ∃ x, x = (rN ls).2 := ⟨_, rfl⟩
          obtain ⟨E1, hE1⟩ : ∃ x, x = errN ls := ⟨_, rfl⟩
          obtain ⟨x2, hx2⟩ : ∃ x, x = (rN ls1).1 := ⟨_, rfl⟩
          obtain ⟨ls2, hls2⟩ : ∃ x, x = (rN ls1).2 := ⟨_, rfl⟩
          obtain ⟨E2, hE2⟩ : ∃ x, x = errN ls1 := ⟨_, rfl⟩
          obtain ⟨x3, hx3⟩ : ∃ x, x = (rT ls2).1 := ⟨_, rfl⟩
          obtain ⟨ls3, hls3⟩ : ∃ x, x = (rT ls2).2 := ⟨_, rfl⟩
          obtain ⟨E3, hE3⟩ : ∃ x, x = errT ls2 := ⟨_, rfl⟩
          have b1 : E1 ≤ 31 := by rw [hE1]; exact errN_le _
          have b2 : E2 ≤ 31 := by rw [hE2]; exact errN_le _
          have b3 : E3 ≤ 31 := by rw [hE3]; exact errT_le _
          have HX1 : Hid (x1 < 2 ^ 64) := by show _ < _; rw [hx1]; exact rN_lt _
          rw [← hx1, ← hls1, ← hE1] at HK
          have HBZ : Hid (B + (E1 + E2 + E3) = bad8 l + errs (j + 1) (rest8 l)) := by
            show _ = _
            have e1 : errV ls = E1 + E2 + E3 := by
              rw [errV_eq, ← hls1, ← hls2, ← hE1, ← hE2, ← hE3]
            rw [HBJ.out, errs_succ, restK_eq, ← hls, e1]
            omega
          have HRZ : Hid (ls3 = restK l (j + 1)) := by
            show _ = _
            rw [restK_succ, ← hls, rVote_2, ← hls1, ← hls2, ← hls3]
          have HNV : Hid ((rVote ls).1 = ⟨x1, x2, x3⟩) := by
            show _ = _
            rw [rVote_1, ← hls1, ← hls2, ← hx1, ← hx2, ← hx3]
          have HJB : Hid (j + 1 ≤ 20001) := by
            have hz := HBJ.out
            rw [hB0] at hz
            have := (canonVs (rest8 l) j (by omega)).2.1
            have := rest8_len l
            have := HL.out
            show _ ≤ _
            omega
          have ew1 : IntKind.i64.wrap ((E1 : Int) + (E2 : Int)) = ((E1 + E2 : Nat) : Int) := (IntWalk.i64_in ((E1 : Int) + (E2 : Int)) (by omega)).trans (by omega)
          have ew2 : IntKind.i64.wrap (((E1 + E2 : Nat) : Int) + (E3 : Int)) = ((E1 + E2 + E3 : Nat) : Int) := (IntWalk.i64_in (((E1 + E2 : Nat) : Int) + (E3 : Int)) (by omega)).trans (by omega)
          have ew3 : IntKind.i64.wrap ((B : Int) + ((E1 + E2 + E3 : Nat) : Int)) = ((B + (E1 + E2 + E3) : Nat) : Int) := (IntWalk.i64_in ((B : Int) + ((E1 + E2 + E3 : Nat) : Int)) (by omega)).trans (by omega)
          have ew4 : IntKind.u64.wrap ((nn : Int) - 1) = ((nn - 1 : Nat) : Int) := (IntWalk.u64_in ((nn : Int) - 1) (by omega)).trans (by omega)
          have hBz : B + (E1 + E2 + E3) ≤ 400 := by omega
          have HQ := Lib.hid (And.intro hx2 (And.intro hls2 (And.intro hE2 (And.intro hx3 (And.intro hls3 hE3)))))
          have HNEXT0 := Lib.hid hls
          clear hls hx1 hls1 hE1 hx2 hls2 hE2 hx3 hls3 hE3 hB0 hn0
          go_wp2_with fail
          refine HK.out.mono ?_
          clear HK
          rintro e w6 ⟨rfl, q1, hq1, hy1⟩
          have HX6 := Lib.hid (HX.out.eyed hy1)
          have hk := HX6.out.eye.num_ (by have := HL.out; omega) hq1
          rw [← HQ.out.1, ← HQ.out.2.1, ← HQ.out.2.2.1] at hk
          have HK := Lib.hid hk
          clear hq1 hy1 hk HX
          go_wp2_with fail
          refine HK.out.mono ?_
          clear HK
          rintro e w7 ⟨rfl, q2, hq2, hy2⟩
          have HX7 := Lib.hid (HX6.out.eyed hy2)
          have hk := HX7.out.eye.text_ HA.out (by have := HL.out; omega) hq2
          rw [← HQ.out.2.2.2.1, ← HQ.out.2.2.2.2.1, ← HQ.out.2.2.2.2.2] at hk
          have HK := Lib.hid hk
          clear hq2 hy2 hk HX6
          go_wp2_with fail
          refine HK.out.mono ?_
          clear HK
          rintro e we ⟨v3, rfl, ho3, q3, hq3, hy3⟩
          obtain ⟨A3, c3, rfl, _, _⟩ := own_form ho3
          have HPZ : Hid (l.drop q3 = restK l (j + 1)) := by show _ = _; rw [hq3, HRZ.out]
          obtain ⟨m, hm⟩ : ∃ m, m = mR l j A' c' := ⟨_, rfl⟩
          have hx7 := HX7.out
          rw [← hm] at hx7
          have HXE := Lib.hid (hx7.eyed hy3)
          have HGM : Hid (gm < w7.heap.size) := hx7.bm.lt
          obtain ⟨n3, hn3⟩ : ∃ n, n = x3.length := ⟨_, rfl⟩
          have HCV : Hid (∀ W, SV we w.heap.size gm m W → (convert 28 9 (.slice A3 n3 c3)).run Tryd.prog W = .ok (.string (bstr x3)) W) := fun W hf => strBs W A3 n3 c3 x3 hn3 (Rd.of_own (own_fr ho3 hf (fun k hk => by
            rintro (e | e)
            · exact own_ne' HXE.out.vo ho3 (by decide) hk e
            · have := (own_blk ho3 hk).1; have := HGM.out; omega)))
          rw [← hn3]
          have HOL : Hid (m.votes.length ≤ 20001) := by
            show _ ≤ _
            rw [hm, mR_votes, List.length_map, rep_len]
            exact HC.out.2.1
          have NEXT : Hid (∀ W A9 c9, RD w W ge A c l q3 gm { m with va := A9, vc := c9, votes := m.votes ++ [(⟨fewI x1 63, x2, x3⟩ : Vt)] } → RD w W ge A c l q3 gm (mR l (j + 1) A9 c9)) := fun W A9 c9 h => by
            have e : ({ m with va := A9, vc := c9, votes := m.votes ++ [(⟨fewI x1 63, x2, x3⟩ : Vt)] } : Mg) = mR l (j + 1) A9 c9 := by
              have hs := rep_snoc rVote j (rest8 l)
              have e0 : (rep rVote j (rest8 l)).2 = ls := by rw [HNEXT0.out, restK_eq]
              have hv : m.votes ++ [(⟨fewI x1 63, x2, x3⟩ : Vt)] = (rep rVote (j + 1) (rest8 l)).1.map vr := by
                rw [hs, e0, HNV.out, List.map_append, hm, mR_votes]
                simp only [List.map_cons, List.map_nil, vr]
              rw [hv, hm]
              simp only [mR, rest8]
            rw [← e]
            exact h
          have HCZ : Hid (nn - 1 + (j + 1) = cntR l ∧ j + 1 ≤ 20001 ∧ nn - 1 < 2 ^ 64) := ⟨by have := HC.out.1; have := HN0.out; omega, HJB.out, by omega⟩
          clear ho3 hq3 hy3 hm hx7 HX7 hn3
          go_upto_region 20 with fail
          refine wp_region_held_drew (S := fun w' => SV we w.heap.size gm m w') (by kernel_rfl) (((SV.refl we w.heap.size gm m).drew)) (fun hHeld => ?_)
          refine wpAnyH_take (i := 0) (oi := ⟨some 108, _, _, _, _, _⟩) (v := ?_) rfl (by kernel_rfl) (by kernel_rfl) (by kernel_rfl) (fun _ _ _ h => h) (Or.inl ⟨by rfl, ?_⟩) (by assumption) ?_
          rotate_left 1
          · (intro w hSw; (try dsimp only at hSw); have hcS := HCV.out _ hSw; go_simp) <;> (with_reducible rfl)
          try simp only [Act.put, List.setIfInBounds_toArray, List.set_cons_zero, List.set_cons_succ]
          refine wpAnyH_take (i := 2) (oi := ⟨some 110, _, _, _, _, _⟩) (v := ?_) rfl (by kernel_rfl) (by kernel_rfl) (by kernel_rfl) (fun _ _ _ h => h) (Or.inl ⟨by rfl, ?_⟩) (by assumption) ?_
          rotate_left 1
          · (intro w hSw; (try dsimp only at hSw); have hcS := HCV.out _ hSw; go_simp) <;> (with_reducible rfl)
          try simp only [Act.put, List.setIfInBounds_toArray, List.set_cons_zero, List.set_cons_succ]
          refine wpAnyH_take (i := 4) (oi := ⟨some 112, _, _, _, _, _⟩) (v := ?_) rfl (by kernel_rfl) (by kernel_rfl) (by kernel_rfl) (fun _ _ _ h => h) (Or.inl ⟨by rfl, ?_⟩) (by assumption) ?_
          rotate_left 1
          · (intro w hSw; (try dsimp only at hSw); have hcS := HCV.out _ hSw; go_simp) <;> (with_reducible rfl)
          try simp only [Act.put, List.setIfInBounds_toArray, List.set_cons_zero, List.set_cons_succ]
          refine wpAnyH_take (i := 5) (oi := ⟨some 113, _, _, _, _, _⟩) (v := ?_) rfl (by kernel_rfl) (by kernel_rfl) (by kernel_rfl) (fun _ _ _ h => h) (Or.inl ⟨by rfl, ?_⟩) (by assumption) ?_
          rotate_left 1
          · (intro w hSw; (try dsimp only at hSw); have hcS := HCV.out _ hSw; go_simp) <;> (with_reducible rfl)
          try simp only [Act.put, List.setIfInBounds_toArray, List.set_cons_zero, List.set_cons_succ]
          refine wpAnyH_take (i := 6) (oi := ⟨some 114, _, _, _, _, _⟩) (v := ?_) rfl (by kernel_rfl) (by kernel_rfl) (by kernel_rfl) (fun _ _ _ h => h) (Or.inl ⟨by rfl, ?_⟩) (by assumption) ?_
          rotate_left 1
          · (intro w hSw; (try dsimp only at hSw); have hcS := HCV.out _ hSw; go_simp) <;> (with_reducible rfl)
          try simp only [Act.put, List.setIfInBounds_toArray, List.set_cons_zero, List.set_cons_succ]
          refine wpAnyH_ready (rs := [1, 3]) (by kernel_rfl) (by simp) ?_
          refine AllReadyH.cons (o := ⟨some 109, _, _, _, _, _⟩) rfl (fun K hK => ?_) (AllReadyH.cons (o := ⟨some 111, _, _, _, _, _⟩) rfl (fun K hK => ?_) AllReadyH.nil)
          · have o3 : (we.drew).cell? ⟨gm, 7, none⟩ = some (.slice m.va m.votes.length m.vc) := (HXE.out.nofr (Fr.refl NoBlk we).drew).bm.cell 7
            go_simp
            clear hHeld
            refine hK.out _ _ ?_ (fun hHeld => ?_)
            · exact ((SV.refl we w.heap.size gm m).drew)
            clear hK K
            try simp only [Act.put, List.setIfInBounds_toArray, List.set_cons_zero, List.set_cons_succ]
            clear o3
            refine wpAnyH_ready (rs := [3]) (by kernel_rfl) (by simp) ?_
            refine AllReadyH.cons (o := ⟨some 111, _, _, _, _, _⟩) rfl (fun K hK => ?_) AllReadyH.nil
            go_simp
            go_at_call 32
            refine (HFEW.out _ x1 63 HX1.out (by omega)).mono ?_
            rintro e _ ⟨rfl, rfl⟩
            clear hHeld
            refine hK.out _ _ ?_ (fun hHeld => ?_)
            · exact ((SV.refl we w.heap.size gm m).drew)
            clear hK K
            try simp only [Act.put, List.setIfInBounds_toArray, List.set_cons_zero, List.set_cons_succ]
            refine wpAnyH_take (i := 7) (oi := ⟨some 115, _, _, _, _, _⟩) (v := ?_) rfl (by kernel_rfl) (by kernel_rfl) (by kernel_rfl) (fun _ _ _ h => h) (Or.inl ⟨by rfl, ?_⟩) (by assumption) ?_
            rotate_left 1
            · (intro w hSw; (try dsimp only at hSw); have hcS := HCV.out _ hSw; go_simp) <;> (with_reducible rfl)
            try simp only [Act.put, List.setIfInBounds_toArray, List.set_cons_zero, List.set_cons_succ]
            refine wpAnyH_ready (rs := [8]) (by kernel_rfl) (by simp) ?_
            refine AllReadyH.cons (o := ⟨some 116, _, _, _, _, _⟩) rfl (fun K hK => ?_) AllReadyH.nil
            go_simp
            clear hHeld
            refine hK.out _ _ ?_ (fun hHeld => ?_)
            · exact ((SV.refl we w.heap.size gm m).alloc_drew _)
            clear hK K
            try simp only [Act.put, List.setIfInBounds_toArray, List.set_cons_zero, List.set_cons_succ]
            refine wpAnyH_ready (rs := [9]) (by kernel_rfl) (by simp) ?_
            refine AllReadyH.cons (o := ⟨some 117, _, _, _, _, _⟩) rfl (fun K hK => ?_) AllReadyH.nil
            have HXe := Lib.hid (HXE.out.nofr (((Fr.refl NoBlk we).alloc (.cells #[.int .i64 (fewI x1 63), .int .u64 (x2 : Int), .string (bstr x3)] 62)).drew))
            have HR8 : Hid (Rd (we.alloc (.cells #[.int .i64 (fewI x1 63), .int .u64 (x2 : Int), .string (bstr x3)] 62)).drew (some ⟨we.heap.size, 0, none⟩) (vtc (⟨fewI x1 63, x2, x3⟩ : Vt))) := Rd.of_cells (Bk.new we _ _)
            refine step_appO rfl _ _ 34 rfl w.heap.size 62 i0 _ 3 32 Tryd.underlying34 hi hz0 hz1 hz2 rfl (by decide) (.slice m.va m.votes.length m.vc) m.votes.length (vtsc m.votes) rfl HXe.out.vo ⟨we.heap.size, 0, none⟩ 1 1 (vtc (⟨fewI x1 63, x2, x3⟩ : Vt)) rfl rfl HR8.out ?q1 ?q2 ?q3 HXe.out.fr.size ?_
            case q1 => intro y hy; simp only [vtc, List.mem_cons, List.not_mem_nil, or_false] at hy; rcases hy with rfl | rfl | rfl <;> rfl
            case q2 => have := HOL.out; unfold maxLen; omega
            case q3 => have := HOL.out; omega
            intro v9 w9 ho9 hg9 _
            obtain ⟨A9, c9, rfl, _, _⟩ := own_form ho9
            have HG9 := Lib.hid (HXe.out.grown hg9)
            have HS9 : Hid (SV we w.heap.size gm m w9) := (SV.refl we w.heap.size gm m).alloc_drew _ |>.grown hg9
            have o9 : w9.cell? ⟨gm, 7, none⟩ = some (.slice m.va m.votes.length m.vc) := HG9.out.cell 7
            have f9 := HG9.out.free 7
            have HXF := Lib.hid (HXe.out.push hg9 (x := (⟨fewI x1 63, x2, x3⟩ : Vt)) ho9)
            have HS10 := Lib.hid (HS9.out.put 7 (.slice A9 (m.votes.length + 1) c9))
            clear ho9 hg9
            clear hHeld
            refine hK.out _ _ ?_ (fun hHeld => ?_)
            · exact HS9.out
            clear hK K
            try simp only [Act.put, List.setIfInBounds_toArray, List.set_cons_zero, List.set_cons_succ]
            refine wpAnyH_take (i := 10) (oi := ⟨some 118, _, _, _, _, _⟩) (v := ?_) rfl (by kernel_rfl) (by kernel_rfl) (by kernel_rfl) (fun _ _ _ h => h) (Or.inl ⟨by rfl, ?_⟩) (by assumption) ?_
            rotate_left 1
            · (intro w hSw; (try dsimp only at hSw); have hcS := HCV.out _ hSw; go_simp) <;> (with_reducible rfl)
            try simp only [Act.put, List.setIfInBounds_toArray, List.set_cons_zero, List.set_cons_succ]
            refine wpAnyH_ready (rs := [11]) (by kernel_rfl) (by simp) ?_
            refine AllReadyH.cons (o := ⟨none, _, _, _, _, _⟩) rfl (fun K hK => ?_) AllReadyH.nil
            go_simp
            clear hHeld
            refine hK.out _ _ ?_ (fun hHeld => ?_)
            · exact HS10.out
            clear hK K
            try simp only [Act.put, List.setIfInBounds_toArray, List.set_cons_zero, List.set_cons_succ]
            refine wpAnyH_done (by kernel_rfl) ?_ _
            have HNX := Lib.hid (NEXT.out _ _ _ HXF.out)
            clear HXF HXe HR8 HG9 HS9 HS10 NEXT hHeld o9 f9 HCV HXE
            go_wp2_with fail
            go_roundw
            case rel => exact ⟨j + 1, q3, B + (E1 + E2 + E3), nn - 1, A9, c9, by first | rfl | rw [ew3], by first | rfl | rw [ew4], hBz, HBZ, HCZ, HPZ, HNX⟩
            case measure => simp [intOf]; omega
          · go_simp
            go_at_call 32
            refine (HFEW.out _ x1 63 HX1.out (by omega)).mono ?_
            rintro e _ ⟨rfl, rfl⟩
            clear hHeld
            refine hK.out _ _ ?_ (fun hHeld => ?_)
            · exact ((SV.refl we w.heap.size gm m).drew)
            clear hK K
            try simp only [Act.put, List.setIfInBounds_toArray, List.set_cons_zero, List.set_cons_succ]
            refine wpAnyH_take (i := 7) (oi := ⟨some 115, _, _, _, _, _⟩) (v := ?_) rfl (by kernel_rfl) (by kernel_rfl) (by kernel_rfl) (fun _ _ _ h => h) (Or.inl ⟨by rfl, ?_⟩) (by assumption) ?_
            rotate_left 1
            · (intro w hSw; (try dsimp only at hSw); have hcS := HCV.out _ hSw; go_simp) <;> (with_reducible rfl)
            try simp only [Act.put, List.setIfInBounds_toArray, List.set_cons_zero, List.set_cons_succ]
            refine wpAnyH_ready (rs := [1, 8]) (by kernel_rfl) (by simp) ?_
            refine AllReadyH.cons (o := ⟨some 109, _, _, _, _, _⟩) rfl (fun K hK => ?_) (AllReadyH.cons (o := ⟨some 116, _, _, _, _, _⟩) rfl (fun K hK => ?_) AllReadyH.nil)
            · have o3 : (we.drew).cell? ⟨gm, 7, none⟩ = some (.slice m.va m.votes.length m.vc) := (HXE.out.nofr (Fr.refl NoBlk we).drew).bm.cell 7
              go_simp
              clear hHeld
              refine hK.out _ _ ?_ (fun hHeld => ?_)
              · exact ((SV.refl we w.heap.size gm m).drew)
              clear hK K
              try simp only [Act.put, List.setIfInBounds_toArray, List.set_cons_zero, List.set_cons_succ]
              clear o3
              refine wpAnyH_ready (rs := [8]) (by kernel_rfl) (by simp) ?_
              refine AllReadyH.cons (o := ⟨some 116, _, _, _, _, _⟩) rfl (fun K hK => ?_) AllReadyH.nil
              go_simp
              clear hHeld
              refine hK.out _ _ ?_ (fun hHeld => ?_)
              · exact ((SV.refl we w.heap.size gm m).alloc_drew _)
              clear hK K
              try simp only [Act.put, List.setIfInBounds_toArray, List.set_cons_zero, List.set_cons_succ]
              refine wpAnyH_ready (rs := [9]) (by kernel_rfl) (by simp) ?_
              refine AllReadyH.cons (o := ⟨some 117, _, _, _, _, _⟩) rfl (fun K hK => ?_) AllReadyH.nil
              have HXe := Lib.hid (HXE.out.nofr (((Fr.refl NoBlk we).alloc (.cells #[.int .i64 (fewI x1 63), .int .u64 (x2 : Int), .string (bstr x3)] 62)).drew))
              have HR8 : Hid (Rd (we.alloc (.cells #[.int .i64 (fewI x1 63), .int .u64 (x2 : Int), .string (bstr x3)] 62)).drew (some ⟨we.heap.size, 0, none⟩) (vtc (⟨fewI x1 63, x2, x3⟩ : Vt))) := Rd.of_cells (Bk.new we _ _)
              refine step_appO rfl _ _ 34 rfl w.heap.size 62 i0 _ 3 32 Tryd.underlying34 hi hz0 hz1 hz2 rfl (by decide) (.slice m.va m.votes.length m.vc) m.votes.length (vtsc m.votes) rfl HXe.out.vo ⟨we.heap.size, 0, none⟩ 1 1 (vtc (⟨fewI x1 63, x2, x3⟩ : Vt)) rfl rfl HR8.out ?q1 ?q2 ?q3 HXe.out.fr.size ?_
              case q1 => intro y hy; simp only [vtc, List.mem_cons, List.not_mem_nil, or_false] at hy; rcases hy with rfl | rfl | rfl <;> rfl
              case q2 => have := HOL.out; unfold maxLen; omega
              case q3 => have := HOL.out; omega
              intro v9 w9 ho9 hg9 _
              obtain ⟨A9, c9, rfl, _, _⟩ := own_form ho9
              have HG9 := Lib.hid (HXe.out.grown hg9)
              have HS9 : Hid (SV we w.heap.size gm m w9) := (SV.refl we w.heap.size gm m).alloc_drew _ |>.grown hg9
              have o9 : w9.cell? ⟨gm, 7, none⟩ = some (.slice m.va m.votes.length m.vc) := HG9.out.cell 7
              have f9 := HG9.out.free 7
              have HXF := Lib.hid (HXe.out.push hg9 (x := (⟨fewI x1 63, x2, x3⟩ : Vt)) ho9)
              have HS10 := Lib.hid (HS9.out.put 7 (.slice A9 (m.votes.length + 1) c9))
              clear ho9 hg9
              clear hHeld
              refine hK.out _ _ ?_ (fun hHeld => ?_)
              · exact HS9.out
              clear hK K
              try simp only [Act.put, List.setIfInBounds_toArray, List.set_cons_zero, List.set_cons_succ]
              refine wpAnyH_take (i := 10) (oi := ⟨some 118, _, _, _, _, _⟩) (v := ?_) rfl (by kernel_rfl) (by kernel_rfl) (by kernel_rfl) (fun _ _ _ h => h) (Or.inl ⟨by rfl, ?_⟩) (by assumption) ?_
              rotate_left 1
              · (intro w hSw; (try dsimp only at hSw); have hcS := HCV.out _ hSw; go_simp) <;> (with_reducible rfl)
              try simp only [Act.put, List.setIfInBounds_toArray, List.set_cons_zero, List.set_cons_succ]
              refine wpAnyH_ready (rs := [11]) (by kernel_rfl) (by simp) ?_
              refine AllReadyH.cons (o := ⟨none, _, _, _, _, _⟩) rfl (fun K hK => ?_) AllReadyH.nil
              go_simp
              clear hHeld
              refine hK.out _ _ ?_ (fun hHeld => ?_)
              · exact HS10.out
              clear hK K
              try simp only [Act.put, List.setIfInBounds_toArray, List.set_cons_zero, List.set_cons_succ]
              refine wpAnyH_done (by kernel_rfl) ?_ _
              have HNX := Lib.hid (NEXT.out _ _ _ HXF.out)
              clear HXF HXe HR8 HG9 HS9 HS10 NEXT hHeld o9 f9 HCV HXE
              go_wp2_with fail
              go_roundw
              case rel => exact ⟨j + 1, q3, B + (E1 + E2 + E3), nn - 1, A9, c9, by first | rfl | rw [ew3], by first | rfl | rw [ew4], hBz, HBZ, HCZ, HPZ, HNX⟩
              case measure => simp [intOf]; omega
            · go_simp
              clear hHeld
              refine hK.out _ _ ?_ (fun hHeld => ?_)
              · exact ((SV.refl we w.heap.size gm m).alloc_drew _)
              clear hK K
              try simp only [Act.put, List.setIfInBounds_toArray, List.set_cons_zero, List.set_cons_succ]
              refine wpAnyH_ready (rs := [1]) (by kernel_rfl) (by simp) ?_
              refine AllReadyH.cons (o := ⟨some 109, _, _, _, _, _⟩) rfl (fun K hK => ?_) AllReadyH.nil
              have o3 : ((we.alloc (.cells #[.int .i64 (fewI x1 63), .int .u64 (x2 : Int), .string (bstr x3)] 62)).drew).cell? ⟨gm, 7, none⟩ = some (.slice m.va m.votes.length m.vc) := (HXE.out.nofr (((Fr.refl NoBlk we).alloc (.cells #[.int .i64 (fewI x1 63), .int .u64 (x2 : Int), .string (bstr x3)] 62)).drew)).bm.cell 7
              go_simp
              clear hHeld
              refine hK.out _ _ ?_ (fun hHeld => ?_)
              · exact ((SV.refl we w.heap.size gm m).alloc_drew _)
              clear hK K
              try simp only [Act.put, List.setIfInBounds_toArray, List.set_cons_zero, List.set_cons_succ]
              clear o3
              refine wpAnyH_ready (rs := [9]) (by kernel_rfl) (by simp) ?_
              refine AllReadyH.cons (o := ⟨some 117, _, _, _, _, _⟩) rfl (fun K hK => ?_) AllReadyH.nil
              have HXe := Lib.hid (HXE.out.nofr (((Fr.refl NoBlk we).alloc (.cells #[.int .i64 (fewI x1 63), .int .u64 (x2 : Int), .string (bstr x3)] 62)).drew))
              have HR8 : Hid (Rd (we.alloc (.cells #[.int .i64 (fewI x1 63), .int .u64 (x2 : Int), .string (bstr x3)] 62)).drew (some ⟨we.heap.size, 0, none⟩) (vtc (⟨fewI x1 63, x2, x3⟩ : Vt))) := Rd.of_cells (Bk.new we _ _)
              refine step_appO rfl _ _ 34 rfl w.heap.size 62 i0 _ 3 32 Tryd.underlying34 hi hz0 hz1 hz2 rfl (by decide) (.slice m.va m.votes.length m.vc) m.votes.length (vtsc m.votes) rfl HXe.out.vo ⟨we.heap.size, 0, none⟩ 1 1 (vtc (⟨fewI x1 63, x2, x3⟩ : Vt)) rfl rfl HR8.out ?q1 ?q2 ?q3 HXe.out.fr.size ?_
              case q1 => intro y hy; simp only [vtc, List.mem_cons, List.not_mem_nil, or_false] at hy; rcases hy with rfl | rfl | rfl <;> rfl
              case q2 => have := HOL.out; unfold maxLen; omega
              case q3 => have := HOL.out; omega
              intro v9 w9 ho9 hg9 _
              obtain ⟨A9, c9, rfl, _, _⟩ := own_form ho9
              have HG9 := Lib.hid (HXe.out.grown hg9)
              have HS9 : Hid (SV we w.heap.size gm m w9) := (SV.refl we w.heap.size gm m).alloc_drew _ |>.grown hg9
              have o9 : w9.cell? ⟨gm, 7, none⟩ = some (.slice m.va m.votes.length m.vc) := HG9.out.cell 7
              have f9 := HG9.out.free 7
              have HXF := Lib.hid (HXe.out.push hg9 (x := (⟨fewI x1 63, x2, x3⟩ : Vt)) ho9)
              have HS10 := Lib.hid (HS9.out.put 7 (.slice A9 (m.votes.length + 1) c9))
              clear ho9 hg9
              clear hHeld
              refine hK.out _ _ ?_ (fun hHeld => ?_)
              · exact HS9.out
              clear hK K
              try simp only [Act.put, List.setIfInBounds_toArray, List.set_cons_zero, List.set_cons_succ]
              refine wpAnyH_take (i := 10) (oi := ⟨some 118, _, _, _, _, _⟩) (v := ?_) rfl (by kernel_rfl) (by kernel_rfl) (by kernel_rfl) (fun _ _ _ h => h) (Or.inl ⟨by rfl, ?_⟩) (by assumption) ?_
              rotate_left 1
              · (intro w hSw; (try dsimp only at hSw); have hcS := HCV.out _ hSw; go_simp) <;> (with_reducible rfl)
              try simp only [Act.put, List.setIfInBounds_toArray, List.set_cons_zero, List.set_cons_succ]
              refine wpAnyH_ready (rs := [11]) (by kernel_rfl) (by simp) ?_
              refine AllReadyH.cons (o := ⟨none, _, _, _, _, _⟩) rfl (fun K hK => ?_) AllReadyH.nil
              go_simp
              clear hHeld
              refine hK.out _ _ ?_ (fun hHeld => ?_)
              · exact HS10.out
              clear hK K
              try simp only [Act.put, List.setIfInBounds_toArray, List.set_cons_zero, List.set_cons_succ]
              refine wpAnyH_done (by kernel_rfl) ?_ _
              have HNX := Lib.hid (NEXT.out _ _ _ HXF.out)
              clear HXF HXe HR8 HG9 HS9 HS10 NEXT hHeld o9 f9 HCV HXE
              go_wp2_with fail
              go_roundw
              case rel => exact ⟨j + 1, q3, B + (E1 + E2 + E3), nn - 1, A9, c9, by first | rfl | rw [ew3], by first | rfl | rw [ew4], hBz, HBZ, HCZ, HPZ, HNX⟩
              case measure => simp [intOf]; omega
end Go.Proofs.YtdpjmkgjjhcgeaaDoor
