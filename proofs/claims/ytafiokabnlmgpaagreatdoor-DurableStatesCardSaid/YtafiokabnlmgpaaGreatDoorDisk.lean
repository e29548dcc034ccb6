/- Disks as the world holds them: files, the map of them, what a disk has. No condition. -/
import Derived.Test.YtafiokabnlmgpaaGreatDoorMp
namespace Go.Proofs.YtafiokabnlmgpaaGreatDoor
open Go.RowKit Go.Maps
open Go.WideElems (rg)

structure Fil where
  name : Bs
  blk : Nat
  A : Option Addr
  cap : Nat
  data : Bs
  lasts : Nat
def Fil.sl (f : Fil) : Value := .slice f.A f.data.length f.cap
def Fil.cells (f : Fil) : Array Value := #[.slice f.A f.data.length f.cap, .int .i64 f.lasts]
structure FilIn (w : World) (B : Nat) (f : Fil) : Prop where
  bk : Bk w f.blk 168 f.cells
  own : w.ownsRow B 5 1 f.sl f.data.length (cb f.data)
  base : B ≤ f.blk
  lasts : f.lasts ≤ f.data.length
  nm : f.name.length ≤ 16
def fsOf (L : List Fil) : Fs := L.map fun f => (f.name, f.blk)
def total : List Fil → Nat
  | [] => 0
  | f :: t => f.data.length + total t
structure Dsk where
  room : Nat
  bm : Nat
  left : Int
  down : Bool
  files : List Fil
def Dsk.cells (m : Dsk) : Array Value := #[.int .i64 m.room, .map (some m.bm), .int .i64 m.left, .bool m.down]
def Far (f g : Fil) : Prop := f.blk ≠ g.blk ∧ ∀ k, f.sl.ownBlock = some k → g.sl.ownBlock ≠ some k
theorem Far.symm {f g : Fil} (h : Far f g) : Far g f := ⟨fun e => h.1 e.symm, fun k hk e => h.2 k e hk⟩
structure DkIn (w : World) (B gd : Nat) (m : Dsk) : Prop where
  bk : Bk w gd 105 m.cells
  mp : Mp w m.bm (fsOf m.files)
  fil : ∀ f ∈ m.files, FilIn w B f
  far : m.files.Pairwise Far
  bd : B ≤ gd
  bb : B ≤ m.bm
  fits : total m.files ≤ m.room
  most : m.room ≤ 1048576
  few : m.files.length ≤ 32
  lf : -9223372036854775808 ≤ m.left ∧ m.left ≤ 9223372036854775807

/-- the blocks of a disk. -/
def Blks (gd : Nat) (m : Dsk) (k : Nat) : Prop := k = gd ∨ k = m.bm ∨ ∃ f ∈ m.files, k = f.blk ∨ f.sl.ownBlock = some k

theorem FilIn.fr {C : Nat → Prop} {w w' : World} {B : Nat} {f : Fil} (h : FilIn w B f) (hf : Fr C w w') (h1 : ¬ C f.blk) (h2 : ∀ k, f.sl.ownBlock = some k → ¬ C k) : FilIn w' B f :=
  ⟨h.bk.fr hf h1, own_fr h.own hf h2, h.base, h.lasts, h.nm⟩
theorem DkIn.fr {C : Nat → Prop} {w w' : World} {B gd : Nat} {m : Dsk} (h : DkIn w B gd m) (hf : Fr C w w') (hn : ∀ k, Blks gd m k → ¬ C k) : DkIn w' B gd m :=
  ⟨h.bk.fr hf (hn _ (.inl rfl)), h.mp.fr hf (hn _ (.inr (.inl rfl))), fun f hm => (h.fil f hm).fr hf (hn _ (.inr (.inr ⟨f, hm, .inl rfl⟩))) fun _ hk => hn _ (.inr (.inr ⟨f, hm, .inr hk⟩)), h.far, h.bd, h.bb, h.fits, h.most, h.few, h.lf⟩
theorem DkIn.nofr {w w' : World} {B gd : Nat} {m : Dsk} (h : DkIn w B gd m) (hf : Fr NoBlk w w') : DkIn w' B gd m := h.fr hf fun _ _ h => h
theorem own_lt {w : World} {base : Nat} {e : TypeId} {size n : Nat} {v : Value} {xs : List Value} (h : w.ownsRow base e size v n xs) {k : Nat} (hk : v.ownBlock = some k) : base ≤ k ∧ k < w.heap.size := h.lt k hk
theorem DkIn.blk {w : World} {B gd : Nat} {m : Dsk} (h : DkIn w B gd m) {k : Nat} (hk : Blks gd m k) : B ≤ k ∧ k < w.heap.size := by
  rcases hk with rfl | rfl | ⟨f, hf, rfl | hk⟩
  · exact ⟨h.bd, h.bk.lt⟩
  · exact ⟨h.bb, h.mp.lt⟩
  · exact ⟨(h.fil f hf).base, (h.fil f hf).bk.lt⟩
  · exact own_lt (h.fil f hf).own hk

theorem look_mem {L : List Fil} {k : Bs} {g : Nat} (h : look (fsOf L) k = some g) : ∃ f ∈ L, f.name = k ∧ f.blk = g := by
  induction L with
  | nil => cases h
  | cons f t ih =>
    simp only [fsOf, List.map_cons, look] at h
    by_cases e : f.name = k
    · rw [if_pos e] at h
      injection h with h
      exact ⟨f, List.mem_cons_self .., e, h⟩
    · rw [if_neg e] at h
      obtain ⟨f', h1, h2⟩ := ih h
      exact ⟨f', List.mem_cons_of_mem _ h1, h2⟩
theorem look_of {L : List Fil} (hn : (L.map (·.name)).Nodup) {f : Fil} (hf : f ∈ L) : look (fsOf L) f.name = some f.blk := by
  induction L with
  | nil => cases hf
  | cons g t ih =>
    simp only [fsOf, List.map_cons, look]
    rw [List.map_cons, List.nodup_cons] at hn
    rcases List.mem_cons.1 hf with rfl | hf
    · rw [if_pos rfl]
    · rw [if_neg]
      · exact ih hn.2 hf
      · intro e
        exact hn.1 (e ▸ List.mem_map_of_mem hf)
theorem look_none {L : List Fil} {k : Bs} (h : look (fsOf L) k = none) : ∀ f ∈ L, f.name ≠ k := by
  induction L with
  | nil => intro f hf; cases hf
  | cons g t ih =>
    simp only [fsOf, List.map_cons, look] at h
    by_cases e : g.name = k
    · rw [if_pos e] at h; cases h
    · rw [if_neg e] at h
      intro f hf
      rcases List.mem_cons.1 hf with rfl | hf
      · exact e
      · exact ih h f hf
theorem up_nodup {xs : List Bs} (h : Up xs) : xs.Nodup := h.imp fun h => less_ne h
theorem fsOf_names (L : List Fil) : (fsOf L).map (·.1) = L.map (·.name) := by simp [fsOf]
theorem DkIn.up {w : World} {B gd : Nat} {m : Dsk} (h : DkIn w B gd m) : Up (m.files.map (·.name)) := by
  have := h.mp.up
  rwa [fsOf_names] at this
theorem DkIn.nodup {w : World} {B gd : Nat} {m : Dsk} (h : DkIn w B gd m) : (m.files.map (·.name)).Nodup := up_nodup h.up
theorem total_mem {L : List Fil} {f : Fil} (h : f ∈ L) : f.data.length ≤ total L := by
  induction L with
  | nil => cases h
  | cons g t ih =>
    simp only [total]
    rcases List.mem_cons.1 h with rfl | h
    · omega
    · have := ih h; omega

/-- how many bytes the files have that are no longer to come. -/
def sumL (left : Lit → Bool) : List Fil → Nat
  | [] => 0
  | f :: t => cond (left (.string f.name)) 0 f.data.length + sumL left t
theorem sumL_none {left : Lit → Bool} {L : List Fil} (h : ∀ f ∈ L, left (.string f.name) = true) : sumL left L = 0 := by
  induction L with
  | nil => rfl
  | cons f t ih =>
    simp only [sumL]
    rw [h f (List.mem_cons_self ..), ih fun g hg => h g (List.mem_cons_of_mem _ hg)]
    rfl
theorem sumL_all {left : Lit → Bool} {L : List Fil} (h : ∀ k, left k = false) : sumL left L = total L := by
  induction L with
  | nil => rfl
  | cons f t ih => simp [sumL, total, h, ih]
theorem sumL_le {left : Lit → Bool} {L : List Fil} : sumL left L ≤ total L := by
  induction L with
  | nil => exact Nat.le_refl _
  | cons f t ih =>
    simp only [sumL, total]
    cases left (.string f.name) <;> simp only [cond_true, cond_false] <;> omega
theorem sumL_out {left : Lit → Bool} {k : Bs} {L : List Fil} (h : ∀ f ∈ L, f.name ≠ k) : sumL (fun z => left z && !z.sameKey (.string k)) L = sumL left L := by
  induction L with
  | nil => rfl
  | cons f t ih =>
    simp only [sumL]
    rw [ih fun g hg => h g (List.mem_cons_of_mem _ hg), same_str, decide_eq_false (h f (List.mem_cons_self ..)), Bool.not_false, Bool.and_true]
theorem mem_names {t : List Fil} {g f : Fil} (hg : g ∈ t) (e : g.name = f.name) : f.name ∈ t.map (·.name) := e ▸ List.mem_map_of_mem hg
theorem sumL_step {left : Lit → Bool} {L : List Fil} (hn : (L.map (·.name)).Nodup) {f : Fil} (hf : f ∈ L) (hl : left (.string f.name) = true) :
    sumL (fun z => left z && !z.sameKey (.string f.name)) L = sumL left L + f.data.length := by
  induction L with
  | nil => cases hf
  | cons g t ih =>
    rw [List.map_cons, List.nodup_cons] at hn
    rcases List.mem_cons.1 hf with rfl | hf
    · simp only [sumL]
      rw [sumL_out fun h hh e => hn.1 (mem_names hh e), same_str, hl, decide_eq_true rfl]
      simp only [Bool.not_true, Bool.and_false, cond_false, cond_true]
      omega
    · simp only [sumL]
      rw [ih hn.2 hf, same_str, decide_eq_false fun e => hn.1 (mem_names hf e.symm), Bool.not_false, Bool.and_true]
      omega

theorem has_left {L : List Fil} (hn : (L.map (·.name)).Nodup) {f : Fil} (hf : f ∈ L) : Maps.has (mapD (fsOf L)) (.string f.name) = true := by
  rw [mapD_has, look_of hn hf]; rfl

/-- the next entry of a map under way. -/
theorem wpList_next_mp (w : World) {ops : Array Oper} {rest : List Oper} {o : Oper} {a : Act} {Q : Exit → Act → World → Prop} (hg : o.guard = none) (it : Operand) (hop : o.op = Op.next it false) (b r n : Nat) (L : List Fil) (left : Lit → Bool) (cnt : Nat)
    (hit : a.eval it = .pointer (some ⟨r, 0, none⟩)) (h : w.ranges Tryz.prog 9 ptE b r n (mapD (fsOf L)) left cnt)
    (hDone : (∀ kl, left kl = false) → wpList Tryz.prog ops Q rest (a.put o.dst (.tuple #[.bool false])) w)
    (hMore : ∀ (f : Fil) (w' : World) (cnt' : Nat), f ∈ L → left (.string f.name) = true → w'.ranges Tryz.prog 9 ptE b r n (mapD (fsOf L)) (fun z => left z && !z.sameKey (.string f.name)) cnt' → cnt' < cnt →
      w.grownBy w' (some r) → w'.heap.size = w.heap.size → (Instr.entry (.pointer (some ⟨r, 0, none⟩))).run Tryz.prog w' = .ok (.tuple #[.string (bstr f.name), .pointer (some ⟨f.blk, 0, none⟩)]) w' → wpList Tryz.prog ops Q rest (a.put o.dst (.tuple #[.bool true, .string (bstr f.name), .pointer (some ⟨f.blk, 0, none⟩)])) w') :
    wpList Tryz.prog ops Q (o :: rest) a w := by
  refine wpList_next_ranges w hg it hop 9 law ptE (fun s : ByteArray => Value.string s) ptV (fun key kl hk => ?_) (fun v y hv => ?_) b r n _ left cnt hit h (fun _ hl => hDone hl) ?_
  · cases key <;> simp [keyOf, mapKey, Tryz.underlying9] at hk
    exact ⟨_, rfl⟩
  · obtain ⟨o, rfl, _⟩ := ptE_inv hv
    exact ⟨o, rfl⟩
  · intro s c kl y w' cnt' hk hl hR hat hrg hlt hgr hsz hen
    have hkl : kl = .string s.data.toList := by
      simp [keyOf, mapKey, Tryz.underlying9] at hk
      exact hk.2.symm
    subst hkl
    rw [ptE_mk] at hR
    injection hR with hR
    have h0 := hat .nil
    rw [mapD_atKey, ← hR] at h0
    cases hlk : look (fsOf L) s.data.toList with
    | none =>
      exfalso
      obtain ⟨es, clock, since, seen, c0, hb, F, hs, hD, hr, _, _, _, hlw, _⟩ := h
      obtain ⟨x, hx, hxk⟩ := hlw _ hl
      have hh : Maps.has (mapD (fsOf L)) (.string s.data.toList) = true := by
        rw [hD, Maps.has_eq, List.any_eq_true]
        have hmem : rg Tryz.prog 9 ptE x ∈ (es.toList.map (rg Tryz.prog 9 ptE)).foldr DataW.insert [] := by
          have hp : ∀ l : List (Lit × DW), ∀ z ∈ l, z ∈ l.foldr DataW.insert [] := by
            intro l
            have hi : ∀ (x z : Lit × DW) (l : List (Lit × DW)), z = x ∨ z ∈ l → z ∈ DataW.insert x l := by
              intro x z l
              induction l with
              | nil => intro h; rcases h with rfl | h; exact List.mem_singleton.2 rfl; cases h
              | cons y t ih =>
                intro h
                simp only [DataW.insert]
                split
                · rcases h with rfl | h
                  · exact List.mem_cons_self ..
                  · exact List.mem_cons_of_mem _ h
                · rcases h with rfl | h
                  · exact List.mem_cons_of_mem _ (ih (.inl rfl))
                  · rcases List.mem_cons.1 h with rfl | h
                    · exact List.mem_cons_self ..
                    · exact List.mem_cons_of_mem _ (ih (.inr h))
            induction l with
            | nil => intro z h; cases h
            | cons y t ih =>
              intro z h
              rw [List.foldr_cons]
              rcases List.mem_cons.1 h with rfl | h
              · exact hi _ _ _ (.inl rfl)
              · exact hi _ _ _ (.inr (ih z h))
          exact hp _ _ (List.mem_map_of_mem hx)
        exact ⟨_, hmem, by rw [hxk, same_str, decide_eq_true rfl]⟩
      rw [mapD_has, hlk] at hh
      cases hh
    | some g =>
      rw [hlk] at h0
      have hc : some g = c := ptD_inj h0
      subst hc
      obtain ⟨f, hf, hn, hb⟩ := look_mem hlk
      subst hb
      have hs : s = bstr f.name := by rw [hn, bstr_eta]
      subst hs
      rw [bstr_data] at hl hrg
      exact hMore f w' cnt' hf hl hrg hlt hgr hsz hen
end Go.Proofs.YtafiokabnlmgpaaGreatDoor
