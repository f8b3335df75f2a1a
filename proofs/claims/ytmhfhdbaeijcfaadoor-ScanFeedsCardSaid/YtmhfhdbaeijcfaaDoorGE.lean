/- frame.opened and frame.Get where the length that the bytes tell is not their length: an error. Plain mathematics: the frame of bytes. Get of Put is the frame, Put of Get the bytes. No program, no memory. The float of an int that is not 0 has bits that are not 0. A field that a kind doesn't use, set to what isn't zero, makes a frame invalid. -/
import Derived.Test.YtmhfhdbaeijcfaaDoorGD
import Derived.Laws.ResultCell
import Derived.Test.YtmhfhdbaeijcfaaDoorGC
import Derived.Test.YtmhfhdbaeijcfaaDoorGB
import Derived.Laws.FloatBits
namespace Go.Proofs.YtmhfhdbaeijcfaaDoor
open Go.RowKit
open Go.Proofs.YtmhfhdbaeijcfaaDoor.H

theorem results_cell_two {fn : Func} {p u : Tmp} {ty : TypeId} (h : fn.results = #[.cell p ty, .tmp u]) (tmps : Array Value) (w : World) (g : Nat) (t : TypeId) (cs : List Value) (d : TypeDesc) (v : Value)
    (hp : tmps.getD p undef = .pointer (some ⟨g, 0, none⟩)) (hv : tmps.getD u undef = v) (hr : Row w g t cs) (hu : Tryd.prog.underlying ty = some d) (hd : d.isRow = true) (hi : (Tryd.prog.info? ty).map (·.size) = some cs.length) :
    (results fn tmps).run Tryd.prog w = .ok (.tuple #[.agg cs.toArray, v]) w := by
  rw [results_cell_tmp h, hp, hv]
  have h1 := run_loadVar_mid (P := Tryd.prog) w g 0 ty cs d (hr.range (es := []) (by simp)) hu hd hi
  simp [asAddr, h1]
/-- The zero frame's cells. -/
def zeroC : List Value := [.int .i64 0, .int .i64 0, .int .i64 0, .int .i64 0, .int .i64 0, .int .i64 0, .string ⟨#[]⟩, .string ⟨#[]⟩, .float .f64 0, .slice none 0 0]
theorem info25' : (Tryd.prog.info? 25).map (fun i => (i.zero, i.size)) = some (some (.agg zeroC.toArray), 10) := by kernel_rfl
theorem zeroC_one : ∀ v ∈ zeroC, v.oneCell' = true := by
  intro v hv
  unfold zeroC at hv
  simp at hv
  rcases hv with rfl | rfl | rfl | rfl <;> rfl
attribute [local go_sem] F.run_store_f64
/-- The zero frame stored over itself, a cell after the other. -/
def rezero (w : World) (g : Nat) : World := ((((((((((w.setCell ⟨g, 0, none⟩ (.int .i64 0)).setCell ⟨g, 1, none⟩ (.int .i64 0)).setCell ⟨g, 2, none⟩ (.int .i64 0)).setCell ⟨g, 3, none⟩ (.int .i64 0)).setCell ⟨g, 4, none⟩ (.int .i64 0)).setCell ⟨g, 5, none⟩ (.int .i64 0)).setCell ⟨g, 6, none⟩ (.string ⟨#[]⟩)).setCell ⟨g, 7, none⟩ (.string ⟨#[]⟩)).setCell ⟨g, 8, none⟩ (.float .f64 0)).setCell ⟨g, 9, none⟩ (.slice none 0 0))
theorem rezero_row {w : World} {g : Nat} (h : Row w g 25 zeroC) : Row (rezero w g) g 25 zeroC := ((((((((((h.set 0 _).set 1 _).set 2 _).set 3 _).set 4 _).set 5 _).set 6 _).set 7 _).set 8 _).set 9 _)
theorem rezero_below {w w' : World} {g B : Nat} (h : Below B w w') (hB : B ≤ g) : Below B w (rezero w' g) := ((((((((((h.setCell (p := ⟨g, 0, none⟩) hB _).setCell (p := ⟨g, 1, none⟩) hB _).setCell (p := ⟨g, 2, none⟩) hB _).setCell (p := ⟨g, 3, none⟩) hB _).setCell (p := ⟨g, 4, none⟩) hB _).setCell (p := ⟨g, 5, none⟩) hB _).setCell (p := ⟨g, 6, none⟩) hB _).setCell (p := ⟨g, 7, none⟩) hB _).setCell (p := ⟨g, 8, none⟩) hB _).setCell (p := ⟨g, 9, none⟩) hB _)
theorem row_drew {w : World} {g : Nat} {t : TypeId} {cs : List Value} (h : Row w g t cs) : Row w.drew g t cs := h
/-- A frame of a kind alone. -/
def kindC (k : Int) : List Value := .int .i64 k :: zeroC.tail
theorem kindC_one (k : Int) : ∀ v ∈ kindC k, v.oneCell' = true := by
  intro v hv
  rcases List.mem_cons.1 hv with rfl | hv
  · rfl
  · exact zeroC_one v (List.mem_of_mem_tail hv)
theorem F.decS_bound : ∀ {l bs : List UInt8} {k : Nat}, F.decS l bs = .error k → k < 5
  | [], bs, k, h => by
    unfold F.decS at h
    split at h
    · cases h
    · injection h with h; omega
  | c :: l, bs, k, h => by
    unfold F.decS at h
    cases hs : F.spanS c.toNat bs with
    | error e => rw [hs] at h; injection h with h; rw [← h]; exact F.spanS_err hs
    | ok n =>
      rw [hs] at h
      simp only at h
      cases hd : F.decS l (bs.drop n) with
      | error e => rw [hd] at h; injection h with h; rw [← h]; exact F.decS_bound hd
      | ok ys => rw [hd] at h; cases h
/-- What the first two bytes tell. -/
def told (bs : List UInt8) : Nat := F.num (bs.take 2)
theorem first_cell (l bs : List UInt8) (cs : List F.FC) (h : F.decS (104 :: l) bs = .ok cs) : ∃ y ys, cs = y :: ys ∧ y.n = (told bs : Int) := by
  unfold F.decS at h
  cases hs : F.spanS (104 : UInt8).toNat bs with
  | error e => rw [hs] at h; cases h
  | ok n =>
    rw [hs] at h
    simp only at h
    cases hd : F.decS l (bs.drop n) with
    | error e => rw [hd] at h; cases h
    | ok ys =>
      rw [hd] at h
      injection h with h
      refine ⟨_, ys, h.symm, ?_⟩
      have hle := F.spanS_le hs
      unfold F.cellS told
      rw [if_neg (by decide), if_neg (by decide)]
      have e : F.hd (104 : UInt8).toNat = 2 := rfl
      rw [e, List.take_take]
      rw [e] at hle
      rw [Nat.min_eq_left hle.2]

end Go.Proofs.YtmhfhdbaeijcfaaDoor
namespace Go.Proofs.YtmhfhdbaeijcfaaDoor
open Go.RowKit
open Go.Proofs.YtmhfhdbaeijcfaaDoor.H

/-- A frame but for where its bytes lie. -/
def Fr.pl (f : Fr) : Fr := { f with ba := none, bc := 0 }
/-- The zero frame of a kind. -/
def zf (k : Int) : Fr := ⟨k, 0, 0, 0, 0, 0, ⟨#[]⟩, ⟨#[]⟩, 0, none, 0, []⟩
/-- A field set by a cell; bytes at A. -/
def setF (f : Fr) (x : Nat) (c : F.FC) (A : Option Addr) (C : Nat) : Fr :=
  if x = 0 then { f with seq := c.n } else if x = 1 then { f with got := c.n } else if x = 2 then { f with stream := c.n } else if x = 3 then { f with amount := c.n } else if x = 4 then { f with code := c.n }
  else if x = 5 then { f with who := c.s } else if x = 6 then { f with name := c.s } else if x = 7 then { f with weight := c.f } else { f with ba := A, bc := C, bs := f.bs ++ c.s.data.toList }
def fill (f : Fr) : List Nat → List F.FC → Fr
  | x :: L, c :: cs => fill (setF f x c none 0) L cs
  | _, _ => f
/-- The kind that bytes tell. -/
def kindOf (bs : List UInt8) : Int := ((bs.getD 2 0).toNat : Int)
/-- The frame, valid or not, of bytes ahead of the check. -/
def openB (bs : List UInt8) : Option Fr := match F.decS (layS (kindOf bs)) bs with
  | .ok (y :: _ :: cs) => if y.n = (bs.length : Int) - 2 then some (fill (zf (kindOf bs)) (used (kindOf bs)) cs) else none
  | _ => none
/-- Bytes with their check. -/
def sealB (bs : List UInt8) : List UInt8 := bs ++ (digest bs).take 4
def goodF (o : Option Fr) : Option Fr := match o with
  | some f => if valid f = true then some f else none
  | none => none
/-- The frame of bytes. -/
def getB (bs : List UInt8) : Option Fr := if 7 ≤ bs.length ∧ bs.length ≤ 1024 ∧ sealB (bs.take (bs.length - 4)) = bs then goodF (openB (bs.take (bs.length - 4))) else none

theorem valid_pl (f : Fr) : valid f.pl = valid f := rfl
theorem setF_pl (f : Fr) (x : Nat) (c : F.FC) (A : Option Addr) (C : Nat) : (setF f x c A C).pl = (setF f.pl x c none 0).pl := by
  unfold setF
  repeat' split
  all_goals rfl
theorem setF_plain (f : Fr) (x : Nat) (c : F.FC) (h : f.pl = f) : (setF f x c none 0).pl = setF f x c none 0 := by
  obtain ⟨h1, h2⟩ : f.ba = none ∧ f.bc = 0 := by rw [← h]; exact ⟨rfl, rfl⟩
  unfold setF
  repeat' split
  all_goals simp [Fr.pl, h1, h2]
theorem fill_plain : ∀ (L : List Nat) (cs : List F.FC) (f : Fr), f.pl = f → (fill f L cs).pl = fill f L cs
  | [], _, f, h => by simpa [fill] using h
  | _ :: _, [], f, h => by simpa [fill] using h
  | x :: L, c :: cs, f, h => by
    show (fill (setF f x c none 0) L cs).pl = fill (setF f x c none 0) L cs
    exact fill_plain L cs _ (setF_plain f x c h)
theorem setF_kind (f : Fr) (x : Nat) (c : F.FC) (A : Option Addr) (C : Nat) : (setF f x c A C).kind = f.kind := by
  unfold setF
  repeat' split
  all_goals rfl
theorem fill_kind : ∀ (L : List Nat) (cs : List F.FC) (f : Fr), (fill f L cs).kind = f.kind
  | [], _, f => by simp [fill]
  | _ :: _, [], f => by simp [fill]
  | x :: L, c :: cs, f => by
    show (fill (setF f x c none 0) L cs).kind = f.kind
    rw [fill_kind L cs, setF_kind]

theorem valid_zero {f : Fr} (h : valid f = true) (x : Nat) (hx : x < 9) (hu : x ∉ used f.kind) : ext f x = 0 := by
  unfold valid at h
  simp at h
  have h2 := h.2 x hx
  unfold fits least most at h2
  simp [hu] at h2
  omega
theorem size_nil {s : ByteArray} (h : s.size = 0) : s = ⟨#[]⟩ := by
  apply ByteArray.ext
  apply Array.eq_empty_of_size_eq_zero
  exact h
/-- A frame that fits its kind, out of its cells. -/
theorem fill_cells {f : Fr} (h : valid f = true) (hw : f.weight < 18446744073709551616) : fill (zf f.kind) (used f.kind) ((used f.kind).map (cellF f)) = f.pl := by
  have e0 : 0 ∉ used f.kind → f.seq = 0 := fun hu => by have := valid_zero h 0 (by decide) hu; simpa [ext] using this
  have e1 : 1 ∉ used f.kind → f.got = 0 := fun hu => by have := valid_zero h 1 (by decide) hu; simpa [ext] using this
  have e2 : 2 ∉ used f.kind → f.stream = 0 := fun hu => by have := valid_zero h 2 (by decide) hu; simpa [ext] using this
  have e3 : 3 ∉ used f.kind → f.amount = 0 := fun hu => by have := valid_zero h 3 (by decide) hu; simpa [ext] using this
  have e4 : 4 ∉ used f.kind → f.code = 0 := fun hu => by have := valid_zero h 4 (by decide) hu; simpa [ext] using this
  have e5 : 5 ∉ used f.kind → f.who = ⟨#[]⟩ := fun hu => by have := valid_zero h 5 (by decide) hu; exact size_nil (by simpa [ext] using this)
  have e6 : 6 ∉ used f.kind → f.name = ⟨#[]⟩ := fun hu => by have := valid_zero h 6 (by decide) hu; exact size_nil (by simpa [ext] using this)
  have e7 : 7 ∉ used f.kind → f.weight = 0 := fun hu => by
    have h7 := valid_zero h 7 (by decide) hu
    have e : ext f 7 = wrap64 (f.weight : Int) := by simp [ext]
    rw [e] at h7
    unfold wrap64 at h7
    omega
  have e8 : 8 ∉ used f.kind → f.bs = [] := fun hu => by have := valid_zero h 8 (by decide) hu; simpa [ext] using this
  have hu := valid_used h
  clear h
  obtain ⟨k, q, g, s, a, c, who, name, wt, ba, bc, bs⟩ := f
  simp only at e0 e1 e2 e3 e4 e5 e6 e7 e8 hu ⊢
  rcases kinds_or k with (rfl | rfl | rfl | rfl | rfl | rfl | rfl | rfl | rfl | rfl | rfl | rfl | rfl | rfl | rfl | rfl | rfl) | h1
  rotate_right
  · exact absurd (used_none k h1) hu
  · rw [used_1] at *; simp at e0 e1 e2 e3 e4 e5 e6 e7 e8; subst_vars; simp [fill, setF, zf, cellF, ext, Fr.pl]
  · rw [used_2] at *; simp at e0 e1 e2 e3 e4 e5 e6 e7 e8; subst_vars; simp [fill, setF, zf, cellF, Fr.pl]
  · rw [used_3] at *; simp at e0 e1 e2 e3 e4 e5 e6 e7 e8; subst_vars; simp [fill, setF, zf, cellF, Fr.pl]
  · rw [used_4] at *; simp at e0 e1 e2 e3 e4 e5 e6 e7 e8; subst_vars; simp [fill, setF, zf, cellF, ext, Fr.pl]
  · rw [used_5] at *; simp at e0 e1 e2 e3 e4 e5 e6 e7 e8; subst_vars; simp [fill, setF, zf, cellF, ext, Fr.pl]
  · rw [used_6] at *; simp at e0 e1 e2 e3 e4 e5 e6 e7 e8; subst_vars; simp [fill, setF, zf, cellF, ext, Fr.pl]
  · rw [used_7] at *; simp at e0 e1 e2 e3 e4 e5 e6 e7 e8; subst_vars; simp [fill, setF, zf, cellF, ext, Fr.pl]
  · rw [used_8] at *; simp at e0 e1 e2 e3 e4 e5 e6 e7 e8; subst_vars; simp [fill, setF, zf, cellF, ext, Fr.pl]
  · rw [used_9] at *; simp at e0 e1 e2 e3 e4 e5 e6 e7 e8; subst_vars; simp [fill, setF, zf, cellF, ext, Fr.pl]
  · rw [used_10] at *; simp at e0 e1 e2 e3 e4 e5 e6 e7 e8; subst_vars; simp [fill, setF, zf, cellF, ext, Fr.pl]
  · rw [used_11] at *; simp at e0 e1 e2 e3 e4 e5 e6 e7 e8; subst_vars; simp [fill, setF, zf, cellF, ext, Fr.pl]
  · rw [used_12] at *; simp at e0 e1 e2 e3 e4 e5 e6 e7 e8; subst_vars; simp [fill, setF, zf, cellF, ext, Fr.pl]
  · rw [used_13] at *; simp at e0 e1 e2 e3 e4 e5 e6 e7 e8; subst_vars; simp [fill, setF, zf, cellF, ext, Fr.pl]
  · rw [used_14] at *; simp at e0 e1 e2 e3 e4 e5 e6 e7 e8; subst_vars; simp [fill, setF, zf, cellF, ext, Fr.pl]
  · rw [used_15] at *; simp at e0 e1 e2 e3 e4 e5 e6 e7 e8; subst_vars; simp [fill, setF, zf, cellF, ext, Fr.pl]
  · rw [used_16] at *; simp at e0 e1 e2 e3 e4 e5 e6 e7 e8; subst_vars; simp [fill, setF, zf, cellF, ext, Fr.pl]
  · rw [used_17] at *; simp at e0 e1 e2 e3 e4 e5 e6 e7 e8; subst_vars; simp [fill, setF, zf, cellF, ext, Fr.pl]

/-- A cell that its letter keeps whole. -/
theorem norm_cellF (f : Fr) (x : Nat) (hx : x < 9) : F.normC (letter x).toNat (cellF f x) = cellF f x := by
  rcases ext_nine x hx with rfl | rfl | rfl | rfl | rfl | rfl | rfl | rfl | rfl <;> rfl
theorem norms_fields (f : Fr) : ∀ L : List Nat, (∀ x ∈ L, x < 9) → F.norms (L.map letter) (L.map (cellF f)) = L.map (cellF f)
  | [], _ => rfl
  | x :: L, h => by
    show F.normC (letter x).toNat (cellF f x) :: F.norms (L.map letter) (L.map (cellF f)) = _
    rw [norm_cellF f x (h x (by simp)), norms_fields f L (fun y hy => h y (by simp [hy]))]
    rfl
theorem norms_cellsP (f : Fr) (t : Int) : F.norms (layS f.kind) (cellsP f t) = cellsP f t := by
  show F.normC 104 { n := t } :: F.normC 98 { n := f.kind } :: F.norms (layL f.kind) ((used f.kind).map (cellF f)) = _
  unfold layL
  rw [norms_fields f _ (used_lt _)]
  rfl
/-- What is taken apart is kept whole by its letters. -/
theorem cellS_norm (c : Nat) (bs : List UInt8) : F.normC c (F.cellS c bs) = F.cellS c bs := by
  unfold F.normC F.cellS
  repeat' split
  all_goals rfl
theorem decS_norm : ∀ {l bs : List UInt8} {cs : List F.FC}, F.decS l bs = .ok cs → F.norms l cs = cs
  | [], bs, cs, h => by
    unfold F.decS at h
    split at h
    · cases h; rfl
    · cases h
  | c :: l, bs, cs, h => by
    unfold F.decS at h
    split at h
    · cases h
    · rename_i n hn
      split at h
      · cases h
      · rename_i r hr
        injection h with h
        subst h
        show F.normC c.toNat (F.cellS c.toNat (bs.take n)) :: F.norms l r = _
        rw [cellS_norm, decS_norm hr]
theorem norm_cases (x : Nat) (hx : x < 9) (c : F.FC) (h : F.normC (letter x).toNat c = c) (f : Fr) (A : Option Addr) (C : Nat) (hb : f.bs = []) : cellF (setF f x c A C) x = c := by
  obtain ⟨n, fl, s⟩ := c
  rcases ext_nine x hx with rfl | rfl | rfl | rfl | rfl | rfl | rfl | rfl | rfl
  all_goals
    simp [F.normC, letter, F.isT] at h
    obtain ⟨rfl, rfl⟩ := h
    simp [cellF, setF, ext, hb]
/-- Fields set beside a field leave it. -/
theorem cellF_other (f : Fr) (x y : Nat) (hx : x < 9) (hy : y < 9) (h : x ≠ y) (c : F.FC) (A : Option Addr) (C : Nat) : cellF (setF f y c A C) x = cellF f x := by
  rcases ext_nine x hx with rfl | rfl | rfl | rfl | rfl | rfl | rfl | rfl | rfl <;> rcases ext_nine y hy with rfl | rfl | rfl | rfl | rfl | rfl | rfl | rfl | rfl <;> first | exact absurd rfl h | simp [cellF, setF, ext]
theorem cellF_fill : ∀ (L : List Nat) (cs : List F.FC) (f : Fr) (x : Nat), x < 9 → (∀ y ∈ L, y < 9) → x ∉ L → cellF (fill f L cs) x = cellF f x
  | [], _, _, _, _, _, _ => by simp [fill]
  | _ :: _, [], _, _, _, _, _ => by simp [fill]
  | y :: L, c :: cs, f, x, hx, hL, hn => by
    show cellF (fill (setF f y c none 0) L cs) x = _
    rw [cellF_fill L cs _ x hx (fun z hz => hL z (by simp [hz])) (fun h => hn (by simp [h]))]
    exact cellF_other f x y hx (hL y (by simp)) (fun e => hn (by simp [e])) c none 0
theorem bs_fill (f : Fr) (x : Nat) (hx : x ≠ 8) (h9 : x < 9) (c : F.FC) (A : Option Addr) (C : Nat) : (setF f x c A C).bs = f.bs := by
  rcases ext_nine x h9 with rfl | rfl | rfl | rfl | rfl | rfl | rfl | rfl | rfl <;> first | exact absurd rfl hx | rfl
/-- The cells of a frame that is filled by cells are these. -/
theorem cells_fill : ∀ (L : List Nat) (cs : List F.FC) (f : Fr), (∀ y ∈ L, y < 9) → L.Nodup → cs.length = L.length → F.norms (L.map letter) cs = cs → f.bs = [] → L.map (cellF (fill f L cs)) = cs
  | [], cs, f, _, _, hl, _, _ => by
    have : cs = [] := List.eq_nil_of_length_eq_zero hl
    subst this; rfl
  | x :: L, [], f, _, _, hl, _, _ => by simp at hl
  | x :: L, c :: cs, f, hL, hnd, hl, hn, hb => by
    have hn' : F.normC (letter x).toNat c :: F.norms (L.map letter) cs = c :: cs := hn
    injection hn' with h1 h2
    rw [List.nodup_cons] at hnd
    show cellF (fill (setF f x c none 0) L cs) x :: L.map (cellF (fill (setF f x c none 0) L cs)) = c :: cs
    rw [cellF_fill L cs _ x (hL x (by simp)) (fun y hy => hL y (by simp [hy])) hnd.1, norm_cases x (hL x (by simp)) c h1 f none 0 hb]
    congr 1
    by_cases h8 : x = 8
    · cases L with
      | nil =>
        have : cs = [] := List.eq_nil_of_length_eq_zero (by simpa using hl)
        subst this; rfl
      | cons y L =>
        -- bytes stand last in every layout: this case is met by 'last8'
        subst h8
        exact cells_fill8 (y :: L) cs _ (fun y hy => hL y (by simp [hy])) hnd.2 (by simpa using hl) h2 hnd.1
    · exact cells_fill L cs _ (fun y hy => hL y (by simp [hy])) hnd.2 (by simpa using hl) h2 (by rw [bs_fill f x h8 (hL x (by simp))]; exact hb)
where
  cells_fill8 : ∀ (L : List Nat) (cs : List F.FC) (f : Fr), (∀ y ∈ L, y < 9) → L.Nodup → cs.length = L.length → F.norms (L.map letter) cs = cs → 8 ∉ L → L.map (cellF (fill f L cs)) = cs
  | [], cs, f, _, _, hl, _, _ => by
    have : cs = [] := List.eq_nil_of_length_eq_zero hl
    subst this; rfl
  | x :: L, [], f, _, _, hl, _, _ => by simp at hl
  | x :: L, c :: cs, f, hL, hnd, hl, hn, hb => by
    have hn' : F.normC (letter x).toNat c :: F.norms (L.map letter) cs = c :: cs := hn
    injection hn' with h1 h2
    rw [List.nodup_cons] at hnd
    have hx8 : x ≠ 8 := fun e => hb (by simp [e])
    show cellF (fill (setF f x c none 0) L cs) x :: L.map (cellF (fill (setF f x c none 0) L cs)) = c :: cs
    rw [cellF_fill L cs _ x (hL x (by simp)) (fun y hy => hL y (by simp [hy])) hnd.1, norm_not8 x (hL x (by simp)) hx8 c h1 f none 0]
    congr 1
    exact cells_fill8 L cs _ (fun y hy => hL y (by simp [hy])) hnd.2 (by simpa using hl) h2 (fun h => hb (by simp [h]))
  norm_not8 (x : Nat) (hx : x < 9) (h8 : x ≠ 8) (c : F.FC) (h : F.normC (letter x).toNat c = c) (f : Fr) (A : Option Addr) (C : Nat) : cellF (setF f x c A C) x = c := by
    obtain ⟨n, fl, s⟩ := c
    rcases ext_nine x hx with rfl | rfl | rfl | rfl | rfl | rfl | rfl | rfl | rfl
    all_goals first | exact absurd rfl h8 | (simp [F.normC, letter, F.isT] at h; obtain ⟨rfl, rfl⟩ := h; simp [cellF, setF, ext])
theorem used_nodup (k : Int) : (used k).Nodup := by
  rcases kinds_or k with (rfl | rfl | rfl | rfl | rfl | rfl | rfl | rfl | rfl | rfl | rfl | rfl | rfl | rfl | rfl | rfl | rfl) | h
  rotate_right
  · rw [used_none k h]; simp
  all_goals decide
theorem total_1020 (f : Fr) (h : valid f = true) : total f ≤ 1020 := by
  have hw := valid_within h
  have hu := valid_used h
  have h5 : 5 ∈ used f.kind → wid f 5 ≤ 17 := fun hm => by
    have h2 := (hw 5 hm).2
    have e1 : hi f.kind 5 = 16 := rfl
    have e2 : ext f 5 = (f.who.size : Int) := rfl
    have e3 : wid f 5 = 1 + f.who.size := rfl
    omega
  have h6 : 6 ∈ used f.kind → wid f 6 ≤ 64 := fun hm => by
    have h2 := (hw 6 hm).2
    have e1 : hi f.kind 6 = 63 := rfl
    have e2 : ext f 6 = (f.name.size : Int) := rfl
    have e3 : wid f 6 = 1 + f.name.size := rfl
    omega
  have h8 : 8 ∈ used f.kind → wid f 8 ≤ 514 := fun hm => wid_le f 8 (by decide) (hw 8 hm)
  have w0 : wid f 0 = 8 := rfl
  have w1 : wid f 1 = 8 := rfl
  have w2 : wid f 2 = 4 := rfl
  have w3 : wid f 3 = 4 := rfl
  have w4 : wid f 4 = 1 := rfl
  have w7 : wid f 7 = 8 := rfl
  unfold total
  generalize wid f = g at *
  generalize f.kind = k at *
  clear hw h
  rcases kinds_or k with (rfl | rfl | rfl | rfl | rfl | rfl | rfl | rfl | rfl | rfl | rfl | rfl | rfl | rfl | rfl | rfl | rfl) | h1
  rotate_right
  · exact absurd (used_none k h1) hu
  · rw [used_1] at *; simp at h5 h6 h8 ⊢; omega
  · rw [used_2] at *; simp at h5 h6 h8 ⊢; omega
  · rw [used_3] at *; simp at h5 h6 h8 ⊢; omega
  · rw [used_4] at *; simp at h5 h6 h8 ⊢; omega
  · rw [used_5] at *; simp at h5 h6 h8 ⊢; omega
  · rw [used_6] at *; simp at h5 h6 h8 ⊢; omega
  · rw [used_7] at *; simp at h5 h6 h8 ⊢; omega
  · rw [used_8] at *; simp at h5 h6 h8 ⊢; omega
  · rw [used_9] at *; simp at h5 h6 h8 ⊢; omega
  · rw [used_10] at *; simp at h5 h6 h8 ⊢; omega
  · rw [used_11] at *; simp at h5 h6 h8 ⊢; omega
  · rw [used_12] at *; simp at h5 h6 h8 ⊢; omega
  · rw [used_13] at *; simp at h5 h6 h8 ⊢; omega
  · rw [used_14] at *; simp at h5 h6 h8 ⊢; omega
  · rw [used_15] at *; simp at h5 h6 h8 ⊢; omega
  · rw [used_16] at *; simp at h5 h6 h8 ⊢; omega
  · rw [used_17] at *; simp at h5 h6 h8 ⊢; omega

/-- The first three bytes: the length told, the kind. -/
theorem cov_head (f : Fr) : ∃ r, cov f = F.be 2 ((total f : Int) - 2).toNat ++ (F.be 1 f.kind.toNat ++ r) := by
  refine ⟨F.encB (layL f.kind) ((used f.kind).map (cellF f)), ?_⟩
  show F.fieldB 104 { n := (total f : Int) - 2 } ++ (F.fieldB 98 { n := f.kind } ++ _) = _
  rfl
theorem be1 (n : Nat) : F.be 1 n = [UInt8.ofNat n] := by
  apply List.ext_getElem
  · rw [F.be_length]; rfl
  · intro i h1 h2
    have : i = 0 := by rw [F.be_length] at h1; omega
    subst this
    rw [F.be_getElem 1 n 0 (by decide)]
    simp
theorem kindOf_cov {f : Fr} (h : valid f = true) : kindOf (cov f) = f.kind := by
  obtain ⟨r, e⟩ := cov_head f
  have hk := used_kind _ (valid_used h)
  unfold kindOf
  rw [e, be1]
  have e2 : (F.be 2 ((total f : Int) - 2).toNat ++ ([UInt8.ofNat f.kind.toNat] ++ r)).getD 2 0 = UInt8.ofNat f.kind.toNat := by
    rw [List.getD_eq_getElem?_getD, List.getElem?_append_right (by rw [F.be_length]; exact Nat.le_refl _), F.be_length]
    rfl
  rw [e2, UInt8.toNat_ofNat', Nat.mod_eq_of_lt (by omega)]
  omega
theorem cells_okP (f : Fr) (hf : f.who.size ≤ maxLen) (hn : f.name.size ≤ maxLen) (hw : f.weight < 18446744073709551616) (h : valid f = true) : ∀ x ∈ cellsP f ((total f : Int) - 2), x.ok := by
  have hb : f.bs.length ≤ 9223372036854775807 := by
    by_cases hm : 8 ∈ used f.kind
    · have h1 := (valid_within h 8 hm).2
      have h2 := bhi_le f.kind
      have e : ext f 8 = (f.bs.length : Int) := rfl
      have e2 : hi f.kind 8 = bhi f.kind := rfl
      omega
    · have := valid_zero h 8 (by decide) hm
      have e : ext f 8 = (f.bs.length : Int) := rfl
      omega
  have ht := total_le f h
  have hk := used_kind _ (valid_used h)
  have z : F.FC.ok {} := ⟨by decide, by decide, by decide, by show (0 : Nat) ≤ _; exact Nat.zero_le _⟩
  intro x hx
  unfold cellsP at hx
  rcases List.mem_append.1 hx with hx | hx
  · simp at hx
    rcases hx with rfl | rfl
    · exact ⟨by show _ ≤ (total f : Int) - 2; omega, by show (total f : Int) - 2 ≤ _; omega, z.2.2.1, z.2.2.2⟩
    · exact ⟨by show _ ≤ f.kind; omega, by show f.kind ≤ _; omega, z.2.2.1, z.2.2.2⟩
  · obtain ⟨y, hy, rfl⟩ := List.mem_map.1 hx
    have hv := valid_within h y hy
    unfold cellF
    split
    · exact ⟨z.1, z.2.1, z.2.2.1, hf⟩
    split
    · exact ⟨z.1, z.2.1, z.2.2.1, hn⟩
    split
    · exact ⟨z.1, z.2.1, hw, z.2.2.2⟩
    split
    · exact ⟨z.1, z.2.1, z.2.2.1, by show f.bs.toArray.size ≤ maxLen; have e : maxLen = 9223372036854775807 := rfl; rw [e]; simpa using hb⟩
    · rename_i h5 h6 h7 h8
      have h9 := used_lt _ y hy
      obtain ⟨v1, v2⟩ := hv
      rcases ext_nine y h9 with rfl | rfl | rfl | rfl | rfl | rfl | rfl | rfl | rfl
      · exact ⟨by show _ ≤ ext f 0; simp [lo] at v1; omega, by show ext f 0 ≤ _; simp [hi] at v2; omega, z.2.2.1, z.2.2.2⟩
      · exact ⟨by show _ ≤ ext f 1; simp [lo] at v1; omega, by show ext f 1 ≤ _; simp [hi] at v2; omega, z.2.2.1, z.2.2.2⟩
      · exact ⟨by show _ ≤ ext f 2; simp [lo] at v1; omega, by show ext f 2 ≤ _; simp [hi] at v2; omega, z.2.2.1, z.2.2.2⟩
      · exact ⟨by show _ ≤ ext f 3; simp [lo] at v1; omega, by show ext f 3 ≤ _; simp [hi] at v2; omega, z.2.2.1, z.2.2.2⟩
      · exact ⟨by show _ ≤ ext f 4; simp [lo] at v1; omega, by show ext f 4 ≤ _; simp [hi] at v2; omega, z.2.2.1, z.2.2.2⟩
      · exact absurd rfl h5
      · exact absurd rfl h6
      · exact absurd rfl h7
      · exact absurd rfl h8
/-- A frame whose texts and weight fit. -/
def Fr.fit (f : Fr) : Prop := f.who.size ≤ maxLen ∧ f.name.size ≤ maxLen ∧ f.weight < 18446744073709551616
theorem Fr.ok.fit {f : Fr} {w : World} {B : Nat} (h : f.ok w B) : f.fit := ⟨h.who, h.name, h.weight⟩
theorem openB_cov {f : Fr} (h : valid f = true) (hf : f.fit) : openB (cov f) = some f.pl := by
  have ht := total_le f h
  have hs := sumS_frame f ((total f : Int) - 2) h (by omega) (by omega)
  have hd := F.dec_enc (kn_layS f.kind) (by rw [cellsP_length', layS_length']) (cells_okP f hf.1 hf.2.1 hf.2.2 h) hs []
  rw [List.append_nil, if_pos rfl, norms_cellsP] at hd
  unfold openB
  rw [kindOf_cov h]
  have hd2 : F.decS (layS f.kind) (cov f) = .ok ({ n := (total f : Int) - 2 } :: { n := f.kind } :: (used f.kind).map (cellF f)) := hd
  rw [hd2]
  simp only
  rw [if_pos (by rw [cov_length f h]), fill_cells h hf.2.2]
where
  cellsP_length' : ∀ {f : Fr} {t : Int}, (cellsP f t).length = 2 + (used f.kind).length := by
    intro f t
    unfold cellsP
    rw [List.length_append, List.length_map]
    rfl
  layS_length' : ∀ {k : Int}, (layS k).length = 2 + (used k).length := by
    intro k
    unfold layS layL
    rw [List.length_append, List.length_map]
    rfl
theorem getB_putB {f : Fr} (h : valid f = true) (hf : f.fit) : getB (putB f) = some f.pl := by
  have h1 := total_1020 f h
  have h2 := total_le f h
  have hl := putB_length f h
  have hc := cov_length f h
  have e : (putB f).take ((putB f).length - 4) = cov f := by
    rw [hl, Nat.add_sub_cancel]
    unfold putB
    rw [List.take_append_of_le_length (by omega), List.take_of_length_le (by omega)]
  unfold getB
  have h7 : 7 ≤ (putB f).length := by
    have hu := valid_used h
    have : 4 ≤ total f := by
      unfold total
      cases hq : used f.kind with
      | nil => exact absurd hq hu
      | cons x L =>
        have : 1 ≤ wid f x := by unfold wid; repeat' split
                                 all_goals omega
        simp only [List.map_cons, List.sum_cons]
        omega
    omega
  rw [e, if_pos ⟨h7, by omega, rfl⟩, openB_cov h hf]
  show (if valid f.pl = true then some f.pl else none) = _
  rw [valid_pl, if_pos h]
theorem getB_some {bs : List UInt8} {f : Fr} (h : getB bs = some f) : valid f = true ∧ f.pl = f ∧ f.fit ∧ putB f = bs ∧ 7 ≤ bs.length ∧ bs.length ≤ 1024 := by
  unfold getB at h
  split at h
  · rename_i hc
    obtain ⟨h7, h1024, hseal⟩ := hc
    generalize hC : bs.take (bs.length - 4) = C at *
    have hCl : C.length = bs.length - 4 := by rw [← hC, List.length_take]; omega
    unfold goodF at h
    split at h
    · rename_i g hg
      split at h
      · rename_i hv
        injection h with h
        subst h
        unfold openB at hg
        split at hg
        · rename_i y z cs hdec
          split at hg
          · rename_i hy
            injection hg with hg
            have hmx : C.length ≤ maxLen := by have e : maxLen = 9223372036854775807 := rfl; rw [e]; omega
            obtain ⟨q1, q2, q3, q4⟩ := F.enc_dec (kn_layS _) hmx hdec
            have hn := decS_norm hdec
            have hkind : g.kind = kindOf C := by rw [← hg, fill_kind]; rfl
            have hn1 : F.normC 104 y :: F.normC 98 z :: F.norms (layL (kindOf C)) cs = y :: z :: cs := hn
            injection hn1 with hn1 hn2
            injection hn2 with hn2 hn3
            have hlen : cs.length = (used (kindOf C)).length := by
              have : (layS (kindOf C)).length = 2 + (used (kindOf C)).length := by unfold layS layL; rw [List.length_append, List.length_map]; rfl
              rw [this] at q1
              simp at q1
              omega
            have hcs : (used (kindOf C)).map (cellF g) = cs := by
              rw [← hg]
              exact cells_fill _ cs _ (used_lt _) (used_nodup _) hlen hn3 rfl
            have hz : z.n = kindOf C := by
              have hk98 : F.encB (layS (kindOf C)) (y :: z :: cs) = F.be 2 y.n.toNat ++ (F.be 1 z.n.toNat ++ F.encB (layL (kindOf C)) cs) := rfl
              have hz0 : 0 ≤ z.n ∧ z.n ≤ 255 := by
                obtain ⟨n1, k1, s1, s2, _⟩ := F.sumS_cons (c := 104) (l := 98 :: layL (kindOf C)) (x := y) (cs := z :: cs) q3
                obtain ⟨n2, k2, s3, s4, _⟩ := F.sumS_cons (c := 98) (l := layL (kindOf C)) (x := z) (cs := cs) s2
                rcases F.sizeS_inv s3 with ⟨e, _⟩ | ⟨_, e, _⟩ | ⟨_, _, e1, e2, _⟩
                · exact absurd e (by decide)
                · exact absurd e (by decide)
                · exact ⟨e1, e2⟩
              have e3 : C.getD 2 0 = UInt8.ofNat z.n.toNat := by
                rw [← q2, hk98, be1, List.getD_eq_getElem?_getD, List.getElem?_append_right (by rw [F.be_length]; exact Nat.le_refl _), F.be_length]
                rfl
              unfold kindOf
              rw [e3, UInt8.toNat_ofNat', Nat.mod_eq_of_lt (by omega)]
              omega
            have hyc : y = { n := y.n } := by
              obtain ⟨a, b, c⟩ := y
              simp [F.normC, F.isT] at hn1
              obtain ⟨rfl, rfl⟩ := hn1
              rfl
            have hzc : z = { n := z.n } := by
              obtain ⟨a, b, c⟩ := z
              simp [F.normC, F.isT] at hn2
              obtain ⟨rfl, rfl⟩ := hn2
              rfl
            have hP : cellsP g ((C.length : Int) - 2) = y :: z :: cs := by
              show { n := (C.length : Int) - 2 } :: { n := g.kind } :: (used g.kind).map (cellF g) = _
              rw [hkind, hcs, hyc, hzc, hy, hz]
            have ht := total_le g hv
            have hT : total g = C.length := by
              have h1 := sumS_frame g ((C.length : Int) - 2) hv (by omega) (by omega)
              rw [hP, hkind, q3] at h1
              injection h1 with h1
              exact h1.symm
            have hcov : cov g = C := by
              unfold cov
              rw [hT, hP, hkind]
              exact q2
            have hfit : g.fit := by
              have hok : ∀ x ∈ cs, x.ok := fun x hx => q4 x (by simp [hx])
              have hmm : maxLen = 9223372036854775807 := rfl
              refine ⟨?_, ?_, ?_⟩
              · by_cases hm : 5 ∈ used g.kind
                · have h1 := (valid_within hv 5 hm).2
                  have e1 : hi g.kind 5 = 16 := rfl
                  have e2 : ext g 5 = (g.who.size : Int) := rfl
                  rw [hmm]; omega
                · have h1 := valid_zero hv 5 (by decide) hm
                  have e2 : ext g 5 = (g.who.size : Int) := rfl
                  rw [hmm]; omega
              · by_cases hm : 6 ∈ used g.kind
                · have h1 := (valid_within hv 6 hm).2
                  have e1 : hi g.kind 6 = 63 := rfl
                  have e2 : ext g 6 = (g.name.size : Int) := rfl
                  rw [hmm]; omega
                · have h1 := valid_zero hv 6 (by decide) hm
                  have e2 : ext g 6 = (g.name.size : Int) := rfl
                  rw [hmm]; omega
              · by_cases hm : 7 ∈ used (kindOf C)
                · have : cellF g 7 ∈ cs := by rw [← hcs]; exact List.mem_map.2 ⟨7, hm, rfl⟩
                  exact (hok _ this).2.2.1
                · have e7 : cellF g 7 = cellF (zf (kindOf C)) 7 := by
                    rw [← hg]
                    exact cellF_fill _ cs _ 7 (by decide) (used_lt _) hm
                  have : g.weight = 0 := congrArg F.FC.f e7
                  omega
            refine ⟨hv, ?_, hfit, ?_, h7, h1024⟩
            · rw [← hg]; exact fill_plain _ cs _ rfl
            · unfold putB
              rw [hcov]
              exact hseal
          · cases hg
        · cases hg
      · cases h
    · cases h
  · cases h
end Go.Proofs.YtmhfhdbaeijcfaaDoor
namespace Go.Proofs.YtmhfhdbaeijcfaaDoor
open Go.RowKit

end Go.Proofs.YtmhfhdbaeijcfaaDoor
namespace Go.Proofs.YtmhfhdbaeijcfaaDoor
open Go.RowKit

end Go.Proofs.YtmhfhdbaeijcfaaDoor
