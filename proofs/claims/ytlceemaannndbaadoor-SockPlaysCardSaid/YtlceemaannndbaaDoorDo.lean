/- What sock.New, Shut, Carry and Read do. -/
import Derived.Test.YtlceemaannndbaaDoorAsk
import Derived.Lib.SliceRun
namespace Go.Proofs.YtlceemaannndbaaDoor
open Go.RowKit

/-- A pair without any bytes. -/
def fresh (room : Nat) : Pr := ⟨room, fun _ => ⟨[], 0, false, false⟩, false⟩
theorem fresh_ok {room : Nat} (h : room ≤ 65536) : (fresh room).ok := ⟨h, fun _ => Nat.zero_le _, fun _ => Nat.le_refl _⟩
theorem fresh_at (w : World) (room B : Nat) (h : room ≤ 65536) (hB : B ≤ w.heap.size) : PairAt (w.alloc (.cells #[.int .i64 (room : Int), .slice none 0 0, .int .i64 0, .bool false, .bool false, .slice none 0 0, .int .i64 0, .bool false, .bool false, .bool false] 64)) B (fun k => k = w.heap.size) w.heap.size (fresh room) :=
  ⟨fun _ => .slice none 0 0, ⟨Row.new w _ 64, fun _ _ => Span.nil _, fun _ _ e => (by cases e), fun _ e => (by cases e), rfl, fun _ _ _ e => (by cases e), fun k hk => by simp; omega, fun k hk => by omega⟩, fresh_ok h⟩
set_option maxHeartbeats 400000 in
theorem new_ok (room : Nat) (w : World) (h1 : 1 ≤ room) (h2 : room ≤ 65536) (B : Nat) (hB : B ≤ w.heap.size) :
    Calls Tryd.prog 9 #[.int .i64 (room : Int)] w fun x w' => x = .returned (.tuple #[.pointer (some ⟨w.heap.size, 0, none⟩), .nilIface]) ∧ Hid (PairAt w' B (fun k => k = w.heap.size) w.heap.size (fresh room) ∧ Below w.heap.size w w') := by
  have HF := Lib.hid (fresh_at w room B h2 hB)
  go_enter Tryd.func9, Tryd.ntmps9
  go_wp2_with fail
  go_ret2
  exact ⟨rfl, Lib.hid ⟨HF.out, (Below.refl _ _).alloc (Nat.le_refl _) _⟩⟩
set_option maxHeartbeats 400000 in
theorem new_bad (ad : Nat → Addr) (room : Int) (w : World) (hE : Errs w ad) (h : room < 1 ∨ 65536 < room) :
    Calls Tryd.prog 9 #[.int .i64 room] w fun x w' => x = .returned (.tuple #[.pointer none, .iface 73 (.pointer (some (ad 0)))]) ∧ ∃ n, w' = w.drewN n := by
  have c0 := hE.cell 0 (by omega)
  clear hE
  rcases h with h | h
  · go_enter Tryd.func9, Tryd.ntmps9
    go_wp2_with fail
    go_quiet (fail)
    go_wp2_with fail
    go_ret2
    exact ⟨rfl, _, rfl⟩
  · have h' : ¬ room < 1 := by omega
    go_enter Tryd.func9, Tryd.ntmps9
    go_wp2_with fail
    go_quiet (fail)
    go_wp2_with fail
    go_ret2
    exact ⟨rfl, _, rfl⟩

def Pr.setShut (P : Pr) (i : Nat) : Pr := P.put i { P.ws i with shut := true }
theorem shut_is_ok {P : Pr} (h : P.ok) (i : Nat) : (P.setShut i).ok := by
  refine ⟨h.room, fun j => ?_, fun j => ?_⟩ <;> by_cases e : j = i
  · subst e; rw [Pr.setShut, Pr.put_same]; exact h.row j
  · rw [Pr.setShut, Pr.put_other _ _ e]; exact h.row j
  · subst e; rw [Pr.setShut, Pr.put_same]; exact h.car j
  · rw [Pr.setShut, Pr.put_other _ _ e]; exact h.car j
set_option maxHeartbeats 400000 in
theorem shut_ok {B : Nat} {F : Nat → Prop} {P : Pr} (g i : Nat) (w : World) (h : PairAt w B F g P) (hi : i < 2) (hc : P.cut = false) :
    Calls Tryd.prog 15 #[.pointer (some ⟨g, 0, none⟩), .int .i64 (i : Int)] w fun x w' => x = .returned .nilIface ∧ Hid (PairAt w' B F g (P.setShut i) ∧ Turn F w w') := by
  have H := Lib.hid h
  have HC := Lib.hid hc
  clear hc
  obtain ⟨v, h, hok⟩ := h
  obtain ⟨A, cap, _, h1, h2, c0, c1, c2, c3⟩ := h.at hi
  have f2 := h.row.frozen (1 + i * 4 + 2)
  have HV := Lib.hid h
  clear h
  go_enter Tryd.func15, Tryd.ntmps15
  go_wp2_with (first
    | (go_at_call 31; (with_reducible refine (refusal_none _ _ _ _ H.out hi (by omega) HC.out).mono ?_); rintro x w' ⟨rfl, rfl⟩)
    | (go_at_call 32; (with_reducible refine (out_any _ _ _ hi).mono ?_); rintro x w' ⟨rfl, rfl⟩))
  go_ret
  exact ⟨rfl, Lib.hid ⟨⟨v, HV.out.setShut hi true, shut_is_ok hok i⟩, HV.out.turn_set _ _⟩⟩
theorem shut_cut {B : Nat} {F : Nat → Prop} {P : Pr} (ad : Nat → Addr) (g i : Nat) (w : World) (hE : Errs w ad) (h : PairAt w B F g P) (hi : i < 2) (hc : P.cut = true) :
    Calls Tryd.prog 15 #[.pointer (some ⟨g, 0, none⟩), .int .i64 (i : Int)] w fun x w' => x = .returned (.iface 73 (.pointer (some (ad 1)))) ∧ w = w' := by
  have H := Lib.hid h
  have HC := Lib.hid hc
  have HE := Lib.hid hE
  clear hc h hE
  go_enter Tryd.func15, Tryd.ntmps15
  go_wp2_with (first
    | (go_at_call 31; (with_reducible refine (refusal_cut ad _ _ _ _ HE.out H.out hi (by omega) HC.out).mono ?_); rintro x w' ⟨rfl, rfl⟩))
  go_ret
  exact ⟨rfl, rfl⟩
theorem shut_bad (ad : Nat → Addr) (a : Addr) (e : Int) (w : World) (hE : Errs w ad) (h : endB e = false) :
    Calls Tryd.prog 15 #[.pointer (some a), .int .i64 e] w fun x w' => x = .returned (.iface 73 (.pointer (some (ad 0)))) ∧ w = w' := by
  have HE := Lib.hid hE
  have HB : Hid ((endB e && decide ((0 : Int) ≤ 0)) = false) := Lib.hid (by rw [h]; rfl)
  clear hE h
  go_enter Tryd.func15, Tryd.ntmps15
  go_wp2_with (first
    | (go_at_call 31; (with_reducible refine (refusal_bad ad _ _ _ _ HE.out HB.out).mono ?_); rintro x w' ⟨rfl, rfl⟩))
  go_ret
  exact ⟨rfl, rfl⟩

/-- How many bytes Carry carries, and the pair behind it. -/
def Pr.moved (P : Pr) (i : Nat) (n : Nat) : Nat := min n ((P.ws i).row.length - (P.ws i).car)
def Pr.carry (P : Pr) (i : Nat) (n : Nat) : Pr := P.put i { P.ws i with car := (P.ws i).car + P.moved i n }
theorem carry_is_ok {P : Pr} (h : P.ok) (i n : Nat) : (P.carry i n).ok := by
  refine ⟨h.room, fun j => ?_, fun j => ?_⟩ <;> by_cases e : j = i
  · subst e; rw [Pr.carry, Pr.put_same]; exact h.row j
  · rw [Pr.carry, Pr.put_other _ _ e]; exact h.row j
  · subst e; rw [Pr.carry, Pr.put_same]; have := h.car j; simp only [Pr.moved]; omega
  · rw [Pr.carry, Pr.put_other _ _ e]; exact h.car j
set_option maxHeartbeats 1000000 in
theorem carry_ok {B : Nat} {F : Nat → Prop} {P : Pr} (g i : Nat) (n : Nat) (w : World) (h : PairAt w B F g P) (hi : i < 2) (hc : P.cut = false) (hn : n ≤ 9223372036854775807) :
    Calls Tryd.prog 17 #[.pointer (some ⟨g, 0, none⟩), .int .i64 (i : Int), .int .i64 (n : Int)] w fun x w' => x = .returned (.tuple #[.int .i64 (P.moved i n : Int), .nilIface]) ∧ Hid (PairAt w' B F g (P.carry i n) ∧ Turn F w w') := by
  have H := Lib.hid h
  have HC := Lib.hid hc
  clear hc
  obtain ⟨v, h, hok⟩ := h
  obtain ⟨A, cap, _, h1, h2, c0, c1, c2, c3⟩ := h.at hi
  have f1 := h.row.frozen (1 + i * 4 + 1)
  have HV := Lib.hid h
  have k1 := hok.car i
  have k2 := hok.row i
  have k3 := hok.room
  clear h
  have HM : Hid (P.moved i n = min n ((P.ws i).row.length - (P.ws i).car)) := Lib.hid rfl
  have HCA := Lib.hid (carry_is_ok hok i n)
  clear hok
  rcases Nat.lt_or_ge ((P.ws i).row.length - (P.ws i).car) n with hge | hlt
  rotate_left
  · have hlt' : (n : Int) ≤ (P.ws i).row.length - (P.ws i).car := by omega
    have HM2 : Hid (P.moved i n = n) := Lib.hid (by rw [HM.out]; omega)
    have HP : Hid (P.carry i n = P.put i { P.ws i with car := (P.ws i).car + n }) := Lib.hid (by rw [Pr.carry, HM2.out])
    go_enter Tryd.func17, Tryd.ntmps17
    go_wp2_with (first
      | (go_at_call 31; (with_reducible refine (refusal_none _ _ _ _ H.out hi (by omega) HC.out).mono ?_); rintro x w' ⟨rfl, rfl⟩)
      | (go_at_call 32; (with_reducible refine (out_any _ _ _ hi).mono ?_); rintro x w' ⟨rfl, rfl⟩)
      | (go_at_call 34; (with_reducible refine (flight_any _ _ _ H.out hi).mono ?_); rintro x w' ⟨rfl, nn, rfl⟩))
    go_ret2
    refine ⟨ret_two (by rw [HM2.out]), Lib.hid ⟨⟨v, ?_, HCA.out⟩, ?_⟩⟩
    · rw [HP.out]
      have hv : PairV (w.drewN nn) B F g P v := HV.out.keep (Nat.le_refl _) (fun _ _ => rfl)
      exact hv.setCar hi _ _ (by omega)
    · exact ((Stay.drewN w nn).turn F).setCell _ (fun _ => HV.out.self) _
  · have hge' : ¬ (n : Int) ≤ (P.ws i).row.length - (P.ws i).car := by omega
    have HM2 : Hid (P.moved i n = (P.ws i).row.length - (P.ws i).car) := Lib.hid (by rw [HM.out]; omega)
    have HP : Hid (P.carry i n = P.put i { P.ws i with car := (P.ws i).row.length }) := Lib.hid (by rw [Pr.carry, HM2.out, Nat.add_sub_cancel' k1])
    go_enter Tryd.func17, Tryd.ntmps17
    go_wp2_with (first
      | (go_at_call 31; (with_reducible refine (refusal_none _ _ _ _ H.out hi (by omega) HC.out).mono ?_); rintro x w' ⟨rfl, rfl⟩)
      | (go_at_call 32; (with_reducible refine (out_any _ _ _ hi).mono ?_); rintro x w' ⟨rfl, rfl⟩)
      | (go_at_call 34; (with_reducible refine (flight_any _ _ _ H.out hi).mono ?_); rintro x w' ⟨rfl, nn, rfl⟩))
    go_ret2
    refine ⟨ret_two (by rw [HM2.out]; omega), Lib.hid ⟨⟨v, ?_, HCA.out⟩, ?_⟩⟩
    · rw [HP.out]
      have hv : PairV (w.drewN nn) B F g P v := HV.out.keep (Nat.le_refl _) (fun _ _ => rfl)
      exact hv.setCar hi _ _ (by omega)
    · exact ((Stay.drewN w nn).turn F).setCell _ (fun _ => HV.out.self) _
theorem carry_cut {B : Nat} {F : Nat → Prop} {P : Pr} (ad : Nat → Addr) (g i : Nat) (n : Int) (w : World) (hE : Errs w ad) (h : PairAt w B F g P) (hi : i < 2) (hn : 0 ≤ n) (hc : P.cut = true) :
    Calls Tryd.prog 17 #[.pointer (some ⟨g, 0, none⟩), .int .i64 (i : Int), .int .i64 n] w fun x w' => x = .returned (.tuple #[.int .i64 0, .iface 73 (.pointer (some (ad 1)))]) ∧ w = w' := by
  have H := Lib.hid h
  have HC := Lib.hid hc
  have HE := Lib.hid hE
  clear hc h hE
  go_enter Tryd.func17, Tryd.ntmps17
  go_wp2_with (first
    | (go_at_call 31; (with_reducible refine (refusal_cut ad _ _ _ _ HE.out H.out hi hn HC.out).mono ?_); rintro x w' ⟨rfl, rfl⟩))
  go_ret2
  exact ⟨rfl, rfl⟩
theorem carry_bad (ad : Nat → Addr) (a : Addr) (e n : Int) (w : World) (hE : Errs w ad) (h : (endB e && decide (0 ≤ n)) = false) :
    Calls Tryd.prog 17 #[.pointer (some a), .int .i64 e, .int .i64 n] w fun x w' => x = .returned (.tuple #[.int .i64 0, .iface 73 (.pointer (some (ad 0)))]) ∧ w = w' := by
  have HE := Lib.hid hE
  have HB := Lib.hid h
  clear hE h
  go_enter Tryd.func17, Tryd.ntmps17
  go_wp2_with (first
    | (go_at_call 31; (with_reducible refine (refusal_bad ad _ _ _ _ HE.out HB.out).mono ?_); rintro x w' ⟨rfl, rfl⟩))
  go_ret2
  exact ⟨rfl, rfl⟩

theorem wl_append {w : World} {ops : Array Oper} {rest : List Oper} {o : Oper} {a : Act} {Q : Exit → Act → World → Prop} (hgd : o.guard = none) (t x : Operand)
    (ho : o.op = .call { callee := .builtin .append, args := #[t, x], argTypes := #[30, 30] }) (v : Value) (bs : List UInt8) (hs : a.eval t = v) (hsp : Span w v bs) (B : Nat) (A : Option Addr) (m c : Nat) (xs : List UInt8) (hx : a.eval x = .slice A m c) (hm : xs.length = m)
    (hr : Rd w B A (xs.map bv)) (hb : bs.length + m ≤ 140737488355328)
    (h : ∀ v' w', Hid (Span w' v' (bs ++ xs) ∧ Turn (fun k => v.ownBlock = some k) w w' ∧ (v'.ownBlock = v.ownBlock ∨ ∃ k, v'.ownBlock = some k ∧ w.heap.size ≤ k)) → wpList Tryd.prog ops Q rest (a.put o.dst v') w') : wpList Tryd.prog ops Q (o :: rest) a w := by
  refine wpList_plain hgd fun K hK => ?_
  obtain ⟨v', w', hr2, h2⟩ := run_append_span w v bs hsp B A m c xs hm hr hb o.type
  unfold Oper.wp execOp
  simp only [ho, resolve, invoke, builtin, Sem.run_bind, Sem.run_pure, Result.andThen_ok, List.map_toArray, List.map_cons, List.map_nil, hs, hx, hr2]
  exact hK _ _ (h v' w' h2)

/-- A slice of bytes that nobody else has. -/
def New (w w' : World) (A : Option Addr) (n c : Nat) (bs : List UInt8) : Prop := bs.length = n ∧ n ≤ c ∧ c ≤ 9223372036854775807 ∧ Rd w' w'.heap.size A (bs.map bv) ∧ ∀ a, A = some a → w.heap.size ≤ a.block
theorem New.keep {w w1 w' : World} {A : Option Addr} {n c : Nat} {bs : List UInt8} (h : New w w1 A n c bs) (hs : w1.heap.size ≤ w'.heap.size) (hk : ∀ k, w.heap.size ≤ k → k < w1.heap.size → w'.heap[k]? = w1.heap[k]?) : New w w' A n c bs := by
  obtain ⟨h1, h2, h3, h4, h5⟩ := h
  refine ⟨h1, h2, h3, ?_, h5⟩
  rcases h4 with h4 | ⟨ad, rfl, h6, h7⟩
  · exact .inl h4
  · refine .inr ⟨ad, rfl, by omega, fun j u hj => (cell_block ?_).trans (h7 j u hj)⟩
    have e : (ad.add j).block = ad.block := by unfold Addr.add; split <;> rfl
    rw [e]
    exact hk _ (h5 ad rfl) h6
set_option maxHeartbeats 400000 in
theorem clone_any (A : Option Addr) (n c : Nat) (bs : List UInt8) (w : World) (hn : bs.length = n) (hb : n ≤ 140737488355328) (hr : Rd w w.heap.size A (bs.map bv)) (h0 : A = none → n = 0 ∧ c = 0) :
    Calls Tryd.prog 41 #[.slice A n c] w fun x w' => ∃ A' n' c', x = .returned (.slice A' n' c') ∧ Hid (New w w' A' n' c' bs ∧ Below w.heap.size w w') := by
  have HN := Lib.hid hn
  have HR := Lib.hid hr
  clear hn hr
  rcases A with _ | ad
  · have hbs : bs = [] := by
      rcases HR.out with h | ⟨ad, h, _⟩
      · simpa using h
      · cases h
    obtain ⟨rfl, rfl⟩ := h0 rfl
    clear h0
    have hq : ∀ w' : World, (binOp .eql 30 (.slice none 0 0) (.slice none 0 0)).run Tryd.prog w' = .ok (.bool true) w' := fun w' => Lib.run_eql_slice_nil w' 30 5 none 0 0 0 0 Tryd.underlying30
    go_enter Tryd.func41, Tryd.ntmps41
    go_wp2_with fail
    go_ret
    refine ⟨none, 0, 0, rfl, Lib.hid ⟨⟨by rw [hbs]; rfl, Nat.le_refl _, by decide, .inl (by rw [hbs]; rfl), fun a ha => by cases ha⟩, Below.refl _ _⟩⟩
  · have HS := Lib.hid (span_new w #[] [] 0 rfl (by simp) (by decide) (by decide) 0 rfl)
    clear h0
    have hq : ∀ w' : World, (binOp .eql 30 (.slice (some ad) n c) (.slice none 0 0)).run Tryd.prog w' = .ok (.bool false) w' := fun w' => Lib.run_eql_slice_nil w' 30 5 (some ad) n c 0 0 Tryd.underlying30
    have HB : Hid (Below w.heap.size w (w.alloc (.cells #[] 5))) := Lib.hid ((Below.refl _ _).alloc (Nat.le_refl _) _)
    go_enter Tryd.func41, Tryd.ntmps41
    go_wp2_with (first
      | (at_builtin
         refine wl_append rfl (.tmp 5) (.tmp 6) rfl _ [] rfl HS.out w.heap.size (some ad) n c bs rfl HN.out (HR.out.below HB.out) (by simpa using hb) ?_
         intro v1 w1 H1))
    obtain ⟨A1, c1, rfl, g1, g2, g3⟩ := H1.out.1.slice
    go_ret
    refine ⟨A1, _, c1, rfl, Lib.hid ⟨⟨by simp, by simpa using g1, g2, by simpa using g3, fun a ha => ?_⟩, ?_⟩⟩
    · subst ha
      rcases H1.out.2.2 with h | ⟨k, h, hk⟩
      · have e : a.block = w.heap.size := Option.some.inj h
        omega
      · have e : a.block = k := Option.some.inj h
        simp at hk
        omega
    · exact HB.out.trans (H1.out.2.1.below (fun k hk => by have e : w.heap.size = k := Option.some.inj hk; omega) (by simp))

/-- A slice's end, from k on. -/
theorem run_from (w : World) (A : Option Addr) (L cap k : Nat) (z : Int) (hz : z = (k : Int)) (hk : k ≤ L) :
    (Instr.slice 30 (.slice A L cap) (some (.int .i64 z)) none none).run Tryd.prog w = .ok (.slice (if cap = k then A else A.map (·.add k)) (L - k) (cap - k)) w := by
  subst hz
  obtain ⟨i0, hi0, _, hz1, _⟩ := info_parts' u8_info
  have h := run_slice_l (P := Tryd.prog) w 30 A L cap (by rw [show Tryd.prog.elem 30 = 5 by kernel_rfl]; exact Tryd.underlying30) .i64 (k : Int) (by omega) (by omega)
  rw [h, show Tryd.prog.elem 30 = 5 by kernel_rfl]
  simp [sizeOf, typeInfo, hi0, hz1, sliced]
/-- How many bytes Read takes of a way, and the pair behind it. -/
def Pr.takes (P : Pr) (i n : Nat) : Nat := min n (P.ws i).car
def Pr.took (P : Pr) (i n : Nat) : Pr := P.put i { P.ws i with row := (P.ws i).row.drop (P.takes i n), car := (P.ws i).car - P.takes i n }
theorem took_is_ok {P : Pr} (h : P.ok) (i n : Nat) : (P.took i n).ok := by
  have hc := h.car i
  refine ⟨h.room, fun j => ?_, fun j => ?_⟩ <;> by_cases e : j = i
  · subst e; rw [Pr.took, Pr.put_same]; have := h.row j; simp [Pr.put]; omega
  · rw [Pr.took, Pr.put_other _ _ e]; exact h.row j
  · subst e; rw [Pr.took, Pr.put_same]; simp; omega
  · rw [Pr.took, Pr.put_other _ _ e]; exact h.car j
theorem put_put (P : Pr) (i : Nat) (W W' : Wy) : (P.put i W).put i W' = P.put i W' := by
  unfold Pr.put
  congr 1
  funext j
  by_cases e : j = i <;> simp [e]
set_option maxHeartbeats 1000000 in
theorem take_any {B : Nat} {F : Nat → Prop} {P : Pr} (g i n : Nat) (w : World) (h : PairAt w B F g P) (hi : i < 2) (hn : n ≤ 9223372036854775807) :
    Calls Tryd.prog 37 #[.pointer (some ⟨g, 1 + i * 4, none⟩), .int .i64 (n : Int)] w fun x w' => ∃ A m c, x = .returned (.slice A m c) ∧ Hid (New w w' A m c ((P.ws i).row.take (P.takes i n)) ∧ PairAt w' B F g (P.took i n) ∧ Turn F w w') := by
  obtain ⟨v, h, hok⟩ := h
  obtain ⟨A, cap, hv, h1, h2, c0, c1, c2, c3⟩ := h.at hi
  have k1 := hok.car i
  have k2 := hok.row i
  have k3 := hok.room
  have HK := Lib.hid (took_is_ok hok i n)
  have HS := Lib.hid (h.span i hi)
  have HVI := Lib.hid hv
  have HP : Hid (∀ k, P.takes i n = k → P.took i n = (P.put i { P.ws i with row := (P.ws i).row.drop k }).put i { (P.put i { P.ws i with row := (P.ws i).row.drop k }).ws i with car := (P.ws i).car - k }) := Lib.hid (by
    intro k hk
    rw [Pr.put_same, put_put, Pr.took, hk])
  have HV := Lib.hid h
  have hlt := h.row.lt
  clear h hok hv
  obtain ⟨k, hkk⟩ : ∃ k, k = P.takes i n := ⟨_, rfl⟩
  have hkc : k ≤ (P.ws i).car := by rw [hkk, Pr.takes]; omega
  have HKT := Lib.hid hkk
  have hmin : (n ≤ (P.ws i).car ∧ k = n) ∨ (¬ n ≤ (P.ws i).car ∧ k = (P.ws i).car) := by rw [hkk, Pr.takes]; omega
  clear hkk
  obtain ⟨X, HX⟩ : ∃ X : Option Addr, Shut (X = (if cap = k then A else A.map (·.add k))) := ⟨_, ⟨rfl⟩⟩
  have HSP : Hid (Span w (.slice X ((P.ws i).row.length - k) (cap - k)) ((P.ws i).row.drop k) ∧ (Value.slice X ((P.ws i).row.length - k) (cap - k)).ownBlock = (v i).ownBlock) := Lib.hid (by
    have h1 := HS.out
    rw [HVI.out] at h1 ⊢
    rw [HX.out]
    exact ⟨h1.drop k (by omega), ownBlock_drop _ _ _ _ _ _⟩)
  have hsl : ∀ w' : World, (Instr.slice 30 (.slice A (P.ws i).row.length cap) (some (.int .i64 (k : Int))) none none).run Tryd.prog w' = .ok (.slice X ((P.ws i).row.length - k) (cap - k)) w' := fun w' => by
    rw [HX.out]
    exact run_from w' A _ cap k _ rfl (by omega)
  have HRD : Hid (Rd w w.heap.size A (((P.ws i).row.take k).map bv) ∧ (A = none → k = 0 ∧ cap = 0)) := Lib.hid (by
    have h1 := HS.out
    rw [HVI.out] at h1
    obtain ⟨A', cap', e, _, _, hr⟩ := h1.slice
    obtain ⟨A2, cap2, e2, g1, _, g3⟩ := h1
    injection e with e1 e2' e3
    injection e2 with f1 f2 f3
    subst e1 e3 f1 f3
    refine ⟨by rw [List.map_take]; exact hr.take k, fun h0 => ?_⟩
    subst h0
    rcases g3 with ⟨_, h3⟩ | ⟨_, _, h3, _⟩
    · exact ⟨by omega, h3⟩
    · cases h3)
  have HL : Hid (((P.ws i).row.take k).length = k) := Lib.hid (by rw [List.length_take]; omega)
  rcases hmin with ⟨hle, hkn⟩ | ⟨hle, hkn⟩
  all_goals
    subst hkn
    go_enter Tryd.func37, Tryd.ntmps37
    go_wp2_with fail
    with_reducible refine (clone_any A _ cap ((P.ws i).row.take _) w HL.out (by omega) HRD.out.1 HRD.out.2).mono ?_
    rintro e w1 ⟨A1, n1, c1', rfl, H1⟩
    have HV1 : Hid (PairV w1 B F g P v) := Lib.hid (HV.out.keep H1.out.2.size (fun b hb => H1.out.2.block b (HV.out.lt b hb)))
    have HSP1 : Hid (Span w1 (.slice X ((P.ws i).row.length - _) (cap - _)) ((P.ws i).row.drop _)) := Lib.hid (HSP.out.1.keep H1.out.2.size (fun b hb => H1.out.2.block b (HSP.out.1.lt b hb)))
    obtain ⟨A2, cap2, e2, _, _, d0, d1, _, _⟩ := HV1.out.at hi
    have hA : A2 = A ∧ cap2 = cap := by
      rw [HVI.out] at e2
      injection e2 with x1 x2 x3
      exact ⟨x1.symm, x3.symm⟩
    obtain ⟨rfl, rfl⟩ := hA
    clear e2
    have f0 := HV1.out.row.frozen (1 + i * 4)
    have f1 := HV1.out.row.frozen (1 + i * 4 + 1)
    go_wp2_with fail
    go_ret
    refine ⟨A1, n1, c1', rfl, Lib.hid ⟨?_, ?_, ?_⟩⟩
    · rw [← HKT.out]
      refine H1.out.1.keep ?_ (fun b hb _ => ?_)
      · exact ((Turn.refl (fun _ => True) w1).setCell _ (fun _ => trivial) _ |>.setCell _ (fun _ => trivial) _).size
      exact (Below.heap_setCell _ _ _ _ (by show b ≠ g; omega)).trans (Below.heap_setCell _ _ _ _ (by show b ≠ g; omega))
    · have hk := HK.out
      rw [HP.out _ HKT.out.symm] at hk ⊢
      exact ⟨_, (HV1.out.setRow hi _ _ HSP1.out HSP.out.2).setCar hi _ _ (by omega), hk⟩
    · exact ((Turn.of_below H1.out.2).setCell _ (fun _ => HV.out.self) _).setCell _ (fun _ => HV.out.self) _

/-- What Read answers, and the pair behind it: the other end's way. -/
theorem read_ok {B : Nat} {F : Nat → Prop} {P : Pr} (g i n : Nat) (w : World) (h : PairAt w B F g P) (hi : i < 2) (hn : n ≤ 9223372036854775807) (hc : P.cut = true → (P.ws (1 - i)).car ≠ 0) :
    Calls Tryd.prog 19 #[.pointer (some ⟨g, 0, none⟩), .int .i64 (i : Int), .int .i64 (n : Int)] w fun x w' => ∃ A m c, x = .returned (.tuple #[.slice A m c, .nilIface]) ∧
      Hid (New w w' A m c ((P.ws (1 - i)).row.take (P.takes (1 - i) n)) ∧ PairAt w' B F g (P.took (1 - i) n) ∧ Turn F w w') := by
  have H := Lib.hid h
  have HE : Hid ((endB (i : Int) && decide (0 ≤ (n : Int))) = true) := Lib.hid (by rw [end_nat hi]; simp)
  have hi2 : 1 - i < 2 := by omega
  obtain ⟨v, h, hok⟩ := h
  have cc := h.cut
  clear h hok
  cases hcc : P.cut
  · rw [hcc] at cc
    clear hc hcc
    go_enter Tryd.func19, Tryd.ntmps19
    go_wp2_with (first
      | (go_at_call 35; (with_reducible refine (inRange_any _ _ _).mono ?_); rintro x w' ⟨rfl, rfl⟩; rw [HE.out])
      | (go_at_call 36; (with_reducible refine (in_any _ _ _ hi).mono ?_); rintro x w' ⟨rfl, rfl⟩)
      | (go_at_call 37; (with_reducible refine (take_any g (1 - i) n w H.out hi2 hn).mono ?_); rintro x w' ⟨A, m, c, rfl, HT⟩))
    go_ret2
    exact ⟨A, m, c, rfl, HT⟩
  · rw [hcc] at cc
    have h0 := hc hcc
    have h0' : (((P.ws (1 - i)).car : Int) == 0) = false := by simp; omega
    clear hc hcc h0
    go_enter Tryd.func19, Tryd.ntmps19
    go_wp2_with (first
      | (go_at_call 35; (with_reducible refine (inRange_any _ _ _).mono ?_); rintro x w' ⟨rfl, rfl⟩; rw [HE.out])
      | (go_at_call 27; (with_reducible refine (Inbox_any _ _ _ H.out hi).mono ?_); rintro x w' ⟨rfl, rfl⟩)
      | (go_at_call 36; (with_reducible refine (in_any _ _ _ hi).mono ?_); rintro x w' ⟨rfl, rfl⟩)
      | (go_at_call 37; (with_reducible refine (take_any g (1 - i) n w H.out hi2 hn).mono ?_); rintro x w' ⟨A, m, c, rfl, HT⟩))
    go_ret2
    exact ⟨A, m, c, rfl, HT⟩
theorem read_cut {B : Nat} {F : Nat → Prop} {P : Pr} (ad : Nat → Addr) (g i n : Nat) (w : World) (hE : Errs w ad) (h : PairAt w B F g P) (hi : i < 2) (hc : P.cut = true) (h0 : (P.ws (1 - i)).car = 0) :
    Calls Tryd.prog 19 #[.pointer (some ⟨g, 0, none⟩), .int .i64 (i : Int), .int .i64 (n : Int)] w fun x w' => x = .returned (.tuple #[.slice none 0 0, .iface 73 (.pointer (some (ad 1)))]) ∧ ∃ n, w' = w.drewN n := by
  have H := Lib.hid h
  have HE : Hid ((endB (i : Int) && decide (0 ≤ (n : Int))) = true) := Lib.hid (by rw [end_nat hi]; simp)
  have H0 := Lib.hid h0
  have c1 := hE.cell 1 (by omega)
  obtain ⟨v, h, hok⟩ := h
  have cc := h.cut
  rw [hc] at cc
  clear h hok hc h0 hE
  go_enter Tryd.func19, Tryd.ntmps19
  go_wp2_with (first
    | (go_at_call 35; (with_reducible refine (inRange_any _ _ _).mono ?_); rintro x w' ⟨rfl, rfl⟩; rw [HE.out])
    | (go_at_call 27; (with_reducible refine (Inbox_any _ _ _ H.out hi).mono ?_); rintro x w' ⟨rfl, rfl⟩; rw [H0.out]))
  go_quiet (fail)
  go_wp2_with fail
  go_ret2
  exact ⟨rfl, _, rfl⟩
theorem read_bad (ad : Nat → Addr) (a : Addr) (e n : Int) (w : World) (hE : Errs w ad) (h : (endB e && decide (0 ≤ n)) = false) :
    Calls Tryd.prog 19 #[.pointer (some a), .int .i64 e, .int .i64 n] w fun x w' => x = .returned (.tuple #[.slice none 0 0, .iface 73 (.pointer (some (ad 0)))]) ∧ ∃ n, w' = w.drewN n := by
  have HB := Lib.hid h
  have c0 := hE.cell 0 (by omega)
  clear hE h
  go_enter Tryd.func19, Tryd.ntmps19
  go_wp2_with (first
    | (go_at_call 35; (with_reducible refine (inRange_any _ _ _).mono ?_); rintro x w' ⟨rfl, rfl⟩; rw [HB.out]))
  go_quiet (fail)
  go_wp2_with fail
  go_ret2
  exact ⟨rfl, _, rfl⟩
end Go.Proofs.YtlceemaannndbaaDoor
