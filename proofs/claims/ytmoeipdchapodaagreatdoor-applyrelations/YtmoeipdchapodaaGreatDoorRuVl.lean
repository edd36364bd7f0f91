/-
  CONTRACTS of pleacherkeep.value (a plan of two ops is made, and its answer told), and of what it calls.
-/
import Derived.Test.YtmoeipdchapodaaGreatDoorTexts
import Derived.Laws.BytesArg
import Derived.WideShapes
import Derived.OpenShut
import Derived.Maps.AppendAt
import Derived.OwnWalk
import Derived.Laws.OwnMore
import Derived.WalkKit
import Derived.WalkSpells
import Derived.WalkLawsBesides
import Derived.Outline
import Derived.Test.YtmoeipdchapodaaGreatDoorRuNum
set_option linter.unusedVariables false
namespace Go.Proofs.YtmoeipdchapodaaGreatDoor
set_option maxRecDepth 100000
open Go.RowKit Go.WideShapes

/-- the number that is picked -/
def pk (n many : Int) : Int := (if n < 0 then -(n + 1) else n).tmod many
theorem pk_range {n many : Int} (h0 : 0 < many) : 0 ≤ pk n many ∧ pk n many < many := by
  unfold pk
  have hx : 0 ≤ (if n < 0 then -(n + 1) else n) := by split <;> omega
  rw [Int.tmod_eq_emod_of_nonneg hx]
  exact ⟨Int.emod_nonneg _ (by omega), Int.emod_lt_of_pos _ h0⟩
set_option maxHeartbeats 400000 in
theorem picked_is (n many : Int) (w : World) (hn : -9223372036854775808 ≤ n ∧ n ≤ 9223372036854775807) (h0 : 0 < many) (hm : many ≤ 9223372036854775807) :
    Calls Tryz.prog 5 #[.int .i64 n, .int .i64 many] w fun e w' => e = .returned (.int .i64 (pk n many)) ∧ w' = w := by
  obtain ⟨n1, n2⟩ := hn
  have hz : ¬ many = 0 := by omega
  have hz1 : (many == 0) = false := by simpa using hz
  have hm1 : ¬ many = -1 := by omega
  have hm2 : (many == -1) = false := by simpa using hm1
  have hr := pk_range (n := n) h0
  by_cases hlt : n < 0
  · have HP : Hid (pk n many = (-(n + 1)).tmod many) := by
      have h : pk n many = (-(n + 1)).tmod many := by unfold pk; rw [if_pos hlt]
      exact h
    go_enter Tryz.func5, Tryz.ntmps5
    go_wp2
    go_ret
    exact ⟨ret_int (by rw [HP.out, Int.neg_tmod]), rfl⟩
  · have HP : Hid (pk n many = n.tmod many) := by
      have h : pk n many = n.tmod many := by unfold pk; rw [if_neg hlt]
      exact h
    go_enter Tryz.func5, Tryz.ntmps5
    go_wp2
    go_ret
    exact ⟨ret_int (by rw [HP.out, Int.tmod_eq_emod_of_nonneg (by omega)]), rfl⟩
theorem wpList_append_atK {P : Program} {ops : Array Oper} {rest : List Oper} {o : Oper} {a : Act} {w : World} {Q : Exit → Act → World → Prop} (hgd : o.guard = none) (s x : Operand) (t : TypeId)
    (ho : o.op = .call { callee := .builtin .append, args := #[s, x], argTypes := #[t, t] })
    (base : Nat) (e : TypeId) (i : TypeInfo) (z : Value) (size bytes : Nat) (ht : P.underlying t = some (.slice e)) (hi : P.info? e = some i) (hz : i.zero = some z)
    (hsize : i.size = size) (hby : i.bytes = bytes) (hzs : z.cells.size = size) (hsz : 0 < size)
    (v : Value) (n : Nat) (xs : List Value) (hs : a.eval s = v) (hown : w.ownsRow base e size v n xs)
    (ad : Addr) (m c : Nat) (news : List Value) (hx : a.eval x = .slice (some ad) m c) (hl : news.length = m * size) (hnews : ∀ j u, news[j]? = some u → w.cell? (ad.add j) = some u) (h1 : ∀ u ∈ news, u.oneCell' = true)
    (h63 : n + m ≤ maxLen) (hbytes : (n + m) * bytes ≤ 140737488355328) (hbase : base ≤ w.heap.size)
    (h : ∀ v' w', w'.ownsRow base e size v' (n + m) (xs ++ news) → w.grownBy w' v.ownBlock → (v'.ownBlock = v.ownBlock ∨ v'.ownBlock = some w.heap.size) → wpList P ops Q rest (a.put o.dst v') w') : wpList P ops Q (o :: rest) a w := by
  refine wpList_plain hgd fun K hK => ?_
  obtain ⟨v', w', hr, k1, k2, k3, k4⟩ := run_append_own_at (P := P) w base t o.type e i z size bytes ht hi hz hsize hby hzs hsz v n xs hown ad m c news hl hnews h1 h63 hbytes hbase
  unfold Oper.wp execOp
  simp only [ho, resolve, invoke, builtin, Sem.run_bind, Sem.run_pure, Result.andThen_ok, List.map_toArray, List.map_cons, List.map_nil, hs, hx, hr]
  exact hK _ _ (h v' w' k1 k2 k4)
theorem info_partsK {T : TypeId} {z : Value} {n b : Nat} (h : (Tryz.prog.info? T).map (fun i => (i.zero, i.size, i.bytes)) = some (some z, n, b)) : ∃ i, Tryz.prog.info? T = some i ∧ i.zero = some z ∧ i.size = n ∧ i.bytes = b := by
  cases e : Tryz.prog.info? T with
  | none => rw [e] at h; cases h
  | some i =>
    rw [e] at h
    simp only [Option.map_some, Option.some.injEq, Prod.mk.injEq] at h
    exact ⟨i, rfl, h.1, h.2.1, h.2.2⟩
theorem infoByK : (Tryz.prog.info? 5).map (fun i => (i.zero, i.size, i.bytes)) = some (some (.int .u8 0), 1, 1) := by kernel_rfl
/-- small letters of a text -/
def plN (t : ByteArray) (k : Nat) : List Int := (List.range k).map fun i => 97 + byteAt t i % 5
def plC (t : ByteArray) (k : Nat) : List Value := (plN t k).map fun z => .int .u8 z
theorem plC_succ (t : ByteArray) (k : Nat) : plC t (k + 1) = plC t k ++ [.int .u8 (97 + byteAt t k % 5)] := by simp [plC, plN, List.range_succ]
theorem by_in {w : World} (u : Value) : ∀ j x, ([u] : List Value)[j]? = some x → (w.alloc (.cells #[u] 5)).cell? ((⟨w.heap.size, 0, none⟩ : Addr).add j) = some x := by
  intro j x hj
  have hj3 : j < 1 := (List.getElem?_eq_some_iff.1 hj).1
  obtain rfl : j = 0 := by omega
  simp at hj; subst hj; simp [Addr.add]
theorem add_offK (g j : Nat) : (⟨g, 0, none⟩ : Addr).add j = ⟨g, j, none⟩ := by cases j <;> simp [Addr.add]
theorem plN_at {t : ByteArray} {k i : Nat} (hi : i < k) : (plN t k).getD i 0 = 97 + byteAt t i % 5 := by simp [plN, List.getD_eq_getElem?_getD, hi]
theorem conv_row {w : World} {base : Nat} {v : Value} {t : ByteArray} {k : Nat} (h : w.ownsRow base 5 1 v k (plC t k)) :
    (convert 57 9 v).run Tryz.prog w = .ok (.string (strOfNums (plN t k))) w := by
  have hc := @World.ownsRow.cells _ _ _ _ _ _ _ h
  rcases h.2 with ⟨rfl, rfl⟩ | ⟨g, cap, cur, rfl, hb, hg, hn, hm, hz, ht⟩
  · exact run_convert_bytes_nil (P := Tryz.prog) (w := w) 57 5 Tryz.underlying57 Tryz.underlying5 0 0 9 Tryz.underlying9
  · refine run_convert_bytes_arg (P := Tryz.prog) (w := w) 57 5 Tryz.underlying57 Tryz.underlying5 g 0 k cap (plN t k) (by simp [plN]) (fun i hi => ?_) 9 Tryz.underlying9
    have e : (plC t k)[i]? = some (.int .u8 (97 + byteAt t i % 5)) := by simp [plC, plN, hi]
    have := hc (g := g) rfl i _ e
    rw [add_offK] at this
    rw [Nat.zero_add, plN_at hi]
    exact this
end Go.Proofs.YtmoeipdchapodaaGreatDoor
set_option linter.unusedVariables false
namespace Go.Proofs.YtmoeipdchapodaaGreatDoor
set_option maxRecDepth 100000
open Go.RowKit Go.WideShapes

def sixV (x y : It) : List Value := [.int .i64 x.kind, .int .i64 x.n, .string x.s, .int .i64 y.kind, .int .i64 y.n, .string y.s]
theorem six_at {w : World} {b o : Nat} {x y : It} (h : TwoAt w b o x y) (j : Nat) (u : Value) (hj : (sixV x y)[j]? = some u) : w.cell? ((⟨b, o, none⟩ : Addr).add j) = some u := by
  have hl : j < 6 := (List.getElem?_eq_some_iff.1 hj).1
  obtain rfl | rfl | rfl | rfl | rfl | rfl : j = 0 ∨ j = 1 ∨ j = 2 ∨ j = 3 ∨ j = 4 ∨ j = 5 := by omega
  all_goals (simp only [sixV, List.getElem?_cons_zero, List.getElem?_cons_succ, Option.some.injEq] at hj; subst hj)
  · exact h.x0
  · exact h.x1
  · exact h.x2
  · exact h.y0
  · exact h.y1
  · exact h.y2
theorem two_own {w : World} {base : Nat} {v : Value} {x y : It} (h : w.ownsRow base 24 3 v 2 (sixV x y)) : ∃ rb k, v = .slice (some ⟨rb, 0, none⟩) 2 k ∧ 2 ≤ k ∧ k ≤ maxLen ∧ base ≤ rb ∧ TwoAt w rb 0 x y := by
  have hl := h.lt
  have hc := fun g hg => h.cells (g := g) hg
  obtain ⟨_, ⟨e1, e2⟩ | ⟨b, cap, cur, rfl, _, _, h1, h2, _⟩⟩ := h
  · simp at e2
  · have hb := hl b rfl
    have c := fun j u hj => hc b rfl j u hj
    exact ⟨b, cap, rfl, h1, h2, hb.1, ⟨c 0 _ rfl, c 1 _ rfl, c 2 _ rfl, c 3 _ rfl, c 4 _ rfl, c 5 _ rfl, hb.2⟩⟩
set_option maxHeartbeats 3200000 in
theorem clone_is (ab ao ac : Nat) (x y : It) (w : World) (h : TwoAt w ab ao x y) (hc : 2 ≤ ac) (hm : ac ≤ maxLen) :
    Calls Tryz.prog 10 #[.slice (some ⟨ab, ao, none⟩) 2 ac] w fun e w' => ∃ rb k, e = .returned (.slice (some ⟨rb, 0, none⟩) 2 k) ∧ 2 ≤ k ∧ k ≤ maxLen ∧ w.heap.size ≤ rb ∧ TwoAt w' rb 0 x y ∧ Below w.heap.size w w' := by
  have HT : Hid (TwoAt (w.alloc (.cells #[] 24)) ab ao x y) := h.below ((Below.refl _ _).alloc (Nat.le_refl _) _)
  have HO : Hid ((w.alloc (.cells #[] 24)).ownsRow w.heap.size 24 3 (.slice (some ⟨w.heap.size, 0, none⟩) 0 0) 0 []) := World.ownsRow_lit w #[] 0 (Nat.le_refl _) (by unfold maxLen; omega) rfl
  obtain ⟨i0, hi0, hz0, hz1, hz2⟩ := info_parts infoItem
  unfold maxLen at hm
  clear h
  have hnil : Sem.run Tryz.prog (binOp BinOp.eql 33 (.slice (some ⟨ab, ao, none⟩) 2 ac) (.slice none 0 0)) w = .ok (.bool false) w := by
    kernel_rfl
  go_enter Tryz.func10, Tryz.ntmps10
  go_wp2_with (at_builtin; refine wpList_append_atK rfl (.tmp 5) (.tmp 6) 33 rfl w.heap.size 24 i0 _ 3 32 Tryz.underlying33 hi0 hz0 hz1 hz2 rfl (by decide) (.slice (some ⟨w.heap.size, 0, none⟩) 0 0) 0 [] rfl HO.out ⟨ab, ao, none⟩ 2 ac (sixV x y) rfl rfl (six_at HT.out) (by intro u hu; simp [sixV] at hu; rcases hu with rfl | rfl | rfl | rfl | rfl | rfl <;> rfl) (by unfold maxLen; omega) (by omega) (by simp) ?_; intro v' w1 h1 h2 h3; have HV : Hid (w1.ownsRow w.heap.size 24 3 v' 2 (sixV x y)) := (by simpa using h1 : w1.ownsRow w.heap.size 24 3 v' 2 (sixV x y)); have HB : Hid (Below w.heap.size w w1) := Below.grown ((Below.refl _ _).alloc (Nat.le_refl _) _) h2 (by simp) (fun q hq => (HO.out.lt q hq).1); clear h1 h2 h3; obtain ⟨rb, rk, rfl, k1, k2, k3, k4⟩ := two_own HV.out)
  go_ret
  exact ⟨rb, rk, rfl, k1, k2, k3, k4, HB.out⟩
set_option maxHeartbeats 800000 in
theorem number_is (n : Int) (w : World) : Calls Tryz.prog 7 #[.int .i64 n] w fun e w' => e = .returned (.agg #[.int .i64 2, .int .i64 n, .string ⟨#[]⟩]) ∧ w' = w.alloc (.cells #[.int .i64 2, .int .i64 n, .string ⟨#[]⟩] 24) := by
  go_enter Tryz.func7, Tryz.ntmps7
  go_wp2
  refine bodyPost_ret (v := .agg #[.int .i64 2, .int .i64 n, .string ⟨#[]⟩]) (by simp [results, Tryz.results7, go_sem]) rfl ⟨rfl, rfl⟩
theorem pls_made {w1 : World} {g rb rk : Nat} {x y : It} {fn : ByteArray} (hc : w1.heap[g + 1]? = some (.cells #[.string ⟨#[112, 111, 115]⟩, .string ⟨#[105, 116, 101, 109]⟩, .string ⟨#[99]⟩] 9)) (ht : TwoAt w1 rb 0 x y) (hrb : g + 1 + 1 + 1 ≤ rb) (k1 : 2 ≤ rk) (k2 : rk ≤ maxLen) (hfs : fn.size ≤ maxLen) (hsx : x.s.size ≤ maxLen) (hsy : y.s.size ≤ maxLen) :
    PlS ((((w1.setCell ⟨g + 1 + 1, 1, none⟩ (.slice (some ⟨w1.heap.size, 0, none⟩) 1 1)).alloc (.cells #[.slice (some ⟨rb, 0, none⟩) 2 rk] 33)).alloc (.cells #[.int .i64 0] 3)).alloc (.cells #[.int .i64 1, .slice none 0 0, .string ⟨#[]⟩, .slice none 0 0, .slice none 0 0, .string ⟨#[]⟩, .string ⟨#[]⟩, .int .i64 0, .int .i64 0, .int .i64 0, .string ⟨#[]⟩, .slice (some ⟨g + 1, 0, none⟩) 2 3, .slice (some ⟨w1.heap.size, 0, none⟩) 1 1, .int .i64 11, .slice (some ⟨w1.heap.size + 1, 0, none⟩) 1 1, .string ⟨#[118]⟩, .slice (some ⟨g + 1, 0, none⟩) 2 3, .slice none 0 0, .string ⟨#[]⟩, .string fn, .int .i64 0, .int .i64 0, .int .i64 0, .string ⟨#[]⟩, .slice none 0 0, .slice none 0 0] 43)) (w1.heap.size + 1 + 1) (g + 1) w1.heap.size rb (w1.heap.size + 1) rk x y fn := by
  obtain ⟨ob, hob⟩ := blk_some ht.lt
  have h2 := two_blk (w' := (((w1.setCell ⟨g + 1 + 1, 1, none⟩ (.slice (some ⟨w1.heap.size, 0, none⟩) 1 1)).alloc (.cells #[.slice (some ⟨rb, 0, none⟩) 2 rk] 33)).alloc (.cells #[.int .i64 0] 3)).alloc (.cells #[.int .i64 1, .slice none 0 0, .string ⟨#[]⟩, .slice none 0 0, .slice none 0 0, .string ⟨#[]⟩, .string ⟨#[]⟩, .int .i64 0, .int .i64 0, .int .i64 0, .string ⟨#[]⟩, .slice (some ⟨g + 1, 0, none⟩) 2 3, .slice (some ⟨w1.heap.size, 0, none⟩) 1 1, .int .i64 11, .slice (some ⟨w1.heap.size + 1, 0, none⟩) 1 1, .string ⟨#[118]⟩, .slice (some ⟨g + 1, 0, none⟩) 2 3, .slice none 0 0, .string ⟨#[]⟩, .string fn, .int .i64 0, .int .i64 0, .int .i64 0, .string ⟨#[]⟩, .slice none 0 0, .slice none 0 0] 43)) ht hob (alloc_old (alloc_old (alloc_old (set_other hob (by omega)))))
  exact ⟨alloc_newN (by simp), alloc_old (alloc_old (alloc_old (set_other hc (by omega)))), alloc_old (alloc_old (alloc_newN (by simp))), alloc_old (alloc_newN (by simp)), h2.x0, h2.x1, h2.x2, h2.y0, h2.y1, h2.y2, h2.lt, k1, k2, hsx, hsy, hfs⟩
set_option maxHeartbeats 12800000 in
theorem value_is (fn : ByteArray) (ab ao ac : Nat) (x y r : It) (E : Int) (w : World) (hfs : fn.size ≤ maxLen) (hsx : x.s.size ≤ maxLen) (hsy : y.s.size ≤ maxLen) (h : TwoAt w ab ao x y) (hc : 2 ≤ ac) (hm : ac ≤ maxLen) (ha : Answers w fn x y r E) :
    Calls Tryz.prog 6 #[.string fn, .slice (some ⟨ab, ao, none⟩) 2 ac] w fun e w' => e = .returned (.tuple #[.agg #[.int .i64 r.kind, .int .i64 r.n, .string r.s], .int .i64 E]) ∧ Below w.heap.size w w' := by
  have CC : Hid (∀ W, Below w.heap.size w W → Calls Tryz.prog 10 #[.slice (some ⟨ab, ao, none⟩) 2 ac] W fun e w' => ∃ rb k, e = .returned (.slice (some ⟨rb, 0, none⟩) 2 k) ∧ 2 ≤ k ∧ k ≤ maxLen ∧ W.heap.size ≤ rb ∧ TwoAt w' rb 0 x y ∧ Below W.heap.size W w') := fun W hW => clone_is ab ao ac x y W (h.below hW) hc hm
  have CA := hidR ha
  unfold maxLen at hm
  clear h ha
  have hrl := @Nat.le_refl
  go_enter Tryz.func6, Tryz.ntmps6
  go_wp2_with (go_at_call 10; refine (CC.out _ ?_).mono ?_; (· (focus (repeat (first | exact Below.refl _ _ | exact Hid.out (by assumption) | refine Below.setCell ?_ (by first | omega | (simp <;> omega)) _ | refine Below.alloc ?_ (by first | omega | (simp <;> omega)) _ | refine Below.trans ?_ (drew_belowE _ _))))); rintro e w1 ⟨rb, rk, rfl, k1, k2, k3, ht, hb1⟩; have HB1 : Hid (Below w.heap.size w w1) := Below.trans (by (focus (repeat (first | exact Below.refl _ _ | exact Hid.out (by assumption) | refine Below.setCell ?_ (by first | omega | (simp <;> omega)) _ | refine Below.alloc ?_ (by first | omega | (simp <;> omega)) _ | refine Below.trans ?_ (drew_belowE _ _))))) (hb1.mono (by first | omega | (simp <;> omega))); have HA1 : Hid (w1.heap[w.heap.size]? = some (.cells #[.int .i64 0, .int .i64 0, .string ⟨#[]⟩] 24)) := (hb1.block _ (by first | omega | (simp <;> omega))).trans (alloc_old (alloc_old (alloc_newN rfl))); have HC1 : Hid (w1.heap[w.heap.size + 1]? = some (.cells #[.string ⟨#[112, 111, 115]⟩, .string ⟨#[105, 116, 101, 109]⟩, .string ⟨#[99]⟩] 9)) := (hb1.block _ (by first | omega | (simp <;> omega))).trans (alloc_old (alloc_newN (by simp))); have HR1 : Hid (w1.heap[w.heap.size + 1 + 1]? = some (.cells #[.slice (some ⟨w.heap.size + 1, 0, none⟩) 2 3, .slice none 0 0] 36)) := (hb1.block _ (by first | omega | (simp <;> omega))).trans (alloc_newN (by simp)); have HT1 := hidR ht; have hz1 := hb1.size; simp at hz1; obtain ⟨r0, r1, r2, r3, r4⟩ := blk2 HR1.out; clear hb1 ht)
  refine LoopN.wp 1 (LoopN.next ?_)
  simp at k3
  go_wp2_with (go_at_call 11; refine (CA.out _ (w1.heap.size + 1 + 1) (w.heap.size + 1) w1.heap.size rb (w1.heap.size + 1) rk ?_ (pls_made HC1.out HT1.out k3 k1 k2 hfs hsx hsy)).mono ?_; (· (focus (repeat (first | exact Below.refl _ _ | exact Hid.out (by assumption) | refine Below.setCell ?_ (by first | omega | (simp <;> omega)) _ | refine Below.alloc ?_ (by first | omega | (simp <;> omega)) _ | refine Below.trans ?_ (drew_belowE _ _))))); rintro e w2 ⟨rfl, hb2⟩; have HB2 : Hid (Below w.heap.size w w2) := Below.trans (by (focus (repeat (first | exact Below.refl _ _ | exact Hid.out (by assumption) | refine Below.setCell ?_ (by first | omega | (simp <;> omega)) _ | refine Below.alloc ?_ (by first | omega | (simp <;> omega)) _ | refine Below.trans ?_ (drew_belowE _ _))))) (hb2.mono (by first | omega | (simp <;> omega))); have HA2 : Hid (w2.heap[w.heap.size]? = some (.cells #[.int .i64 0, .int .i64 0, .string ⟨#[]⟩] 24)) := (hb2.block _ (by first | omega | (simp <;> omega))).trans (alloc_old (alloc_old (alloc_old (set_other HA1.out (by omega))))); obtain ⟨q0, q1, q2, q3, q4, q5, q6⟩ := blk3 HA2.out; clear hb2)
  refine bodyPost_ret (v := .tuple #[.agg #[.int .i64 r.kind, .int .i64 r.n, .string r.s], .int .i64 E]) (by simp [results, Tryz.results6, go_sem, q0, q1, q2]) rfl ⟨rfl, ?_⟩
  (focus (repeat (first | exact Below.refl _ _ | exact Hid.out (by assumption) | refine Below.setCell ?_ (by first | omega | (simp <;> omega)) _ | refine Below.alloc ?_ (by first | omega | (simp <;> omega)) _ | refine Below.trans ?_ (drew_belowE _ _))))
end Go.Proofs.YtmoeipdchapodaaGreatDoor
