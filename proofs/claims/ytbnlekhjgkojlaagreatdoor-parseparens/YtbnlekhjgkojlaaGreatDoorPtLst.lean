import Derived.Test.YtbnlekhjgkojlaaGreatDoorPtSgl2
import Derived.Test.YtbnlekhjgkojlaaGreatDoorLaidQ
import Derived.Maps.AppendAt
import Derived.Sort.AtCall
set_option linter.unusedVariables false
namespace Go.Proofs.YtbnlekhjgkojlaaGreatDoor
set_option maxRecDepth 100000
open Go.RowKit
def Keeps (E : World → (Nat → Prop) → List Value → Prop) : Prop := ∀ (w w' : World) (S S' : Nat → Prop) (u : List Value), (∀ b, S b → S' b) → (∀ b, S b → w'.heap[b]? = w.heap[b]?) → E w S u → E w' S' u
def LOwn (T : TypeId) (sz : Nat) (E : Nat → World → (Nat → Prop) → List Value → Prop) (w : World) (lo : Nat) (v : Value) (n : Nat) : Prop :=
 ∃ L : Nat → List Value, w.ownsRow lo T sz v n ((List.range n).flatMap L) ∧ ∀ i, i < n → (L i).length = sz ∧ E i w (fun b => (lo ≤ b ∧ b < w.heap.size) ∧ v.ownBlock ≠ some b) (L i)
theorem LOwn.nil (T : TypeId) (sz : Nat) (E : Nat → World → (Nat → Prop) → List Value → Prop) (w : World) (lo : Nat) : LOwn T sz E w lo (.slice none 0 0) 0 := ⟨fun _ => [], World.ownsRow_nil _ _ _ _, fun i hi => absurd hi (by omega)⟩
theorem LOwn.form {T : TypeId} {sz : Nat} {E : Nat → World → (Nat → Prop) → List Value → Prop} {w : World} {lo : Nat} {v : Value} {n : Nat} (h : LOwn T sz E w lo v n) : ∃ a c, v = .slice a n c := by
 obtain ⟨L, h1, _⟩ := h
 exact own_shape h1
theorem LOwn.own {T : TypeId} {sz : Nat} {E : Nat → World → (Nat → Prop) → List Value → Prop} {w : World} {lo : Nat} {v : Value} {n : Nat} (h : LOwn T sz E w lo v n) : ∀ k, v.ownBlock = some k → lo ≤ k ∧ k < w.heap.size := by
 obtain ⟨L, h1, _⟩ := h
 exact World.ownsRow.lt h1
theorem LOwn.step {T : TypeId} {sz : Nat} {E : Nat → World → (Nat → Prop) → List Value → Prop} (hE : ∀ i, Keeps (E i)) {w w' : World} {lo : Nat} {v : Value} {n : Nat} (h : LOwn T sz E w lo v n) (hs : w.heap.size ≤ w'.heap.size) (hb : ∀ b, lo ≤ b → b < w.heap.size → w'.heap[b]? = w.heap[b]?) : LOwn T sz E w' lo v n := by
 obtain ⟨L, h1, h2⟩ := h
 refine ⟨L, ⟨h1.1, ?_⟩, fun i hi => ⟨(h2 i hi).1, hE i _ _ _ _ _ (fun b q => ⟨⟨q.1.1, Nat.lt_of_lt_of_le q.1.2 hs⟩, q.2⟩) (fun b q => hb b q.1.1 q.1.2) (h2 i hi).2⟩⟩
 rcases h1.2 with q | ⟨g, cap, cur, q1, q2, q3, q4⟩
 · exact .inl q
 · refine .inr ⟨g, cap, cur, q1, q2, ?_, q4⟩
   rw [hb g q2 (Array.getElem?_eq_some_iff.1 q3).1]
   exact q3
theorem LOwn.grow {T : TypeId} {sz : Nat} {E : Nat → World → (Nat → Prop) → List Value → Prop} (hE : ∀ i, Keeps (E i)) {w w' : World} {lo pb : Nat} {v : Value} {n : Nat} (h : LOwn T sz E w lo v n) (hg : GrowA pb w w') (hp : pb < lo) : LOwn T sz E w' lo v n := h.step hE hg.1 (fun b h1 h2 => hg.2.2.2.2 b h2 (by omega))
theorem LOwn.below {T : TypeId} {sz : Nat} {E : Nat → World → (Nat → Prop) → List Value → Prop} (hE : ∀ i, Keeps (E i)) {w w' : World} {lo : Nat} {v : Value} {n : Nat} (h : LOwn T sz E w lo v n) (hg : Below w.heap.size w w') : LOwn T sz E w' lo v n := h.step hE hg.size (fun b h1 h2 => hg.block b h2)
theorem LOwn.push {T : TypeId} {sz : Nat} {E : Nat → World → (Nat → Prop) → List Value → Prop} (hE : ∀ i, Keeps (E i)) {w w' : World} {lo lo1 : Nat} {v v' : Value} {n : Nat} {L : Nat → List Value} {u : List Value}
 (h2 : ∀ i, i < n → (L i).length = sz ∧ E i w (fun b => (lo ≤ b ∧ b < w.heap.size) ∧ v.ownBlock ≠ some b) (L i)) (hu : u.length = sz) (hEu : E n w (fun b => lo1 ≤ b ∧ b < w.heap.size) u) (hl : lo ≤ lo1) (hvl : ∀ k, v.ownBlock = some k → k < lo1)
 (ho : w'.ownsRow lo T sz v' (n + 1) ((List.range n).flatMap L ++ u)) (hg : w.grownBy w' v.ownBlock) (hv : v'.ownBlock = v.ownBlock ∨ v'.ownBlock = some w.heap.size) : LOwn T sz E w' lo v' (n + 1) := by
 refine ⟨fun i => if i = n then u else L i, ?_, fun i hi => ?_⟩
 · have e : (List.range (n + 1)).flatMap (fun i => if i = n then u else L i) = (List.range n).flatMap L ++ u := by
    rw [List.range_succ, List.flatMap_append]
    congr 1
    · rw [List.flatMap_def, List.flatMap_def]
      congr 1
      apply List.map_congr_left
      intro i hi
      have := List.mem_range.1 hi
      rw [if_neg (by omega)]
    · simp
   rw [e]
   exact ho
 · have key : ∀ b, b < w.heap.size → v.ownBlock ≠ some b → b < w'.heap.size ∧ v'.ownBlock ≠ some b ∧ w'.heap[b]? = w.heap[b]? := fun b q1 q2 => by
    refine ⟨Nat.lt_of_lt_of_le q1 hg.size, ?_, hg.block b q1 (fun e => q2 e.symm)⟩
    rcases hv with e | e
    · rw [e]; exact q2
    · rw [e]; intro e2; have := Option.some.inj e2; omega
   simp only
   by_cases e : i = n
   · rw [if_pos e, e]
     refine ⟨hu, hE n _ _ _ _ _ (fun b q => ?_) (fun b q => (key b q.2 (fun e => ?_)).2.2) hEu⟩
     · have k := key b q.2 (fun e => by have := hvl b e; omega)
       exact ⟨⟨by omega, k.1⟩, k.2.1⟩
     · have := hvl b e; omega
   · rw [if_neg e]
     have hin : i < n := by omega
     refine ⟨(h2 i hin).1, hE i _ _ _ _ _ (fun b q => ?_) (fun b q => (key b q.1.2 q.2).2.2) (h2 i hin).2⟩
     have k := key b q.1.2 q.2
     exact ⟨⟨q.1.1, k.1⟩, k.2.1⟩
theorem LOwn.one {T : TypeId} {sz : Nat} {E : Nat → World → (Nat → Prop) → List Value → Prop} (hE : ∀ i, Keeps (E i)) {w : World} {lo lo1 g : Nat} {u : List Value} (hu : u.length = sz) (hEu : E 0 w (fun b => lo1 ≤ b ∧ b < w.heap.size) u) (hl : lo ≤ lo1) (hlg : lo1 ≤ g) (hg : w.heap.size = g) : LOwn T sz E (w.alloc (.cells u.toArray T)) lo (.slice (some ⟨g, 0, none⟩) 1 1) 1 := by
 subst hg
 refine ⟨fun _ => u, ⟨by simp [List.range_one, hu], .inr ⟨w.heap.size, 1, u.toArray, rfl, by omega, heap_alloc_new _ _, Nat.le_refl _, by decide, by simp [hu], ?_⟩⟩, fun i hi => ?_⟩
 · simp only [List.range_one, List.flatMap_cons, List.flatMap_nil, List.append_nil, Nat.one_mul]
   exact List.take_of_length_le (by rw [← hu]; exact Nat.le_refl _)
 · obtain rfl : i = 0 := by omega
   refine ⟨hu, hE 0 _ _ _ _ _ (fun b q => ⟨⟨by omega, by simp; omega⟩, ?_⟩) (fun b q => Below.heap_alloc _ _ _ q.2) hEu⟩
   simp only [Value.ownBlock]
   intro e
   have := Option.some.inj e
   omega
theorem flat_at {L : Nat → List Value} {sz : Nat} : ∀ {n : Nat}, (∀ i, i < n → (L i).length = sz) → ∀ i, i < n → ∀ j (hj : j < (L i).length), ((List.range n).flatMap L)[i * sz + j]? = some (L i)[j] := by
 intro n
 induction n with
 | zero => intro _ i hi; omega
 | succ n ih =>
  intro h i hi j hj
  have hlen : ((List.range n).flatMap L).length = n * sz := by
   clear ih hi hj
   have h' : ∀ i, i < n → (L i).length = sz := fun i hi => h i (by omega)
   clear h
   induction n with
   | zero => simp
   | succ n ih2 =>
    rw [List.range_succ, List.flatMap_append, List.length_append, ih2 (fun i hi => h' i (by omega))]
    simp [h' n (by omega), Nat.succ_mul]
  rw [List.range_succ, List.flatMap_append]
  by_cases e : i = n
  · subst e
    rw [List.getElem?_append_right (by omega), hlen, Nat.add_sub_cancel_left]
    simp [hj]
  · have hin : i < n := by omega
    have hs : (L i).length = sz := h i hi
    have h2 : i * sz + j < n * sz := by
     have h3 : (i + 1) * sz ≤ n * sz := Nat.mul_le_mul_right _ (by omega)
     rw [Nat.succ_mul] at h3
     omega
    rw [List.getElem?_append_left (by rw [hlen]; exact h2)]
    exact ih (fun k hk => h k (by omega)) i hin j hj
theorem LOwn.lies {T : TypeId} {sz : Nat} {E : Nat → World → (Nat → Prop) → List Value → Prop} {w : World} {lo : Nat} {v : Value} {n : Nat} (hE : ∀ i, Keeps (E i)) (h : LOwn T sz E w lo v n) : ∃ a c, v = .slice a n c ∧ n ≤ c ∧ c ≤ maxLen ∧ (0 < n → ∃ g, a = some ⟨g, 0, none⟩ ∧ (lo ≤ g ∧ g < w.heap.size) ∧ ∀ i, i < n → ∃ u, u.length = sz ∧ cAt w g (i * sz) u ∧ E i w (fun b => lo ≤ b ∧ b < w.heap.size) u) := by
 obtain ⟨L, h1, h2⟩ := h
 rcases h1.2 with ⟨q1, q2⟩ | ⟨g, cap, cur, q1, q2, q3, q4, q5, q6, q7⟩
 · subst q2
   exact ⟨none, 0, q1, Nat.le_refl _, by decide, fun hn => absurd hn (by omega)⟩
 · refine ⟨some ⟨g, 0, none⟩, cap, q1, q4, q5, fun hn => ⟨g, rfl, ⟨q2, (Array.getElem?_eq_some_iff.1 q3).1⟩, fun i hi => ⟨L i, (h2 i hi).1, fun j hj => ?_, hE i _ _ _ _ _ (fun b q => q.1) (fun _ _ => rfl) (h2 i hi).2⟩⟩⟩
   have k := flat_at (fun i hi => (h2 i hi).1) i hi j hj
   rw [← q7, List.getElem?_take] at k
   have hlt : i * sz + j < n * sz := by
    have h3 : (i + 1) * sz ≤ n * sz := Nat.mul_le_mul_right _ (by omega)
    have h4 := (h2 i hi).1
    rw [Nat.succ_mul] at h3
    omega
   rw [if_pos hlt] at k
   simp only [Array.getElem?_toList] at k
   simp only [World.cell?, q3]
   exact k
def PhE (A : Nat → Ph) (i : Nat) (w : World) (S : Nat → Prop) (u : List Value) : Prop := (A i).V w S u
theorem PhE.keeps (A : Nat → Ph) : ∀ i, Keeps (PhE A i) := fun i w w' S S' u h1 h2 h3 => Ph.V.keep h1 h2 h3
theorem LOwn.phs {A : Nat → Ph} {w : World} {lo : Nat} {v : Value} {n : Nat} (h : LOwn 36 11 (PhE A) w lo v n) : Phs w lo n A v := by
 obtain ⟨a, c, h1, h2, h3, h4⟩ := h.lies (PhE.keeps A)
 refine ⟨a, c, h1, h2, h3, fun hn => ?_⟩
 obtain ⟨g, q1, q2, q3⟩ := h4 hn
 refine ⟨g, q1, q2, fun i hi => ?_⟩
 obtain ⟨u, r1, r2, r3⟩ := q3 i hi
 exact ⟨u, r2, r3⟩
theorem Ph.V.len {w : World} {S : Nat → Prop} {p : Ph} {v : List Value} (h : p.V w S v) : v.length = 11 := by
 obtain ⟨k0, k1, k2, k5, k6, k7, s3, s4, s8, a9, a10, l9, c9, l10, c10, rfl⟩ := h.form
 rfl
theorem Ph.V.ones {w : World} {S : Nat → Prop} {p : Ph} {v : List Value} (h : p.V w S v) : ∀ u ∈ v, u.oneCell' = true := by
 obtain ⟨k0, k1, k2, k5, k6, k7, s3, s4, s8, a9, a10, l9, c9, l10, c10, rfl⟩ := h.form
 intro u hu
 simp at hu
 rcases hu with rfl | rfl | rfl | rfl | rfl | rfl | rfl | rfl | rfl | rfl | rfl <;> rfl
theorem infoPh : (Tryz.prog.info? 36).map (fun i => (i.zero, i.size, i.bytes)) = some (some (.agg #[.int .i64 0, .int .i64 0, .int .i64 0, .string ByteArray.empty, .string ByteArray.empty, .int .i64 0, .int .i64 0, .int .i64 0, .string ByteArray.empty, .slice none 0 0, .slice none 0 0]), 11, 144) := by kernel_rfl
theorem new_at {w : World} {g : Nat} {u : List Value} {T : TypeId} (hg : w.heap.size = g) : ∀ j x, u[j]? = some x → (w.alloc (.cells u.toArray T)).cell? ((⟨g, 0, none⟩ : Addr).add j) = some x := by
 subst hg
 intro j x hx
 have e : (w.alloc (.cells u.toArray T)).heap[w.heap.size]? = some (.cells u.toArray T) := heap_alloc_new _ _
 by_cases h0 : j = 0
 · subst h0
   simp only [Addr.add, World.cell?, if_true]
   rw [e]
   simpa using hx
 · simp only [Addr.add, World.cell?, if_neg h0]
   rw [e]
   simpa using hx
open Go.RowKit
def lenV : Value → Nat
 | .slice _ n _ => n
 | _ => 0
theorem PaS.same {w w' : World} {pb b c : Nat} {T : List Tok} {st : Pst} (h : PaS w pb b c T st) (hz : w.heap.size ≤ w'.heap.size) (kp : w'.heap[pb]? = w.heap[pb]?) (kb : w'.heap[b]? = w.heap[b]?) : PaS w' pb b c T st :=
 ⟨(World.cell?_of_block (a := ⟨pb, 0, none⟩) kp).trans h.l, (World.cell?_of_block (a := ⟨pb, 1, none⟩) kp).trans h.a, (World.cell?_of_block (a := ⟨pb, 2, none⟩) kp).trans h.o, (World.cell?_of_block (a := ⟨pb, 3, none⟩) kp).trans h.e, (World.frozen?_of_block (a := ⟨pb, 1, none⟩) kp).trans h.fa, (World.frozen?_of_block (a := ⟨pb, 2, none⟩) kp).trans h.fo, (World.frozen?_of_block (a := ⟨pb, 3, none⟩) kp).trans h.fe, Nat.lt_of_lt_of_le h.pl hz, Nat.lt_of_lt_of_le h.bl hz, h.ne, fun i hi => by
  obtain ⟨h1, h2, h3⟩ := h.ts i hi
  exact ⟨(World.cell?_of_block (a := ⟨b, _, none⟩) kb).trans h1, (World.cell?_of_block (a := ⟨b, _, none⟩) kb).trans h2, (World.cell?_of_block (a := ⟨b, _, none⟩) kb).trans h3⟩⟩
theorem RunT.useL {pb b c : Nat} {T : List Tok} {f : Nat} {args : Array Value} {st st' : Pst} {p : Ph} (h : RunT pb b c T f args st st' p) {w W : World} (ht : RTab w pb) (hp : PaS W pb b c T st) (hg : GrowA pb w W) :
 Calls Tryz.prog f args W fun e w' => ∃ lo v, (w.heap.size ≤ lo ∧ pb < lo ∧ lo ≤ w'.heap.size ∧ lo = W.heap.size) ∧ Tre w' lo p v ∧ e = .returned (.agg v.toArray) ∧ PaS w' pb b c T st' ∧ GrowA pb W w' :=
 (h W hp (ht.grow hg)).mono fun e w' ⟨v, h1, h2, h3, h4⟩ => ⟨W.heap.size, v, ⟨hg.1, hp.pl, h4.1, rfl⟩, h1, h2, h3, h4⟩
set_option maxHeartbeats 3200000 in
theorem singles_is {pb b c : Nat} {T : List Tok} {st : Pst} {n : Nat} {A : Nat → Ph} {ST : Nat → Pst} (hT : T.length ≤ 200) (hn : 1 ≤ n) (hn2 : n ≤ 1000) (hS : ∀ k, k ≤ n → (ST k).at' ≤ 299) (h0 : RunT pb b c T 68 #[.pointer (some ⟨pb, 0, none⟩)] st (ST 1) (A 0)) (h1 : ∀ k, 1 ≤ k → k < n → eqT (seeM T (ST k) 0) ⟨5, ⟨#[44]⟩, 0⟩ = true) (hs : ∀ k, 1 ≤ k → k < n → RunT pb b c T 68 #[.pointer (some ⟨pb, 0, none⟩)] { ST k with at' := (ST k).at' + 1 } (ST (k + 1)) (A k)) (h2 : eqT (seeM T (ST n) 0) ⟨5, ⟨#[44]⟩, 0⟩ = false) : RunL pb b c T 44 st (ST n) n A := by
 intro w h htb
 have HTB : Hid (RTab w pb) := htb
 have H0 : Hid (RunT pb b c T 68 #[.pointer (some ⟨pb, 0, none⟩)] st (ST 1) (A 0)) := h0
 have H1 : Hid (∀ k, 1 ≤ k → k < n → eqT (seeM T (ST k) 0) ⟨5, ⟨#[44]⟩, 0⟩ = true) := h1
 have HSG : Hid (∀ k, 1 ≤ k → k < n → RunT pb b c T 68 #[.pointer (some ⟨pb, 0, none⟩)] { ST k with at' := (ST k).at' + 1 } (ST (k + 1)) (A k)) := hs
 have H2 : Hid (eqT (seeM T (ST n) 0) ⟨5, ⟨#[44]⟩, 0⟩ = false) := h2
 have HSS : Hid (∀ k, k ≤ n → (ST k).at' ≤ 299) := hS
 have HPW : Hid (pb < w.heap.size) := h.pl
 have HBW : Hid (b < w.heap.size) := h.bl
 have HP1 : Hid (PaS w pb b c T st) := h
 have HG1 : Hid (GrowA pb w w) := GrowA.refl _ _
 obtain ⟨i0, hi0, hz0, hz1, hz2⟩ := info_parts infoPh
 clear htb h0 h1 hs h2 hS h
 go_enter Tryz.func44, Tryz.ntmps44
 go_wp2_with (first
  | (go_at_call 68; refine (H0.out.useL HTB.out HP1.out HG1.out).mono ?_; rintro e w2 ⟨lo1, v, hlo, hv, rfl, hp, hg⟩; have HE1 := HidOf hv; have HO1 := HidOf hv.ones; have HN1 := HidOf hv.len; obtain ⟨k0_1, k1_1, k2_1, k5_1, k6_1, k7_1, s3_1, s4_1, s8_1, a9_1, a10_1, l9_1, c9_1, l10_1, c10_1, rfl⟩ := hv.form; have HLO1 := HidOf hlo; have HG2 : Hid (GrowA pb w w2) := HG1.out.trans hg; have HP2 : Hid (PaS w2 pb b c T (ST 1)) := hp; clear hv hlo hp hg HP1 HG1 H0))
 have HL2 : Hid (LOwn 36 11 (PhE A) (w2.alloc (.cells #[.int .i64 k0_1, .int .i64 k1_1, .int .i64 k2_1, .string s3_1, .string s4_1, .int .i64 k5_1, .int .i64 k6_1, .int .i64 k7_1, .string s8_1, .slice a9_1 l9_1 c9_1, .slice a10_1 l10_1 c10_1] 36)) w.heap.size (.slice (some ⟨w2.heap.size, 0, none⟩) 1 1) 1) := LOwn.one (u := [.int .i64 k0_1, .int .i64 k1_1, .int .i64 k2_1, .string s3_1, .string s4_1, .int .i64 k5_1, .int .i64 k6_1, .int .i64 k7_1, .string s8_1, .slice a9_1 l9_1 c9_1, .slice a10_1 l10_1 c10_1]) (PhE.keeps A) HN1.out HE1.out HLO1.out.1 HLO1.out.2.2.1 rfl
 have HG3 : Hid (GrowA pb w (w2.alloc (.cells #[.int .i64 k0_1, .int .i64 k1_1, .int .i64 k2_1, .string s3_1, .string s4_1, .int .i64 k5_1, .int .i64 k6_1, .int .i64 k7_1, .string s8_1, .slice a9_1 l9_1 c9_1, .slice a10_1 l10_1 c10_1] 36))) := HG2.out.alloc _
 have HP3 : Hid (PaS (w2.alloc (.cells #[.int .i64 k0_1, .int .i64 k1_1, .int .i64 k2_1, .string s3_1, .string s4_1, .int .i64 k5_1, .int .i64 k6_1, .int .i64 k7_1, .string s8_1, .slice a9_1 l9_1 c9_1, .slice a10_1 l10_1 c10_1] 36)) pb b c T (ST 1)) := HP2.out.allocI _
 clear HE1 HO1 HN1 HLO1 HG2 HP2
 obtain ⟨v0, hv0⟩ : ∃ x, x = Value.slice (some ⟨w2.heap.size, 0, none⟩) 1 1 := ⟨_, rfl⟩
 obtain ⟨W3, hW3⟩ : ∃ W, W = w2.alloc (.cells #[.int .i64 k0_1, .int .i64 k1_1, .int .i64 k2_1, .string s3_1, .string s4_1, .int .i64 k5_1, .int .i64 k6_1, .int .i64 k7_1, .string s8_1, .slice a9_1 l9_1 c9_1, .slice a10_1 l10_1 c10_1] 36) := ⟨_, rfl⟩
 rw [← hW3, ← hv0] at HL2
 rw [← hW3] at HG3 HP3
 rw [← hW3, ← hv0]
 clear hW3 hv0
 go_loopw [3] (fun lv wr => ∃ k, 1 ≤ k ∧ k ≤ n ∧ PaS wr pb b c T (ST k) ∧ GrowA pb w wr ∧ LOwn 36 11 (PhE A) wr w.heap.size lv k) (fun lv _ => n - lenV lv)
 case atStart => exact ⟨1, Nat.le_refl _, hn, HP3.out, HG3.out, HL2.out⟩
 case round =>
  obtain ⟨k, hk1, hkn, hp, hg, hl⟩ := hrel
  have HPR : Hid (PaS wr pb b c T (ST k)) := hp
  have HGR : Hid (GrowA pb w wr) := hg
  obtain ⟨la, lc, rfl⟩ := hl.form
  have HLR : Hid (LOwn 36 11 (PhE A) wr w.heap.size (.slice la k lc) k) := hl
  have hat : (ST k).at' ≤ 300 := by have := HSS.out k hkn; omega
  clear hp hg hl HP3 HG3 HL2
  by_cases hlt : k < n
  · have HC : Hid (eqT (seeM T (ST k) 0) ⟨5, ⟨#[44]⟩, 0⟩ = true) := H1.out k hk1 hlt
    have HS1 : Hid (RunT pb b c T 68 #[.pointer (some ⟨pb, 0, none⟩)] { ST k with at' := (ST k).at' + 1 } (ST (k + 1)) (A k)) := HSG.out k hk1 hlt
    go_wp2_with (first
     | (go_at_call 66; have HNX := HPR; refine (mark_is _ _).mono ?_; rintro e w4 ⟨rfl, hb⟩; have HP4 : Hid (PaS w4 pb b c T (ST k)) := HPR.out.below hb; have HG4 : Hid (GrowA pb w w4) := HGR.out.below hb; have HL4 : Hid (LOwn 36 11 (PhE A) w4 w.heap.size (.slice la k lc) k) := HLR.out.below (PhE.keeps A) hb; clear hb HNX HPR HGR HLR)
     | (go_at_call 69; refine (skip_yes HP4.out hT hat _ _ _ HC.out).mono ?_; rintro e w5 ⟨rfl, hp, hg⟩; have HP5 : Hid (PaS w5 pb b c T { ST k with at' := (ST k).at' + 1 }) := hp; have HG5 : Hid (GrowA pb w w5) := HG4.out.trans hg; have HL5 : Hid (LOwn 36 11 (PhE A) w5 w.heap.size (.slice la k lc) k) := HL4.out.grow (PhE.keeps A) hg HPW.out; clear hp hg HP4 HG4 HL4)
     | (go_at_call 68; refine (HS1.out.useL HTB.out HP5.out HG5.out).mono ?_; rintro e w6 ⟨lo2, v, hlo, hv, rfl, hp, hg⟩; have HE2 := HidOf hv; have HO2 := HidOf hv.ones; have HN2 := HidOf hv.len; obtain ⟨k0_2, k1_2, k2_2, k5_2, k6_2, k7_2, s3_2, s4_2, s8_2, a9_2, a10_2, l9_2, c9_2, l10_2, c10_2, rfl⟩ := hv.form; have HOB : Hid (∀ z, (Value.slice la k lc).ownBlock = some z → z < lo2) := (fun z hz => by rw [hlo.2.2.2]; exact (HL5.out.own z hz).2); have HLO2 := HidOf hlo; have HG6 : Hid (GrowA pb w w6) := HG5.out.trans hg; have HP6 : Hid (PaS w6 pb b c T (ST (k + 1))) := hp; have HL6 : Hid (LOwn 36 11 (PhE A) w6 w.heap.size (.slice la k lc) k) := HL5.out.grow (PhE.keeps A) hg HPW.out; clear hv hlo hp hg HP5 HG5 HL5)
     | (at_builtin; obtain ⟨L, ho, hE⟩ := HL6.out.below (PhE.keeps A) ((Below.refl _ _).alloc (Nat.le_refl _) (.cells #[.int .i64 k0_2, .int .i64 k1_2, .int .i64 k2_2, .string s3_2, .string s4_2, .int .i64 k5_2, .int .i64 k6_2, .int .i64 k7_2, .string s8_2, .slice a9_2 l9_2 c9_2, .slice a10_2 l10_2 c10_2] 36)); refine wpList_append_own_at _ rfl (.tmp 10) (.tmp 13) 33 rfl w.heap.size 36 i0 _ 11 144 Tryz.underlying33 hi0 hz0 hz1 hz2 rfl (by decide) _ _ _ rfl ho ⟨w6.heap.size, 0, none⟩ 1 1 [.int .i64 k0_2, .int .i64 k1_2, .int .i64 k2_2, .string s3_2, .string s4_2, .int .i64 k5_2, .int .i64 k6_2, .int .i64 k7_2, .string s8_2, .slice a9_2 l9_2 c9_2, .slice a10_2 l10_2 c10_2] rfl rfl (new_at rfl) HO2.out (by unfold maxLen; omega) (by omega) (by have := HG6.out.1; simp; omega) ?_; intro v7 w7 hown7 hgrow7 _ hat7; have HL7 : Hid (LOwn 36 11 (PhE A) w7 w.heap.size v7 (k + 1)) := LOwn.push (lo1 := lo2) (PhE.keeps A) hE HN2.out (Ph.V.keep (fun b q => ⟨q.1, by simp; omega⟩) (fun b q => Below.heap_alloc _ _ _ q.2) HE2.out) HLO2.out.1 HOB.out hown7 hgrow7 hat7; have HX7 : Hid (∀ z, z < w6.heap.size → z < w.heap.size → w7.heap[z]? = w6.heap[z]?) := (fun z h1 h2 => (hgrow7.block z (by simp; omega) (fun e => by have := (HL6.out.own z e.symm).1; omega)).trans (Below.heap_alloc _ _ _ h1)); have HG7 : Hid (GrowA pb w w7) := ⟨Nat.le_trans HG6.out.1 (Nat.le_trans (by simp) hgrow7.size), hgrow7.os.trans HG6.out.2.1, hgrow7.tape.trans HG6.out.2.2.1, hgrow7.output.trans HG6.out.2.2.2.1, fun z h1 h2 => (HX7.out z (Nat.lt_of_lt_of_le h1 HG6.out.1) h1).trans (HG6.out.2.2.2.2 z h1 h2)⟩; have HP7 : Hid (PaS w7 pb b c T (ST (k + 1))) := HP6.out.same (Nat.le_trans (by simp) hgrow7.size) (HX7.out pb HP6.out.pl HPW.out) (HX7.out b HP6.out.bl HBW.out); clear ho hE hown7 hgrow7 hat7 HL6 HG6 HP6 HX7))
    go_roundw
    case rel => exact ⟨k + 1, by omega, by omega, HP7.out, HG7.out, HL7.out⟩
    case measure =>
     obtain ⟨a7, c7, rfl⟩ := HL7.out.form
     simp [lenV]; omega
  · obtain rfl : k = n := by omega
    go_wp2_with (first
     | (go_at_call 66; have HNX := HPR; refine (mark_is _ _).mono ?_; rintro e w4 ⟨rfl, hb⟩; have HP4 : Hid (PaS w4 pb b c T (ST k)) := HPR.out.below hb; have HG4 : Hid (GrowA pb w w4) := HGR.out.below hb; have HL4 : Hid (LOwn 36 11 (PhE A) w4 w.heap.size (.slice la k lc) k) := HLR.out.below (PhE.keeps A) hb; clear hb HNX HPR HGR HLR)
     | (go_at_call 69; refine (skip_no HP4.out hT hat _ _ _ H2.out).mono ?_; rintro e w5 ⟨rfl, hp, hg⟩; have HP5 : Hid (PaS w5 pb b c T (ST k)) := hp; have HG5 : Hid (GrowA pb w w5) := HG4.out.trans hg; have HL5 : Hid (LOwn 36 11 (PhE A) w5 w.heap.size (.slice la k lc) k) := HL4.out.grow (PhE.keeps A) hg HPW.out; clear hp hg HP4 HG4 HL4))
    go_ret
    exact ⟨_, HL5.out.phs, rfl, HP5.out, HG5.out⟩
open Go.RowKit
theorem Phs.first {w : World} {lo : Nat} {A : Nat → Ph} {v : Value} (h : Phs w lo 1 A v) : ∃ g c, v = .slice (some ⟨g, 0, none⟩) 1 c ∧ 1 ≤ c ∧ c ≤ maxLen ∧ g < w.heap.size ∧ ∃ u, cAt w g 0 u ∧ Tre w lo (A 0) u := by
 obtain ⟨a, c, h1, h2, h3, h4⟩ := h
 obtain ⟨g, q1, q2, q3⟩ := h4 (by decide)
 obtain ⟨u, r1, r2⟩ := q3 0 (by decide)
 rw [Nat.zero_mul] at r1
 exact ⟨g, c, by rw [h1, q1], h2, h3, q2.2, u, r1, r2⟩
theorem cAt.eleven {w : World} {g o : Nat} {x0 x1 x2 x3 x4 x5 x6 x7 x8 x9 x10 : Value} (h : cAt w g o [x0, x1, x2, x3, x4, x5, x6, x7, x8, x9, x10]) : w.cell? ⟨g, o, none⟩ = some x0 ∧ w.cell? ⟨g, o + 1, none⟩ = some x1 ∧ w.cell? ⟨g, o + 2, none⟩ = some x2 ∧ w.cell? ⟨g, o + 3, none⟩ = some x3 ∧ w.cell? ⟨g, o + 4, none⟩ = some x4 ∧ w.cell? ⟨g, o + 5, none⟩ = some x5 ∧ w.cell? ⟨g, o + 6, none⟩ = some x6 ∧ w.cell? ⟨g, o + 7, none⟩ = some x7 ∧ w.cell? ⟨g, o + 8, none⟩ = some x8 ∧ w.cell? ⟨g, o + 9, none⟩ = some x9 ∧ w.cell? ⟨g, o + 10, none⟩ = some x10 :=
 ⟨h 0 (by simp), h 1 (by simp), h 2 (by simp), h 3 (by simp), h 4 (by simp), h 5 (by simp), h 6 (by simp), h 7 (by simp), h 8 (by simp), h 9 (by simp), h 10 (by simp)⟩
set_option maxHeartbeats 3200000 in
theorem list_one {pb b c : Nat} {T : List Tok} {st : Pst} {s0 s1 : Pst} {A : Nat → Ph} (hT : T.length ≤ 200) (hat : st.at' ≤ 300) (ho : st.opn ≤ 100) (hop : 1 ≤ s1.opn ∧ s1.opn ≤ 200) (he : enterM T st (singleB (seeM T st 0)) = s0) (hlu : RunL pb b c T 44 s0 s1 1 A) : RunT pb b c T 18 #[.pointer (some ⟨pb, 0, none⟩)] st { s1 with opn := s1.opn - 1 } (A 0) := by
 intro w h htb
 have HTB : Hid (RTab w pb) := htb
 clear htb
 have HLU : Hid (RunL pb b c T 44 s0 s1 1 A) := hlu
 clear hlu
 obtain ⟨beg, hbeg⟩ : ∃ x, x = singleB (seeM T st 0) := ⟨_, rfl⟩
 have SB : Hid (∀ W, PaS W pb b c T st → Calls Tryz.prog 43 #[.pointer (some ⟨pb, 0, none⟩)] W fun e w' => e = .returned (.bool beg) ∧ Below W.heap.size W w') := fun W h => by rw [hbeg]; exact singleBegins_any h hT hat
 rw [← hbeg] at he
 clear hbeg
 have hpl := h.pl
 have hbl := h.bl
 have HPW : Hid (pb < w.heap.size) := hpl
 go_enter_defers Tryz.func18, Tryz.ntmps18
 go_upto_region 1 with fail
 obtain ⟨W1, hW1⟩ : ∃ W, W = w.alloc (.cells #[.int .i64 0, .int .i64 0, .int .i64 0, .string ⟨#[]⟩, .string ⟨#[]⟩, .int .i64 0, .int .i64 0, .int .i64 0, .string ⟨#[]⟩, .slice none 0 0, .slice none 0 0] 36) := ⟨_, rfl⟩
 have HG1 : Hid (GrowA pb w W1) := by rw [hW1]; exact (GrowA.refl _ _).alloc _
 have HP1 : Hid (PaS W1 pb b c T st) := by rw [hW1]; exact h.allocI _
 have HR1 : Hid (PhZ W1 w.heap.size) := by rw [hW1]; exact PhB.new w _
 rw [← hW1]
 obtain ⟨r, hr⟩ : ∃ r, r = w.heap.size := ⟨_, rfl⟩
 have HRW : Hid (w.heap.size ≤ r) := Nat.le_of_eq hr.symm
 have hrp : r ≠ pb := by omega
 have hrb : r ≠ b := by omega
 rw [← hr] at HR1 ⊢
 clear hW1 hr h hpl hbl
 go_wp2_with (first
  | (go_at_call 43; (refine (SB.out _ HP1.out).mono ?_); rintro e w2 ⟨rfl, hb⟩; have HG2 : Hid (GrowA pb w w2) := (HG1.out.below hb); have HP2 : Hid (PaS w2 pb b c T st) := (HP1.out.below hb); have HR2 : Hid (PhZ w2 r) := (HR1.out.below hb); clear hb HP1 HG1 HR1)
  | (go_at_call 42; (refine (penter_is HP2.out _ ho).mono ?_); rintro e w3 ⟨q, rfl, hl, hp, hg, hq⟩; have HG3 : Hid (GrowA pb w w3) := (HG2.out.trans hg); have HP3 : Hid (PaS w3 pb b c T s0) := (by rw [← he]; exact hp); have HR3 : Hid (PhZ w3 r) := (HR2.out.grow hg hrp); have HL3 : Hid (Leave w3 pb q) := hl; have hrq : r ≠ q := (by have k1 := HR2.out.lt; first | omega | (simp at hq; omega)); clear hl hp hg hq HP2 HG2 HR2)
  | (go_at_call 44; (first | refine (HLU.out.use HTB.out HP3.out HG3.out (show r < _ from by have k := HR3.out.lt; first | exact k | (simp; omega))).mono ?_ | refine (HLU.out.use HTB.out (HP3.out.allocI _) (HG3.out.alloc _) (show r < _ from by have k := HR3.out.lt; first | exact k | (simp; omega))).mono ?_ | refine (HLU.out.use HTB.out ((HP3.out.allocI _).allocI _) ((HG3.out.alloc _).alloc _) (show r < _ from by have k := HR3.out.lt; first | exact k | (simp; omega))).mono ?_); rintro e w4 ⟨lo1, v, hlo, hv, rfl, hp, hg⟩; obtain ⟨g, c1, rfl, hc1, hcm, hgl, u, hu, htr⟩ := hv.first; have hlo1 := hlo.1; have hlp1 := hlo.2.1; have hlz1 := hlo.2.2; have HG4 : Hid (GrowA pb w w4) := (HG3.out.trans hg); have HP4 : Hid (PaS w4 pb b c T s1) := hp; have HR4 : Hid (PhZ w4 r) := (HR3.out.grow hg hrp); have HL4 : Hid (Leave w4 pb q) := (HL3.out.grow hg); obtain ⟨k0_1, k1_1, k2_1, k5_1, k6_1, k7_1, s3_1, s4_1, s8_1, a9_1, a10_1, l9_1, c9_1, l10_1, c10_1, rfl⟩ := htr.form; have HV1_4 : Hid (Tre w4 lo1 (A 0) [.int .i64 k0_1, .int .i64 k1_1, .int .i64 k2_1, .string s3_1, .string s4_1, .int .i64 k5_1, .int .i64 k6_1, .int .i64 k7_1, .string s8_1, .slice a9_1 l9_1 c9_1, .slice a10_1 l10_1 c10_1]) := htr; obtain ⟨m0, m1, m2, m3, m4, m5, m6, m7, m8, m9, m10⟩ := hu.eleven; obtain ⟨⟨y0, y1, y2, y3, y4, y5, y6, y7, y8, y9, y10⟩, z0, z1, z2, z3, z4, z5, z6, z7, z8, z9, z10⟩ := HR4.out.cells; clear hu htr; clear hv hlo hp hg HP3 HG3 HR3 HL3))
 obtain ⟨Wd, hWd⟩ : ∃ W, W = (((((((((((w4.setCell ⟨r, 0, none⟩ (.int .i64 k0_1)).setCell ⟨r, 1, none⟩ (.int .i64 k1_1)).setCell ⟨r, 2, none⟩ (.int .i64 k2_1)).setCell ⟨r, 3, none⟩ (.string s3_1)).setCell ⟨r, 4, none⟩ (.string s4_1)).setCell ⟨r, 5, none⟩ (.int .i64 k5_1)).setCell ⟨r, 6, none⟩ (.int .i64 k6_1)).setCell ⟨r, 7, none⟩ (.int .i64 k7_1)).setCell ⟨r, 8, none⟩ (.string s8_1)).setCell ⟨r, 9, none⟩ (.slice a9_1 l9_1 c9_1)).setCell ⟨r, 10, none⟩ (.slice a10_1 l10_1 c10_1)) := ⟨_, rfl⟩
 have HD : Hid (PaS Wd pb b c T s1) := by
  refine HidOf ?_
  rw [hWd]
  (repeat (first | with_reducible refine PaS.setR ?_ hrp hrb _ _ | with_reducible refine PaS.allocI ?_ _ | exact HP4.out))
 have HE : Hid (GrowA pb w Wd) := by
  refine HidOf ?_
  rw [hWd]
  (repeat (first | with_reducible refine GrowA.setR ?_ HRW.out _ _ | with_reducible refine GrowA.alloc ?_ _ | exact HG4.out))
 have HQ : Hid (Leave Wd pb q) := by
  refine HidOf ?_
  rw [hWd]
  (repeat (first | with_reducible refine Leave.setR ?_ hrq _ _ | with_reducible refine Leave.allocI ?_ _ | exact HL4.out))
 have HZ : Hid (PhB Wd r #[.int .i64 k0_1, .int .i64 k1_1, .int .i64 k2_1, .string s3_1, .string s4_1, .int .i64 k5_1, .int .i64 k6_1, .int .i64 k7_1, .string s8_1, .slice a9_1 l9_1 c9_1, .slice a10_1 l10_1 c10_1]) := by rw [hWd]; exact PhB.put HR4.out
 have HT : Hid (Tre Wd w.heap.size (A 0) [.int .i64 k0_1, .int .i64 k1_1, .int .i64 k2_1, .string s3_1, .string s4_1, .int .i64 k5_1, .int .i64 k6_1, .int .i64 k7_1, .string s8_1, .slice a9_1 l9_1 c9_1, .slice a10_1 l10_1 c10_1]) := by
  refine HidOf ?_
  rw [hWd]
  (refine Tre.mono (lo := lo1) ?_ (by have := HRW.out; omega); (repeat (first | with_reducible refine Tre.setR ?_ hlo1 _ _ | with_reducible refine Tre.allocI ?_ _ | with_reducible exact HV1_4.out)))
 rw [← hWd]
 clear hWd
 refine leaves_cons (f := 64) (args := #[.pointer (some ⟨q, 0, none⟩)]) (by simp) (by simp [go_sem]) ?_
 refine (pleave_is HD.out HQ.out hop .returning).mono ?_
 rintro e u' w99 ⟨rfl, rfl, hp, hg⟩
 obtain ⟨⟨u0, u1, u2, u3, u4, u5, u6, u7, u8, u9, u10⟩, _⟩ := (HZ.out.grow hg hrp).cells
 exact ⟨.agg #[.int .i64 k0_1, .int .i64 k1_1, .int .i64 k2_1, .string s3_1, .string s4_1, .int .i64 k5_1, .int .i64 k6_1, .int .i64 k7_1, .string s8_1, .slice a9_1 l9_1 c9_1, .slice a10_1 l10_1 c10_1], by simp [results, Tryz.results18, go_sem, u0, u1, u2, u3, u4, u5, u6, u7, u8, u9, u10], ⟨_, HT.out.grow hg HPW.out, rfl, hp, HE.out.trans hg⟩⟩
set_option maxHeartbeats 3200000 in
theorem list_more {pb b c : Nat} {T : List Tok} {st : Pst} {s0 s1 : Pst} {n : Nat} {A : Nat → Ph} (hT : T.length ≤ 200) (hat : st.at' ≤ 300) (ho : st.opn ≤ 100) (hop : 1 ≤ s1.opn ∧ s1.opn ≤ 200) (he : enterM T st (singleB (seeM T st 0)) = s0) (hn1 : n ≠ 1) (hlu : RunL pb b c T 44 s0 s1 n A) : RunT pb b c T 18 #[.pointer (some ⟨pb, 0, none⟩)] st { s1 with opn := s1.opn - 1 } (phN 3 ⟨0, 0, ⟨#[]⟩⟩ ⟨#[]⟩ 0 0 0 ⟨#[]⟩ n A) := by
 intro w h htb
 have HTB : Hid (RTab w pb) := htb
 clear htb
 have HLU : Hid (RunL pb b c T 44 s0 s1 n A) := hlu
 clear hlu
 obtain ⟨beg, hbeg⟩ : ∃ x, x = singleB (seeM T st 0) := ⟨_, rfl⟩
 have SB : Hid (∀ W, PaS W pb b c T st → Calls Tryz.prog 43 #[.pointer (some ⟨pb, 0, none⟩)] W fun e w' => e = .returned (.bool beg) ∧ Below W.heap.size W w') := fun W h => by rw [hbeg]; exact singleBegins_any h hT hat
 rw [← hbeg] at he
 clear hbeg
 have hn1' : ((n : Int) == 1) = false := by rw [beq_eq_false_iff_ne]; omega
 have hpl := h.pl
 have hbl := h.bl
 have HPW : Hid (pb < w.heap.size) := hpl
 go_enter_defers Tryz.func18, Tryz.ntmps18
 go_upto_region 1 with fail
 obtain ⟨W1, hW1⟩ : ∃ W, W = w.alloc (.cells #[.int .i64 0, .int .i64 0, .int .i64 0, .string ⟨#[]⟩, .string ⟨#[]⟩, .int .i64 0, .int .i64 0, .int .i64 0, .string ⟨#[]⟩, .slice none 0 0, .slice none 0 0] 36) := ⟨_, rfl⟩
 have HG1 : Hid (GrowA pb w W1) := by rw [hW1]; exact (GrowA.refl _ _).alloc _
 have HP1 : Hid (PaS W1 pb b c T st) := by rw [hW1]; exact h.allocI _
 have HR1 : Hid (PhZ W1 w.heap.size) := by rw [hW1]; exact PhB.new w _
 rw [← hW1]
 obtain ⟨r, hr⟩ : ∃ r, r = w.heap.size := ⟨_, rfl⟩
 have HRW : Hid (w.heap.size ≤ r) := Nat.le_of_eq hr.symm
 have hrp : r ≠ pb := by omega
 have hrb : r ≠ b := by omega
 rw [← hr] at HR1 ⊢
 clear hW1 hr h hpl hbl
 go_wp2_with (first
  | (go_at_call 43; (refine (SB.out _ HP1.out).mono ?_); rintro e w2 ⟨rfl, hb⟩; have HG2 : Hid (GrowA pb w w2) := (HG1.out.below hb); have HP2 : Hid (PaS w2 pb b c T st) := (HP1.out.below hb); have HR2 : Hid (PhZ w2 r) := (HR1.out.below hb); clear hb HP1 HG1 HR1)
  | (go_at_call 42; (refine (penter_is HP2.out _ ho).mono ?_); rintro e w3 ⟨q, rfl, hl, hp, hg, hq⟩; have HG3 : Hid (GrowA pb w w3) := (HG2.out.trans hg); have HP3 : Hid (PaS w3 pb b c T s0) := (by rw [← he]; exact hp); have HR3 : Hid (PhZ w3 r) := (HR2.out.grow hg hrp); have HL3 : Hid (Leave w3 pb q) := hl; have hrq : r ≠ q := (by have k1 := HR2.out.lt; first | omega | (simp at hq; omega)); clear hl hp hg hq HP2 HG2 HR2)
  | (go_at_call 44; (first | refine (HLU.out.use HTB.out HP3.out HG3.out (show r < _ from by have k := HR3.out.lt; first | exact k | (simp; omega))).mono ?_ | refine (HLU.out.use HTB.out (HP3.out.allocI _) (HG3.out.alloc _) (show r < _ from by have k := HR3.out.lt; first | exact k | (simp; omega))).mono ?_ | refine (HLU.out.use HTB.out ((HP3.out.allocI _).allocI _) ((HG3.out.alloc _).alloc _) (show r < _ from by have k := HR3.out.lt; first | exact k | (simp; omega))).mono ?_); rintro e w4 ⟨lo1, v, hlo, hv, rfl, hp, hg⟩; obtain ⟨a1, c1, rfl⟩ := hv.form; have hlo1 := hlo.1; have hlp1 := hlo.2.1; have hlz1 := hlo.2.2; have HG4 : Hid (GrowA pb w w4) := (HG3.out.trans hg); have HP4 : Hid (PaS w4 pb b c T s1) := hp; have HR4 : Hid (PhZ w4 r) := (HR3.out.grow hg hrp); have HL4 : Hid (Leave w4 pb q) := (HL3.out.grow hg); have HV1_4 : Hid (Phs w4 lo1 n A (.slice a1 n c1)) := hv; obtain ⟨⟨y0, y1, y2, y3, y4, y5, y6, y7, y8, y9, y10⟩, z0, z1, z2, z3, z4, z5, z6, z7, z8, z9, z10⟩ := HR4.out.cells; clear hv hlo hp hg HP3 HG3 HR3 HL3))
 obtain ⟨Wd, hWd⟩ : ∃ W, W = (((((((((((w4.setCell ⟨r, 0, none⟩ (.int .i64 3)).setCell ⟨r, 1, none⟩ (.int .i64 0)).setCell ⟨r, 2, none⟩ (.int .i64 0)).setCell ⟨r, 3, none⟩ (.string ⟨#[]⟩)).setCell ⟨r, 4, none⟩ (.string ⟨#[]⟩)).setCell ⟨r, 5, none⟩ (.int .i64 0)).setCell ⟨r, 6, none⟩ (.int .i64 0)).setCell ⟨r, 7, none⟩ (.int .i64 0)).setCell ⟨r, 8, none⟩ (.string ⟨#[]⟩)).setCell ⟨r, 9, none⟩ (.slice a1 n c1)).setCell ⟨r, 10, none⟩ (.slice none 0 0)) := ⟨_, rfl⟩
 have HD : Hid (PaS Wd pb b c T s1) := by
  refine HidOf ?_
  rw [hWd]
  (repeat (first | with_reducible refine PaS.setR ?_ hrp hrb _ _ | with_reducible refine PaS.allocI ?_ _ | exact HP4.out))
 have HE : Hid (GrowA pb w Wd) := by
  refine HidOf ?_
  rw [hWd]
  (repeat (first | with_reducible refine GrowA.setR ?_ HRW.out _ _ | with_reducible refine GrowA.alloc ?_ _ | exact HG4.out))
 have HQ : Hid (Leave Wd pb q) := by
  refine HidOf ?_
  rw [hWd]
  (repeat (first | with_reducible refine Leave.setR ?_ hrq _ _ | with_reducible refine Leave.allocI ?_ _ | exact HL4.out))
 have HZ : Hid (PhB Wd r #[.int .i64 3, .int .i64 0, .int .i64 0, .string ⟨#[]⟩, .string ⟨#[]⟩, .int .i64 0, .int .i64 0, .int .i64 0, .string ⟨#[]⟩, .slice a1 n c1, .slice none 0 0]) := by rw [hWd]; exact PhB.put HR4.out
 have HT : Hid (Tre Wd w.heap.size (phN 3 ⟨0, 0, ⟨#[]⟩⟩ ⟨#[]⟩ 0 0 0 ⟨#[]⟩ n A) [.int .i64 3, .int .i64 0, .int .i64 0, .string ⟨#[]⟩, .string ⟨#[]⟩, .int .i64 0, .int .i64 0, .int .i64 0, .string ⟨#[]⟩, .slice a1 n c1, .slice none 0 0]) := by
  refine HidOf ?_
  rw [hWd]
  (refine Tre.mono (lo := lo1) ?_ (by have := HRW.out; omega); refine Phs.tre (A := A) (v := .slice a1 n c1) ?_; (repeat (first | with_reducible refine Phs.setR ?_ hlo1 _ _ | with_reducible refine Phs.allocI ?_ _ | with_reducible exact HV1_4.out)))
 rw [← hWd]
 clear hWd
 refine leaves_cons (f := 64) (args := #[.pointer (some ⟨q, 0, none⟩)]) (by simp) (by simp [go_sem]) ?_
 refine (pleave_is HD.out HQ.out hop .returning).mono ?_
 rintro e u' w99 ⟨rfl, rfl, hp, hg⟩
 obtain ⟨⟨u0, u1, u2, u3, u4, u5, u6, u7, u8, u9, u10⟩, _⟩ := (HZ.out.grow hg hrp).cells
 exact ⟨.agg #[.int .i64 3, .int .i64 0, .int .i64 0, .string ⟨#[]⟩, .string ⟨#[]⟩, .int .i64 0, .int .i64 0, .int .i64 0, .string ⟨#[]⟩, .slice a1 n c1, .slice none 0 0], by simp [results, Tryz.results18, go_sem, u0, u1, u2, u3, u4, u5, u6, u7, u8, u9, u10], ⟨_, HT.out.grow hg HPW.out, rfl, hp, HE.out.trans hg⟩⟩
end Go.Proofs.YtbnlekhjgkojlaaGreatDoor
