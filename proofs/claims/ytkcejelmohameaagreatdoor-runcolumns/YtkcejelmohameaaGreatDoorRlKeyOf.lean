/-
  CONTRACT of rel.keyOf: a row's items at some places, as a key.
-/
import Derived.Test.YtkcejelmohameaaGreatDoorRlSameI
import Derived.Test.YtkcejelmohameaaGreatDoorRlCMap
import Derived.Deep.MidRow
set_option linter.unusedVariables false
namespace Go.Proofs.YtkcejelmohameaaGreatDoor
set_option maxRecDepth 100000
open Go.RowKit Go.WideShapes

/-- the items of a key -/
def keyX (X : Nat → It) (P : Nat → Nat) (k i : Nat) : It := if i < k then X (P i) else ⟨0, 0, ⟨#[]⟩⟩
theorem keyX_zero (X : Nat → It) (P : Nat → Nat) : keyX X P 0 = fun _ => ⟨0, 0, ⟨#[]⟩⟩ := by
  funext i
  exact if_neg (by omega)
theorem keyX_succ (X : Nat → It) (P : Nat → Nat) (j : Nat) : (fun i => if i = j then X (P j) else keyX X P j i) = keyX X P (j + 1) := by
  funext i
  unfold keyX
  by_cases e : i = j
  · rw [if_pos e, if_pos (by omega), e]
  · rw [if_neg e]
    by_cases h : i < j
    · rw [if_pos h, if_pos (by omega)]
    · rw [if_neg h, if_neg (by omega)]
theorem its_range {W : World} {g : Nat} {X : Nat → It} (h : ItsAt W g 0 8 X) : W.rangeAt g 0 (itCells X 8) := by
  intro j v hj
  have hl : j < 8 * 3 := by
    have := (List.getElem?_eq_some_iff.1 hj).1
    rwa [itCells_len] at this
  rw [itCells_at _ _ _ hl] at hj
  obtain ⟨h0, h1, h2⟩ := h (j / 3) (by omega)
  cases hj
  have hd : j = j / 3 * 3 + j % 3 := by omega
  match hm : j % 3, (show j % 3 < 3 by omega) with
  | 0, _ =>
    rw [hm] at hd
    rw [hd]
    simpa [itCell] using h0
  | 1, _ =>
    rw [hm] at hd
    have hq : (j / 3 * 3 + 1) / 3 = j / 3 := by omega
    rw [hd]
    simpa [itCell, hq] using h1
  | 2, _ =>
    rw [hm] at hd
    have hq : (j / 3 * 3 + 2) / 3 = j / 3 := by omega
    rw [hd]
    simpa [itCell, hq] using h2
theorem its_put {W : World} {g j : Nat} {X : Nat → It} {x : It} (h : ItsAt W g 0 8 X) (hr : Room W g 8) (hj : j < 8) :
    ItsAt (((W.setCell ⟨g, j * 3, none⟩ (.int .i64 x.kind)).setCell ⟨g, j * 3 + 1, none⟩ (.int .i64 x.n)).setCell ⟨g, j * 3 + 2, none⟩ (.string x.s)) g 0 8 (fun i => if i = j then x else X i) := by
  intro i hi
  by_cases e : i = j
  · subst e
    obtain ⟨⟨v0, r0⟩, _⟩ := hr (i * 3) (by omega)
    obtain ⟨⟨v1, r1⟩, _⟩ := hr (i * 3 + 1) (by omega)
    obtain ⟨⟨v2, r2⟩, _⟩ := hr (i * 3 + 2) (by omega)
    simp only [if_pos, Nat.zero_add]
    refine ⟨?_, ?_, ?_⟩
    · rw [set_other (by simp), set_other (by simp), set_same r0]
    · rw [set_other (by simp), set_same (by rw [set_other (by simp)]; exact r1)]
    · rw [set_same (by rw [set_other (by simp), set_other (by simp)]; exact r2)]
  · obtain ⟨h0, h1, h2⟩ := h i hi
    simp only [if_neg e]
    refine ⟨?_, ?_, ?_⟩
    · rw [set_other (by simp <;> omega), set_other (by simp <;> omega), set_other (by simp <;> omega)]; exact h0
    · rw [set_other (by simp <;> omega), set_other (by simp <;> omega), set_other (by simp <;> omega)]; exact h1
    · rw [set_other (by simp <;> omega), set_other (by simp <;> omega), set_other (by simp <;> omega)]; exact h2
theorem its_zero {w : World} {Z : Array Value} {T : TypeId} (hz : Z = (itCells (fun _ => ⟨0, 0, ⟨#[]⟩⟩) 8).toArray) : ItsAt (w.alloc (.cells Z T)) w.heap.size 0 8 (fun _ => ⟨0, 0, ⟨#[]⟩⟩) := by
  intro i hi
  have hc : ∀ o, o < 24 → (w.alloc (.cells Z T)).cell? ⟨w.heap.size, o, none⟩ = (itCells (fun _ => ⟨0, 0, ⟨#[]⟩⟩) 8)[o]? := fun o ho => by
    subst hz
    simp
  refine ⟨?_, ?_, ?_⟩
  · rw [hc _ (by omega), itCells_at _ _ _ (by omega), show (0 + i * 3) % 3 = 0 by omega]; rfl
  · rw [hc _ (by omega), itCells_at _ _ _ (by omega), show (0 + i * 3 + 1) % 3 = 1 by omega]; rfl
  · rw [hc _ (by omega), itCells_at _ _ _ (by omega), show (0 + i * 3 + 2) % 3 = 2 by omega]; rfl
theorem room_there {W : World} {g : Nat} (h : Room W g 8) {n : Nat} (hn : n = 24) : W.there g 0 n := fun j hj => by
  obtain ⟨⟨v, h1⟩, h2⟩ := h j (by omega)
  rw [Nat.zero_add]
  exact ⟨by rw [h1]; rfl, h2⟩
theorem Room.keep {W W' : World} {g k : Nat} (h : Room W g k) (hb : W'.heap[g]? = W.heap[g]?) : Room W' g k := fun o ho => by
  obtain ⟨⟨v, h1⟩, h2⟩ := h o ho
  exact ⟨⟨v, (World.cell?_of_block (a := ⟨g, o, none⟩) hb).trans h1⟩, (World.frozen?_of_block (a := ⟨g, o, none⟩) hb).trans h2⟩
theorem infoKey : (Tryz.prog.info? 165).map (·.size) = some 24 := by kernel_rfl
theorem key_one (X : Nat → It) : ((itCells X 8).toArray.all (·.oneCell')) = true := by
  rw [Array.all_eq_true_iff_forall_mem]
  intro v hv
  have hv' : v ∈ itCells X 8 := by simpa using hv
  unfold itCells at hv'
  obtain ⟨j, hj, rfl⟩ := List.mem_map.1 hv'
  unfold itCell
  split <;> rfl
theorem key_loadVar {W : World} {g : Nat} {X : Nat → It} (h : ItsAt W g 0 8 X) : (loadVar 165 ⟨g, 0, none⟩).run Tryz.prog W = .ok (keyV X) W :=
  run_loadVar_mid W g 0 165 (itCells X 8) _ (its_range h) Tryz.underlying165 rfl (by rw [itCells_len]; exact infoKey)
theorem its_back {W : World} {g : Nat} {X : Nat → It} (h : W.rangeAt g 0 (itCells X 8)) : ItsAt W g 0 8 X := fun i hi =>
  ⟨by rw [h (i * 3) (.int .i64 (X i).kind) (by rw [itCells_at _ _ _ (by omega), show i * 3 / 3 = i by omega, show i * 3 % 3 = 0 by omega]; rfl)] |> fun h => h,
   by rw [show 0 + i * 3 + 1 = 0 + (i * 3 + 1) by omega, h (i * 3 + 1) (.int .i64 (X i).n) (by rw [itCells_at _ _ _ (by omega), show (i * 3 + 1) / 3 = i by omega, show (i * 3 + 1) % 3 = 1 by omega]; rfl)],
   by rw [show 0 + i * 3 + 2 = 0 + (i * 3 + 2) by omega, h (i * 3 + 2) (.string (X i).s) (by rw [itCells_at _ _ _ (by omega), show (i * 3 + 2) / 3 = i by omega, show (i * 3 + 2) % 3 = 2 by omega]; rfl)]⟩
theorem setCells_keep (b : Nat) : ∀ (vs : List Value) (o : Nat) (w : World), (w.setCells b o vs).heap.size = w.heap.size ∧ (∀ c, c ≠ b → (w.setCells b o vs).heap[c]? = w.heap[c]?) ∧ (w.setCells b o vs).os = w.os ∧ (w.setCells b o vs).tape = w.tape ∧ (w.setCells b o vs).output = w.output
  | [], _, _ => ⟨rfl, fun _ _ => rfl, rfl, rfl, rfl⟩
  | v :: r, o, w => by
    obtain ⟨h1, h2, h3, h4, h5⟩ := setCells_keep b r (o + 1) (w.setCell ⟨b, o, none⟩ v)
    have hb : Below b w (w.setCell ⟨b, o, none⟩ v) := (Below.refl b w).setCell (Nat.le_refl _) v
    refine ⟨h1.trans (by simp), fun c hc => (h2 c hc).trans (Below.heap_setCell _ _ _ _ (by simpa using hc)), h3.trans hb.os, h4.trans hb.tape, h5.trans hb.output⟩
set_option maxHeartbeats 3200000 in
theorem keyOf_is (u p : Value) (n k : Nat) (X : Nat → It) (P : Nat → Nat) (w : World) (hu : ItsIs w u n X) (hp : IntsIs w p k P) (hP : ∀ i, i < k → P i < n) (hk : k ≤ 8) :
    Calls Tryz.prog 144 #[u, p] w fun e w' => e = .returned (keyV (keyX X P k)) ∧ Below w.heap.size w w' := by
  obtain ⟨ua, ucap, rfl, u1, u2, _, u3⟩ := hu
  obtain ⟨pa, pcap, rfl, p1, p2, p3⟩ := hp
  have HU : Hid (∀ W i, Below w.heap.size w W → i < k → ∃ b off pb po, ua = some ⟨b, off, none⟩ ∧ pa = some ⟨pb, po, none⟩ ∧ b < w.heap.size ∧ pb < w.heap.size ∧ W.cell? ⟨pb, po + i, none⟩ = some (.int .i64 (P i : Int)) ∧ W.cell? ⟨b, off + P i * 3, none⟩ = some (.int .i64 (X (P i)).kind) ∧ W.cell? ⟨b, off + P i * 3 + 1, none⟩ = some (.int .i64 (X (P i)).n) ∧ W.cell? ⟨b, off + P i * 3 + 2, none⟩ = some (.string (X (P i)).s) ∧ P i < n) := fun W i hW hi => by
    have hPi := hP i hi
    obtain ⟨b, off, e1, e2, e3⟩ := u3 (by omega)
    obtain ⟨pb, po, d1, d2, d3⟩ := p3 (by omega)
    obtain ⟨x0, x1, x2⟩ := e3 (P i) hPi
    exact ⟨b, off, pb, po, e1, d1, e2, d2, (hW.cell (p := ⟨pb, po + i, none⟩) d2).trans (d3 i hi), (hW.cell (p := ⟨b, off + P i * 3, none⟩) e2).trans x0, (hW.cell (p := ⟨b, off + P i * 3 + 1, none⟩) e2).trans x1, (hW.cell (p := ⟨b, off + P i * 3 + 2, none⟩) e2).trans x2, hPi⟩
  have hnn : n ≤ 9223372036854775807 := by unfold maxLen at u2; omega
  clear u2 u3 p2 p3 hP
  go_enter Tryz.func144, Tryz.ntmps144
  go_upto_region 3 with fail
  go_loopw [10] (fun i wr => ∃ j : Nat, j ≤ k ∧ i = .int .i64 j ∧ Room wr w.heap.size 8 ∧ Room wr (w.heap.size + 1) 8 ∧ ItsAt wr (w.heap.size + 1) 0 8 (keyX X P j) ∧ Below w.heap.size w wr ∧ w.heap.size + 1 < wr.heap.size) (fun i _ => k - (intOf i).toNat)
  case atStart =>
    refine ⟨0, Nat.zero_le _, rfl, ?_, ?_, ?_, ((Below.refl _ _).alloc (Nat.le_refl _) _).alloc (by simp) _, by simp⟩
    · exact (Room.made w _ _ 8 rfl).keep (((Below.refl _ _).alloc (Nat.le_refl _) _).block w.heap.size (by simp))
    · have h := Room.made (w.alloc (.cells (itCells (fun _ => ⟨0, 0, ⟨#[]⟩⟩) 8).toArray 165)) (itCells (fun _ => ⟨0, 0, ⟨#[]⟩⟩) 8).toArray 165 8 rfl
      rw [show (w.alloc (.cells (itCells (fun _ => ⟨0, 0, ⟨#[]⟩⟩) 8).toArray 165)).heap.size = w.heap.size + 1 by simp] at h
      exact h
    · have h := its_zero (w := w.alloc (.cells (itCells (fun _ => ⟨0, 0, ⟨#[]⟩⟩) 8).toArray 165)) (Z := (itCells (fun _ => ⟨0, 0, ⟨#[]⟩⟩) 8).toArray) (T := 165) rfl
      rw [show (w.alloc (.cells (itCells (fun _ => ⟨0, 0, ⟨#[]⟩⟩) 8).toArray 165)).heap.size = w.heap.size + 1 by simp] at h
      rw [keyX_zero]
      exact h
  case round =>
    obtain ⟨j, hj, rfl, hr0, hr1, hits, hbr, hsz⟩ := hrel
    have HR0 : Hid (Room wr w.heap.size 8) := hr0
    have HR1 : Hid (Room wr (w.heap.size + 1) 8) := hr1
    have HI : Hid (ItsAt wr (w.heap.size + 1) 0 8 (keyX X P j)) := hits
    have HB : Hid (Below w.heap.size w wr) := hbr
    clear hr0 hr1 hits hbr
    by_cases hlt : j < k
    · obtain ⟨b, off, pb, po, rfl, rfl, hb0, hpb0, e0, e1, e2, e3, hPn⟩ := HU.out wr j HB.out hlt
      obtain ⟨⟨v0, r0⟩, f0⟩ := HR1.out (j * 3) (by omega)
      obtain ⟨⟨v1, r1⟩, f1⟩ := HR1.out (j * 3 + 1) (by omega)
      obtain ⟨⟨v2, r2⟩, f2⟩ := HR1.out (j * 3 + 2) (by omega)
      have hji : (j : Int) < (k : Int) := by omega
      have hj8 : (j : Int) < 8 := by omega
      have hpi : (P j : Int) < (n : Int) := by omega
      have HS : Hid (ItsAt (((wr.setCell ⟨w.heap.size + 1, j * 3, none⟩ (.int .i64 (X (P j)).kind)).setCell ⟨w.heap.size + 1, j * 3 + 1, none⟩ (.int .i64 (X (P j)).n)).setCell ⟨w.heap.size + 1, j * 3 + 2, none⟩ (.string (X (P j)).s)) (w.heap.size + 1) 0 8 (keyX X P (j + 1))) := by
        have h := its_put (x := X (P j)) HI.out HR1.out (show j < 8 by omega)
        rw [keyX_succ] at h
        exact h
      generalize (X (P j)).kind = xk at *
      generalize (X (P j)).n = xn at *
      generalize (X (P j)).s = xs at *
      generalize P j = q at *
      go_wp2
      go_roundw
      case rel => exact ⟨j + 1, by omega, by go_num, ((HR0.out.setCell _ _).setCell _ _).setCell _ _, ((HR1.out.setCell _ _).setCell _ _).setCell _ _, HS.out, ((HB.out.setCell (by simp) _).setCell (by simp) _).setCell (by simp) _, by simpa using hsz⟩
      case measure => simp [intOf]; omega
    · have e : j = k := by omega
      subst e
      have hr := World.rangeAt_setCells_same wr w.heap.size 0 (itCells (keyX X P j) 8) (room_there HR0.out (by simp [itCells_len]))
      obtain ⟨z1, z2, z3, z4, z5⟩ := setCells_keep w.heap.size (itCells (keyX X P j) 8) 0 wr
      have HB9 : Hid (Below w.heap.size w (wr.setCells w.heap.size 0 (itCells (keyX X P j) 8))) := ⟨z3.trans HB.out.os, z4.trans HB.out.tape, z5.trans HB.out.output, by rw [z1]; exact HB.out.size, fun b hb => (z2 b (by omega)).trans (HB.out.block b hb)⟩
      have HL : Hid ((loadVar 165 ⟨w.heap.size, 0, none⟩).run Tryz.prog (wr.setCells w.heap.size 0 (itCells (keyX X P j) 8)) = .ok (keyV (keyX X P j)) (wr.setCells w.heap.size 0 (itCells (keyX X P j) 8))) := key_loadVar (its_back hr)
      clear hr z1 z2 z3 z4 z5
      go_wp2_with (first
        | (refine wpList_load_mid rfl 165 (.tmp 5) rfl (w.heap.size + 1) 0 rfl (itCells (keyX X P j) 8) _ (its_range HI.out) Tryz.underlying165 rfl (by rw [itCells_len]; exact infoKey) ?_)
        | (refine wpList_store_mid rfl 165 (.tmp 4) (.tmp 22) rfl w.heap.size 0 (itCells (keyX X P j) 8).toArray rfl rfl (room_there HR0.out (by simp [itCells_len])) (by rw [infoKey]; simp [itCells_len]) (key_one _) ?_))
      refine bodyPost_ret (v := keyV (keyX X P j)) ?_ rfl ⟨rfl, HB9.out⟩
      have hl := HL.out
      simp [results, Tryz.results144, asAddr, Act.put, hl]
end Go.Proofs.YtkcejelmohameaaGreatDoor
