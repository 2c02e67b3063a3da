/- scan: the law of two copies of one key. -/
import Derived.Test.YtiliggleplpjbaaScZ
import Derived.Test.YtiliggleplpjbaaSc26
import Derived.BigQuiet
namespace Go.Proofs.Ytiliggleplpjbaa
set_option linter.unusedVariables false
set_option linter.unusedSimpArgs false
open Go Go.RowKit Go.Maps Go.Proofs
theorem Gr.drewN (w : World) (n : Nat) : Gr w (w.drewN n) := ⟨(Below.refl w.heap.size w).os, (Below.refl w.heap.size w).tape, (Below.refl w.heap.size w).output, (Below.refl w.heap.size w).size, (Below.refl w.heap.size w).block⟩
def kKey : By := [107]
theorem kKp {g f : Int} (g0 : 0 ≤ g) (g1 : g ≤ 1000) (f0 : 0 ≤ f) (f1 : f ≤ 1000) : Kp kKey g 0 (digL 0) (List.replicate 16 0) f := ⟨by decide, by decide, g0, by omega, by decide, by decide, by decide, by decide, f0, f1⟩
theorem kSl (g : Int) : nSlots ⟨kKey, g, 0, digL 0⟩ = 10 := by show 10 * (groupsOf 0).toNat = 10; decide
theorem drop_kept {E : List Fe} {key sum data : By} {gen z frm : Int} {i : Nat} (hi : i < 3) (h : E.map (fun x => x.f) = keptL key gen z sum data frm (fun _ => true) 10) : (E.drop i).map (fun x => x.f) = keptL key gen z sum data frm (fun s => decide (i ≤ s)) 10 := by
  rw [List.map_drop, h]
  unfold keptL
  rw [← List.map_drop, List.filter_eq_self.mpr (fun _ _ => rfl), range_from hi]
set_option maxRecDepth 100000 in
set_option maxHeartbeats 8000000 in
theorem scanTwo_any (a b m n : Nat) (ha : a < 256) (hb : b < 256) (hm : m < 65536) (hn : n < 65536) (turned : Bool) (w : World) : Calls Try.prog 8 #[.int .u8 (a : Nat), .int .u8 (b : Nat), .int .u16 (m : Nat), .int .u16 (n : Nat), .bool turned] w fun e w' => e = .returned (.bool true) ∧ Gr w w' := by
  obtain ⟨x, hx⟩ : ∃ x : Nat, a % 20 = x := ⟨_, rfl⟩
  obtain ⟨y, hy⟩ : ∃ x : Nat, b % 20 = x := ⟨_, rfl⟩
  obtain ⟨i, hi⟩ : ∃ x : Nat, m % 3 = x := ⟨_, rfl⟩
  obtain ⟨j, hj⟩ : ∃ x : Nat, n % 3 = x := ⟨_, rfl⟩
  have hx20 : x < 20 := by omega
  have hy20 : y < 20 := by omega
  have hi3 : i < 3 := by omega
  have hj3 : j < 3 := by omega
  have ex : (a : Int) % 20 = (x : Int) := by omega
  have ey : (b : Int) % 20 = (y : Int) := by omega
  have ei : (m : Int) % 3 = (i : Int) := by omega
  have ej : (n : Int) % 3 = (j : Int) := by omega
  clear hx hy hi hj
  have hcx := Lib.hid (fun q => copyOf_any [107] (3 + (x : Int)) 0 5 (by decide) (by decide) (by decide) (by decide) q)
  have hcy := Lib.hid (fun q => copyOf_any [107] (30 + (y : Int)) 0 6 (by decide) (by decide) (by decide) (by decide) q)
  go_enter Try.func8, Try.ntmps8
  go_upto_region 2 with (first
    | (go_at_call 17; (refine (hcx.out _).mono ?_); clear hcx; rintro e w1 ⟨A1, m1, c1, rfl, hm1, hcp1, hg1⟩; replace hm1 := Lib.hid hm1; replace hg1 := Lib.hid hg1)
    | (go_at_call 17; (refine (hcy.out _).mono ?_); clear hcy; rintro e w2 ⟨A2, m2, c2, rfl, hm2, hcp2, hg2⟩; replace hm2 := Lib.hid hm2; replace hg2 := Lib.hid hg2))
  obtain rfl : m1 = 10 := by rw [hm1.out]; exact kSl _
  obtain rfl : m2 = 10 := by rw [hm2.out]; exact kSl _
  obtain ⟨E1, hE1, hO1⟩ := hcp1.out
  obtain ⟨E2, hE2, hO2⟩ := hcp2.out
  have hl1 : E1.length = 10 := by have := congrArg List.length hE1; rw [List.length_map, copyF_len] at this; exact this
  have hl2 : E2.length = 10 := by have := congrArg List.length hE2; rw [List.length_map, copyF_len] at this; exact this
  have hf1 := hO1.fs
  have hf2 := hO2.fs
  have hlc1 := hf1.len
  have hlc2 := hf2.len
  obtain ⟨x1, hx1⟩ : ∃ x, E1[0]? = some x := ⟨_, List.getElem?_eq_getElem (by omega)⟩
  obtain ⟨x2, hx2⟩ : ∃ x, E2[0]? = some x := ⟨_, List.getElem?_eq_getElem (by omega)⟩
  obtain ⟨b1, o1, rfl, -⟩ := hf1.get hx1
  obtain ⟨b2, o2, rfl, -⟩ := hf2.get hx2
  have hfx := Lib.hid ((FsV.gr hg2.out (Lib.hid hf1)).out.drop (k := i) (by omega))
  have hfy := Lib.hid (hf2.drop (k := j) (by omega))
  rw [copyF_kept] at hE1 hE2
  have hKx : Kp kKey (3 + (x : Int)) 0 (digL 0) (List.replicate 16 0) 5 := kKp (by omega) (by omega) (by decide) (by decide)
  have hKy : Kp kKey (30 + (y : Int)) 0 (digL 0) (List.replicate 16 0) 6 := kKp (by omega) (by omega) (by decide) (by decide)
  have hdx := Lib.hid (drop_kept (key := kKey) hi3 hE1)
  have hdy := Lib.hid (drop_kept (key := kKey) hj3 hE2)
  have hnx := Lib.hid (show (E1.drop i).length = 10 - i by rw [List.length_drop, hl1])
  have hny := Lib.hid (show (E2.drop j).length = 10 - j by rw [List.length_drop, hl2])
  have q1 : (10 : Int) ≤ (c1 : Int) := by omega
  have q2 : (10 : Int) ≤ (c2 : Int) := by omega
  have q3 : (i : Int) ≤ 10 := by omega
  have q4 : (j : Int) ≤ 10 := by omega
  have q5 : (i : Int) ≤ (c1 : Int) := by omega
  have q6 : (j : Int) ≤ (c2 : Int) := by omega
  clear hcp1 hcp2 hm1 hm2 hlc1 hlc2 hx1 hx2 hf1 hf2
  replace hE1 := Lib.hid hE1
  replace hE2 := Lib.hid hE2
  replace hl1 := Lib.hid hl1
  replace hl2 := Lib.hid hl2
  replace hO1 := Lib.hid hO1
  replace hO2 := Lib.hid hO2
  obtain ⟨nx, hnxe⟩ : ∃ k, 10 - i = k := ⟨_, rfl⟩
  obtain ⟨ny, hnye⟩ : ∃ k, 10 - j = k := ⟨_, rfl⟩
  obtain ⟨cx, hcxe⟩ : ∃ k, c1 - i = k := ⟨_, rfl⟩
  obtain ⟨cy, hcye⟩ : ∃ k, c2 - j = k := ⟨_, rfl⟩
  have hnx10 : nx ≤ 10 := by omega
  have hny10 : ny ≤ 10 := by omega
  have hij : (ny < nx ↔ i < j) := by omega
  rw [hnxe] at hnx
  rw [hnye] at hny
  rw [hnxe, hcxe] at hfx
  rw [hnye, hcye] at hfy
  replace hij := Lib.hid hij
  have hnxe' := Lib.hid hnxe
  have hnye' := Lib.hid hnye
  have hcxe' := Lib.hid hcxe
  have hcye' := Lib.hid hcye
  clear hnxe hnye hcxe hcye
  go_quiet (fail)
  rw [hnxe'.out, hnye'.out, hcxe'.out, hcye'.out]
  obtain ⟨w3, hw3⟩ : ∃ x, w2.drewN nq = x := ⟨_, rfl⟩
  have hg3 : Gr w2 w3 := by rw [← hw3]; exact Gr.drewN _ _
  rw [hw3]
  replace hw3 := Lib.hid hw3
  replace hfx := FsV.gr hg3 hfx
  replace hfy := FsV.gr hg3 hfy
  replace hg3 := Lib.hid hg3
  clear ei ej q1 q2 q3 q4 q5 q6
  have hawk := Lib.hid awake_any
  obtain ⟨CX, hCX⟩ : ∃ C, keptL kKey (3 + (x : Int)) 0 (digL 0) (List.replicate 16 0) 5 (fun s => decide (i ≤ s)) 10 = C := ⟨_, rfl⟩
  obtain ⟨CY, hCY⟩ : ∃ C, keptL kKey (30 + (y : Int)) 0 (digL 0) (List.replicate 16 0) 6 (fun s => decide (j ≤ s)) 10 = C := ⟨_, rfl⟩
  have hto : Hid (∀ C out, (C = CX ++ CY ∨ C = CY ++ CX) → IsOut C out → (∃ e, out = [e] ∧ e.gen = if i < j then 3 + (x : Int) else 30 + (y : Int)) ∧ mostG C = 30 + (y : Int)) := Lib.hid (fun C out hC h => two_out hKx hKy kSl (by omega) hi3 hj3 (by rw [hCX, hCY]; exact hC) h)
  have hcnt : Hid (∀ f, f ∈ CX ∨ f ∈ CY → cnt f = true ∧ f.r.Ok) := Lib.hid (fun f hf => by
    rcases hf with hf | hf
    · rw [← hCX] at hf
      have h1 : f ∈ keptL kKey (3 + (x : Int)) 0 (digL 0) (List.replicate 16 0) 5 (fun s => decide (i ≤ s)) (nSlots ⟨kKey, 3 + (x : Int), 0, digL 0⟩) := by rw [kSl]; exact hf
      exact ⟨hKx.cnts f h1, kept_ok hKx h1⟩
    · rw [← hCY] at hf
      have h1 : f ∈ keptL kKey (30 + (y : Int)) 0 (digL 0) (List.replicate 16 0) 6 (fun s => decide (j ≤ s)) (nSlots ⟨kKey, 30 + (y : Int), 0, digL 0⟩) := by rw [kSl]; exact hf
      exact ⟨hKy.cnts f h1, kept_ok hKy h1⟩)
  rw [hCX] at hdx
  rw [hCY] at hdy
  obtain ⟨EX, hEX⟩ : ∃ E, E1.drop i = E := ⟨_, rfl⟩
  obtain ⟨EY, hEY⟩ : ∃ E, E2.drop j = E := ⟨_, rfl⟩
  rw [hEX] at hdx hnx hfx
  rw [hEY] at hdy hny hfy
  clear hEX hEY hCX hCY hKx hKy
  obtain ⟨vA, hvA⟩ : ∃ x, w3.alloc (.cells #[] 39) = x := ⟨_, rfl⟩
  have hgvA : Gr w3 vA := by rw [← hvA]; exact Gr.alloc _ _
  have hOA := OF.lit0 hvA (Nat.le_refl w3.heap.size)
  have hq1A := Lib.hid (OF.apt hfx.out hgvA hOA (Nat.le_refl _))
  have hr1A := Lib.hid (FsV.gr hgvA (Lib.hid hfx.out)).out.reads
  replace hOA := Lib.hid hOA
  have hbsA : Hid (w3.heap.size ≤ vA.heap.size) := Lib.hid (Below.size hgvA)
  replace hgvA := Lib.hid hgvA
  go_upto_region 4 with (first
    | (at_builtin; (refine wpl_appF rfl (.tmp 37) (.tmp 38) rfl w3.heap.size (.slice (some ⟨w3.heap.size, 0, none⟩) 0 0) [] EX rfl hOA.out (some ⟨b1, o1 + i * 12, none⟩) nx cx (hnx).out rfl hr1A.out hq1A.out (by decide) (by omega) hbsA.out ?_); intro vv ww hOO hgg hbb
       obtain ⟨Aa, ca, rfl, -, -⟩ := hOO.form
       have hOb := Lib.hid hOO
       have hla : ([] ++ EX).length = nx := (hnx).out
       have hguA : Hid (Gr w3 ww) := Lib.hid (Below.trans hgvA.out hbb)
       clear hOA hr1A hq1A
       rw [hla] at hOO hOb ⊢
       have hq2A := Lib.hid (OF.apt hfy.out hguA.out hOO (Nat.le_refl _))
       have hr2A := Lib.hid (FsV.gr hguA.out (Lib.hid hfy.out)).out.reads
       have hbs2A : Hid (w3.heap.size ≤ ww.heap.size) := Lib.hid (Below.size hguA.out)
       replace hla := Lib.hid hla
       replace hgg := Lib.hid hgg
       replace hbb := Lib.hid hbb
       clear hOO)
    | (at_builtin; (refine wpl_appF rfl (.tmp 39) (.tmp 40) rfl w3.heap.size (.slice Aa nx ca) ([] ++ EX) EY rfl hOb.out (some ⟨b2, o2 + j * 12, none⟩) ny cy (hny).out rfl hr2A.out hq2A.out (by have := hla.out; omega) (by omega) hbs2A.out ?_); intro vv wm hOO hgg2 hbb2
       obtain ⟨Am, cm, rfl, -, -⟩ := hOO.form
       obtain ⟨kA, hkA⟩ : ∃ k, ([] ++ EX ++ EY).length = k := ⟨_, rfl⟩
       rw [hkA] at hOO ⊢
       have hO2A := Lib.hid hOO
       have hgmA : Hid (Gr w3 wm) := Lib.hid (Below.trans hguA.out hbb2)
       replace hkA := Lib.hid hkA
       replace hgg2 := Lib.hid hgg2
       replace hbb2 := Lib.hid hbb2
       clear hOb hr2A hq2A hOO))
  replace hvA := Lib.hid hvA
  cases turned with
  | false =>
    go_upto_region 6 with (fail)
    have hEf : ([] ++ EX ++ EY : List Fe).map (fun x => x.f) = CX ++ CY := by rw [List.map_append, List.nil_append, hdx.out, hdy.out]
    have hcF := cF_all hEf (fun f hf => (hcnt.out f (List.mem_append.mp hf)).1)
    have hokf := oks hEf (fun f hf => (hcnt.out f (List.mem_append.mp hf)).2)
    have hbs := Lib.hid (bestV_any ([] ++ EX ++ EY) _ wm hO2A.out.fs hokf (by have := hnx.out; have := hny.out; simp; omega))
    have htt : Hid (∀ out, IsOut (CX ++ CY) out → (∃ e, out = [e] ∧ e.gen = if i < j then 3 + (x : Int) else 30 + (y : Int)) ∧ mostG (CX ++ CY) = 30 + (y : Int)) := Lib.hid (fun out h => hto.out _ out (.inl rfl) h)
    rw [hcF] at hbs
    generalize mostG (CX ++ CY) = mg at hbs htt
    replace hEf := Lib.hid hEf
    replace hcF := Lib.hid hcF
    go_upto_region 7 with (go_at_call 10; go_must (refine hbs.out.mono ?_); clear hbs; rintro e w9 ⟨A9, c9, Z9, rfl, hI9, hZ9, hg9⟩; replace hg9 := Lib.hid hg9)
    obtain ⟨⟨e0, he0, heg⟩, rfl⟩ := htt.out _ hI9.out
    obtain ⟨z, rfl⟩ : ∃ z, Z9 = [z] := by
      cases Z9 with
      | nil => cases he0
      | cons z l =>
        cases l with
        | nil => exact ⟨z, rfl⟩
        | cons y l => simp at he0
    rw [List.map_singleton] at he0
    injection he0 with he0 _
    subst he0
    obtain ⟨zb, zo, rfl, hzb, -, hzc⟩ := hZ9.out.get (i := 0) rfl
    replace hzc := Lib.hid hzc
    simp only [List.length_singleton]
    by_cases hij9 : i < j
    · rw [if_pos hij9] at heg
      have hn9 : (ny : Int) < (nx : Int) := by have := hij.out.mpr hij9; omega
      replace heg := Lib.hid heg
      go_wp2_with (go_at_call 12; go_must (refine (hawk.out _).mono ?_); rintro e w10 ⟨rfl, hg10⟩; obtain ⟨-, y1, -⟩ := hzc.out w10 hg10; rw [heg.out, Nat.zero_mul, Nat.add_zero] at y1; replace hg10 := Lib.hid hg10)
      go_ret
      exact ⟨rfl, hg1.out.trans (hg2.out.trans (hg3.out.trans (hgmA.out.trans (hg9.out.trans hg10.out))))⟩
    · rw [if_neg hij9] at heg
      have hn9 : ¬ (ny : Int) < (nx : Int) := by have := mt hij.out.mp hij9; omega
      replace heg := Lib.hid heg
      go_wp2_with (go_at_call 12; go_must (refine (hawk.out _).mono ?_); rintro e w10 ⟨rfl, hg10⟩; obtain ⟨-, y1, -⟩ := hzc.out w10 hg10; rw [heg.out, Nat.zero_mul, Nat.add_zero] at y1; replace hg10 := Lib.hid hg10)
      go_ret
      exact ⟨rfl, hg1.out.trans (hg2.out.trans (hg3.out.trans (hgmA.out.trans (hg9.out.trans hg10.out))))⟩
  | true =>
    go_upto_region 5 with (fail)
    rename World => wA
    obtain ⟨vB, hvB⟩ : ∃ x, wA.alloc (.cells #[] 39) = x := ⟨_, rfl⟩
    have hgvB : Gr wA vB := by rw [← hvB]; exact Gr.alloc _ _
    have hOB := OF.lit0 hvB (Nat.le_refl wA.heap.size)
    have hq1B := Lib.hid (OF.apt (FsV.gr hgmA.out hfy).out hgvB hOB (Nat.le_refl _))
    have hr1B := Lib.hid (FsV.gr hgvB (Lib.hid (FsV.gr hgmA.out hfy).out)).out.reads
    replace hOB := Lib.hid hOB
    have hbsB : Hid (wA.heap.size ≤ vB.heap.size) := Lib.hid (Below.size hgvB)
    replace hgvB := Lib.hid hgvB
    go_upto_region 6 with (first
      | (at_builtin; (refine wpl_appF rfl (.tmp 43) (.tmp 44) rfl wA.heap.size (.slice (some ⟨wA.heap.size, 0, none⟩) 0 0) [] EY rfl hOB.out (some ⟨b2, o2 + j * 12, none⟩) ny cy (hny).out rfl hr1B.out hq1B.out (by decide) (by omega) hbsB.out ?_); intro vv ww hOO hgg hbb
         obtain ⟨Aa, ca, rfl, -, -⟩ := hOO.form
         have hOb := Lib.hid hOO
         have hla : ([] ++ EY).length = ny := (hny).out
         have hguB : Hid (Gr wA ww) := Lib.hid (Below.trans hgvB.out hbb)
         clear hOB hr1B hq1B
         rw [hla] at hOO hOb ⊢
         have hq2B := Lib.hid (OF.apt (FsV.gr hgmA.out hfx).out hguB.out hOO (Nat.le_refl _))
         have hr2B := Lib.hid (FsV.gr hguB.out (Lib.hid (FsV.gr hgmA.out hfx).out)).out.reads
         have hbs2B : Hid (wA.heap.size ≤ ww.heap.size) := Lib.hid (Below.size hguB.out)
         replace hla := Lib.hid hla
         replace hgg := Lib.hid hgg
         replace hbb := Lib.hid hbb
         clear hOO)
      | (at_builtin; (refine wpl_appF rfl (.tmp 45) (.tmp 46) rfl wA.heap.size (.slice Aa ny ca) ([] ++ EY) EX rfl hOb.out (some ⟨b1, o1 + i * 12, none⟩) nx cx (hnx).out rfl hr2B.out hq2B.out (by have := hla.out; omega) (by omega) hbs2B.out ?_); intro vv wm hOO hgg2 hbb2
         obtain ⟨Am, cm, rfl, -, -⟩ := hOO.form
         obtain ⟨kB, hkB⟩ : ∃ k, ([] ++ EY ++ EX).length = k := ⟨_, rfl⟩
         rw [hkB] at hOO ⊢
         have hO2B := Lib.hid hOO
         have hgmB : Hid (Gr wA wm) := Lib.hid (Below.trans hguB.out hbb2)
         replace hkB := Lib.hid hkB
         replace hgg2 := Lib.hid hgg2
         replace hbb2 := Lib.hid hbb2
         clear hOb hr2B hq2B hOO))
    replace hvB := Lib.hid hvB
    have hEf : ([] ++ EY ++ EX : List Fe).map (fun x => x.f) = CY ++ CX := by rw [List.map_append, List.nil_append, hdy.out, hdx.out]
    have hcF := cF_all hEf (fun f hf => (hcnt.out f ((List.mem_append.mp hf).symm)).1)
    have hokf := oks hEf (fun f hf => (hcnt.out f ((List.mem_append.mp hf).symm)).2)
    have hbs := Lib.hid (bestV_any ([] ++ EY ++ EX) _ wm hO2B.out.fs hokf (by have := hnx.out; have := hny.out; simp; omega))
    have htt : Hid (∀ out, IsOut (CY ++ CX) out → (∃ e, out = [e] ∧ e.gen = if i < j then 3 + (x : Int) else 30 + (y : Int)) ∧ mostG (CY ++ CX) = 30 + (y : Int)) := Lib.hid (fun out h => hto.out _ out (.inr rfl) h)
    rw [hcF] at hbs
    generalize mostG (CY ++ CX) = mg at hbs htt
    replace hEf := Lib.hid hEf
    replace hcF := Lib.hid hcF
    go_upto_region 7 with (go_at_call 10; go_must (refine hbs.out.mono ?_); clear hbs; rintro e w9 ⟨A9, c9, Z9, rfl, hI9, hZ9, hg9⟩; replace hg9 := Lib.hid hg9)
    obtain ⟨⟨e0, he0, heg⟩, rfl⟩ := htt.out _ hI9.out
    obtain ⟨z, rfl⟩ : ∃ z, Z9 = [z] := by
      cases Z9 with
      | nil => cases he0
      | cons z l =>
        cases l with
        | nil => exact ⟨z, rfl⟩
        | cons y l => simp at he0
    rw [List.map_singleton] at he0
    injection he0 with he0 _
    subst he0
    obtain ⟨zb, zo, rfl, hzb, -, hzc⟩ := hZ9.out.get (i := 0) rfl
    replace hzc := Lib.hid hzc
    simp only [List.length_singleton]
    by_cases hij9 : i < j
    · rw [if_pos hij9] at heg
      have hn9 : (ny : Int) < (nx : Int) := by have := hij.out.mpr hij9; omega
      replace heg := Lib.hid heg
      go_wp2_with (go_at_call 12; go_must (refine (hawk.out _).mono ?_); rintro e w10 ⟨rfl, hg10⟩; obtain ⟨-, y1, -⟩ := hzc.out w10 hg10; rw [heg.out, Nat.zero_mul, Nat.add_zero] at y1; replace hg10 := Lib.hid hg10)
      go_ret
      exact ⟨rfl, hg1.out.trans (hg2.out.trans (hg3.out.trans ((hgmA.out.trans hgmB.out).trans (hg9.out.trans hg10.out))))⟩
    · rw [if_neg hij9] at heg
      have hn9 : ¬ (ny : Int) < (nx : Int) := by have := mt hij.out.mp hij9; omega
      replace heg := Lib.hid heg
      go_wp2_with (go_at_call 12; go_must (refine (hawk.out _).mono ?_); rintro e w10 ⟨rfl, hg10⟩; obtain ⟨-, y1, -⟩ := hzc.out w10 hg10; rw [heg.out, Nat.zero_mul, Nat.add_zero] at y1; replace hg10 := Lib.hid hg10)
      go_ret
      exact ⟨rfl, hg1.out.trans (hg2.out.trans (hg3.out.trans ((hgmA.out.trans hgmB.out).trans (hg9.out.trans hg10.out))))⟩
end Go.Proofs.Ytiliggleplpjbaa
