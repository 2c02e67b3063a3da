/- The reference's frame of a note. -/
import Derived.Test.YtgdbbjijneidaaaJr3
import Derived.Test.YtgdbbjijneidaaaJr6
import Derived.Test.YtgdbbjijneidaaaSumRef
namespace Go.Proofs.Ytgdbbjijneidaaa
set_option linter.unusedVariables false
set_option linter.unusedSimpArgs false
open Go Go.RowKit
theorem rsum_at (A : Option Addr) (n c : Nat) (l : List UInt8) (hn : l.length = n) (w : World) (hr : Rd w w.heap.size A l) (hl : n ≤ 1048576) :
    Calls Try.prog 78 #[.slice A n c] w fun e w' => e = .returned (.int .u32 (W (crc l))) ∧ w = w' := by
  subst hn; rw [← rcrc_eq]; exact rsum_walk A c l w hr hl
theorem OB.lit (w : World) (base n : Nat) (cs : Array Value) (l : List UInt8) (h : cs.toList = l.map vb) (hn : l.length = n) (hb : base ≤ w.heap.size) (hm : n ≤ 1000000) : OB (w.alloc (.cells cs 5)) base (.slice (some ⟨w.heap.size, 0, none⟩) n n) l := by
  have hs : cs.size = n := by rw [← Array.length_toList, h, List.length_map, hn]
  subst hn
  refine ⟨by simp, .inr ⟨w.heap.size, _, cs, rfl, hb, heap_alloc_new w _, Nat.le_refl _, by simp only [maxLen]; omega, by rw [hs]; simp, ?_⟩⟩
  rw [Nat.mul_one, h, List.take_of_length_le (by simp)]
set_option maxRecDepth 10000 in
theorem four_any (x : BitVec 32) (w : World) : Calls Try.prog 77 #[.int .u32 (W x)] w fun e w' => ∃ v, e = .returned v ∧ OB w' w.heap.size v (bytes4 x) ∧ Gr w w' := by
  have ho := Lib.hid (OB.lit w w.heap.size 4 #[.int .u8 (U (lo8 x)), .int .u8 (U (lo8 (x >>> 8))), .int .u8 (U (lo8 (x >>> 16))), .int .u8 (U (lo8 (x >>> 24)))] (bytes4 x) rfl rfl (Nat.le_refl _) (by decide))
  have hg := Lib.hid (Gr.alloc w (.cells #[.int .u8 (U (lo8 x)), .int .u8 (U (lo8 (x >>> 8))), .int .u8 (U (lo8 (x >>> 16))), .int .u8 (U (lo8 (x >>> 24)))] 5))
  go_enter Try.func77, Try.ntmps77
  go_wp2_with fail
  go_ret
  exact ⟨_, rfl, ho.out, hg.out⟩
set_option maxHeartbeats 4000000 in
set_option maxRecDepth 20000 in
theorem rframe_ok (q : Nt) (A : Option Addr) (c : Nat) (A2 : Option Addr) (c2 : Nat) (w : World) (h : NtV q (q.agg A c A2 c2) w) (hgd : goodN q = true) :
    Calls Try.prog 57 #[q.agg A c A2 c2] w fun e w' => ∃ u, e = .returned (.tuple #[u, .int .i64 0]) ∧ OB w' w.heap.size u (frameB (encN q)) ∧ Gr w w' := by
  have hg := Gr.alloc w (.cells #[.int .i64 q.kind, .string (bs q.key), .int .i64 q.gen, .int .i64 q.cart, .slice A q.data.length c, .string (bs q.sum), .int .i64 q.size, .slice A2 q.places.length c2] 25)
  have hv := NtV.gr hg (Lib.hid h)
  have he := rencode_ok q _ _ hv.out hgd
  have hlen := encN_len ((good_iff q).1 hgd)
  obtain ⟨X, hX⟩ : ∃ X, encN q = X := ⟨_, rfl⟩
  rw [hX] at he hlen ⊢
  obtain ⟨N, hN⟩ : ∃ N, w.heap.size = N := ⟨_, rfl⟩
  rw [hN]
  have hs1 : N ≤ (w.alloc (.cells #[.int .i64 q.kind, .string (bs q.key), .int .i64 q.gen, .int .i64 q.cart, .slice A q.data.length c, .string (bs q.sum), .int .i64 q.size, .slice A2 q.places.length c2] 25)).heap.size := by rw [← hN]; simp
  replace hN := Lib.hid hN
  replace hg := Lib.hid hg
  unfold Nt.agg at he ⊢
  replace he := Lib.hid he
  replace hX := Lib.hid hX
  clear h hv
  obtain ⟨n, hn⟩ : ∃ n, X.length = n := ⟨_, rfl⟩
  have hw := u32_wrapNat n
  obtain ⟨b0, hb0⟩ : ∃ b0, bytes4 (BitVec.ofNat 32 n) = b0 := ⟨_, rfl⟩
  have hl0 : b0.length = 4 := by rw [← hb0]; rfl
  obtain ⟨b1, hb1⟩ : ∃ b1, bytes4 (crc (b0 ++ X)) = b1 := ⟨_, rfl⟩
  have hl1 : b1.length = 4 := by rw [← hb1]; rfl
  have hres : Hid (frameB X = b0 ++ b1 ++ X) := Lib.hid (by unfold frameB; rw [hn, hb0, hb1, List.append_assoc])
  replace hb0 := Lib.hid hb0
  replace hb1 := Lib.hid hb1
  go_enter Try.func57, Try.ntmps57
  go_wp2_with fail
  refine he.out.mono ?_
  clear he
  rintro e w2 ⟨u2, rfl, ho2, hg2⟩
  replace hg := Lib.hid (hg.out.trans hg2)
  have hs2 := hg2.size
  obtain ⟨A3, c3, rfl, -⟩ := ho2.form
  rw [hn] at ho2 hlen ⊢
  have hXl : ∀ k, (Value.slice A3 n c3).ownBlock = some k → k < w2.heap.size := fun k hk => (ho2.lt k hk).2
  replace ho2 := Lib.hid (ho2.more hs1)
  clear hg2
  have hf := four_any (BitVec.ofNat 32 n) w2
  rw [hb0.out] at hf
  replace hf := Lib.hid hf
  go_wp2_with fail
  refine hf.out.mono ?_
  clear hf hw
  rintro e w3 ⟨v3, rfl, ho3, hg3⟩
  replace hg := Lib.hid (hg.out.trans hg3)
  replace ho2 := OB.gr hg3 ho2
  have hs3 := hg3.size
  obtain ⟨A4, c4, rfl, -⟩ := ho3.form
  rw [hl0] at ho3 ⊢
  have hO4 : Hid (∀ k, (Value.slice A4 4 c4).ownBlock = some k → k < w3.heap.size) := Lib.hid (fun k hk => (ho3.lt k hk).2)
  have hX2 : Hid (∀ k, (Value.slice A3 n c3).ownBlock = some k → k < w2.heap.size) := Lib.hid hXl
  replace ho3 := Lib.hid ho3
  have hge := Gr.alloc w3 (.cells #[] 5)
  have hoe := OB.empty w3 w3.heap.size (Nat.le_refl _)
  replace hg := Lib.hid (hg.out.trans hge)
  replace ho2 := OB.gr hge ho2
  replace ho3 := OB.gr hge ho3
  have hse := hge.size
  obtain ⟨w4, hw4⟩ : ∃ w4, w3.alloc (.cells #[] 5) = w4 := ⟨_, rfl⟩
  rw [hw4] at hg ho2 ho3 hoe hse
  replace hw4 := Lib.hid hw4
  replace hoe := Lib.hid hoe
  clear hge hg3
  go_wp2_with first
    | (at_builtin; (try rw [hw4.out]); refine wpl_append rfl (.tmp 20) (.tmp 21) rfl w3.heap.size (.slice (some ⟨w3.heap.size, 0, none⟩) 0 0) [] rfl hoe.out _ A4 c4 b0 (by rw [hl0]; rfl) ho3.out.rd.1 (by rw [hl0]; decide) hse ?_; intro v5 w5 ho5 hg5 _; rw [List.nil_append] at ho5; have hl5 : Below w3.heap.size w4 w5 := (Below.refl _ _).grown hg5 hse (fun k hk => (hoe.out.lt k hk).1); replace ho2 : Hid (OB w5 N (.slice A3 n c3) X) := Lib.hid (row_keep ho2.out (fun k hk => hl5.block k (by have := hX2.out k hk; omega))); replace ho3 : Hid (OB w5 w2.heap.size (.slice A4 4 c4) b0) := Lib.hid (row_keep ho3.out (fun k hk => hl5.block k (hO4.out k hk))); replace hg : Hid (Gr w w5) := Lib.hid (by have h := hg.out; unfold Gr at *; rw [hN.out] at *; exact h.trans (hl5.mono (by omega))); have hs5 := hl5.size; replace ho5 := Lib.hid ho5; obtain ⟨A5, c5, rfl, -⟩ := ho5.out.form; rw [hl0] at ho5 ⊢; clear hg5 hl5)
    | (at_builtin; refine wpl_append rfl (.tmp 22) (.tmp 23) rfl w3.heap.size (.slice A5 4 c5) b0 rfl ho5.out _ A3 c3 X (by rw [hn]; rfl) ho2.out.rd.1 (by rw [hl0, hn]; omega) (by omega) ?_; intro v6 w6 ho6 hg6 _; have hl6 : Below w3.heap.size w5 w6 := (Below.refl _ _).grown hg6 (by omega) (fun k hk => (ho5.out.lt k hk).1); replace ho2 : Hid (OB w6 N (.slice A3 n c3) X) := Lib.hid (row_keep ho2.out (fun k hk => hl6.block k (by have := hX2.out k hk; omega))); replace ho3 : Hid (OB w6 w2.heap.size (.slice A4 4 c4) b0) := Lib.hid (row_keep ho3.out (fun k hk => hl6.block k (hO4.out k hk))); replace hg : Hid (Gr w w6) := Lib.hid (by have h := hg.out; unfold Gr at *; rw [hN.out] at *; exact h.trans (hl6.mono (by omega))); have hs6 := hl6.size; obtain ⟨A6, c6, rfl, -, -, hR6, -⟩ := ho6.form; have hl6n : (b0 ++ X).length = n + 4 := (by rw [List.length_append, hl0, hn]; omega); rw [hl6n]; replace hR6 := Lib.hid hR6; clear hg6 hl6 ho6)
  refine (rsum_at A6 (n + 4) c6 (b0 ++ X) hl6n _ hR6.out (by omega)).mono ?_
  rintro e w7 ⟨rfl, rfl⟩
  clear hR6 hl6n
  have hf := four_any (crc (b0 ++ X)) w6
  rw [hb1.out] at hf
  replace hf := Lib.hid hf
  go_wp2_with fail
  refine hf.out.mono ?_
  clear hf
  rintro e w8 ⟨v8, rfl, ho8, hg8⟩
  replace hg := Lib.hid (hg.out.trans hg8)
  replace ho2 := OB.gr hg8 ho2
  replace ho3 := OB.gr hg8 ho3
  have hs8 := hg8.size
  obtain ⟨A8, c8, rfl, -⟩ := ho8.form
  rw [hl1] at ho8 ⊢
  replace ho8 := Lib.hid ho8
  have hbig : w2.heap.size ≤ w8.heap.size := by omega
  clear hg8
  go_wp2_with first
    | (at_builtin; refine wpl_append rfl (.tmp 26) (.tmp 28) rfl w2.heap.size (.slice A4 4 c4) b0 rfl ho3.out _ A8 c8 b1 (by rw [hl1]; rfl) ho8.out.rd.1 (by rw [hl0, hl1]; decide) hbig ?_; intro v9 w9 ho9 hg9 _; have hl9 : Below w2.heap.size w8 w9 := (Below.refl _ _).grown hg9 hbig (fun k hk => (ho3.out.lt k hk).1); replace ho2 : Hid (OB w9 N (.slice A3 n c3) X) := Lib.hid (row_keep ho2.out (fun k hk => hl9.block k (hX2.out k hk))); replace hg : Hid (Gr w w9) := Lib.hid (by have h := hg.out; unfold Gr at *; rw [hN.out] at *; exact h.trans (hl9.mono (by omega))); have hs9 := hl9.size; obtain ⟨A9, c9, rfl, -⟩ := ho9.form; have hl9n : (b0 ++ b1).length = 8 := (by rw [List.length_append, hl0, hl1]); rw [hl9n] at ho9 ⊢; replace ho9 := Lib.hid ho9; clear hg9 hl9)
    | (at_builtin; refine wpl_append rfl (.tmp 29) (.tmp 30) rfl w2.heap.size (.slice A9 8 c9) (b0 ++ b1) rfl ho9.out _ A3 c3 X (by rw [hn]; rfl) ho2.out.rd.1 (by rw [hl9n, hn]; omega) (by omega) ?_; intro v10 w10 ho10 hg10 _; have hl10 : Below w2.heap.size w9 w10 := (Below.refl _ _).grown hg10 (by omega) (fun k hk => (ho9.out.lt k hk).1); replace hg : Hid (Gr w w10) := Lib.hid (by have h := hg.out; unfold Gr at *; rw [hN.out] at *; exact h.trans (hl10.mono (by omega))); replace ho10 := Lib.hid ho10; obtain ⟨A10, m10, c10, rfl⟩ := ho10.out.shape; clear hg10 hl10)
  go_ret2
  exact ⟨_, rfl, by rw [hres.out]; exact ho10.out.more (by omega), hg.out⟩
end Go.Proofs.Ytgdbbjijneidaaa
