/- Frames of which one byte is turned. Plain. -/
import Derived.Test.YtgdbbjijneidaaaJr20
namespace Go.Proofs.Ytgdbbjijneidaaa
set_option linter.unusedVariables false
set_option linter.unusedSimpArgs false
open Go Go.RowKit
theorem dec_tail {n : Nt} (h : goodN n = true) (t : List UInt8) : decR limC (encN n ++ t) = n ∧ (d9 limC (encN n ++ t)).2 = some t := by
  have g := (good_iff n).1 h
  obtain ⟨q1, q2, q3, q4, q5, q6, q7, q8, q9, q10⟩ := limC_ok
  obtain ⟨b, hb⟩ : ∃ b, encN n ++ t = b := ⟨_, rfl⟩
  have hb' : enc n.kind.toNat ++ (enc n.key.length ++ (n.key ++ (enc n.gen.toNat ++ (enc n.cart.toNat ++ (enc n.data.length ++ (n.data ++ (enc n.sum.length ++ (n.sum ++ (enc n.size.toNat ++ (enc n.places.length ++ (encP n.places ++ t))))))))))) = b := by
    rw [← hb]
    unfold encN
    simp only [List.append_assoc]
  rw [hb]
  have f1 : d1 limC b = (n.kind, some (enc n.key.length ++ (n.key ++ (enc n.gen.toNat ++ (enc n.cart.toNat ++ (enc n.data.length ++ (n.data ++ (enc n.sum.length ++ (n.sum ++ (enc n.size.toNat ++ (enc n.places.length ++ (encP n.places ++ t)))))))))))) := by
    unfold d1
    rw [← hb']
    exact rget_encz (by have := g.kind; omega) (by have := g.kind; omega) q1.2 _
  have f2 := (show d2 limC b = rtext (d1 limC b).2 limC.key from rfl).trans ((congrArg (fun x : _ × RS => rtext x.2 limC.key) f1).trans (rtext_enc (by have := g.key; omega) q2.2 _))
  have f3 := (show d3 limC b = rget (d2 limC b).2 limC.gen from rfl).trans ((congrArg (fun x : _ × RS => rget x.2 limC.gen) f2).trans (rget_encz g.gen.1 (by have := g.gen; omega) q3.2 _))
  have f4 := (show d4 limC b = rget (d3 limC b).2 limC.cart from rfl).trans ((congrArg (fun x : _ × RS => rget x.2 limC.cart) f3).trans (rget_encz g.cart.1 (by have := g.cart; omega) q4.2 _))
  have f5 := (show d5 limC b = rtext (d4 limC b).2 limC.data from rfl).trans ((congrArg (fun x : _ × RS => rtext x.2 limC.data) f4).trans (rtext_enc (by have := g.data; omega) q5.2 _))
  have f6 := (show d6 limC b = rtext (d5 limC b).2 limC.sum from rfl).trans ((congrArg (fun x : _ × RS => rtext x.2 limC.sum) f5).trans (rtext_enc (by have := g.sum; omega) q6.2 _))
  have f7 := (show d7 limC b = rget (d6 limC b).2 limC.size from rfl).trans ((congrArg (fun x : _ × RS => rget x.2 limC.size) f6).trans (rget_encz g.size.1 (by have := g.size; omega) q7.2 _))
  have f8 := (show d8 limC b = rget (d7 limC b).2 limC.many from rfl).trans ((congrArg (fun x : _ × RS => rget x.2 limC.many) f7).trans (rget_enc (by have := g.many; omega) q8.2 _))
  have f9 : d9 limC b = (n.places, some t) := by
    unfold d9
    rw [f8]
    have := plS_enc q9.1 q10.1 q9.2 q10.2 n.places g.all t n.places.length (Nat.le_refl _)
    rw [List.take_length, List.drop_length] at this
    exact this
  refine ⟨?_, by rw [f9]⟩
  unfold decR
  rw [f1, f2, f3, f4, f5, f6, f7, f9]
theorem encN_pre {a b : Nt} (ha : goodN a = true) (hb : goodN b = true) {x y : List UInt8} (h : encN a ++ x = encN b ++ y) : a = b := by
  have h1 := (dec_tail ha x).1
  have h2 := (dec_tail hb y).1
  rw [h] at h1
  exact h1.symm.trans h2
theorem b4len (x : BitVec 32) : (bytes4 x).length = 4 := rfl
theorem frame_at {X : List UInt8} {j : Nat} (hj : j < 4) : (frameB X)[4 + j]? = (bytes4 (crc (bytes4 (BitVec.ofNat 32 X.length) ++ X)))[j]? := by
  unfold frameB
  rw [List.getElem?_append_right (by rw [b4len]; omega), b4len, show 4 + j - 4 = j from by omega, List.getElem?_append_left (by rw [b4len]; exact hj)]
theorem frame_body {X : List UInt8} {j : Nat} : (frameB X)[8 + j]? = X[j]? := by
  unfold frameB
  rw [List.getElem?_append_right (by rw [b4len]; omega), b4len, List.getElem?_append_right (by rw [b4len]; omega), b4len, show 8 + j - 4 - 4 = j from by omega]
theorem bytes4_inj {x y : BitVec 32} (h : bytes4 x = bytes4 y) : x = y := by rw [← word_bytes4 x, h, word_bytes4]
set_option maxHeartbeats 1000000 in
theorem lead_turned {n : Nt} (h : goodN n = true) (R : List UInt8) {q : Nat} (hq : q < (frameB (encN n)).length) {y : UInt8} (hy : (frameB (encN n) ++ R)[q]? ≠ some y) : leadN ((frameB (encN n) ++ R).set q y) = none := by
  have hlen := encN_len ((good_iff n).1 h)
  have hfl := frameB_len (encN n)
  obtain ⟨b, hb⟩ : ∃ b, frameB (encN n) ++ R = b := ⟨_, rfl⟩
  have hbl : b.length = 8 + (encN n).length + R.length := by rw [← hb, List.length_append, hfl]
  rw [hb] at hy ⊢
  obtain ⟨b', hb'⟩ : ∃ b', b.set q y = b' := ⟨_, rfl⟩
  rw [hb']
  have hbl' : b'.length = b.length := by rw [← hb', List.length_set]
  have hbne : ∀ i, i ≠ q → b'[i]? = b[i]? := fun i hi => by rw [← hb', List.getElem?_set_ne (Ne.symm hi)]
  have hbq : b'[q]? = some y := by rw [← hb', List.getElem?_set_self (by omega)]
  have hbF : ∀ i, i < (frameB (encN n)).length → b[i]? = (frameB (encN n))[i]? := fun i hi => by rw [← hb, List.getElem?_append_left hi]
  obtain ⟨L', hL'⟩ : ∃ L', le32 b' = L' := ⟨_, rfl⟩
  have hle : le32 b = (encN n).length := by
    rw [← hb]
    unfold frameB
    rw [List.append_assoc, le32_bytes4, BitVec.toNat_ofNat, Nat.mod_eq_of_lt (by omega)]
  unfold leadN
  rw [hL', hbl', if_neg (by omega)]
  by_cases hbig : b.length - 8 < L'
  · rw [if_pos hbig]
  · rw [if_neg hbig]
    obtain ⟨X', hX'⟩ : ∃ X', (b'.drop 8).take L' = X' := ⟨_, rfl⟩
    rw [hX']
    have hXl : X'.length = L' := by rw [← hX', List.length_take, List.length_drop]; omega
    cases hd : decN X' with
    | none => rfl
    | some n' =>
      simp only
      by_cases hf : frameB X' = b'.take (8 + L')
      · exfalso
        obtain ⟨hg', he'⟩ := decN_some hd
        have hfi : ∀ i, i < 8 + L' → (frameB X')[i]? = b'[i]? := fun i hi => by rw [hf, List.getElem?_take, if_pos hi]
        -- the same bytes behind: then the frame is the same, and so is byte q
        have hsame : X' = encN n → False := fun e => by
          have h1 : L' = (encN n).length := by rw [← hXl, e]
          have h2 := hfi q (by omega)
          rw [e, ← hbF q hq, hbq] at h2
          exact hy h2
        by_cases hq8 : q < 8
        · have hdr : b'.drop 8 = encN n ++ R := by
            have e : b'.drop 8 = b.drop 8 := by
              refine List.ext_getElem? fun i => ?_
              rw [List.getElem?_drop, List.getElem?_drop]
              exact hbne _ (by omega)
            rw [e, ← hb]
            unfold frameB
            rw [← List.append_assoc (bytes4 _), List.append_assoc, List.drop_left' (by rw [List.length_append, b4len, b4len])]
          rw [hdr] at hX'
          have hpre : encN n' ++ (encN n ++ R).drop L' = encN n ++ R := by rw [he', ← hX', List.take_append_drop]
          have hnn := encN_pre hg' h hpre
          exact hsame (by rw [← he', hnn])
        · have h0 : le32 b' = le32 b := by
            unfold le32
            simp only [List.getD_eq_getElem?_getD]
            rw [hbne 0 (by omega), hbne 1 (by omega), hbne 2 (by omega), hbne 3 (by omega)]
          have hLn : L' = (encN n).length := by rw [← hL', h0, hle]
          have hcr : crc (bytes4 (BitVec.ofNat 32 (encN n).length) ++ X') = crc (bytes4 (BitVec.ofNat 32 (encN n).length) ++ encN n) := by
            refine bytes4_inj (List.ext_getElem? fun j => ?_)
            by_cases hj : j < 4
            · have h1 := hfi (4 + j) (by omega)
              rw [frame_at hj, hbne (4 + j) (by omega), hbF (4 + j) (by omega), frame_at hj, hXl, hLn] at h1
              exact h1
            · rw [List.getElem?_eq_none (by rw [b4len]; omega), List.getElem?_eq_none (by rw [b4len]; omega)]
          have hxx := (crc_burst (x := bytes4 (BitVec.ofNat 32 (encN n).length) ++ X') (y := bytes4 (BitVec.ofNat 32 (encN n).length) ++ encN n) (q - 4) (by rw [List.length_append, List.length_append, hXl, hLn]) (fun i hi => by
            by_cases hi4 : i < 4
            · rw [List.getElem?_append_left (by rw [b4len]; exact hi4), List.getElem?_append_left (by rw [b4len]; exact hi4)]
            · rw [List.getElem?_append_right (by rw [b4len]; omega), List.getElem?_append_right (by rw [b4len]; omega), b4len]
              by_cases hiL : i - 4 < (encN n).length
              · have h1 : X'[i - 4]? = b'[8 + (i - 4)]? := by
                  rw [← hX', List.getElem?_take, if_pos (by omega), List.getElem?_drop]
                rw [h1, hbne _ (by omega), hbF _ (by omega), frame_body]
              · rw [List.getElem?_eq_none (by omega), List.getElem?_eq_none (by omega)])).1 hcr
          exact hsame (List.append_cancel_left hxx)
      · rw [if_neg hf]
/-- one byte of frames is turned: those ahead of it are told -/
theorem scan_turned {G : List Nt} (h : ∀ n ∈ G, goodN n = true) {p k : Nat} (hk : k < G.length) (h1 : (framesB (G.take k)).length ≤ p) (h2 : p < (framesB (G.take (k + 1))).length) {y : UInt8} (hy : (framesB G)[p]? ≠ some y) :
    scanN ((framesB G).set p y) = (G.take k, (framesB (G.take k)).length) := by
  have hsp : framesB G = framesB (G.take k) ++ framesB (G.drop k) := by rw [← framesB_app, List.take_append_drop]
  obtain ⟨n, R, hd⟩ : ∃ n R, G.drop k = n :: R := by
    cases hd : G.drop k with
    | nil => have := congrArg List.length hd; rw [List.length_drop, List.length_nil] at this; omega
    | cons n R => exact ⟨n, R, rfl⟩
  have hn : G[k]? = some n := by
    rw [← List.head?_drop, hd]
    rfl
  have hng := h n (List.mem_of_getElem? hn)
  rw [List.take_add_one, hn, framesB_app] at h2
  simp only [Option.toList_some] at h2
  rw [framesB_one, List.length_append] at h2
  rw [hsp, hd, framesB_cons] at hy ⊢
  rw [List.getElem?_append_right h1] at hy
  rw [List.set_append_right _ _ h1, scan_frames (fun n hn => h n (List.mem_of_mem_take hn)), scanN_none (lead_turned hng _ (by omega) hy)]
  simp
end Go.Proofs.Ytgdbbjijneidaaa
