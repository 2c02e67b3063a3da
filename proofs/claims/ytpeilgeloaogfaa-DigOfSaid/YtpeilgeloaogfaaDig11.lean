/- dig: the digest of abc. -/
import Derived.Test.YtpeilgeloaogfaaDig10
namespace Go.Proofs.Ytpeilgeloaogfaa
set_option linter.unusedVariables false
set_option linter.unusedSimpArgs false
open Go Go.RowKit
def bA : Nat → UInt8 := blkB (msg [97, 98, 99]) 0
structure At8 (st : Nat → BitVec 32) (a b c d e f g h : BitVec 32) : Prop where
  s0 : st 0 = a
  s1 : st 1 = b
  s2 : st 2 = c
  s3 : st 3 = d
  s4 : st 4 = e
  s5 : st 5 = f
  s6 : st 6 = g
  s7 : st 7 = h
theorem At8.step {s : Nat → BitVec 32} {n : Nat} {a b c d e f g h : BitVec 32} (r : At8 (rnd s (wd bA) n) a b c d e f g h) (k w : BitVec 32) (hk : kF n = k) (hw : wd bA n = w) (o a2 e2 : BitVec 32) (ho : h + (tn 6 e ^^^ tn 11 e ^^^ tn 25 e) + ch3w e f g + k + w = o) (ha : o + ((tn 2 a ^^^ tn 13 a ^^^ tn 22 a) + mj3w a b c) = a2) (he : d + o = e2) : At8 (rnd s (wd bA) (n + 1)) a2 a b c e2 e f g := by
  obtain ⟨r0, r1, r2, r3, r4, r5, r6, r7⟩ := r
  have h1 : one1 (rnd s (wd bA) n) (kF n) (wd bA n) = o := by unfold one1; rw [r4, r5, r6, r7, hk, hw, ho]
  refine ⟨?_, ?_, ?_, ?_, ?_, ?_, ?_, ?_⟩
  · show one1 (rnd s (wd bA) n) (kF n) (wd bA n) + (two2 (rnd s (wd bA) n) + mj3w (rnd s (wd bA) n 0) (rnd s (wd bA) n 1) (rnd s (wd bA) n 2)) = a2
    rw [h1, r0, r1, r2]; unfold two2; rw [r0, ha]
  · exact r0
  · exact r1
  · exact r2
  · show rnd s (wd bA) n 3 + one1 (rnd s (wd bA) n) (kF n) (wd bA n) = e2
    rw [h1, r3, he]
  · exact r4
  · exact r5
  · exact r6
theorem abw0 : wd bA 0 = 0x61626380#32 := by rw [wd_low _ (by decide)]; decide +kernel
theorem abw1 : wd bA 1 = 0x00000000#32 := by rw [wd_low _ (by decide)]; decide +kernel
theorem abw2 : wd bA 2 = 0x00000000#32 := by rw [wd_low _ (by decide)]; decide +kernel
theorem abw3 : wd bA 3 = 0x00000000#32 := by rw [wd_low _ (by decide)]; decide +kernel
theorem abw4 : wd bA 4 = 0x00000000#32 := by rw [wd_low _ (by decide)]; decide +kernel
theorem abw5 : wd bA 5 = 0x00000000#32 := by rw [wd_low _ (by decide)]; decide +kernel
theorem abw6 : wd bA 6 = 0x00000000#32 := by rw [wd_low _ (by decide)]; decide +kernel
theorem abw7 : wd bA 7 = 0x00000000#32 := by rw [wd_low _ (by decide)]; decide +kernel
theorem abw8 : wd bA 8 = 0x00000000#32 := by rw [wd_low _ (by decide)]; decide +kernel
theorem abw9 : wd bA 9 = 0x00000000#32 := by rw [wd_low _ (by decide)]; decide +kernel
theorem abw10 : wd bA 10 = 0x00000000#32 := by rw [wd_low _ (by decide)]; decide +kernel
theorem abw11 : wd bA 11 = 0x00000000#32 := by rw [wd_low _ (by decide)]; decide +kernel
theorem abw12 : wd bA 12 = 0x00000000#32 := by rw [wd_low _ (by decide)]; decide +kernel
theorem abw13 : wd bA 13 = 0x00000000#32 := by rw [wd_low _ (by decide)]; decide +kernel
theorem abw14 : wd bA 14 = 0x00000000#32 := by rw [wd_low _ (by decide)]; decide +kernel
theorem abw15 : wd bA 15 = 0x00000018#32 := by rw [wd_low _ (by decide)]; decide +kernel
theorem abw16 : wd bA 16 = 0x61626380#32 := by rw [wd_high _ (by decide)]; simp only [Nat.reduceSub]; rw [abw0, abw9, abw1, abw14]; decide +kernel
theorem abw17 : wd bA 17 = 0x000f0000#32 := by rw [wd_high _ (by decide)]; simp only [Nat.reduceSub]; rw [abw1, abw10, abw2, abw15]; decide +kernel
theorem abw18 : wd bA 18 = 0x7da86405#32 := by rw [wd_high _ (by decide)]; simp only [Nat.reduceSub]; rw [abw2, abw11, abw3, abw16]; decide +kernel
theorem abw19 : wd bA 19 = 0x600003c6#32 := by rw [wd_high _ (by decide)]; simp only [Nat.reduceSub]; rw [abw3, abw12, abw4, abw17]; decide +kernel
theorem abw20 : wd bA 20 = 0x3e9d7b78#32 := by rw [wd_high _ (by decide)]; simp only [Nat.reduceSub]; rw [abw4, abw13, abw5, abw18]; decide +kernel
theorem abw21 : wd bA 21 = 0x0183fc00#32 := by rw [wd_high _ (by decide)]; simp only [Nat.reduceSub]; rw [abw5, abw14, abw6, abw19]; decide +kernel
theorem abw22 : wd bA 22 = 0x12dcbfdb#32 := by rw [wd_high _ (by decide)]; simp only [Nat.reduceSub]; rw [abw6, abw15, abw7, abw20]; decide +kernel
theorem abw23 : wd bA 23 = 0xe2e2c38e#32 := by rw [wd_high _ (by decide)]; simp only [Nat.reduceSub]; rw [abw7, abw16, abw8, abw21]; decide +kernel
theorem abw24 : wd bA 24 = 0xc8215c1a#32 := by rw [wd_high _ (by decide)]; simp only [Nat.reduceSub]; rw [abw8, abw17, abw9, abw22]; decide +kernel
theorem abw25 : wd bA 25 = 0xb73679a2#32 := by rw [wd_high _ (by decide)]; simp only [Nat.reduceSub]; rw [abw9, abw18, abw10, abw23]; decide +kernel
theorem abw26 : wd bA 26 = 0xe5bc3909#32 := by rw [wd_high _ (by decide)]; simp only [Nat.reduceSub]; rw [abw10, abw19, abw11, abw24]; decide +kernel
theorem abw27 : wd bA 27 = 0x32663c5b#32 := by rw [wd_high _ (by decide)]; simp only [Nat.reduceSub]; rw [abw11, abw20, abw12, abw25]; decide +kernel
theorem abw28 : wd bA 28 = 0x9d209d67#32 := by rw [wd_high _ (by decide)]; simp only [Nat.reduceSub]; rw [abw12, abw21, abw13, abw26]; decide +kernel
theorem abw29 : wd bA 29 = 0xec8726cb#32 := by rw [wd_high _ (by decide)]; simp only [Nat.reduceSub]; rw [abw13, abw22, abw14, abw27]; decide +kernel
theorem abw30 : wd bA 30 = 0x702138a4#32 := by rw [wd_high _ (by decide)]; simp only [Nat.reduceSub]; rw [abw14, abw23, abw15, abw28]; decide +kernel
theorem abw31 : wd bA 31 = 0xd3b7973b#32 := by rw [wd_high _ (by decide)]; simp only [Nat.reduceSub]; rw [abw15, abw24, abw16, abw29]; decide +kernel
theorem abw32 : wd bA 32 = 0x93f5997f#32 := by rw [wd_high _ (by decide)]; simp only [Nat.reduceSub]; rw [abw16, abw25, abw17, abw30]; decide +kernel
theorem abw33 : wd bA 33 = 0x3b68ba73#32 := by rw [wd_high _ (by decide)]; simp only [Nat.reduceSub]; rw [abw17, abw26, abw18, abw31]; decide +kernel
theorem abw34 : wd bA 34 = 0xaff4ffc1#32 := by rw [wd_high _ (by decide)]; simp only [Nat.reduceSub]; rw [abw18, abw27, abw19, abw32]; decide +kernel
theorem abw35 : wd bA 35 = 0xf10a5c62#32 := by rw [wd_high _ (by decide)]; simp only [Nat.reduceSub]; rw [abw19, abw28, abw20, abw33]; decide +kernel
theorem abw36 : wd bA 36 = 0x0a8b3996#32 := by rw [wd_high _ (by decide)]; simp only [Nat.reduceSub]; rw [abw20, abw29, abw21, abw34]; decide +kernel
theorem abw37 : wd bA 37 = 0x72af830a#32 := by rw [wd_high _ (by decide)]; simp only [Nat.reduceSub]; rw [abw21, abw30, abw22, abw35]; decide +kernel
theorem abw38 : wd bA 38 = 0x9409e33e#32 := by rw [wd_high _ (by decide)]; simp only [Nat.reduceSub]; rw [abw22, abw31, abw23, abw36]; decide +kernel
theorem abw39 : wd bA 39 = 0x24641522#32 := by rw [wd_high _ (by decide)]; simp only [Nat.reduceSub]; rw [abw23, abw32, abw24, abw37]; decide +kernel
theorem abw40 : wd bA 40 = 0x9f47bf94#32 := by rw [wd_high _ (by decide)]; simp only [Nat.reduceSub]; rw [abw24, abw33, abw25, abw38]; decide +kernel
theorem abw41 : wd bA 41 = 0xf0a64f5a#32 := by rw [wd_high _ (by decide)]; simp only [Nat.reduceSub]; rw [abw25, abw34, abw26, abw39]; decide +kernel
theorem abw42 : wd bA 42 = 0x3e246a79#32 := by rw [wd_high _ (by decide)]; simp only [Nat.reduceSub]; rw [abw26, abw35, abw27, abw40]; decide +kernel
theorem abw43 : wd bA 43 = 0x27333ba3#32 := by rw [wd_high _ (by decide)]; simp only [Nat.reduceSub]; rw [abw27, abw36, abw28, abw41]; decide +kernel
theorem abw44 : wd bA 44 = 0x0c4763f2#32 := by rw [wd_high _ (by decide)]; simp only [Nat.reduceSub]; rw [abw28, abw37, abw29, abw42]; decide +kernel
theorem abw45 : wd bA 45 = 0x840abf27#32 := by rw [wd_high _ (by decide)]; simp only [Nat.reduceSub]; rw [abw29, abw38, abw30, abw43]; decide +kernel
theorem abw46 : wd bA 46 = 0x7a290d5d#32 := by rw [wd_high _ (by decide)]; simp only [Nat.reduceSub]; rw [abw30, abw39, abw31, abw44]; decide +kernel
theorem abw47 : wd bA 47 = 0x065c43da#32 := by rw [wd_high _ (by decide)]; simp only [Nat.reduceSub]; rw [abw31, abw40, abw32, abw45]; decide +kernel
theorem abw48 : wd bA 48 = 0xfb3e89cb#32 := by rw [wd_high _ (by decide)]; simp only [Nat.reduceSub]; rw [abw32, abw41, abw33, abw46]; decide +kernel
theorem abw49 : wd bA 49 = 0xcc7617db#32 := by rw [wd_high _ (by decide)]; simp only [Nat.reduceSub]; rw [abw33, abw42, abw34, abw47]; decide +kernel
theorem abw50 : wd bA 50 = 0xb9e66c34#32 := by rw [wd_high _ (by decide)]; simp only [Nat.reduceSub]; rw [abw34, abw43, abw35, abw48]; decide +kernel
theorem abw51 : wd bA 51 = 0xa9993667#32 := by rw [wd_high _ (by decide)]; simp only [Nat.reduceSub]; rw [abw35, abw44, abw36, abw49]; decide +kernel
theorem abw52 : wd bA 52 = 0x84badedd#32 := by rw [wd_high _ (by decide)]; simp only [Nat.reduceSub]; rw [abw36, abw45, abw37, abw50]; decide +kernel
theorem abw53 : wd bA 53 = 0xc21462bc#32 := by rw [wd_high _ (by decide)]; simp only [Nat.reduceSub]; rw [abw37, abw46, abw38, abw51]; decide +kernel
theorem abw54 : wd bA 54 = 0x1487472c#32 := by rw [wd_high _ (by decide)]; simp only [Nat.reduceSub]; rw [abw38, abw47, abw39, abw52]; decide +kernel
theorem abw55 : wd bA 55 = 0xb20f7a99#32 := by rw [wd_high _ (by decide)]; simp only [Nat.reduceSub]; rw [abw39, abw48, abw40, abw53]; decide +kernel
theorem abw56 : wd bA 56 = 0xef57b9cd#32 := by rw [wd_high _ (by decide)]; simp only [Nat.reduceSub]; rw [abw40, abw49, abw41, abw54]; decide +kernel
theorem abw57 : wd bA 57 = 0xebe6b238#32 := by rw [wd_high _ (by decide)]; simp only [Nat.reduceSub]; rw [abw41, abw50, abw42, abw55]; decide +kernel
theorem abw58 : wd bA 58 = 0x9fe3095e#32 := by rw [wd_high _ (by decide)]; simp only [Nat.reduceSub]; rw [abw42, abw51, abw43, abw56]; decide +kernel
theorem abw59 : wd bA 59 = 0x78bc8d4b#32 := by rw [wd_high _ (by decide)]; simp only [Nat.reduceSub]; rw [abw43, abw52, abw44, abw57]; decide +kernel
theorem abw60 : wd bA 60 = 0xa43fcf15#32 := by rw [wd_high _ (by decide)]; simp only [Nat.reduceSub]; rw [abw44, abw53, abw45, abw58]; decide +kernel
theorem abw61 : wd bA 61 = 0x668b2ff8#32 := by rw [wd_high _ (by decide)]; simp only [Nat.reduceSub]; rw [abw45, abw54, abw46, abw59]; decide +kernel
theorem abw62 : wd bA 62 = 0xeeaba2cc#32 := by rw [wd_high _ (by decide)]; simp only [Nat.reduceSub]; rw [abw46, abw55, abw47, abw60]; decide +kernel
theorem abw63 : wd bA 63 = 0x12b1edeb#32 := by rw [wd_high _ (by decide)]; simp only [Nat.reduceSub]; rw [abw47, abw56, abw48, abw61]; decide +kernel
theorem abr0 : At8 (rnd h0F (wd bA) 0) 0x6a09e667#32 0xbb67ae85#32 0x3c6ef372#32 0xa54ff53a#32 0x510e527f#32 0x9b05688c#32 0x1f83d9ab#32 0x5be0cd19#32 := ⟨rfl, rfl, rfl, rfl, rfl, rfl, rfl, rfl⟩
theorem abr1 : At8 (rnd h0F (wd bA) 1) 0x5d6aebcd#32 0x6a09e667#32 0xbb67ae85#32 0x3c6ef372#32 0xfa2a4622#32 0x510e527f#32 0x9b05688c#32 0x1f83d9ab#32 := abr0.step 0x428a2f98#32 0x61626380#32 (by decide +kernel) abw0 0x54da50e8#32 0x5d6aebcd#32 0xfa2a4622#32 (by decide +kernel) (by decide +kernel) (by decide +kernel)
theorem abr2 : At8 (rnd h0F (wd bA) 2) 0x5a6ad9ad#32 0x5d6aebcd#32 0x6a09e667#32 0xbb67ae85#32 0x78ce7989#32 0xfa2a4622#32 0x510e527f#32 0x9b05688c#32 := abr1.step 0x71374491#32 0x00000000#32 (by decide +kernel) abw1 0x3c5f8617#32 0x5a6ad9ad#32 0x78ce7989#32 (by decide +kernel) (by decide +kernel) (by decide +kernel)
theorem abr3 : At8 (rnd h0F (wd bA) 3) 0xc8c347a7#32 0x5a6ad9ad#32 0x5d6aebcd#32 0x6a09e667#32 0xf92939eb#32 0x78ce7989#32 0xfa2a4622#32 0x510e527f#32 := abr2.step 0xb5c0fbcf#32 0x00000000#32 (by decide +kernel) abw2 0x3dc18b66#32 0xc8c347a7#32 0xf92939eb#32 (by decide +kernel) (by decide +kernel) (by decide +kernel)
theorem abr4 : At8 (rnd h0F (wd bA) 4) 0xd550f666#32 0xc8c347a7#32 0x5a6ad9ad#32 0x5d6aebcd#32 0x24e00850#32 0xf92939eb#32 0x78ce7989#32 0xfa2a4622#32 := abr3.step 0xe9b5dba5#32 0x00000000#32 (by decide +kernel) abw3 0xbad621e9#32 0xd550f666#32 0x24e00850#32 (by decide +kernel) (by decide +kernel) (by decide +kernel)
theorem abr5 : At8 (rnd h0F (wd bA) 5) 0x04409a6a#32 0xd550f666#32 0xc8c347a7#32 0x5a6ad9ad#32 0x43ada245#32 0x24e00850#32 0xf92939eb#32 0x78ce7989#32 := abr4.step 0x3956c25b#32 0x00000000#32 (by decide +kernel) abw4 0xe642b678#32 0x04409a6a#32 0x43ada245#32 (by decide +kernel) (by decide +kernel) (by decide +kernel)
theorem abr6 : At8 (rnd h0F (wd bA) 6) 0x2b4209f5#32 0x04409a6a#32 0xd550f666#32 0xc8c347a7#32 0x714260ad#32 0x43ada245#32 0x24e00850#32 0xf92939eb#32 := abr5.step 0x59f111f1#32 0x00000000#32 (by decide +kernel) abw5 0x16d78700#32 0x2b4209f5#32 0x714260ad#32 (by decide +kernel) (by decide +kernel) (by decide +kernel)
theorem abr7 : At8 (rnd h0F (wd bA) 7) 0xe5030380#32 0x2b4209f5#32 0x04409a6a#32 0xd550f666#32 0x9b27a401#32 0x714260ad#32 0x43ada245#32 0x24e00850#32 := abr6.step 0x923f82a4#32 0x00000000#32 (by decide +kernel) abw6 0xd2645c5a#32 0xe5030380#32 0x9b27a401#32 (by decide +kernel) (by decide +kernel) (by decide +kernel)
theorem abr8 : At8 (rnd h0F (wd bA) 8) 0x85a07b5f#32 0xe5030380#32 0x2b4209f5#32 0x04409a6a#32 0x0c657a79#32 0x9b27a401#32 0x714260ad#32 0x43ada245#32 := abr7.step 0xab1c5ed5#32 0x00000000#32 (by decide +kernel) abw7 0x37148413#32 0x85a07b5f#32 0x0c657a79#32 (by decide +kernel) (by decide +kernel) (by decide +kernel)
theorem abr9 : At8 (rnd h0F (wd bA) 9) 0x8e04ecb9#32 0x85a07b5f#32 0xe5030380#32 0x2b4209f5#32 0x32ca2d8c#32 0x0c657a79#32 0x9b27a401#32 0x714260ad#32 := abr8.step 0xd807aa98#32 0x00000000#32 (by decide +kernel) abw8 0x2e899322#32 0x8e04ecb9#32 0x32ca2d8c#32 (by decide +kernel) (by decide +kernel) (by decide +kernel)
theorem abr10 : At8 (rnd h0F (wd bA) 10) 0x8c87346b#32 0x8e04ecb9#32 0x85a07b5f#32 0xe5030380#32 0x1cc92596#32 0x32ca2d8c#32 0x0c657a79#32 0x9b27a401#32 := abr9.step 0x12835b01#32 0x00000000#32 (by decide +kernel) abw9 0xf1871ba1#32 0x8c87346b#32 0x1cc92596#32 (by decide +kernel) (by decide +kernel) (by decide +kernel)
theorem abr11 : At8 (rnd h0F (wd bA) 11) 0x4798a3f4#32 0x8c87346b#32 0x8e04ecb9#32 0x85a07b5f#32 0x436b23e8#32 0x1cc92596#32 0x32ca2d8c#32 0x0c657a79#32 := abr10.step 0x243185be#32 0x00000000#32 (by decide +kernel) abw10 0x5e682068#32 0x4798a3f4#32 0x436b23e8#32 (by decide +kernel) (by decide +kernel) (by decide +kernel)
theorem abr12 : At8 (rnd h0F (wd bA) 12) 0xf71fc5a9#32 0x4798a3f4#32 0x8c87346b#32 0x8e04ecb9#32 0x816fd6e9#32 0x436b23e8#32 0x1cc92596#32 0x32ca2d8c#32 := abr11.step 0x550c7dc3#32 0x00000000#32 (by decide +kernel) abw11 0xfbcf5b8a#32 0xf71fc5a9#32 0x816fd6e9#32 (by decide +kernel) (by decide +kernel) (by decide +kernel)
theorem abr13 : At8 (rnd h0F (wd bA) 13) 0x87912990#32 0xf71fc5a9#32 0x4798a3f4#32 0x8c87346b#32 0x1e578218#32 0x816fd6e9#32 0x436b23e8#32 0x1cc92596#32 := abr12.step 0x72be5d74#32 0x00000000#32 (by decide +kernel) abw12 0x9052955f#32 0x87912990#32 0x1e578218#32 (by decide +kernel) (by decide +kernel) (by decide +kernel)
theorem abr14 : At8 (rnd h0F (wd bA) 14) 0xd932eb16#32 0x87912990#32 0xf71fc5a9#32 0x4798a3f4#32 0x745a48de#32 0x1e578218#32 0x816fd6e9#32 0x436b23e8#32 := abr13.step 0x80deb1fe#32 0x00000000#32 (by decide +kernel) abw13 0xe7d31473#32 0xd932eb16#32 0x745a48de#32 (by decide +kernel) (by decide +kernel) (by decide +kernel)
theorem abr15 : At8 (rnd h0F (wd bA) 15) 0xc0645fde#32 0xd932eb16#32 0x87912990#32 0xf71fc5a9#32 0x0b92f20c#32 0x745a48de#32 0x1e578218#32 0x816fd6e9#32 := abr14.step 0x9bdc06a7#32 0x00000000#32 (by decide +kernel) abw14 0xc3fa4e18#32 0xc0645fde#32 0x0b92f20c#32 (by decide +kernel) (by decide +kernel) (by decide +kernel)
theorem abr16 : At8 (rnd h0F (wd bA) 16) 0xb0fa238e#32 0xc0645fde#32 0xd932eb16#32 0x87912990#32 0x07590dcd#32 0x0b92f20c#32 0x745a48de#32 0x1e578218#32 := abr15.step 0xc19bf174#32 0x00000018#32 (by decide +kernel) abw15 0x10394824#32 0xb0fa238e#32 0x07590dcd#32 (by decide +kernel) (by decide +kernel) (by decide +kernel)
theorem abr17 : At8 (rnd h0F (wd bA) 17) 0x21da9a9b#32 0xb0fa238e#32 0xc0645fde#32 0xd932eb16#32 0x8034229c#32 0x07590dcd#32 0x0b92f20c#32 0x745a48de#32 := abr16.step 0xe49b69c1#32 0x61626380#32 (by decide +kernel) abw16 0xf8a2f90c#32 0x21da9a9b#32 0x8034229c#32 (by decide +kernel) (by decide +kernel) (by decide +kernel)
theorem abr18 : At8 (rnd h0F (wd bA) 18) 0xc2fbd9d1#32 0x21da9a9b#32 0xb0fa238e#32 0xc0645fde#32 0x846ee454#32 0x8034229c#32 0x07590dcd#32 0x0b92f20c#32 := abr17.step 0xefbe4786#32 0x000f0000#32 (by decide +kernel) abw17 0xab3bf93e#32 0xc2fbd9d1#32 0x846ee454#32 (by decide +kernel) (by decide +kernel) (by decide +kernel)
theorem abr19 : At8 (rnd h0F (wd bA) 19) 0xfe777bbf#32 0xc2fbd9d1#32 0x21da9a9b#32 0xb0fa238e#32 0xcc899961#32 0x846ee454#32 0x8034229c#32 0x07590dcd#32 := abr18.step 0x0fc19dc6#32 0x7da86405#32 (by decide +kernel) abw18 0x0c253983#32 0xfe777bbf#32 0xcc899961#32 (by decide +kernel) (by decide +kernel) (by decide +kernel)
theorem abr20 : At8 (rnd h0F (wd bA) 20) 0xe1f20c33#32 0xfe777bbf#32 0xc2fbd9d1#32 0x21da9a9b#32 0xb0638179#32 0xcc899961#32 0x846ee454#32 0x8034229c#32 := abr19.step 0x240ca1cc#32 0x600003c6#32 (by decide +kernel) abw19 0xff695deb#32 0xe1f20c33#32 0xb0638179#32 (by decide +kernel) (by decide +kernel) (by decide +kernel)
theorem abr21 : At8 (rnd h0F (wd bA) 21) 0x9dc68b63#32 0xe1f20c33#32 0xfe777bbf#32 0xc2fbd9d1#32 0x8ada8930#32 0xb0638179#32 0xcc899961#32 0x846ee454#32 := abr20.step 0x2de92c6f#32 0x3e9d7b78#32 (by decide +kernel) abw20 0x68ffee95#32 0x9dc68b63#32 0x8ada8930#32 (by decide +kernel) (by decide +kernel) (by decide +kernel)
theorem abr22 : At8 (rnd h0F (wd bA) 22) 0xc2606d6d#32 0x9dc68b63#32 0xe1f20c33#32 0xfe777bbf#32 0xe1257970#32 0x8ada8930#32 0xb0638179#32 0xcc899961#32 := abr21.step 0x4a7484aa#32 0x0183fc00#32 (by decide +kernel) abw21 0x1e299f9f#32 0xc2606d6d#32 0xe1257970#32 (by decide +kernel) (by decide +kernel) (by decide +kernel)
theorem abr23 : At8 (rnd h0F (wd bA) 23) 0xa7a3623f#32 0xc2606d6d#32 0x9dc68b63#32 0xe1f20c33#32 0x49f5114a#32 0xe1257970#32 0x8ada8930#32 0xb0638179#32 := abr22.step 0x5cb0a9dc#32 0x12dcbfdb#32 (by decide +kernel) abw22 0x4b7d958b#32 0xa7a3623f#32 0x49f5114a#32 (by decide +kernel) (by decide +kernel) (by decide +kernel)
theorem abr24 : At8 (rnd h0F (wd bA) 24) 0xc5d53d8d#32 0xa7a3623f#32 0xc2606d6d#32 0x9dc68b63#32 0xaa47c347#32 0x49f5114a#32 0xe1257970#32 0x8ada8930#32 := abr23.step 0x76f988da#32 0xe2e2c38e#32 (by decide +kernel) abw23 0xc855b714#32 0xc5d53d8d#32 0xaa47c347#32 (by decide +kernel) (by decide +kernel) (by decide +kernel)
theorem abr25 : At8 (rnd h0F (wd bA) 25) 0x1c2c2838#32 0xc5d53d8d#32 0xa7a3623f#32 0xc2606d6d#32 0x2823ef91#32 0xaa47c347#32 0x49f5114a#32 0xe1257970#32 := abr24.step 0x983e5152#32 0xc8215c1a#32 (by decide +kernel) abw24 0x8a5d642e#32 0x1c2c2838#32 0x2823ef91#32 (by decide +kernel) (by decide +kernel) (by decide +kernel)
theorem abr26 : At8 (rnd h0F (wd bA) 26) 0xcde8037d#32 0x1c2c2838#32 0xc5d53d8d#32 0xa7a3623f#32 0x14383d8e#32 0x2823ef91#32 0xaa47c347#32 0x49f5114a#32 := abr25.step 0xa831c66d#32 0xb73679a2#32 (by decide +kernel) abw25 0x51d7d021#32 0xcde8037d#32 0x14383d8e#32 (by decide +kernel) (by decide +kernel) (by decide +kernel)
theorem abr27 : At8 (rnd h0F (wd bA) 27) 0xb62ec4bc#32 0xcde8037d#32 0x1c2c2838#32 0xc5d53d8d#32 0xc74c6516#32 0x14383d8e#32 0x2823ef91#32 0xaa47c347#32 := abr26.step 0xb00327c8#32 0xe5bc3909#32 (by decide +kernel) abw26 0x1fa902d7#32 0xb62ec4bc#32 0xc74c6516#32 (by decide +kernel) (by decide +kernel) (by decide +kernel)
theorem abr28 : At8 (rnd h0F (wd bA) 28) 0x77d37528#32 0xb62ec4bc#32 0xcde8037d#32 0x1c2c2838#32 0xedffbff8#32 0xc74c6516#32 0x14383d8e#32 0x2823ef91#32 := abr27.step 0xbf597fc7#32 0x32663c5b#32 (by decide +kernel) abw27 0x282a826b#32 0x77d37528#32 0xedffbff8#32 (by decide +kernel) (by decide +kernel) (by decide +kernel)
theorem abr29 : At8 (rnd h0F (wd bA) 29) 0x363482c9#32 0x77d37528#32 0xb62ec4bc#32 0xcde8037d#32 0x6112a3b7#32 0xedffbff8#32 0xc74c6516#32 0x14383d8e#32 := abr28.step 0xc6e00bf3#32 0x9d209d67#32 (by decide +kernel) abw28 0x44e67b7f#32 0x363482c9#32 0x6112a3b7#32 (by decide +kernel) (by decide +kernel) (by decide +kernel)
theorem abr30 : At8 (rnd h0F (wd bA) 30) 0xa0060b30#32 0x363482c9#32 0x77d37528#32 0xb62ec4bc#32 0xade79437#32 0x6112a3b7#32 0xedffbff8#32 0xc74c6516#32 := abr29.step 0xd5a79147#32 0xec8726cb#32 (by decide +kernel) abw29 0xdfff90ba#32 0xa0060b30#32 0xade79437#32 (by decide +kernel) (by decide +kernel) (by decide +kernel)
theorem abr31 : At8 (rnd h0F (wd bA) 31) 0xea992a22#32 0xa0060b30#32 0x363482c9#32 0x77d37528#32 0x0109ab3a#32 0xade79437#32 0x6112a3b7#32 0xedffbff8#32 := abr30.step 0x06ca6351#32 0x702138a4#32 (by decide +kernel) abw30 0x4adae67e#32 0xea992a22#32 0x0109ab3a#32 (by decide +kernel) (by decide +kernel) (by decide +kernel)
theorem abr32 : At8 (rnd h0F (wd bA) 32) 0x73b33bf5#32 0xea992a22#32 0xa0060b30#32 0x363482c9#32 0xba591112#32 0x0109ab3a#32 0xade79437#32 0x6112a3b7#32 := abr31.step 0x14292967#32 0xd3b7973b#32 (by decide +kernel) abw31 0x42859bea#32 0x73b33bf5#32 0xba591112#32 (by decide +kernel) (by decide +kernel) (by decide +kernel)
theorem abr33 : At8 (rnd h0F (wd bA) 33) 0x98e12507#32 0x73b33bf5#32 0xea992a22#32 0xa0060b30#32 0x9cd9f5f6#32 0xba591112#32 0x0109ab3a#32 0xade79437#32 := abr32.step 0x27b70a85#32 0x93f5997f#32 (by decide +kernel) abw32 0x66a5732d#32 0x98e12507#32 0x9cd9f5f6#32 (by decide +kernel) (by decide +kernel) (by decide +kernel)
theorem abr34 : At8 (rnd h0F (wd bA) 34) 0xfe604df5#32 0x98e12507#32 0x73b33bf5#32 0xea992a22#32 0x59249dd3#32 0x9cd9f5f6#32 0xba591112#32 0x0109ab3a#32 := abr33.step 0x2e1b2138#32 0x3b68ba73#32 (by decide +kernel) abw33 0xb91e92a3#32 0xfe604df5#32 0x59249dd3#32 (by decide +kernel) (by decide +kernel) (by decide +kernel)
theorem abr35 : At8 (rnd h0F (wd bA) 35) 0xa9a7738c#32 0xfe604df5#32 0x98e12507#32 0x73b33bf5#32 0x085f3833#32 0x59249dd3#32 0x9cd9f5f6#32 0xba591112#32 := abr34.step 0x4d2c6dfc#32 0xaff4ffc1#32 (by decide +kernel) abw34 0x1dc60e11#32 0xa9a7738c#32 0x085f3833#32 (by decide +kernel) (by decide +kernel) (by decide +kernel)
theorem abr36 : At8 (rnd h0F (wd bA) 36) 0x65a0cfe4#32 0xa9a7738c#32 0xfe604df5#32 0x98e12507#32 0xf4b002d6#32 0x085f3833#32 0x59249dd3#32 0x9cd9f5f6#32 := abr35.step 0x53380d13#32 0xf10a5c62#32 (by decide +kernel) abw35 0x80fcc6e1#32 0x65a0cfe4#32 0xf4b002d6#32 (by decide +kernel) (by decide +kernel) (by decide +kernel)
theorem abr37 : At8 (rnd h0F (wd bA) 37) 0x41a65cb1#32 0x65a0cfe4#32 0xa9a7738c#32 0xfe604df5#32 0x0772a26b#32 0xf4b002d6#32 0x085f3833#32 0x59249dd3#32 := abr36.step 0x650a7354#32 0x0a8b3996#32 (by decide +kernel) abw36 0x6e917d64#32 0x41a65cb1#32 0x0772a26b#32 (by decide +kernel) (by decide +kernel) (by decide +kernel)
theorem abr38 : At8 (rnd h0F (wd bA) 38) 0x34df1604#32 0x41a65cb1#32 0x65a0cfe4#32 0xa9a7738c#32 0xa507a53d#32 0x0772a26b#32 0xf4b002d6#32 0x085f3833#32 := abr37.step 0x766a0abb#32 0x72af830a#32 (by decide +kernel) abw37 0xa6a75748#32 0x34df1604#32 0xa507a53d#32 (by decide +kernel) (by decide +kernel) (by decide +kernel)
theorem abr39 : At8 (rnd h0F (wd bA) 39) 0x6dc57a8a#32 0x34df1604#32 0x41a65cb1#32 0x65a0cfe4#32 0xf0781bc8#32 0xa507a53d#32 0x0772a26b#32 0xf4b002d6#32 := abr38.step 0x81c2c92e#32 0x9409e33e#32 (by decide +kernel) abw38 0x46d0a83c#32 0x6dc57a8a#32 0xf0781bc8#32 (by decide +kernel) (by decide +kernel) (by decide +kernel)
theorem abr40 : At8 (rnd h0F (wd bA) 40) 0x79ea687a#32 0x6dc57a8a#32 0x34df1604#32 0x41a65cb1#32 0x1efbc0a0#32 0xf0781bc8#32 0xa507a53d#32 0x0772a26b#32 := abr39.step 0x92722c85#32 0x24641522#32 (by decide +kernel) abw39 0xb95af0bc#32 0x79ea687a#32 0x1efbc0a0#32 (by decide +kernel) (by decide +kernel) (by decide +kernel)
theorem abr41 : At8 (rnd h0F (wd bA) 41) 0xd6670766#32 0x79ea687a#32 0x6dc57a8a#32 0x34df1604#32 0x26352d63#32 0x1efbc0a0#32 0xf0781bc8#32 0xa507a53d#32 := abr40.step 0xa2bfe8a1#32 0x9f47bf94#32 (by decide +kernel) abw40 0xe48ed0b2#32 0xd6670766#32 0x26352d63#32 (by decide +kernel) (by decide +kernel) (by decide +kernel)
theorem abr42 : At8 (rnd h0F (wd bA) 42) 0xdf46652f#32 0xd6670766#32 0x79ea687a#32 0x6dc57a8a#32 0x838b2711#32 0x26352d63#32 0x1efbc0a0#32 0xf0781bc8#32 := abr41.step 0xa81a664b#32 0xf0a64f5a#32 (by decide +kernel) abw41 0x4eac110d#32 0xdf46652f#32 0x838b2711#32 (by decide +kernel) (by decide +kernel) (by decide +kernel)
theorem abr43 : At8 (rnd h0F (wd bA) 43) 0x17aa0dfe#32 0xdf46652f#32 0xd6670766#32 0x79ea687a#32 0xdecd4715#32 0x838b2711#32 0x26352d63#32 0x1efbc0a0#32 := abr42.step 0xc24b8b70#32 0x3e246a79#32 (by decide +kernel) abw42 0x7107cc8b#32 0x17aa0dfe#32 0xdecd4715#32 (by decide +kernel) (by decide +kernel) (by decide +kernel)
theorem abr44 : At8 (rnd h0F (wd bA) 44) 0x9d4baf93#32 0x17aa0dfe#32 0xdf46652f#32 0xd6670766#32 0xfda24c2e#32 0xdecd4715#32 0x838b2711#32 0x26352d63#32 := abr43.step 0xc76c51a3#32 0x27333ba3#32 (by decide +kernel) abw43 0x83b7e3b4#32 0x9d4baf93#32 0xfda24c2e#32 (by decide +kernel) (by decide +kernel) (by decide +kernel)
theorem abr45 : At8 (rnd h0F (wd bA) 45) 0x26628815#32 0x9d4baf93#32 0x17aa0dfe#32 0xdf46652f#32 0xa80f11f0#32 0xfda24c2e#32 0xdecd4715#32 0x838b2711#32 := abr44.step 0xd192e819#32 0x0c4763f2#32 (by decide +kernel) abw44 0xd1a80a8a#32 0x26628815#32 0xa80f11f0#32 (by decide +kernel) (by decide +kernel) (by decide +kernel)
theorem abr46 : At8 (rnd h0F (wd bA) 46) 0x72ab4b91#32 0x26628815#32 0x9d4baf93#32 0x17aa0dfe#32 0xb7755da1#32 0xa80f11f0#32 0xfda24c2e#32 0xdecd4715#32 := abr45.step 0xd6990624#32 0x840abf27#32 (by decide +kernel) abw45 0xd82ef872#32 0x72ab4b91#32 0xb7755da1#32 (by decide +kernel) (by decide +kernel) (by decide +kernel)
theorem abr47 : At8 (rnd h0F (wd bA) 47) 0xa14c14b0#32 0x72ab4b91#32 0x26628815#32 0x9d4baf93#32 0xd57b94a9#32 0xb7755da1#32 0xa80f11f0#32 0xfda24c2e#32 := abr46.step 0xf40e3585#32 0x7a290d5d#32 (by decide +kernel) abw46 0xbdd186ab#32 0xa14c14b0#32 0xd57b94a9#32 (by decide +kernel) (by decide +kernel) (by decide +kernel)
theorem abr48 : At8 (rnd h0F (wd bA) 48) 0x4172328d#32 0xa14c14b0#32 0x72ab4b91#32 0x26628815#32 0xfecf0bc6#32 0xd57b94a9#32 0xb7755da1#32 0xa80f11f0#32 := abr47.step 0x106aa070#32 0x065c43da#32 (by decide +kernel) abw47 0x61835c33#32 0x4172328d#32 0xfecf0bc6#32 (by decide +kernel) (by decide +kernel) (by decide +kernel)
theorem abr49 : At8 (rnd h0F (wd bA) 49) 0x05757ceb#32 0x4172328d#32 0xa14c14b0#32 0x72ab4b91#32 0xbd714038#32 0xfecf0bc6#32 0xd57b94a9#32 0xb7755da1#32 := abr48.step 0x19a4c116#32 0xfb3e89cb#32 (by decide +kernel) abw48 0x970eb823#32 0x05757ceb#32 0xbd714038#32 (by decide +kernel) (by decide +kernel) (by decide +kernel)
theorem abr50 : At8 (rnd h0F (wd bA) 50) 0xf11bfaa8#32 0x05757ceb#32 0x4172328d#32 0xa14c14b0#32 0x6e5c390c#32 0xbd714038#32 0xfecf0bc6#32 0xd57b94a9#32 := abr49.step 0x1e376c08#32 0xcc7617db#32 (by decide +kernel) abw49 0xfbb0ed7b#32 0xf11bfaa8#32 0x6e5c390c#32 (by decide +kernel) (by decide +kernel) (by decide +kernel)
theorem abr51 : At8 (rnd h0F (wd bA) 51) 0x7a0508a1#32 0xf11bfaa8#32 0x05757ceb#32 0x4172328d#32 0x52f1ccf7#32 0x6e5c390c#32 0xbd714038#32 0xfecf0bc6#32 := abr50.step 0x2748774c#32 0xb9e66c34#32 (by decide +kernel) abw50 0xb1a5b847#32 0x7a0508a1#32 0x52f1ccf7#32 (by decide +kernel) (by decide +kernel) (by decide +kernel)
theorem abr52 : At8 (rnd h0F (wd bA) 52) 0x886e7a22#32 0x7a0508a1#32 0xf11bfaa8#32 0x05757ceb#32 0x49231c1e#32 0x52f1ccf7#32 0x6e5c390c#32 0xbd714038#32 := abr51.step 0x34b0bcb5#32 0xa9993667#32 (by decide +kernel) abw51 0x07b0e991#32 0x886e7a22#32 0x49231c1e#32 (by decide +kernel) (by decide +kernel) (by decide +kernel)
theorem abr53 : At8 (rnd h0F (wd bA) 53) 0x101fd28f#32 0x886e7a22#32 0x7a0508a1#32 0xf11bfaa8#32 0x529e7d00#32 0x49231c1e#32 0x52f1ccf7#32 0x6e5c390c#32 := abr52.step 0x391c0cb3#32 0x84badedd#32 (by decide +kernel) abw52 0x4d290015#32 0x101fd28f#32 0x529e7d00#32 (by decide +kernel) (by decide +kernel) (by decide +kernel)
theorem abr54 : At8 (rnd h0F (wd bA) 54) 0xf5702fdb#32 0x101fd28f#32 0x886e7a22#32 0x7a0508a1#32 0x9f4787c3#32 0x529e7d00#32 0x49231c1e#32 0x52f1ccf7#32 := abr53.step 0x4ed8aa4a#32 0xc21462bc#32 (by decide +kernel) abw53 0xae2b8d1b#32 0xf5702fdb#32 0x9f4787c3#32 (by decide +kernel) (by decide +kernel) (by decide +kernel)
theorem abr55 : At8 (rnd h0F (wd bA) 55) 0x3ec45cdb#32 0xf5702fdb#32 0x101fd28f#32 0x886e7a22#32 0xe50e1b4f#32 0x9f4787c3#32 0x529e7d00#32 0x49231c1e#32 := abr54.step 0x5b9cca4f#32 0x1487472c#32 (by decide +kernel) abw54 0x6b0912ae#32 0x3ec45cdb#32 0xe50e1b4f#32 (by decide +kernel) (by decide +kernel) (by decide +kernel)
theorem abr56 : At8 (rnd h0F (wd bA) 56) 0x38cc9913#32 0x3ec45cdb#32 0xf5702fdb#32 0x101fd28f#32 0x54cb266b#32 0xe50e1b4f#32 0x9f4787c3#32 0x529e7d00#32 := abr55.step 0x682e6ff3#32 0xb20f7a99#32 (by decide +kernel) abw55 0xcc5cac49#32 0x38cc9913#32 0x54cb266b#32 (by decide +kernel) (by decide +kernel) (by decide +kernel)
theorem abr57 : At8 (rnd h0F (wd bA) 57) 0xfcd1887b#32 0x38cc9913#32 0x3ec45cdb#32 0xf5702fdb#32 0x9b5e906c#32 0x54cb266b#32 0xe50e1b4f#32 0x9f4787c3#32 := abr56.step 0x748f82ee#32 0xef57b9cd#32 (by decide +kernel) abw56 0x8b3ebddd#32 0xfcd1887b#32 0x9b5e906c#32 (by decide +kernel) (by decide +kernel) (by decide +kernel)
theorem abr58 : At8 (rnd h0F (wd bA) 58) 0xc062d46f#32 0xfcd1887b#32 0x38cc9913#32 0x3ec45cdb#32 0x7e44008e#32 0x9b5e906c#32 0x54cb266b#32 0xe50e1b4f#32 := abr57.step 0x78a5636f#32 0xebe6b238#32 (by decide +kernel) abw57 0x88d3d0b3#32 0xc062d46f#32 0x7e44008e#32 (by decide +kernel) (by decide +kernel) (by decide +kernel)
theorem abr59 : At8 (rnd h0F (wd bA) 59) 0xffb70472#32 0xc062d46f#32 0xfcd1887b#32 0x38cc9913#32 0x6d83bfc6#32 0x7e44008e#32 0x9b5e906c#32 0x54cb266b#32 := abr58.step 0x84c87814#32 0x9fe3095e#32 (by decide +kernel) abw58 0x2ebf62eb#32 0xffb70472#32 0x6d83bfc6#32 (by decide +kernel) (by decide +kernel) (by decide +kernel)
theorem abr60 : At8 (rnd h0F (wd bA) 60) 0xb6ae8fff#32 0xffb70472#32 0xc062d46f#32 0xfcd1887b#32 0xb21bad3d#32 0x6d83bfc6#32 0x7e44008e#32 0x9b5e906c#32 := abr59.step 0x8cc70208#32 0x78bc8d4b#32 (by decide +kernel) abw59 0x794f142a#32 0xb6ae8fff#32 0xb21bad3d#32 (by decide +kernel) (by decide +kernel) (by decide +kernel)
theorem abr61 : At8 (rnd h0F (wd bA) 61) 0xb85e2ce9#32 0xb6ae8fff#32 0xffb70472#32 0xc062d46f#32 0x961f4894#32 0xb21bad3d#32 0x6d83bfc6#32 0x7e44008e#32 := abr60.step 0x90befffa#32 0xa43fcf15#32 (by decide +kernel) abw60 0x994dc019#32 0xb85e2ce9#32 0x961f4894#32 (by decide +kernel) (by decide +kernel) (by decide +kernel)
theorem abr62 : At8 (rnd h0F (wd bA) 62) 0x04d24d6c#32 0xb85e2ce9#32 0xb6ae8fff#32 0xffb70472#32 0x948d25b6#32 0x961f4894#32 0xb21bad3d#32 0x6d83bfc6#32 := abr61.step 0xa4506ceb#32 0x668b2ff8#32 (by decide +kernel) abw61 0xd42a5147#32 0x04d24d6c#32 0x948d25b6#32 (by decide +kernel) (by decide +kernel) (by decide +kernel)
theorem abr63 : At8 (rnd h0F (wd bA) 63) 0xd39a2165#32 0x04d24d6c#32 0xb85e2ce9#32 0xb6ae8fff#32 0xfb121210#32 0x948d25b6#32 0x961f4894#32 0xb21bad3d#32 := abr62.step 0xbef9a3f7#32 0xeeaba2cc#32 (by decide +kernel) abw62 0xfb5b0d9e#32 0xd39a2165#32 0xfb121210#32 (by decide +kernel) (by decide +kernel) (by decide +kernel)
theorem abr64 : At8 (rnd h0F (wd bA) 64) 0x506e3058#32 0xd39a2165#32 0x04d24d6c#32 0xb85e2ce9#32 0x5ef50f24#32 0xfb121210#32 0x948d25b6#32 0x961f4894#32 := abr63.step 0xc67178f2#32 0x12b1edeb#32 (by decide +kernel) abw63 0xa8467f25#32 0x506e3058#32 0x5ef50f24#32 (by decide +kernel) (by decide +kernel) (by decide +kernel)
def abS (i : Nat) : BitVec 32 := [0xba7816bf#32, 0x8f01cfea#32, 0x414140de#32, 0x5dae2223#32, 0xb00361a3#32, 0x96177a9c#32, 0xb410ff61#32, 0xf20015ad#32].getD i 0
theorem ab_fin (i : Nat) (hi : i < 8) : blkS h0F (wd bA) i = abS i := by
  have h : i = 0 ∨ i = 1 ∨ i = 2 ∨ i = 3 ∨ i = 4 ∨ i = 5 ∨ i = 6 ∨ i = 7 := by omega
  unfold blkS
  rcases h with rfl | rfl | rfl | rfl | rfl | rfl | rfl | rfl
  · rw [abr64.s0]; decide +kernel
  · rw [abr64.s1]; decide +kernel
  · rw [abr64.s2]; decide +kernel
  · rw [abr64.s3]; decide +kernel
  · rw [abr64.s4]; decide +kernel
  · rw [abr64.s5]; decide +kernel
  · rw [abr64.s6]; decide +kernel
  · rw [abr64.s7]; decide +kernel
def abcD : List UInt8 := [186, 120, 22, 191, 143, 1, 207, 234, 65, 65, 64, 222, 93, 174, 34, 35, 176, 3, 97, 163, 150, 23, 122, 156, 180, 16, 255, 97, 242, 0, 21, 173]
theorem dg_abc : dg [97, 98, 99] = abcD := by
  have e : dg [97, 98, 99] = row 32 (dgB (blkS h0F (wd bA))) := rfl
  rw [e, row_congr (g := dgB abS) (fun j hj => by unfold dgB; rw [ab_fin _ (by omega)])]
  decide +kernel
set_option maxHeartbeats 4000000 in
set_option maxRecDepth 20000 in
theorem awake05_any (w : World) : Calls Try.prog 49 #[] w fun e w' => e = .returned (.bool true) ∧ Gr w w' := by
  have hlit := Rd.lit w #[.int .u8 186, .int .u8 120, .int .u8 22, .int .u8 191, .int .u8 143, .int .u8 1, .int .u8 207, .int .u8 234, .int .u8 65, .int .u8 65, .int .u8 64, .int .u8 222, .int .u8 93, .int .u8 174, .int .u8 34, .int .u8 35, .int .u8 176, .int .u8 3, .int .u8 97, .int .u8 163, .int .u8 150, .int .u8 23, .int .u8 122, .int .u8 156, .int .u8 180, .int .u8 16, .int .u8 255, .int .u8 97, .int .u8 242, .int .u8 0, .int .u8 21, .int .u8 173] 5 abcD (by kernel_rfl) ((w.alloc (.cells #[.int .u8 186, .int .u8 120, .int .u8 22, .int .u8 191, .int .u8 143, .int .u8 1, .int .u8 207, .int .u8 234, .int .u8 65, .int .u8 65, .int .u8 64, .int .u8 222, .int .u8 93, .int .u8 174, .int .u8 34, .int .u8 35, .int .u8 176, .int .u8 3, .int .u8 97, .int .u8 163, .int .u8 150, .int .u8 23, .int .u8 122, .int .u8 156, .int .u8 180, .int .u8 16, .int .u8 255, .int .u8 97, .int .u8 242, .int .u8 0, .int .u8 21, .int .u8 173] 5)).heap.size) (by simp)
  have hq1 : Gr w (w.alloc (.cells #[.int .u8 186, .int .u8 120, .int .u8 22, .int .u8 191, .int .u8 143, .int .u8 1, .int .u8 207, .int .u8 234, .int .u8 65, .int .u8 65, .int .u8 64, .int .u8 222, .int .u8 93, .int .u8 174, .int .u8 34, .int .u8 35, .int .u8 176, .int .u8 3, .int .u8 97, .int .u8 163, .int .u8 150, .int .u8 23, .int .u8 122, .int .u8 156, .int .u8 180, .int .u8 16, .int .u8 255, .int .u8 97, .int .u8 242, .int .u8 0, .int .u8 21, .int .u8 173] 5)) := (Below.refl _ w).alloc (Nat.le_refl _) _
  go_enter Try.func49, Try.ntmps49
  go_upto_region 2 with (fail)
  generalize hA : (some ⟨w.heap.size, 0, none⟩ : Option Addr) = A at hlit ⊢
  generalize w.alloc (.cells #[.int .u8 186, .int .u8 120, .int .u8 22, .int .u8 191, .int .u8 143, .int .u8 1, .int .u8 207, .int .u8 234, .int .u8 65, .int .u8 65, .int .u8 64, .int .u8 222, .int .u8 93, .int .u8 174, .int .u8 34, .int .u8 35, .int .u8 176, .int .u8 3, .int .u8 97, .int .u8 163, .int .u8 150, .int .u8 23, .int .u8 122, .int .u8 156, .int .u8 180, .int .u8 16, .int .u8 255, .int .u8 97, .int .u8 242, .int .u8 0, .int .u8 21, .int .u8 173] 5) = w1 at hlit hq1 ⊢
  replace hlit := Lib.hid (show Rd w1.drew w1.drew.heap.size A abcD from hlit)
  replace hq1 := Lib.hid hq1
  replace hA := Lib.hid hA
  have hx := Lib.hid (show Rd (w1.drew.alloc (.cells #[.int .u8 97, .int .u8 98, .int .u8 99] 5)) (w1.drew.alloc (.cells #[.int .u8 97, .int .u8 98, .int .u8 99] 5)).heap.size (some ⟨w1.drew.heap.size, 0, none⟩) [97, 98, 99] from Rd.lit w1.drew _ _ _ (by kernel_rfl) _ (by simp))
  have hbq : Gr w1.drew (w1.drew.alloc (.cells #[.int .u8 97, .int .u8 98, .int .u8 99] 5)) := (Below.refl _ _).alloc (Nat.le_refl _) _
  replace hbq := Lib.hid hbq
  refine wpR_region (Gr) 9999 (by kernel_rfl) ?_
  refine wpR_take (i := 2) (v := ?_) (Gr.road) (some 5) rfl (by kernel_rfl) (by kernel_rfl) (by kernel_rfl) (by kernel_rfl) (by kernel_rfl) (fun _ _ _ h => h) (by kernel_rfl) (fun w' hw' => ?_) ?_
  rotate_left
  · go_simp; with_reducible rfl
  simp only [Act.put, List.setIfInBounds_toArray, List.set_cons_zero, List.set_cons_succ]
  refine wpR_take (i := 3) (v := ?_) (Gr.road) (some 6) rfl (by kernel_rfl) (by kernel_rfl) (by kernel_rfl) (by kernel_rfl) (by kernel_rfl) (fun _ _ _ h => h) (by kernel_rfl) (fun w' hw' => ?_) ?_
  rotate_left
  · have hstr := run_str_at (n := 32) 32 (hlit.out.up hw') rfl; go_simp; with_reducible rfl
  simp only [Act.put, List.setIfInBounds_toArray, List.set_cons_zero, List.set_cons_succ]
  refine wpR_one 0 rfl (by kernel_rfl) (by kernel_rfl) (fun K hK => ?_)
  go_simp
  refine hK _ _ (fun _ => hbq.out) ?_
  clear hK K
  try simp only [Act.put, List.setIfInBounds_toArray, List.set_cons_zero, List.set_cons_succ]
  refine wpR_one 1 rfl (by kernel_rfl) (by kernel_rfl) (fun K hK => ?_)
  go_simp
  refine (of_any _ 3 3 [97, 98, 99] (Lib.hid rfl) (by decide) _ hx).mono ?_
  rintro e w7 ⟨rfl, hr7⟩
  refine hK _ _ (fun _ => hr7) ?_
  clear hK K
  have hr78 := Lib.hid (hbq.out.trans hr7)
  clear hr7
  try simp only [Act.put, List.setIfInBounds_toArray, List.set_cons_zero, List.set_cons_succ]
  refine wpR_take (i := 4) (v := ?_) (Gr.road) (some 7) rfl (by kernel_rfl) (by kernel_rfl) (by kernel_rfl) (by kernel_rfl) (by kernel_rfl) (fun _ _ _ h => h) (by kernel_rfl) (fun w' hw' => ?_) ?_
  rotate_left
  · go_simp; with_reducible rfl
  simp only [Act.put, List.setIfInBounds_toArray, List.set_cons_zero, List.set_cons_succ]
  refine wpR_take (i := 5) (v := ?_) (Gr.road) (some 0) rfl (by kernel_rfl) (by kernel_rfl) (by kernel_rfl) (by kernel_rfl) (by kernel_rfl) (fun _ _ _ h => h) (by kernel_rfl) (fun w' hw' => ?_) ?_
  rotate_left
  · go_simp; with_reducible rfl
  simp only [Act.put, List.setIfInBounds_toArray, List.set_cons_zero, List.set_cons_succ]
  refine wpR_done (by kernel_rfl) ?_ _
  have hd : (dg [97, 98, 99] == abcD) = true := by rw [dg_abc]; exact beq_self_eq_true _
  rw [hd]
  go_wp2_with fail
  go_ret
  exact ⟨rfl, hq1.out.trans (Gr.undrew hr78.out)⟩
end Go.Proofs.Ytpeilgeloaogfaa
