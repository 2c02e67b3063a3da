/- dig: the digest of abc. -/
import Derived.Test.YtdgkcgiknfjpjaaDigB
namespace Go.Proofs.Ytdgkcgiknfjpjaa
set_option linter.unusedVariables false
set_option linter.unusedSimpArgs false
open Go Go.RowKit
def bA : Nat → UInt8 := blkB (msg [97, 98, 99]) 0
structure At8 (st : Nat → BitVec 32) (a b c d e f g h : BitVec 32) : Prop where
  s0 : st 0 = a
  s1 : st 1 = b
  s2 : st 2 = c
  s3 : st 3 = d
  s4 : st 4 = e
  s5 : st 5 = f
  s6 : st 6 = g
  s7 : st 7 = h
theorem At8.step {s : Nat → BitVec 32} {n : Nat} {a b c d e f g h : BitVec 32} (r : At8 (rnd s (wd bA) n) a b c d e f g h) (k w : BitVec 32) (hk : kF n = k) (hw : wd bA n = w) (o a2 e2 : BitVec 32) (ho : h + (tn 6 e ^^^ tn 11 e ^^^ tn 25 e) + ch3w e f g + k + w = o) (ha : o + ((tn 2 a ^^^ tn 13 a ^^^ tn 22 a) + mj3w a b c) = a2) (he : d + o = e2) : At8 (rnd s (wd bA) (n + 1)) a2 a b c e2 e f g := by
  obtain ⟨r0, r1, r2, r3, r4, r5, r6, r7⟩ := r
  have h1 : one1 (rnd s (wd bA) n) (kF n) (wd bA n) = o := by unfold one1; rw [r4, r5, r6, r7, hk, hw, ho]
  refine ⟨?_, ?_, ?_, ?_, ?_, ?_, ?_, ?_⟩
  · show one1 (rnd s (wd bA) n) (kF n) (wd bA n) + (two2 (rnd s (wd bA) n) + mj3w (rnd s (wd bA) n 0) (rnd s (wd bA) n 1) (rnd s (wd bA) n 2)) = a2
    rw [h1, r0, r1, r2]; unfold two2; rw [r0, ha]
  · exact r0
  · exact r1
  · exact r2
  · show rnd s (wd bA) n 3 + one1 (rnd s (wd bA) n) (kF n) (wd bA n) = e2
    rw [h1, r3, he]
  · exact r4
  · exact r5
  · exact r6
theorem abw0 : wd bA 0 = 0x61626380#32 := by rw [wd_low _ (by decide)]; decide +kernel
theorem abw1 : wd bA 1 = 0x00000000#32 := by rw [wd_low _ (by decide)]; decide +kernel
theorem abw2 : wd bA 2 = 0x00000000#32 := by rw [wd_low _ (by decide)]; decide +kernel
theorem abw3 : wd bA 3 = 0x00000000#32 := by rw [wd_low _ (by decide)]; decide +kernel
theorem abw4 : wd bA 4 = 0x00000000#32 := by rw [wd_low _ (by decide)]; decide +kernel
theorem abw5 : wd bA 5 = 0x00000000#32 := by rw [wd_low _ (by decide)]; decide +kernel
theorem abw6 : wd bA 6 = 0x00000000#32 := by rw [wd_low _ (by decide)]; decide +kernel
theorem abw7 : wd bA 7 = 0x00000000#32 := by rw [wd_low _ (by decide)]; decide +kernel
theorem abw8 : wd bA 8 = 0x00000000#32 := by rw [wd_low _ (by decide)]; decide +kernel
theorem abw9 : wd bA 9 = 0x00000000#32 := by rw [wd_low _ (by decide)]; decide +kernel
theorem abw10 : wd bA 10 = 0x00000000#32 := by rw [wd_low _ (by decide)]; decide +kernel
theorem abw11 : wd bA 11 = 0x00000000#32 := by rw [wd_low _ (by decide)]; decide +kernel
theorem abw12 : wd bA 12 = 0x00000000#32 := by rw [wd_low _ (by decide)]; decide +kernel
theorem abw13 : wd bA 13 = 0x00000000#32 := by rw [wd_low _ (by decide)]; decide +kernel
theorem abw14 : wd bA 14 = 0x00000000#32 := by rw [wd_low _ (by decide)]; decide +kernel
theorem abw15 : wd bA 15 = 0x00000018#32 := by rw [wd_low _ (by decide)]; decide +kernel
theorem abw16 : wd bA 16 = 0x61626380#32 := by rw [wd_high _ (by decide)]; simp only [Nat.reduceSub]; rw [abw0, abw9, abw1, abw14]; decide +kernel
theorem abw17 : wd bA 17 = 0x000f0000#32 := by rw [wd_high _ (by decide)]; simp only [Nat.reduceSub]; rw [abw1, abw10, abw2, abw15]; decide +kernel
theorem abw18 : wd bA 18 = 0x7da86405#32 := by rw [wd_high _ (by decide)]; simp only [Nat.reduceSub]; rw [abw2, abw11, abw3, abw16]; decide +kernel
theorem abw19 : wd bA 19 = 0x600003c6#32 := by rw [wd_high _ (by decide)]; simp only [Nat.reduceSub]; rw [abw3, abw12, abw4, abw17]; decide +kernel
theorem abw20 : wd bA 20 = 0x3e9d7b78#32 := by rw [wd_high _ (by decide)]; simp only [Nat.reduceSub]; rw [abw4, abw13, abw5, abw18]; decide +kernel
theorem abw21 : wd bA 21 = 0x0183fc00#32 := by rw [wd_high _ (by decide)]; simp only [Nat.reduceSub]; rw [abw5, abw14, abw6, abw19]; decide +kernel
theorem abw22 : wd bA 22 = 0x12dcbfdb#32 := by rw [wd_high _ (by decide)]; simp only [Nat.reduceSub]; rw [abw6, abw15, abw7, abw20]; decide +kernel
theorem abw23 : wd bA 23 = 0xe2e2c38e#32 := by rw [wd_high _ (by decide)]; simp only [Nat.reduceSub]; rw [abw7, abw16, abw8, abw21]; decide +kernel
theorem abw24 : wd bA 24 = 0xc8215c1a#32 := by rw [wd_high _ (by decide)]; simp only [Nat.reduceSub]; rw [abw8, abw17, abw9, abw22]; decide +kernel
theorem abw25 : wd bA 25 = 0xb73679a2#32 := by rw [wd_high _ (by decide)]; simp only [Nat.reduceSub]; rw [abw9, abw18, abw10, abw23]; decide +kernel
theorem abw26 : wd bA 26 = 0xe5bc3909#32 := by rw [wd_high _ (by decide)]; simp only [Nat.reduceSub]; rw [abw10, abw19, abw11, abw24]; decide +kernel
theorem abw27 : wd bA 27 = 0x32663c5b#32 := by rw [wd_high _ (by decide)]; simp only [Nat.reduceSub]; rw [abw11, abw20, abw12, abw25]; decide +kernel
theorem abw28 : wd bA 28 = 0x9d209d67#32 := by rw [wd_high _ (by decide)]; simp only [Nat.reduceSub]; rw [abw12, abw21, abw13, abw26]; decide +kernel
theorem abw29 : wd bA 29 = 0xec8726cb#32 := by rw [wd_high _ (by decide)]; simp only [Nat.reduceSub]; rw [abw13, abw22, abw14, abw27]; decide +kernel
theorem abw30 : wd bA 30 = 0x702138a4#32 := by rw [wd_high _ (by decide)]; simp only [Nat.reduceSub]; rw [abw14, abw23, abw15, abw28]; decide +kernel
theorem abw31 : wd bA 31 = 0xd3b7973b#32 := by rw [wd_high _ (by decide)]; simp only [Nat.reduceSub]; rw [abw15, abw24, abw16, abw29]; decide +kernel
theorem abw32 : wd bA 32 = 0x93f5997f#32 := by rw [wd_high _ (by decide)]; simp only [Nat.reduceSub]; rw [abw16, abw25, abw17, abw30]; decide +kernel
theorem abw33 : wd bA 33 = 0x3b68ba73#32 := by rw [wd_high _ (by decide)]; simp only [Nat.reduceSub]; rw [abw17, abw26, abw18, abw31]; decide +kernel
theorem abw34 : wd bA 34 = 0xaff4ffc1#32 := by rw [wd_high _ (by decide)]; simp only [Nat.reduceSub]; rw [abw18, abw27, abw19, abw32]; decide +kernel
theorem abw35 : wd bA 35 = 0xf10a5c62#32 := by rw [wd_high _ (by decide)]; simp only [Nat.reduceSub]; rw [abw19, abw28, abw20, abw33]; decide +kernel
theorem abw36 : wd bA 36 = 0x0a8b3996#32 := by rw [wd_high _ (by decide)]; simp only [Nat.reduceSub]; rw [abw20, abw29, abw21, abw34]; decide +kernel
theorem abw37 : wd bA 37 = 0x72af830a#32 := by rw [wd_high _ (by decide)]; simp only [Nat.reduceSub]; rw [abw21, abw30, abw22, abw35]; decide +kernel
theorem abw38 : wd bA 38 = 0x9409e33e#32 := by rw [wd_high _ (by decide)]; simp only [Nat.reduceSub]; rw [abw22, abw31, abw23, abw36]; decide +kernel
theorem abw39 : wd bA 39 = 0x24641522#32 := by rw [wd_high _ (by decide)]; simp only [Nat.reduceSub]; rw [abw23, abw32, abw24, abw37]; decide +kernel
theorem abw40 : wd bA 40 = 0x9f47bf94#32 := by rw [wd_high _ (by decide)]; simp only [Nat.reduceSub]; rw [abw24, abw33, abw25, abw38]; decide +kernel
theorem abw41 : wd bA 41 = 0xf0a64f5a#32 := by rw [wd_high _ (by decide)]; simp only [Nat.reduceSub]; rw [abw25, abw34, abw26, abw39]; decide +kernel
theorem abw42 : wd bA 42 = 0x3e246a79#32 := by rw [wd_high _ (by decide)]; simp only [Nat.reduceSub]; rw [abw26, abw35, abw27, abw40]; decide +kernel
theorem abw43 : wd bA 43 = 0x27333ba3#32 := by rw [wd_high _ (by decide)]; simp only [Nat.reduceSub]; rw [abw27, abw36, abw28, abw41]; decide +kernel
theorem abw44 : wd bA 44 = 0x0c4763f2#32 := by rw [wd_high _ (by decide)]; simp only [Nat.reduceSub]; rw [abw28, abw37, abw29, abw42]; decide +kernel
theorem abw45 : wd bA 45 = 0x840abf27#32 := by rw [wd_high _ (by decide)]; simp only [Nat.reduceSub]; rw [abw29, abw38, abw30, abw43]; decide +kernel
theorem abw46 : wd bA 46 = 0x7a290d5d#32 := by rw [wd_high _ (by decide)]; simp only [Nat.reduceSub]; rw [abw30, abw39, abw31, abw44]; decide +kernel
theorem abw47 : wd bA 47 = 0x065c43da#32 := by rw [wd_high _ (by decide)]; simp only [Nat.reduceSub]; rw [abw31, abw40, abw32, abw45]; decide +kernel
theorem abw48 : wd bA 48 = 0xfb3e89cb#32 := by rw [wd_high _ (by decide)]; simp only [Nat.reduceSub]; rw [abw32, abw41, abw33, abw46]; decide +kernel
theorem abw49 : wd bA 49 = 0xcc7617db#32 := by rw [wd_high _ (by decide)]; simp only [Nat.reduceSub]; rw [abw33, abw42, abw34, abw47]; decide +kernel
theorem abw50 : wd bA 50 = 0xb9e66c34#32 := by rw [wd_high _ (by decide)]; simp only [Nat.reduceSub]; rw [abw34, abw43, abw35, abw48]; decide +kernel
theorem abw51 : wd bA 51 = 0xa9993667#32 := by rw [wd_high _ (by decide)]; simp only [Nat.reduceSub]; rw [abw35, abw44, abw36, abw49]; decide +kernel
theorem abw52 : wd bA 52 = 0x84badedd#32 := by rw [wd_high _ (by decide)]; simp only [Nat.reduceSub]; rw [abw36, abw45, abw37, abw50]; decide +kernel
theorem abw53 : wd bA 53 = 0xc21462bc#32 := by rw [wd_high _ (by decide)]; simp only [Nat.reduceSub]; rw [abw37, abw46, abw38, abw51]; decide +kernel
theorem abw54 : wd bA 54 = 0x1487472c#32 := by rw [wd_high _ (by decide)]; simp only [Nat.reduceSub]; rw [abw38, abw47, abw39, abw52]; decide +kernel
theorem abw55 : wd bA 55 = 0xb20f7a99#32 := by rw [wd_high _ (by decide)]; simp only [Nat.reduceSub]; rw [abw39, abw48, abw40, abw53]; decide +kernel
theorem abw56 : wd bA 56 = 0xef57b9cd#32 := by rw [wd_high _ (by decide)]; simp only [Nat.reduceSub]; rw [abw40, abw49, abw41, abw54]; decide +kernel
theorem abw57 : wd bA 57 = 0xebe6b238#32 := by rw [wd_high _ (by decide)]; simp only [Nat.reduceSub]; rw [abw41, abw50, abw42, abw55]; decide +kernel
theorem abw58 : wd bA 58 = 0x9fe3095e#32 := by rw [wd_high _ (by decide)]; simp only [Nat.reduceSub]; rw [abw42, abw51, abw43, abw56]; decide +kernel
theorem abw59 : wd bA 59 = 0x78bc8d4b#32 := by rw [wd_high _ (by decide)]; simp only [Nat.reduceSub]; rw [abw43, abw52, abw44, abw57]; decide +kernel
theorem abw60 : wd bA 60 = 0xa43fcf15#32 := by rw [wd_high _ (by decide)]; simp only [Nat.reduceSub]; rw [abw44, abw53, abw45, abw58]; decide +kernel
theorem abw61 : wd bA 61 = 0x668b2ff8#32 := by rw [wd_high _ (by decide)]; simp only [Nat.reduceSub]; rw [abw45, abw54, abw46, abw59]; decide +kernel
theorem abw62 : wd bA 62 = 0xeeaba2cc#32 := by rw [wd_high _ (by decide)]; simp only [Nat.reduceSub]; rw [abw46, abw55, abw47, abw60]; decide +kernel
theorem abw63 : wd bA 63 = 0x12b1edeb#32 := by rw [wd_high _ (by decide)]; simp only [Nat.reduceSub]; rw [abw47, abw56, abw48, abw61]; decide +kernel
theorem abr0 : At8 (rnd h0F (wd bA) 0) 0x6a09e667#32 0xbb67ae85#32 0x3c6ef372#32 0xa54ff53a#32 0x510e527f#32 0x9b05688c#32 0x1f83d9ab#32 0x5be0cd19#32 := ⟨rfl, rfl, rfl, rfl, rfl, rfl, rfl, rfl⟩
theorem abr1 : At8 (rnd h0F (wd bA) 1) 0x5d6aebcd#32 0x6a09e667#32 0xbb67ae85#32 0x3c6ef372#32 0xfa2a4622#32 0x510e527f#32 0x9b05688c#32 0x1f83d9ab#32 := abr0.step 0x428a2f98#32 0x61626380#32 (by decide +kernel) abw0 0x54da50e8#32 0x5d6aebcd#32 0xfa2a4622#32 (by decide +kernel) (by decide +kernel) (by decide +kernel)
theorem abr2 : At8 (rnd h0F (wd bA) 2) 0x5a6ad9ad#32 0x5d6aebcd#32 0x6a09e667#32 0xbb67ae85#32 0x78ce7989#32 0xfa2a4622#32 0x510e527f#32 0x9b05688c#32 := abr1.step 0x71374491#32 0x00000000#32 (by decide +kernel) abw1 0x3c5f8617#32 0x5a6ad9ad#32 0x78ce7989#32 (by decide +kernel) (by decide +kernel) (by decide +kernel)
theorem abr3 : At8 (rnd h0F (wd bA) 3) 0xc8c347a7#32 0x5a6ad9ad#32 0x5d6aebcd#32 0x6a09e667#32 0xf92939eb#32 0x78ce7989#32 0xfa2a4622#32 0x510e527f#32 := abr2.step 0xb5c0fbcf#32 0x00000000#32 (by decide +kernel) abw2 0x3dc18b66#32 0xc8c347a7#32 0xf92939eb#32 (by decide +kernel) (by decide +kernel) (by decide +kernel)
theorem abr4 : At8 (rnd h0F (wd bA) 4) 0xd550f666#32 0xc8c347a7#32 0x5a6ad9ad#32 0x5d6aebcd#32 0x24e00850#32 0xf92939eb#32 0x78ce7989#32 0xfa2a4622#32 := abr3.step 0xe9b5dba5#32 0x00000000#32 (by decide +kernel) abw3 0xbad621e9#32 0xd550f666#32 0x24e00850#32 (by decide +kernel) (by decide +kernel) (by decide +kernel)
theorem abr5 : At8 (rnd h0F (wd bA) 5) 0x04409a6a#32 0xd550f666#32 0xc8c347a7#32 0x5a6ad9ad#32 0x43ada245#32 0x24e00850#32 0xf92939eb#32 0x78ce7989#32 := abr4.step 0x3956c25b#32 0x00000000#32 (by decide +kernel) abw4 0xe642b678#32 0x04409a6a#32 0x43ada245#32 (by decide +kernel) (by decide +kernel) (by decide +kernel)
theorem abr6 : At8 (rnd h0F (wd bA) 6) 0x2b4209f5#32 0x04409a6a#32 0xd550f666#32 0xc8c347a7#32 0x714260ad#32 0x43ada245#32 0x24e00850#32 0xf92939eb#32 := abr5.step 0x59f111f1#32 0x00000000#32 (by decide +kernel) abw5 0x16d78700#32 0x2b4209f5#32 0x714260ad#32 (by decide +kernel) (by decide +kernel) (by decide +kernel)
theorem abr7 : At8 (rnd h0F (wd bA) 7) 0xe5030380#32 0x2b4209f5#32 0x04409a6a#32 0xd550f666#32 0x9b27a401#32 0x714260ad#32 0x43ada245#32 0x24e00850#32 := abr6.step 0x923f82a4#32 0x00000000#32 (by decide +kernel) abw6 0xd2645c5a#32 0xe5030380#32 0x9b27a401#32 (by decide +kernel) (by decide +kernel) (by decide +kernel)
theorem abr8 : At8 (rnd h0F (wd bA) 8) 0x85a07b5f#32 0xe5030380#32 0x2b4209f5#32 0x04409a6a#32 0x0c657a79#32 0x9b27a401#32 0x714260ad#32 0x43ada245#32 := abr7.step 0xab1c5ed5#32 0x00000000#32 (by decide +kernel) abw7 0x37148413#32 0x85a07b5f#32 0x0c657a79#32 (by decide +kernel) (by decide +kernel) (by decide +kernel)
theorem abr9 : At8 (rnd h0F (wd bA) 9) 0x8e04ecb9#32 0x85a07b5f#32 0xe5030380#32 0x2b4209f5#32 0x32ca2d8c#32 0x0c657a79#32 0x9b27a401#32 0x714260ad#32 := abr8.step 0xd807aa98#32 0x00000000#32 (by decide +kernel) abw8 0x2e899322#32 0x8e04ecb9#32 0x32ca2d8c#32 (by decide +kernel) (by decide +kernel) (by decide +kernel)
theorem abr10 : At8 (rnd h0F (wd bA) 10) 0x8c87346b#32 0x8e04ecb9#32 0x85a07b5f#32 0xe5030380#32 0x1cc92596#32 0x32ca2d8c#32 0x0c657a79#32 0x9b27a401#32 := abr9.step 0x12835b01#32 0x00000000#32 (by decide +kernel) abw9 0xf1871ba1#32 0x8c87346b#32 0x1cc92596#32 (by decide +kernel) (by decide +kernel) (by decide +kernel)
theorem abr11 : At8 (rnd h0F (wd bA) 11) 0x4798a3f4#32 0x8c87346b#32 0x8e04ecb9#32 0x85a07b5f#32 0x436b23e8#32 0x1cc92596#32 0x32ca2d8c#32 0x0c657a79#32 := abr10.step 0x243185be#32 0x00000000#32 (by decide +kernel) abw10 0x5e682068#32 0x4798a3f4#32 0x436b23e8#32 (by decide +kernel) (by decide +kernel) (by decide +kernel)
theorem abr12 : At8 (rnd h0F (wd bA) 12) 0xf71fc5a9#32 0x4798a3f4#32 0x8c87346b#32 0x8e04ecb9#32 0x816fd6e9#32 0x436b23e8#32 0x1cc92596#32 0x32ca2d8c#32 := abr11.step 0x550c7dc3#32 0x00000000#32 (by decide +kernel) abw11 0xfbcf5b8a#32 0xf71fc5a9#32 0x816fd6e9#32 (by decide +kernel) (by decide +kernel) (by decide +kernel)
theorem abr13 : At8 (rnd h0F (wd bA) 13) 0x87912990#32 0xf71fc5a9#32 0x4798a3f4#32 0x8c87346b#32 0x1e578218#32 0x816fd6e9#32 0x436b23e8#32 0x1cc92596#32 := abr12.step 0x72be5d74#32 0x00000000#32 (by decide +kernel) abw12 0x9052955f#32 0x87912990#32 0x1e578218#32 (by decide +kernel) (by decide +kernel) (by decide +kernel)
theorem abr14 : At8 (rnd h0F (wd bA) 14) 0xd932eb16#32 0x87912990#32 0xf71fc5a9#32 0x4798a3f4#32 0x745a48de#32 0x1e578218#32 0x816fd6e9#32 0x436b23e8#32 := abr13.step 0x80deb1fe#32 0x00000000#32 (by decide +kernel) abw13 0xe7d31473#32 0xd932eb16#32 0x745a48de#32 (by decide +kernel) (by decide +kernel) (by decide +kernel)
theorem abr15 : At8 (rnd h0F (wd bA) 15) 0xc0645fde#32 0xd932eb16#32 0x87912990#32 0xf71fc5a9#32 0x0b92f20c#32 0x745a48de#32 0x1e578218#32 0x816fd6e9#32 := abr14.step 0x9bdc06a7#32 0x00000000#32 (by decide +kernel) abw14 0xc3fa4e18#32 0xc0645fde#32 0x0b92f20c#32 (by decide +kernel) (by decide +kernel) (by decide +kernel)
theorem abr16 : At8 (rnd h0F (wd bA) 16) 0xb0fa238e#32 0xc0645fde#32 0xd932eb16#32 0x87912990#32 0x07590dcd#32 0x0b92f20c#32 0x745a48de#32 0x1e578218#32 := abr15.step 0xc19bf174#32 0x00000018#32 (by decide +kernel) abw15 0x10394824#32 0xb0fa238e#32 0x07590dcd#32 (by decide +kernel) (by decide +kernel) (by decide +kernel)
theorem abr17 : At8 (rnd h0F (wd bA) 17) 0x21da9a9b#32 0xb0fa238e#32 0xc0645fde#32 0xd932eb16#32 0x8034229c#32 0x07590dcd#32 0x0b92f20c#32 0x745a48de#32 := abr16.step 0xe49b69c1#32 0x61626380#32 (by decide +kernel) abw16 0xf8a2f90c#32 0x21da9a9b#32 0x8034229c#32 (by decide +kernel) (by decide +kernel) (by decide +kernel)
theorem abr18 : At8 (rnd h0F (wd bA) 18) 0xc2fbd9d1#32 0x21da9a9b#32 0xb0fa238e#32 0xc0645fde#32 0x846ee454#32 0x8034229c#32 0x07590dcd#32 0x0b92f20c#32 := abr17.step 0xefbe4786#32 0x000f0000#32 (by decide +kernel) abw17 0xab3bf93e#32 0xc2fbd9d1#32 0x846ee454#32 (by decide +kernel) (by decide +kernel) (by decide +kernel)
theorem abr19 : At8 (rnd h0F (wd bA) 19) 0xfe777bbf#32 0xc2fbd9d1#32 0x21da9a9b#32 0xb0fa238e#32 0xcc899961#32 0x846ee454#32 0x8034229c#32 0x07590dcd#32 := abr18.step 0x0fc19dc6#32 0x7da86405#32 (by decide +kernel) abw18 0x0c253983#32 0xfe777bbf#32 0xcc899961#32 (by decide +kernel) (by decide +kernel) (by decide +kernel)
theorem abr20 : At8 (rnd h0F (wd bA) 20) 0xe1f20c33#32 0xfe777bbf#32 0xc2fbd9d1#32 0x21da9a9b#32 0xb0638179#32 0xcc899961#32 0x846ee454#32 0x8034229c#32 := abr19.step 0x240ca1cc#32 0x600003c6#32 (by decide +kernel) abw19 0xff695deb#32 0xe1f20c33#32 0xb0638179#32 (by decide +kernel) (by decide +kernel) (by decide +kernel)
theorem abr21 : At8 (rnd h0F (wd bA) 21) 0x9dc68b63#32 0xe1f20c33#32 0xfe777bbf#32 0xc2fbd9d1#32 0x8ada8930#32 0xb0638179#32 0xcc899961#32 0x846ee454#32 := abr20.step 0x2de92c6f#32 0x3e9d7b78#32 (by decide +kernel) abw20 0x68ffee95#32 0x9dc68b63#32 0x8ada8930#32 (by decide +kernel) (by decide +kernel) (by decide +kernel)
theorem abr22 : At8 (rnd h0F (wd bA) 22) 0xc2606d6d#32 0x9dc68b63#32 0xe1f20c33#32 0xfe777bbf#32 0xe1257970#32 0x8ada8930#32 0xb0638179#32 0xcc899961#32 := abr21.step 0x4a7484aa#32 0x0183fc00#32 (by decide +kernel) abw21 0x1e299f9f#32 0xc2606d6d#32 0xe1257970#32 (by decide +kernel) (by decide +kernel) (by decide +kernel)
theorem abr23 : At8 (rnd h0F (wd bA) 23) 0xa7a3623f#32 0xc2606d6d#32 0x9dc68b63#32 0xe1f20c33#32 0x49f5114a#32 0xe1257970#32 0x8ada8930#32 0xb0638179#32 := abr22.step 0x5cb0a9dc#32 0x12dcbfdb#32 (by decide +kernel) abw22 0x4b7d958b#32 0xa7a3623f#32 0x49f5114a#32 (by decide +kernel) (by decide +kernel) (by decide +kernel)
theorem abr24 : At8 (rnd h0F (wd bA) 24) 0xc5d53d8d#32 0xa7a3623f#32 0xc2606d6d#32 0x9dc68b63#32 0xaa47c347#32 0x49f5114a#32 0xe1257970#32 0x8ada8930#32 := abr23.step 0x76f988da#32 0xe2e2c38e#32 (by decide +kernel) abw23 0xc855b714#32 0xc5d53d8d#32 0xaa47c347#32 (by decide +kernel) (by decide +kernel) (by decide +kernel)
theorem abr25 : At8 (rnd h0F (wd bA) 25) 0x1c2c2838#32 0xc5d53d8d#32 0xa7a3623f#32 0xc2606d6d#32 0x2823ef91#32 0xaa47c347#32 0x49f5114a#32 0xe1257970#32 := abr24.step 0x983e5152#32 0xc8215c1a#32 (by decide +kernel) abw24 0x8a5d642e#32 0x1c2c2838#32 0x2823ef91#32 (by decide +kernel) (by decide +kernel) (by decide +kernel)
theorem abr26 : At8 (rnd h0F (wd bA) 26) 0xcde8037d#32 0x1c2c2838#32 0xc5d53d8d#32 0xa7a3623f#32 0x14383d8e#32 0x2823ef91#32 0xaa47c347#32 0x49f5114a#32 := abr25.step 0xa831c66d#32 0xb73679a2#32 (by decide +kernel) abw25 0x51d7d021#32 0xcde8037d#32 0x14383d8e#32 (by decide +kernel) (by decide +kernel) (by decide +kernel)
theorem abr27 : At8 (rnd h0F (wd bA) 27) 0xb62ec4bc#32 0xcde8037d#32 0x1c2c2838#32 0xc5d53d8d#32 0xc74c6516#32 0x14383d8e#32 0x2823ef91#32 0xaa47c347#32 := abr26.step 0xb00327c8#32 0xe5bc3909#32 (by decide +kernel) abw26 0x1fa902d7#32 0xb62ec4bc#32 0xc74c6516#32 (by decide +kernel) (by decide +kernel) (by decide +kernel)
theorem abr28 : At8 (rnd h0F (wd bA) 28) 0x77d37528#32 0xb62ec4bc#32 0xcde8037d#32 0x1c2c2838#32 0xedffbff8#32 0xc74c6516#32 0x14383d8e#32 0x2823ef91#32 := abr27.step 0xbf597fc7#32 0x32663c5b#32 (by decide +kernel) abw27 0x282a826b#32 0x77d37528#32 0xedffbff8#32 (by decide +kernel) (by decide +kernel) (by decide +kernel)
theorem abr29 : At8 (rnd h0F (wd bA) 29) 0x363482c9#32 0x77d37528#32 0xb62ec4bc#32 0xcde8037d#32 0x6112a3b7#32 0xedffbff8#32 0xc74c6516#32 0x14383d8e#32 := abr28.step 0xc6e00bf3#32 0x9d209d67#32 (by decide +kernel) abw28 0x44e67b7f#32 0x363482c9#32 0x6112a3b7#32 (by decide +kernel) (by decide +kernel) (by decide +kernel)
theorem abr30 : At8 (rnd h0F (wd bA) 30) 0xa0060b30#32 0x363482c9#32 0x77d37528#32 0xb62ec4bc#32 0xade79437#32 0x6112a3b7#32 0xedffbff8#32 0xc74c6516#32 := abr29.step 0xd5a79147#32 0xec8726cb#32 (by decide +kernel) abw29 0xdfff90ba#32 0xa0060b30#32 0xade79437#32 (by decide +kernel) (by decide +kernel) (by decide +kernel)
theorem abr31 : At8 (rnd h0F (wd bA) 31) 0xea992a22#32 0xa0060b30#32 0x363482c9#32 0x77d37528#32 0x0109ab3a#32 0xade79437#32 0x6112a3b7#32 0xedffbff8#32 := abr30.step 0x06ca6351#32 0x702138a4#32 (by decide +kernel) abw30 0x4adae67e#32 0xea992a22#32 0x0109ab3a#32 (by decide +kernel) (by decide +kernel) (by decide +kernel)
theorem abr32 : At8 (rnd h0F (wd bA) 32) 0x73b33bf5#32 0xea992a22#32 0xa0060b30#32 0x363482c9#32 0xba591112#32 0x0109ab3a#32 0xade79437#32 0x6112a3b7#32 := abr31.step 0x14292967#32 0xd3b7973b#32 (by decide +kernel) abw31 0x42859bea#32 0x73b33bf5#32 0xba591112#32 (by decide +kernel) (by decide +kernel) (by decide +kernel)
theorem abr33 : At8 (rnd h0F (wd bA) 33) 0x98e12507#32 0x73b33bf5#32 0xea992a22#32 0xa0060b30#32 0x9cd9f5f6#32 0xba591112#32 0x0109ab3a#32 0xade79437#32 := abr32.step 0x27b70a85#32 0x93f5997f#32 (by decide +kernel) abw32 0x66a5732d#32 0x98e12507#32 0x9cd9f5f6#32 (by decide +kernel) (by decide +kernel) (by decide +kernel)
theorem abr34 : At8 (rnd h0F (wd bA) 34) 0xfe604df5#32 0x98e12507#32 0x73b33bf5#32 0xea992a22#32 0x59249dd3#32 0x9cd9f5f6#32 0xba591112#32 0x0109ab3a#32 := abr33.step 0x2e1b2138#32 0x3b68ba73#32 (by decide +kernel) abw33 0xb91e92a3#32 0xfe604df5#32 0x59249dd3#32 (by decide +kernel) (by decide +kernel) (by decide +kernel)
theorem abr35 : At8 (rnd h0F (wd bA) 35) 0xa9a7738c#32 0xfe604df5#32 0x98e12507#32 0x73b33bf5#32 0x085f3833#32 0x59249dd3#32 0x9cd9f5f6#32 0xba591112#32 := abr34.step 0x4d2c6dfc#32 0xaff4ffc1#32 (by decide +kernel) abw34 0x1dc60e11#32 0xa9a7738c#32 0x085f3833#32 (by decide +kernel) (by decide +kernel) (by decide +kernel)
theorem abr36 : At8 (rnd h0F (wd bA) 36) 0x65a0cfe4#32 0xa9a7738c#32 0xfe604df5#32 0x98e12507#32 0xf4b002d6#32 0x085f3833#32 0x59249dd3#32 0x9cd9f5f6#32 := abr35.step 0x53380d13#32 0xf10a5c62#32 (by decide +kernel) abw35 0x80fcc6e1#32 0x65a0cfe4#32 0xf4b002d6#32 (by decide +kernel) (by decide +kernel) (by decide +kernel)
theorem abr37 : At8 (rnd h0F (wd bA) 37) 0x41a65cb1#32 0x65a0cfe4#32 0xa9a7738c#32 0xfe604df5#32 0x0772a26b#32 0xf4b002d6#32 0x085f3833#32 0x59249dd3#32 := abr36.step 0x650a7354#32 0x0a8b3996#32 (by decide +kernel) abw36 0x6e917d64#32 0x41a65cb1#32 0x0772a26b#32 (by decide +kernel) (by decide +kernel) (by decide +kernel)
theorem abr38 : At8 (rnd h0F (wd bA) 38) 0x34df1604#32 0x41a65cb1#32 0x65a0cfe4#32 0xa9a7738c#32 0xa507a53d#32 0x0772a26b#32 0xf4b002d6#32 0x085f3833#32 := abr37.step 0x766a0abb#32 0x72af830a#32 (by decide +kernel) abw37 0xa6a75748#32 0x34df1604#32 0xa507a53d#32 (by decide +kernel) (by decide +kernel) (by decide +kernel)
theorem abr39 : At8 (rnd h0F (wd bA) 39) 0x6dc57a8a#32 0x34df1604#32 0x41a65cb1#32 0x65a0cfe4#32 0xf0781bc8#32 0xa507a53d#32 0x0772a26b#32 0xf4b002d6#32 := abr38.step 0x81c2c92e#32 0x9409e33e#32 (by decide +kernel) abw38 0x46d0a83c#32 0x6dc57a8a#32 0xf0781bc8#32 (by decide +kernel) (by decide +kernel) (by decide +kernel)
theorem abr40 : At8 (rnd h0F (wd bA) 40) 0x79ea687a#32 0x6dc57a8a#32 0x34df1604#32 0x41a65cb1#32 0x1efbc0a0#32 0xf0781bc8#32 0xa507a53d#32 0x0772a26b#32 := abr39.step 0x92722c85#32 0x24641522#32 (by decide +kernel) abw39 0xb95af0bc#32 0x79ea687a#32 0x1efbc0a0#32 (by decide +kernel) (by decide +kernel) (by decide +kernel)
theorem abr41 : At8 (rnd h0F (wd bA) 41) 0xd6670766#32 0x79ea687a#32 0x6dc57a8a#32 0x34df1604#32 0x26352d63#32 0x1efbc0a0#32 0xf0781bc8#32 0xa507a53d#32 := abr40.step 0xa2bfe8a1#32 0x9f47bf94#32 (by decide +kernel) abw40 0xe48ed0b2#32 0xd6670766#32 0x26352d63#32 (by decide +kernel) (by decide +kernel) (by decide +kernel)
theorem abr42 : At8 (rnd h0F (wd bA) 42) 0xdf46652f#32 0xd6670766#32 0x79ea687a#32 0x6dc57a8a#32 0x838b2711#32 0x26352d63#32 0x1efbc0a0#32 0xf0781bc8#32 := abr41.step 0xa81a664b#32 0xf0a64f5a#32 (by decide +kernel) abw41 0x4eac110d#32 0xdf46652f#32 0x838b2711#32 (by decide +kernel) (by decide +kernel) (by decide +kernel)
theorem abr43 : At8 (rnd h0F (wd bA) 43) 0x17aa0dfe#32 0xdf46652f#32 0xd6670766#32 0x79ea687a#32 0xdecd4715#32 0x838b2711#32 0x26352d63#32 0x1efbc0a0#32 := abr42.step 0xc24b8b70#32 0x3e246a79#32 (by decide +kernel) abw42 0x7107cc8b#32 0x17aa0dfe#32 0xdecd4715#32 (by decide +kernel) (by decide +kernel) (by decide +kernel)
theorem abr44 : At8 (rnd h0F (wd bA) 44) 0x9d4baf93#32 0x17aa0dfe#32 0xdf46652f#32 0xd6670766#32 0xfda24c2e#32 0xdecd4715#32 0x838b2711#32 0x26352d63#32 := abr43.step 0xc76c51a3#32 0x27333ba3#32 (by decide +kernel) abw43 0x83b7e3b4#32 0x9d4baf93#32 0xfda24c2e#32 (by decide +kernel) (by decide +kernel) (by decide +kernel)
theorem abr45 : At8 (rnd h0F (wd bA) 45) 0x26628815#32 0x9d4baf93#32 0x17aa0dfe#32 0xdf46652f#32 0xa80f11f0#32 0xfda24c2e#32 0xdecd4715#32 0x838b2711#32 := abr44.step 0xd192e819#32 0x0c4763f2#32 (by decide +kernel) abw44 0xd1a80a8a#32 0x26628815#32 0xa80f11f0#32 (by decide +kernel) (by decide +kernel) (by decide +kernel)
theorem abr46 : At8 (rnd h0F (wd bA) 46) 0x72ab4b91#32 0x26628815#32 0x9d4baf93#32 0x17aa0dfe#32 0xb7755da1#32 0xa80f11f0#32 0xfda24c2e#32 0xdecd4715#32 := abr45.step 0xd6990624#32 0x840abf27#32 (by decide +kernel) abw45 0xd82ef872#32 0x72ab4b91#32 0xb7755da1#32 (by decide +kernel) (by decide +kernel) (by decide +kernel)
theorem abr47 : At8 (rnd h0F (wd bA) 47) 0xa14c14b0#32 0x72ab4b91#32 0x26628815#32 0x9d4baf93#32 0xd57b94a9#32 0xb7755da1#32 0xa80f11f0#32 0xfda24c2e#32 := abr46.step 0xf40e3585#32 0x7a290d5d#32 (by decide +kernel) abw46 0xbdd186ab#32 0xa14c14b0#32 0xd57b94a9#32 (by decide +kernel) (by decide +kernel) (by decide +kernel)
theorem abr48 : At8 (rnd h0F (wd bA) 48) 0x4172328d#32 0xa14c14b0#32 0x72ab4b91#32 0x26628815#32 0xfecf0bc6#32 0xd57b94a9#32 0xb7755da1#32 0xa80f11f0#32 := abr47.step 0x106aa070#32 0x065c43da#32 (by decide +kernel) abw47 0x61835c33#32 0x4172328d#32 0xfecf0bc6#32 (by decide +kernel) (by decide +kernel) (by decide +kernel)
theorem abr49 : At8 (rnd h0F (wd bA) 49) 0x05757ceb#32 0x4172328d#32 0xa14c14b0#32 0x72ab4b91#32 0xbd714038#32 0xfecf0bc6#32 0xd57b94a9#32 0xb7755da1#32 := abr48.step 0x19a4c116#32 0xfb3e89cb#32 (by decide +kernel) abw48 0x970eb823#32 0x05757ceb#32 0xbd714038#32 (by decide +kernel) (by decide +kernel) (by decide +kernel)
theorem abr50 : At8 (rnd h0F (wd bA) 50) 0xf11bfaa8#32 0x05757ceb#32 0x4172328d#32 0xa14c14b0#32 0x6e5c390c#32 0xbd714038#32 0xfecf0bc6#32 0xd57b94a9#32 := abr49.step 0x1e376c08#32 0xcc7617db#32 (by decide +kernel) abw49 0xfbb0ed7b#32 0xf11bfaa8#32 0x6e5c390c#32 (by decide +kernel) (by decide +kernel) (by decide +kernel)
theorem abr51 : At8 (rnd h0F (wd bA) 51) 0x7a0508a1#32 0xf11bfaa8#32 0x05757ceb#32 0x4172328d#32 0x52f1ccf7#32 0x6e5c390c#32 0xbd714038#32 0xfecf0bc6#32 := abr50.step 0x2748774c#32 0xb9e66c34#32 (by decide +kernel) abw50 0xb1a5b847#32 0x7a0508a1#32 0x52f1ccf7#32 (by decide +kernel) (by decide +kernel) (by decide +kernel)
theorem abr52 : At8 (rnd h0F (wd bA) 52) 0x886e7a22#32 0x7a0508a1#32 0xf11bfaa8#32 0x05757ceb#32 0x49231c1e#32 0x52f1ccf7#32 0x6e5c390c#32 0xbd714038#32 := abr51.step 0x34b0bcb5#32 0xa9993667#32 (by decide +kernel) abw51 0x07b0e991#32 0x886e7a22#32 0x49231c1e#32 (by decide +kernel) (by decide +kernel) (by decide +kernel)
theorem abr53 : At8 (rnd h0F (wd bA) 53) 0x101fd28f#32 0x886e7a22#32 0x7a0508a1#32 0xf11bfaa8#32 0x529e7d00#32 0x49231c1e#32 0x52f1ccf7#32 0x6e5c390c#32 := abr52.step 0x391c0cb3#32 0x84badedd#32 (by decide +kernel) abw52 0x4d290015#32 0x101fd28f#32 0x529e7d00#32 (by decide +kernel) (by decide +kernel) (by decide +kernel)
theorem abr54 : At8 (rnd h0F (wd bA) 54) 0xf5702fdb#32 0x101fd28f#32 0x886e7a22#32 0x7a0508a1#32 0x9f4787c3#32 0x529e7d00#32 0x49231c1e#32 0x52f1ccf7#32 := abr53.step 0x4ed8aa4a#32 0xc21462bc#32 (by decide +kernel) abw53 0xae2b8d1b#32 0xf5702fdb#32 0x9f4787c3#32 (by decide +kernel) (by decide +kernel) (by decide +kernel)
theorem abr55 : At8 (rnd h0F (wd bA) 55) 0x3ec45cdb#32 0xf5702fdb#32 0x101fd28f#32 0x886e7a22#32 0xe50e1b4f#32 0x9f4787c3#32 0x529e7d00#32 0x49231c1e#32 := abr54.step 0x5b9cca4f#32 0x1487472c#32 (by decide +kernel) abw54 0x6b0912ae#32 0x3ec45cdb#32 0xe50e1b4f#32 (by decide +kernel) (by decide +kernel) (by decide +kernel)
theorem abr56 : At8 (rnd h0F (wd bA) 56) 0x38cc9913#32 0x3ec45cdb#32 0xf5702fdb#32 0x101fd28f#32 0x54cb266b#32 0xe50e1b4f#32 0x9f4787c3#32 0x529e7d00#32 := abr55.step 0x682e6ff3#32 0xb20f7a99#32 (by decide +kernel) abw55 0xcc5cac49#32 0x38cc9913#32 0x54cb266b#32 (by decide +kernel) (by decide +kernel) (by decide +kernel)
theorem abr57 : At8 (rnd h0F (wd bA) 57) 0xfcd1887b#32 0x38cc9913#32 0x3ec45cdb#32 0xf5702fdb#32 0x9b5e906c#32 0x54cb266b#32 0xe50e1b4f#32 0x9f4787c3#32 := abr56.step 0x748f82ee#32 0xef57b9cd#32 (by decide +kernel) abw56 0x8b3ebddd#32 0xfcd1887b#32 0x9b5e906c#32 (by decide +kernel) (by decide +kernel) (by decide +kernel)
theorem abr58 : At8 (rnd h0F (wd bA) 58) 0xc062d46f#32 0xfcd1887b#32 0x38cc9913#32 0x3ec45cdb#32 0x7e44008e#32 0x9b5e906c#32 0x54cb266b#32 0xe50e1b4f#32 := abr57.step 0x78a5636f#32 0xebe6b238#32 (by decide +kernel) abw57 0x88d3d0b3#32 0xc062d46f#32 0x7e44008e#32 (by decide +kernel) (by decide +kernel) (by decide +kernel)
theorem abr59 : At8 (rnd h0F (wd bA) 59) 0xffb70472#32 0xc062d46f#32 0xfcd1887b#32 0x38cc9913#32 0x6d83bfc6#32 0x7e44008e#32 0x9b5e906c#32 0x54cb266b#32 := abr58.step 0x84c87814#32 0x9fe3095e#32 (by decide +kernel) abw58 0x2ebf62eb#32 0xffb70472#32 0x6d83bfc6#32 (by decide +kernel) (by decide +kernel) (by decide +kernel)
theorem abr60 : At8 (rnd h0F (wd bA) 60) 0xb6ae8fff#32 0xffb70472#32 0xc062d46f#32 0xfcd1887b#32 0xb21bad3d#32 0x6d83bfc6#32 0x7e44008e#32 0x9b5e906c#32 := abr59.step 0x8cc70208#32 0x78bc8d4b#32 (by decide +kernel) abw59 0x794f142a#32 0xb6ae8fff#32 0xb21bad3d#32 (by decide +kernel) (by decide +kernel) (by decide +kernel)
theorem abr61 : At8 (rnd h0F (wd bA) 61) 0xb85e2ce9#32 0xb6ae8fff#32 0xffb70472#32 0xc062d46f#32 0x961f4894#32 0xb21bad3d#32 0x6d83bfc6#32 0x7e44008e#32 := abr60.step 0x90befffa#32 0xa43fcf15#32 (by decide +kernel) abw60 0x994dc019#32 0xb85e2ce9#32 0x961f4894#32 (by decide +kernel) (by decide +kernel) (by decide +kernel)
theorem abr62 : At8 (rnd h0F (wd bA) 62) 0x04d24d6c#32 0xb85e2ce9#32 0xb6ae8fff#32 0xffb70472#32 0x948d25b6#32 0x961f4894#32 0xb21bad3d#32 0x6d83bfc6#32 := abr61.step 0xa4506ceb#32 0x668b2ff8#32 (by decide +kernel) abw61 0xd42a5147#32 0x04d24d6c#32 0x948d25b6#32 (by decide +kernel) (by decide +kernel) (by decide +kernel)
theorem abr63 : At8 (rnd h0F (wd bA) 63) 0xd39a2165#32 0x04d24d6c#32 0xb85e2ce9#32 0xb6ae8fff#32 0xfb121210#32 0x948d25b6#32 0x961f4894#32 0xb21bad3d#32 := abr62.step 0xbef9a3f7#32 0xeeaba2cc#32 (by decide +kernel) abw62 0xfb5b0d9e#32 0xd39a2165#32 0xfb121210#32 (by decide +kernel) (by decide +kernel) (by decide +kernel)
theorem abr64 : At8 (rnd h0F (wd bA) 64) 0x506e3058#32 0xd39a2165#32 0x04d24d6c#32 0xb85e2ce9#32 0x5ef50f24#32 0xfb121210#32 0x948d25b6#32 0x961f4894#32 := abr63.step 0xc67178f2#32 0x12b1edeb#32 (by decide +kernel) abw63 0xa8467f25#32 0x506e3058#32 0x5ef50f24#32 (by decide +kernel) (by decide +kernel) (by decide +kernel)
def abS (i : Nat) : BitVec 32 := [0xba7816bf#32, 0x8f01cfea#32, 0x414140de#32, 0x5dae2223#32, 0xb00361a3#32, 0x96177a9c#32, 0xb410ff61#32, 0xf20015ad#32].getD i 0
theorem ab_fin (i : Nat) (hi : i < 8) : blkS h0F (wd bA) i = abS i := by
  have h : i = 0 ∨ i = 1 ∨ i = 2 ∨ i = 3 ∨ i = 4 ∨ i = 5 ∨ i = 6 ∨ i = 7 := by omega
  unfold blkS
  rcases h with rfl | rfl | rfl | rfl | rfl | rfl | rfl | rfl
  · rw [abr64.s0]; decide +kernel
  · rw [abr64.s1]; decide +kernel
  · rw [abr64.s2]; decide +kernel
  · rw [abr64.s3]; decide +kernel
  · rw [abr64.s4]; decide +kernel
  · rw [abr64.s5]; decide +kernel
  · rw [abr64.s6]; decide +kernel
  · rw [abr64.s7]; decide +kernel
def abcD : List UInt8 := [186, 120, 22, 191, 143, 1, 207, 234, 65, 65, 64, 222, 93, 174, 34, 35, 176, 3, 97, 163, 150, 23, 122, 156, 180, 16, 255, 97, 242, 0, 21, 173]
theorem dg_abc : dg [97, 98, 99] = abcD := by
  have e : dg [97, 98, 99] = row 32 (dgB (blkS h0F (wd bA))) := rfl
  rw [e, row_congr (g := dgB abS) (fun j hj => by unfold dgB; rw [ab_fin _ (by omega)])]
  decide +kernel
end Go.Proofs.Ytdgkcgiknfjpjaa
/- dig: what is summed up stays as it is and sums up to the same again. -/
namespace Go.Proofs.Ytdgkcgiknfjpjaa
set_option linter.unusedVariables false
set_option linter.unusedSimpArgs false
open Go Go.RowKit
theorem Rd.gr {w w' : World} {A : Option Addr} {l : List UInt8} (hr : Gr w w') (h : Hid (Rd w w.heap.size A l)) : Hid (Rd w' w'.heap.size A l) := Lib.hid (h.out.up hr)
theorem Gr.on {a w w' : World} (hr : Gr w w') (h : Hid (Gr a w)) : Hid (Gr a w') := Lib.hid (h.out.trans hr)
theorem of_p (A : Option Addr) (n c : Nat) (l : List UInt8) (hl : Hid (l.length = n)) (hn : n ≤ 100000) (w : World) (h : Hid (Rd w w.heap.size A l)) (d : List UInt8) (hd : Hid (dg l = d)) :
    Calls Try.prog 44 #[.slice A n c] w fun e w' => e = .returned (.string (bs d)) ∧ Gr w w' := by
  rw [← hd.out]
  exact of_any A n c l hl hn w h
end Go.Proofs.Ytdgkcgiknfjpjaa
/- dig: the reference's small functions; identities on words; slices of words. -/
namespace Go.Proofs.Ytdgkcgiknfjpjaa
set_option linter.unusedVariables false
set_option linter.unusedSimpArgs false
open Go Go.RowKit
/-! ### identities -/
theorem ch_eq (e f g : BitVec 32) : g ^^^ e &&& (f ^^^ g) = ch3w e f g := by
  unfold ch3w
  refine BitVec.eq_of_getLsbD_eq (fun i hi => ?_)
  simp only [BitVec.getLsbD_xor, BitVec.getLsbD_and, BitVec.getLsbD_not, hi, decide_true, Bool.true_and]
  generalize e.getLsbD i = p; generalize f.getLsbD i = q; generalize g.getLsbD i = r
  revert p q r; decide
theorem mj_eq (a b c : BitVec 32) : a &&& (b ||| c) ||| b &&& c = mj3w a b c := by
  unfold mj3w
  refine BitVec.eq_of_getLsbD_eq (fun i hi => ?_)
  simp only [BitVec.getLsbD_xor, BitVec.getLsbD_and, BitVec.getLsbD_or]
  generalize a.getLsbD i = p; generalize b.getLsbD i = q; generalize c.getLsbD i = r
  revert p q r; decide
theorem zx_toNat (x : UInt8) : (zx32 x).toNat = x.toNat := by
  have := x.toNat_lt
  unfold zx32
  rw [BitVec.toNat_setWidth, UInt8.toNat_toBitVec]; omega
/-- the first i bytes of a number -/
def part4 (b : Nat → UInt8) (o : Nat) : Nat → BitVec 32
  | 0 => 0
  | i + 1 => part4 b o i <<< 8 + zx32 (b (o + i))
theorem or_add (a b k : Nat) (hb : b < 2 ^ k) : a <<< k ||| b = a * 2 ^ k + b := by rw [← Nat.shiftLeft_add_eq_or_of_lt hb, Nat.shiftLeft_eq]
set_option maxRecDepth 10000 in
theorem part4_four (b : Nat → UInt8) (o : Nat) : part4 b o 4 = big4 b o := by
  have h0 := (b o).toNat_lt
  have h1 := (b (o + 1)).toNat_lt
  have h2 := (b (o + 2)).toNat_lt
  have h3 := (b (o + 3)).toNat_lt
  apply BitVec.eq_of_toNat_eq
  show (((((0 : BitVec 32) <<< 8 + zx32 (b (o + 0))) <<< 8 + zx32 (b (o + 1))) <<< 8 + zx32 (b (o + 2))) <<< 8 + zx32 (b (o + 3))).toNat = _
  unfold big4
  simp only [BitVec.toNat_add, BitVec.toNat_shiftLeft, BitVec.toNat_or, zx_toNat, Nat.shiftLeft_eq, Nat.add_zero]
  generalize (b o).toNat = p0 at *; generalize (b (o + 1)).toNat = p1 at *; generalize (b (o + 2)).toNat = p2 at *; generalize (b (o + 3)).toNat = p3 at *
  have e1 : p0 * 2 ^ 24 % 2 ^ 32 = p0 * 2 ^ 24 := Nat.mod_eq_of_lt (by omega)
  have e2 : p1 * 2 ^ 16 % 2 ^ 32 = p1 * 2 ^ 16 := Nat.mod_eq_of_lt (by omega)
  have e3 : p2 * 2 ^ 8 % 2 ^ 32 = p2 * 2 ^ 8 := Nat.mod_eq_of_lt (by omega)
  rw [e1, e2, e3]
  have f1 : p0 * 2 ^ 24 ||| p1 * 2 ^ 16 = p0 * 2 ^ 24 + p1 * 2 ^ 16 := by
    have := or_add p0 (p1 * 2 ^ 16) 24 (by omega)
    rwa [Nat.shiftLeft_eq] at this
  have f2 : p0 * 2 ^ 24 + p1 * 2 ^ 16 ||| p2 * 2 ^ 8 = p0 * 2 ^ 24 + p1 * 2 ^ 16 + p2 * 2 ^ 8 := by
    have := or_add (p0 * 2 ^ 8 + p1) (p2 * 2 ^ 8) 16 (by omega)
    rw [Nat.shiftLeft_eq, show (p0 * 2 ^ 8 + p1) * 2 ^ 16 = p0 * 2 ^ 24 + p1 * 2 ^ 16 from by omega] at this
    exact this
  have f3 : p0 * 2 ^ 24 + p1 * 2 ^ 16 + p2 * 2 ^ 8 ||| p3 = p0 * 2 ^ 24 + p1 * 2 ^ 16 + p2 * 2 ^ 8 + p3 := by
    have := or_add (p0 * 2 ^ 16 + p1 * 2 ^ 8 + p2) p3 8 (by omega)
    rw [Nat.shiftLeft_eq, show (p0 * 2 ^ 16 + p1 * 2 ^ 8 + p2) * 2 ^ 8 = p0 * 2 ^ 24 + p1 * 2 ^ 16 + p2 * 2 ^ 8 from by omega] at this
    exact this
  rw [f1, f2, f3]
  omega
/-- the ring of sixteen behind n rounds -/
def rg (b : Nat → UInt8) (n j : Nat) : BitVec 32 := if j < n then wd b (j + 16 * ((n - 1 - j) / 16)) else 0
theorem rg_zero (b : Nat → UInt8) : rg b 0 = fun _ => 0 := by funext j; simp [rg]
theorem rg_at {b : Nat → UInt8} {n m : Nat} (hm : m < n) (h : n ≤ m + 16) : rg b n (m % 16) = wd b m := by
  unfold rg
  have h1 : m % 16 < n := by omega
  have h2 : m % 16 + 16 * ((n - 1 - m % 16) / 16) = m := by omega
  rw [if_pos h1, h2]
theorem rg_succ (b : Nat → UInt8) {n j : Nat} (hj : j < 16) : rg b (n + 1) j = if j = n % 16 then wd b n else rg b n j := by
  unfold rg
  by_cases h : j = n % 16
  · have h1 : j < n + 1 := by omega
    have h2 : j + 16 * ((n + 1 - 1 - j) / 16) = n := by omega
    rw [if_pos h, if_pos h1, h2]
  · rw [if_neg h]
    by_cases h1 : j < n
    · have h2 : (n + 1 - 1 - j) / 16 = (n - 1 - j) / 16 := by omega
      rw [if_pos h1, if_pos (by omega), h2]
    · rw [if_neg h1, if_neg (by omega)]
/-! ### a slice of words -/
/-- block g begins with n words -/
def Av (w : World) (g n : Nat) (f : Nat → BitVec 32) : Prop := ∃ cs : Array Value, w.heap[g]? = some (.cells cs 86 (0, 0)) ∧ n ≤ cs.size ∧ ∀ i, i < n → cs[i]? = some (.int .u32 (W (f i)))
theorem Av.lt {w : World} {g n : Nat} {f : Nat → BitVec 32} (h : Av w g n f) : g < w.heap.size := by obtain ⟨cs, h, -⟩ := h; exact (Array.getElem?_eq_some_iff.mp h).1
theorem Av.at {w : World} {g n : Nat} {f : Nat → BitVec 32} (h : Av w g n f) {i : Nat} (hi : i < n) : w.cell? ⟨g, i, none⟩ = some (.int .u32 (W (f i))) := by
  obtain ⟨cs, h1, h2, h3⟩ := h
  exact blk_cell h1 (h3 i hi)
theorem Av.free {w : World} {g n : Nat} {f : Nat → BitVec 32} (h : Av w g n f) (i : Nat) : w.frozen? ⟨g, i, none⟩ = false := by
  obtain ⟨cs, h1, -⟩ := h
  exact blk_free h1 i
theorem Av.set {w : World} {g n : Nat} {f : Nat → BitVec 32} (h : Av w g n f) {i : Nat} (hi : i < n) (x : BitVec 32) : Av (w.setCell ⟨g, i, none⟩ (.int .u32 (W x))) g n (fun k => if k = i then x else f k) := by
  obtain ⟨cs, h1, h2, h3⟩ := h
  refine ⟨_, blk_set h1 i _, by simpa using h2, fun k hk => ?_⟩
  rw [Array.getElem?_setIfInBounds]
  by_cases e : i = k
  · subst e; rw [if_pos rfl, if_pos (by omega)]; simp
  · rw [if_neg e, show (fun k => if k = i then x else f k) k = f k from if_neg (fun q => e q.symm)]; exact h3 k hk
theorem Av.other {w w' : World} {g n : Nat} {f : Nat → BitVec 32} (h : Av w g n f) (e : w'.heap[g]? = w.heap[g]?) : Av w' g n f := by
  obtain ⟨cs, h1, h2⟩ := h
  exact ⟨cs, e.trans h1, h2⟩
theorem Av.below {w w' : World} {B g n : Nat} {f : Nat → BitVec 32} (h : Av w g n f) (hb : Below B w w') (hg : g < B) : Av w' g n f := h.other (hb.block g hg)
theorem Av.gr {w w' : World} {g n : Nat} {f : Nat → BitVec 32} (hr : Gr w w') (h : Hid (Av w g n f)) : Hid (Av w' g n f) := Lib.hid (h.out.below hr h.out.lt)
theorem Av.congr {w : World} {g n : Nat} {f f' : Nat → BitVec 32} (h : Av w g n f) (e : ∀ k, k < n → f k = f' k) : Av w g n f' := by
  obtain ⟨cs, h1, h2, h3⟩ := h
  exact ⟨cs, h1, h2, fun i hi => by rw [← e i hi]; exact h3 i hi⟩
theorem Ar.av {w : World} {g n : Nat} {f : Nat → BitVec 32} (h : Ar w g 86 n f) : Av w g n f := ⟨_, h, by simp [wcells_length], fun i hi => by rw [List.getElem?_toArray]; exact wcells_get hi f⟩
theorem Av.setCell_other {w : World} {g g' n : Nat} {f : Nat → BitVec 32} (h : Av w g n f) (hne : g ≠ g') (i : Nat) (v : Value) : Av (w.setCell ⟨g', i, none⟩ v) g n f := h.other (setCells_other hne [v] i w).1
theorem Av.reads {w : World} {g n : Nat} {f : Nat → BitVec 32} (h : Av w g n f) : Reads w w.heap.size 1 (some ⟨g, 0, none⟩) n (wcells n f) := by
  refine ⟨by rw [wcells_length]; omega, fun _ => ⟨_, rfl, h.lt, fun j u hu => ?_⟩⟩
  have hj : j < n := by have := (List.getElem?_eq_some_iff.mp hu).1; rwa [wcells_length] at this
  rw [wcells_get hj] at hu
  injection hu with hu
  subst hu
  have e : ((⟨g, 0, none⟩ : Addr).add j) = ⟨g, j, none⟩ := by rw [Addr.add_mid]; simp
  rw [e]
  exact h.at hj
theorem info_u32 : (Try.prog.info? 86).map (fun i => (i.zero, i.size, i.bytes)) = some (some (.int .u32 0), 1, 4) := by kernel_rfl
/-- a copy of n words, onto an empty slice -/
theorem wpl_copy32 {w : World} {ops : Array Oper} {rest : List Oper} {o : Oper} {a : Act} {Q : Exit → Act → World → Prop} (hgd : o.guard = none) (s x : Operand)
    (ho : o.op = .call { callee := .builtin .append, args := #[s, x], argTypes := #[110, 110] })
    (base g n c : Nat) (f : Nat → BitVec 32) (hn1 : 1 ≤ n) (hn : n ≤ 1000) (v : Value) (hs : a.eval s = v) (hown : w.ownsRow base 86 1 v 0 []) (hx : a.eval x = .slice (some ⟨g, 0, none⟩) n c) (hr : Av w g n f) (hbase : base ≤ w.heap.size)
    (h : ∀ g' c' w', Av w' g' n f → base ≤ g' → n ≤ c' → Below base w w' → wpList Try.prog ops Q rest (a.put o.dst (.slice (some ⟨g', 0, none⟩) n c')) w') : wpList Try.prog ops Q (o :: rest) a w := by
  obtain ⟨i0, hi, hz0, hz1, hz2⟩ := info_parts info_u32
  refine wpList_plain hgd fun _ hK => wp_append_any w s x 110 ho base 86 i0 _ 1 4 Try.underlying110 hi hz0 hz1 hz2 rfl (by omega) v 0 [] hs hown w.heap.size (some ⟨g, 0, none⟩) n c (wcells n f) hx hr.reads (wcells_one n f)
    (by simp only [maxLen]; omega) (by omega) hbase fun v' w' h2 h3 h4 => hK _ _ ?_
  have h2' := h2
  rw [Nat.zero_add, List.nil_append] at h2'
  rcases h2'.2 with ⟨-, hn⟩ | ⟨g', cap, cur, rfl, hb, hg, hnc, hcm, hcs, ht⟩
  · omega
  · refine h g' cap w' ⟨cur, hg, by omega, fun i hi => ?_⟩ hb hnc ((Below.refl base w).grown h3 hbase (World.ownsRow.lt hown · · |>.1))
    have h9 : (cur.toList.take (n * 1))[i]? = some (.int .u32 (W (f i))) := by rw [ht]; exact wcells_get hi f
    rw [List.getElem?_take, if_pos (by omega)] at h9
    simpa using h9
end Go.Proofs.Ytdgkcgiknfjpjaa
/- dig: the reference's stone, back, at. -/
namespace Go.Proofs.Ytdgkcgiknfjpjaa
set_option linter.unusedVariables false
set_option linter.unusedSimpArgs false
open Go Go.RowKit
set_option maxHeartbeats 4000000 in
set_option maxRecDepth 20000 in
theorem stone_any (n : Nat) (hn : n < 64) (w : World) : Calls Try.prog 71 #[.int .i64 n] w fun e w' => e = .returned (.int .u32 (W (kF n))) ∧ Gr w w' := by
  have hA := (Ar.new w 86 64 kF).at hn
  have hq : Gr w (w.alloc (.cells (wcells 64 kF).toArray 86)) := (Below.refl _ w).alloc (Nat.le_refl _) _
  have i1 : (n : Int) < 64 := by omega
  go_enter Try.func71, Try.ntmps71
  go_upto_region 2 with (fail)
  rw [kcells]
  generalize w.alloc (.cells (wcells 64 kF).toArray 86) = w1 at hA hq ⊢
  replace hq := Lib.hid hq
  go_wp2_with fail
  go_ret
  exact ⟨rfl, hq.out⟩
set_option maxHeartbeats 4000000 in
theorem back_2 (x : BitVec 32) (w : World) : Calls Try.prog 70 #[.int .u32 (W x), .int .i64 2] w fun e w' => e = .returned (.int .u32 (W (tn 2 x))) ∧ w' = w := by
  go_enter Try.func70, Try.ntmps70
  have hm : IntKind.i64.wrap (32 - 2) = 30 := by decide
  have hs : IntKind.u64.wrap 30 = 30 := by decide
  have hs2 : IntKind.u64.wrap 2 = 2 := by decide
  go_wp2
  go_ret
  exact ⟨rfl, rfl⟩
set_option maxHeartbeats 4000000 in
theorem back_6 (x : BitVec 32) (w : World) : Calls Try.prog 70 #[.int .u32 (W x), .int .i64 6] w fun e w' => e = .returned (.int .u32 (W (tn 6 x))) ∧ w' = w := by
  go_enter Try.func70, Try.ntmps70
  have hm : IntKind.i64.wrap (32 - 6) = 26 := by decide
  have hs : IntKind.u64.wrap 26 = 26 := by decide
  have hs2 : IntKind.u64.wrap 6 = 6 := by decide
  go_wp2
  go_ret
  exact ⟨rfl, rfl⟩
set_option maxHeartbeats 4000000 in
theorem back_7 (x : BitVec 32) (w : World) : Calls Try.prog 70 #[.int .u32 (W x), .int .i64 7] w fun e w' => e = .returned (.int .u32 (W (tn 7 x))) ∧ w' = w := by
  go_enter Try.func70, Try.ntmps70
  have hm : IntKind.i64.wrap (32 - 7) = 25 := by decide
  have hs : IntKind.u64.wrap 25 = 25 := by decide
  have hs2 : IntKind.u64.wrap 7 = 7 := by decide
  go_wp2
  go_ret
  exact ⟨rfl, rfl⟩
set_option maxHeartbeats 4000000 in
theorem back_11 (x : BitVec 32) (w : World) : Calls Try.prog 70 #[.int .u32 (W x), .int .i64 11] w fun e w' => e = .returned (.int .u32 (W (tn 11 x))) ∧ w' = w := by
  go_enter Try.func70, Try.ntmps70
  have hm : IntKind.i64.wrap (32 - 11) = 21 := by decide
  have hs : IntKind.u64.wrap 21 = 21 := by decide
  have hs2 : IntKind.u64.wrap 11 = 11 := by decide
  go_wp2
  go_ret
  exact ⟨rfl, rfl⟩
set_option maxHeartbeats 4000000 in
theorem back_13 (x : BitVec 32) (w : World) : Calls Try.prog 70 #[.int .u32 (W x), .int .i64 13] w fun e w' => e = .returned (.int .u32 (W (tn 13 x))) ∧ w' = w := by
  go_enter Try.func70, Try.ntmps70
  have hm : IntKind.i64.wrap (32 - 13) = 19 := by decide
  have hs : IntKind.u64.wrap 19 = 19 := by decide
  have hs2 : IntKind.u64.wrap 13 = 13 := by decide
  go_wp2
  go_ret
  exact ⟨rfl, rfl⟩
set_option maxHeartbeats 4000000 in
theorem back_17 (x : BitVec 32) (w : World) : Calls Try.prog 70 #[.int .u32 (W x), .int .i64 17] w fun e w' => e = .returned (.int .u32 (W (tn 17 x))) ∧ w' = w := by
  go_enter Try.func70, Try.ntmps70
  have hm : IntKind.i64.wrap (32 - 17) = 15 := by decide
  have hs : IntKind.u64.wrap 15 = 15 := by decide
  have hs2 : IntKind.u64.wrap 17 = 17 := by decide
  go_wp2
  go_ret
  exact ⟨rfl, rfl⟩
set_option maxHeartbeats 4000000 in
theorem back_18 (x : BitVec 32) (w : World) : Calls Try.prog 70 #[.int .u32 (W x), .int .i64 18] w fun e w' => e = .returned (.int .u32 (W (tn 18 x))) ∧ w' = w := by
  go_enter Try.func70, Try.ntmps70
  have hm : IntKind.i64.wrap (32 - 18) = 14 := by decide
  have hs : IntKind.u64.wrap 14 = 14 := by decide
  have hs2 : IntKind.u64.wrap 18 = 18 := by decide
  go_wp2
  go_ret
  exact ⟨rfl, rfl⟩
set_option maxHeartbeats 4000000 in
theorem back_19 (x : BitVec 32) (w : World) : Calls Try.prog 70 #[.int .u32 (W x), .int .i64 19] w fun e w' => e = .returned (.int .u32 (W (tn 19 x))) ∧ w' = w := by
  go_enter Try.func70, Try.ntmps70
  have hm : IntKind.i64.wrap (32 - 19) = 13 := by decide
  have hs : IntKind.u64.wrap 13 = 13 := by decide
  have hs2 : IntKind.u64.wrap 19 = 19 := by decide
  go_wp2
  go_ret
  exact ⟨rfl, rfl⟩
set_option maxHeartbeats 4000000 in
theorem back_22 (x : BitVec 32) (w : World) : Calls Try.prog 70 #[.int .u32 (W x), .int .i64 22] w fun e w' => e = .returned (.int .u32 (W (tn 22 x))) ∧ w' = w := by
  go_enter Try.func70, Try.ntmps70
  have hm : IntKind.i64.wrap (32 - 22) = 10 := by decide
  have hs : IntKind.u64.wrap 10 = 10 := by decide
  have hs2 : IntKind.u64.wrap 22 = 22 := by decide
  go_wp2
  go_ret
  exact ⟨rfl, rfl⟩
set_option maxHeartbeats 4000000 in
theorem back_25 (x : BitVec 32) (w : World) : Calls Try.prog 70 #[.int .u32 (W x), .int .i64 25] w fun e w' => e = .returned (.int .u32 (W (tn 25 x))) ∧ w' = w := by
  go_enter Try.func70, Try.ntmps70
  have hm : IntKind.i64.wrap (32 - 25) = 7 := by decide
  have hs : IntKind.u64.wrap 7 = 7 := by decide
  have hs2 : IntKind.u64.wrap 25 = 25 := by decide
  go_wp2
  go_ret
  exact ⟨rfl, rfl⟩
theorem shr_conv (n s : Nat) (hs : s ≤ 56) (hn : n ≤ 100000) : IntKind.u8.wrap ((8 * (n : Int)) / 2 ^ s) = U (UInt8.ofNat (n * 8 / 2 ^ s)) := by
  rw [IntKind.wrap_u8, show (8 * (n : Int)) = (n : Int) * 8 from Int.mul_comm _ _]
  exact byte_conv n s
set_option maxHeartbeats 4000000 in
set_option maxRecDepth 20000 in
theorem at_any (A : Option Addr) (n c : Nat) (l : List UInt8) (hl : Hid (l.length = n)) (hn : n ≤ 100000) (k : Nat) (hk : k < allN n) (w : World) (h : Hid (Rd w w.heap.size A l)) :
    Calls Try.prog 69 #[.slice A n c, .int .i64 k, .int .i64 (allN n)] w fun e w' => e = .returned (.int .u8 (U (atF l (allN n) k))) ∧ w' = w := by
  have hal : Hid (n + 9 ≤ allN n ∧ allN n ≤ n + 72 ∧ 64 ≤ allN n) := Lib.hid (by unfold allN; omega)
  obtain ⟨al, hall⟩ : ∃ al, allN n = al := ⟨_, rfl⟩
  rw [hall] at hal hk ⊢
  replace hall := Lib.hid hall
  have b1 := hal.out.1
  have b2 := hal.out.2.1
  by_cases h1 : k < n
  · have i1 : (k : Int) < (n : Int) := by omega
    obtain ⟨ad, rfl, -, hc⟩ := h.out.at_ (k := k) (by rw [hl.out]; exact h1)
    have hv : atF l al k = l[k]'(by rw [hl.out]; exact h1) := by unfold atF; rw [if_pos (by rw [hl.out]; exact h1)]; simp [List.getD_eq_getElem?_getD, List.getElem?_eq_getElem (show k < l.length by rw [hl.out]; exact h1)]
    rw [hv]
    generalize l[k]'(by rw [hl.out]; exact h1) = y at hc
    go_enter Try.func69, Try.ntmps69
    go_wp2_with fail
    go_ret
    exact ⟨rfl, rfl⟩
  · have i1 : decide ((k : Int) < (n : Int)) = false := decide_eq_false (by omega)
    have i1' : (n : Int) ≤ (k : Int) := by omega
    by_cases h2 : k = n
    · have hv : atF l al k = 128 := by unfold atF; rw [if_neg (by rw [hl.out]; exact h1), if_pos (by rw [hl.out]; exact h2)]
      rw [hv]
      have i2 : ((k : Int) == (n : Int)) = true := by rw [h2]; exact beq_self_eq_true _
      go_enter Try.func69, Try.ntmps69
      go_wp2_with fail
      go_ret
      exact ⟨rfl, rfl⟩
    · have i2 : ((k : Int) == (n : Int)) = false := by rw [beq_eq_false_iff_ne]; omega
      have e1 : IntKind.i64.wrap ((al : Int) - 8) = ((al - 8 : Nat) : Int) := by rw [i64_wrap_id (by omega) (by omega)]; omega
      obtain ⟨q, hq⟩ : ∃ q, al - 8 = q := ⟨_, rfl⟩
      rw [hq] at e1
      by_cases h3 : q ≤ k
      · have i3 : (q : Int) ≤ (k : Int) := by omega
        obtain ⟨s, hs⟩ : ∃ s, 8 * (al - 1 - k) = s := ⟨_, rfl⟩
        have hv : atF l al k = UInt8.ofNat (n * 8 / 2 ^ s) := by unfold atF; rw [if_neg (by rw [hl.out]; exact h1), if_neg (by rw [hl.out]; exact h2), if_pos (by omega), hl.out, hs]
        rw [hv]
        have e2 : IntKind.i64.wrap ((al : Int) - 1) = ((al - 1 : Nat) : Int) := by rw [i64_wrap_id (by omega) (by omega)]; omega
        have e3 : IntKind.i64.wrap (((al - 1 : Nat) : Int) - (k : Int)) = ((al - 1 - k : Nat) : Int) := by rw [i64_wrap_id (by omega) (by omega)]; omega
        have e4 : IntKind.i64.wrap (8 * ((al - 1 - k : Nat) : Int)) = (s : Int) := by rw [i64_wrap_id (by omega) (by omega)]; omega
        have e5 : IntKind.i64.wrap (8 * (n : Int)) = 8 * (n : Int) := by rw [i64_wrap_id (by omega) (by omega)]
        have e6 : IntKind.u64.wrap (s : Int) = (s : Int) := by rw [bv_wrap 64 .u64 rfl rfl]; omega
        have e7 : IntKind.u64.wrap (8 * (n : Int)) = 8 * (n : Int) := by rw [bv_wrap 64 .u64 rfl rfl]; omega
        have e8 : (8 * (n : Int)) / 2 ^ s % 256 = U (UInt8.ofNat (n * 8 / 2 ^ s)) := by rw [show (8 * (n : Int)) = (n : Int) * 8 from Int.mul_comm _ _]; exact byte_conv n s
        have e9 : min s 64 = s := by omega
        replace e8 := Lib.hid e8
        replace e9 := Lib.hid e9
        generalize (al - 1 : Nat) = a1 at e2 e3 e4
        generalize (a1 - k : Nat) = a2 at e3 e4
        replace hs := Lib.hid hs
        replace hq := Lib.hid hq
        go_enter Try.func69, Try.ntmps69
        go_wp2_with fail
        go_ret
        refine ⟨?_, rfl⟩
        show Ending.returned (.int .u8 (8 * (n : Int) / 2 ^ min s 64 % 256)) = _
        rw [e9.out, e8.out]
      · have hv : atF l al k = 0 := by unfold atF; rw [if_neg (by rw [hl.out]; exact h1), if_neg (by rw [hl.out]; exact h2), if_neg (by omega)]
        rw [hv]
        have i3 : ¬ ((q : Int) ≤ (k : Int)) := by omega
        have i3' : (k : Int) < (q : Int) := by omega
        replace hq := Lib.hid hq
        go_enter Try.func69, Try.ntmps69
        go_wp2_with fail
        go_ret
        exact ⟨rfl, rfl⟩
end Go.Proofs.Ytdgkcgiknfjpjaa
