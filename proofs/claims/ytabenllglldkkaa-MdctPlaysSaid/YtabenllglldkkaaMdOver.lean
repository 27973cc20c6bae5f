/- The plain mathematics of layer 4: two frames as waves, and back, laid over, are the middle frame but for a 64th part and some. -/
import Derived.Test.YtabenllglldkkaaMdMath
namespace Go.Proofs.Ytabenllglldkkaa.Md
open Go.Proofs.Ytabenllglldkkaa.Ang

/-- How the m-th number's waves meet the n-th's. -/
def gr (n m : Nat) : Int := sum 16 fun k => cS m k * cS n k
/-- What of the m-th number comes back at the n-th. -/
def lr (n m : Nat) : Int := winS m * gr n m * winS n

theorem u_e (a b : Nat → Int) (n : Nat) : ab (4294967296 * uS (wS a b) n 16 - sum 32 (fun m => xs2 a b m * (winS m * gr n m))) ≤ 10133099161583616 := by
  have e : sum 32 (fun m => xs2 a b m * (winS m * gr n m)) = sum 16 (fun k => sum 32 (fun m => xs2 a b m * (winS m * cS m k)) * cS n k) := by
    rw [show (fun m => xs2 a b m * (winS m * gr n m)) = fun m => sum 16 (fun k => xs2 a b m * winS m * (cS m k * cS n k)) from funext fun m => by rw [sum_mul, ← gr, Int.mul_assoc]]
    rw [sum_swap]
    refine sum_congr fun k _ => ?_
    rw [Int.mul_comm, ← sum_mul]
    refine sum_congr fun m _ => ?_
    rw [← Int.mul_assoc, Int.mul_comm (cS n k), ← Int.mul_assoc (xs2 a b m)]
  rw [e]
  unfold uS
  rw [← sum_mul, ← sum_sub]
  have := sum_ab 16 (fun k => 4294967296 * (wS a b k * cS n k) - sum 32 (fun m => xs2 a b m * (winS m * cS m k)) * cS n k) (19327352832 * 32768) fun k _ => by
    have h := ab_prod (w_e a b k) (c_bd n k)
    rw [Int.sub_mul, Int.mul_assoc] at h
    exact h
  simpa using this

theorem g_e (a b : Nat → Int) (n : Nat) : ab (140737488355328 * gS (wS a b) n - sum 32 (fun m => xs2 a b m * (winS m * gr n m))) ≤ 10203467905761280 := by
  have h := u_e a b n
  have h2 := near_e (uS (wS a b) n 16)
  unfold gS
  generalize near (uS (wS a b) n 16) = g at *
  generalize uS (wS a b) n 16 = U at *
  unfold ab at *
  omega

theorem b_e (a b : Nat → Int) (n : Nat) : ab (9223372036854775808 * bS (wS a b) n - sum 32 (fun m => xs2 a b m * lr n m)) ≤ 338958922354413010944 := by
  have h := ab_prod (g_e a b n) (win_bd n)
  have e : sum 32 (fun m => xs2 a b m * (winS m * gr n m)) * winS n = sum 32 (fun m => xs2 a b m * lr n m) := by
    rw [Int.mul_comm, ← sum_mul]
    refine sum_congr fun m _ => ?_
    unfold lr
    rw [Int.mul_comm, Int.mul_assoc]
  rw [Int.sub_mul, e, Int.mul_assoc] at h
  have h2 := nr16_e (gS (wS a b) n * winS n)
  unfold bS
  generalize nr16 (gS (wS a b) n * winS n) = B at *
  generalize gS (wS a b) n * winS n = q at *
  unfold ab at *
  omega

theorem sum_one (n i : Nat) (hi : i < n) (f : Nat → Int) (c : Int) : sum n (fun m => f m * (if m = i then c else 0)) = f i * c := by
  induction n with
  | zero => omega
  | succ n ih =>
    rw [sum]
    by_cases h : n = i
    · subst h
      rw [if_pos rfl, sum_congr (g := fun _ => 0) fun j hj => by rw [if_neg (by omega), Int.mul_zero], sum_zero]
      omega
    · rw [if_neg h, ih (by omega), Int.mul_zero]; omega

/-- The rests: of the first frame, of the middle one, of the last one. -/
def rA (i m : Nat) : Int := lr (16 + i) m
def rB (i m : Nat) : Int := lr (16 + i) (16 + m) + lr i m - (if m = i then 9223372036854775808 else 0)
def rC (i m : Nat) : Int := lr i (16 + m)

theorem rests (i : Nat) (hi : i < 16) : sum 16 (fun m => ab (rA i m)) + sum 16 (fun m => ab (rB i m)) + sum 16 (fun m => ab (rC i m)) ≤ 144115188075855872 := by
  have h : ∀ i : Fin 16, sum 16 (fun m => ab (rA i.val m)) + sum 16 (fun m => ab (rB i.val m)) + sum 16 (fun m => ab (rC i.val m)) ≤ 144115188075855872 := by decide +kernel
  exact h ⟨i, hi⟩

theorem over_near {M : Int} {x y z : Nat → Int} (h0 : 0 ≤ M) (hx : Le M x) (hy : Le M y) (hz : Le M z) (i : Nat) (hi : i < 16) :
    ab (64 * (bS (wS x y) (16 + i) + bS (wS y z) i - y i)) ≤ M + 4736 := by
  have h1 := b_e x y (16 + i)
  have h2 := b_e y z i
  have e1 : sum 32 (fun m => xs2 x y m * lr (16 + i) m) = sum 16 (fun m => x m * rA i m) + sum 16 (fun m => y m * lr (16 + i) (16 + m)) := by
    rw [sum_split 16 16]
    refine congr (congrArg _ ?_) ?_
    · exact sum_congr fun m hm => by unfold xs2 rA; rw [if_pos hm]
    · exact sum_congr fun m _ => by unfold xs2; rw [if_neg (by omega), show 16 + m - 16 = m by omega]
  have e2 : sum 32 (fun m => xs2 y z m * lr i m) = sum 16 (fun m => y m * lr i m) + sum 16 (fun m => z m * rC i m) := by
    rw [sum_split 16 16]
    refine congr (congrArg _ ?_) ?_
    · exact sum_congr fun m hm => by unfold xs2; rw [if_pos hm]
    · exact sum_congr fun m _ => by unfold xs2 rC; rw [if_neg (by omega), show 16 + m - 16 = m by omega]
  have e3 : sum 16 (fun m => y m * rB i m) = sum 16 (fun m => y m * lr (16 + i) (16 + m)) + sum 16 (fun m => y m * lr i m) - y i * 9223372036854775808 := by
    rw [← sum_one 16 i hi y, ← sum_add, ← sum_sub]
    refine sum_congr fun m _ => ?_
    unfold rB
    rw [Int.mul_sub, Int.mul_add]
  rw [e1] at h1
  rw [e2] at h2
  have w1 := sum_wt 16 x (rA i) M hx
  have w2 := sum_wt 16 y (rB i) M hy
  have w3 := sum_wt 16 z (rC i) M hz
  have r := Int.mul_le_mul_of_nonneg_left (rests i hi) h0
  rw [Int.mul_add, Int.mul_add] at r
  generalize sum 16 (fun m => x m * rA i m) = A at *
  generalize sum 16 (fun m => z m * rC i m) = C at *
  generalize sum 16 (fun m => y m * rB i m) = B at *
  generalize sum 16 (fun m => y m * lr (16 + i) (16 + m)) = B1 at *
  generalize sum 16 (fun m => y m * lr i m) = B2 at *
  generalize M * sum 16 (fun m => ab (rA i m)) = a at *
  generalize M * sum 16 (fun m => ab (rB i m)) = b at *
  generalize M * sum 16 (fun m => ab (rC i m)) = c at *
  generalize bS (wS x y) (16 + i) = P at *
  generalize bS (wS y z) i = Q at *
  unfold ab at *
  omega
end Go.Proofs.Ytabenllglldkkaa.Md
