/-
  Powers modulo a number, reckoned by squaring: plain arithmetic, nothing of the program.
-/
import Derived.Test.YtpjjobophplleaaDoorFldN
import Derived.Test.YtpjjobophplleaaDoorNumP
namespace Go.Proofs.YtpjjobophplleaaDoor

/-- The inverse of 2. -/
theorem inv_two : 2 ^ (pN - 2) % pN = 10944121435919637611123202872628637544274182200208017171849102093287904247809 := by
  rw [← pm_eq pN 254 2 (pN - 2) (by decide)]
  kernel_rfl
end Go.Proofs.YtpjjobophplleaaDoor
