/-
  The program is awake: a walk over it.
-/
import Derived.Test.YtgbaaafikphafaaNe
namespace Go.Proofs.Ytgbaaafikphafaa
open Go.RowKit Tf
theorem lv_v1 : lnB 4613937818241073152 4616189618054758400 0 = 4617315517961601024 := by decide +kernel
theorem lv_v2 : sbB (mlB 0 0) (mlB 0 4607182418800017408) = 0 := by decide +kernel
theorem lv_v3 : sbB (mlB 0 0) (mlB 4607182418800017408 0) = 0 := by decide +kernel
theorem lv_v4 : sbB (mlB 4607182418800017408 4607182418800017408) (mlB 0 0) = 4607182418800017408 := by decide +kernel
theorem lv_v5 : unB (lnB 13835058055282163712 0 0) 13835058055282163712 = 13830554455654793216 := by decide +kernel
theorem lv_v6 : unB (lnB 13835058055282163712 0 0) 0 = 0 := by decide +kernel
theorem lv_v7 : lnB (sbB 4607182418800017408 4607182418800017408) (sbB 4611686018427387904 4611686018427387904) (sbB 4613937818241073152 4617315517961601024) = 4611686018427387904 := by decide +kernel
theorem lv_v8 : sbB 4607182418800017408 4613937818241073152 = 13835058055282163712 := by decide +kernel
theorem lv_v9 : sbB 4611686018427387904 4611686018427387904 = 0 := by decide +kernel
theorem lv_v10 : sbB 4613937818241073152 4607182418800017408 = 4611686018427387904 := by decide +kernel
end Go.Proofs.Ytgbaaafikphafaa
