/-
  Tables: which method an interface leads to.
-/
import Derived.Test.YtnlojohjhfpbgaaT6
namespace Go.Proofs.Ytnlojohjhfpbgaa
open Go.RowKit Go.Deep
set_option linter.all false

theorem m_ak_add (v : Value) (w : World) : Sem.run Try.prog (method 301 139 v "swingbridge/table.add") w = .ok (100, v) w := by kernel_rfl
theorem m_ak_all (v : Value) (w : World) : Sem.run Try.prog (method 301 139 v "swingbridge/table.all") w = .ok (101, v) w := by kernel_rfl
theorem m_ak_count (v : Value) (w : World) : Sem.run Try.prog (method 301 139 v "swingbridge/table.count") w = .ok (102, v) w := by kernel_rfl
theorem m_ak_drop (v : Value) (w : World) : Sem.run Try.prog (method 301 139 v "swingbridge/table.drop") w = .ok (103, v) w := by kernel_rfl
theorem m_ak_find (v : Value) (w : World) : Sem.run Try.prog (method 301 139 v "swingbridge/table.find") w = .ok (104, v) w := by kernel_rfl
theorem m_ak_use (v : Value) (w : World) : Sem.run Try.prog (method 301 139 v "swingbridge/table.use") w = .ok (105, v) w := by kernel_rfl
theorem m_hk_add (v : Value) (w : World) : Sem.run Try.prog (method 301 143 v "swingbridge/table.add") w = .ok (106, v) w := by kernel_rfl
theorem m_hk_all (v : Value) (w : World) : Sem.run Try.prog (method 301 143 v "swingbridge/table.all") w = .ok (107, v) w := by kernel_rfl
theorem m_hk_count (v : Value) (w : World) : Sem.run Try.prog (method 301 143 v "swingbridge/table.count") w = .ok (108, v) w := by kernel_rfl
theorem m_hk_drop (v : Value) (w : World) : Sem.run Try.prog (method 301 143 v "swingbridge/table.drop") w = .ok (109, v) w := by kernel_rfl
theorem m_hk_find (v : Value) (w : World) : Sem.run Try.prog (method 301 143 v "swingbridge/table.find") w = .ok (110, v) w := by kernel_rfl
theorem m_hk_use (v : Value) (w : World) : Sem.run Try.prog (method 301 143 v "swingbridge/table.use") w = .ok (111, v) w := by kernel_rfl
theorem m_rk_add (v : Value) (w : World) : Sem.run Try.prog (method 301 147 v "swingbridge/table.add") w = .ok (145, v) w := by kernel_rfl
theorem m_rk_all (v : Value) (w : World) : Sem.run Try.prog (method 301 147 v "swingbridge/table.all") w = .ok (146, v) w := by kernel_rfl
theorem m_rk_count (v : Value) (w : World) : Sem.run Try.prog (method 301 147 v "swingbridge/table.count") w = .ok (147, v) w := by kernel_rfl
theorem m_rk_drop (v : Value) (w : World) : Sem.run Try.prog (method 301 147 v "swingbridge/table.drop") w = .ok (148, v) w := by kernel_rfl
theorem m_rk_find (v : Value) (w : World) : Sem.run Try.prog (method 301 147 v "swingbridge/table.find") w = .ok (149, v) w := by kernel_rfl
theorem m_rk_use (v : Value) (w : World) : Sem.run Try.prog (method 301 147 v "swingbridge/table.use") w = .ok (150, v) w := by kernel_rfl
theorem cf_ak_add (a : Array Value) (w : World) : Sem.run Try.prog (callFunc 100 a) w = .ok (.enter 100 a) w := by kernel_rfl
theorem cf_ak_all (a : Array Value) (w : World) : Sem.run Try.prog (callFunc 101 a) w = .ok (.enter 101 a) w := by kernel_rfl
theorem cf_ak_count (a : Array Value) (w : World) : Sem.run Try.prog (callFunc 102 a) w = .ok (.enter 102 a) w := by kernel_rfl
theorem cf_ak_drop (a : Array Value) (w : World) : Sem.run Try.prog (callFunc 103 a) w = .ok (.enter 103 a) w := by kernel_rfl
theorem cf_ak_find (a : Array Value) (w : World) : Sem.run Try.prog (callFunc 104 a) w = .ok (.enter 104 a) w := by kernel_rfl
theorem cf_ak_use (a : Array Value) (w : World) : Sem.run Try.prog (callFunc 105 a) w = .ok (.enter 105 a) w := by kernel_rfl
theorem cf_hk_add (a : Array Value) (w : World) : Sem.run Try.prog (callFunc 106 a) w = .ok (.enter 106 a) w := by kernel_rfl
theorem cf_hk_all (a : Array Value) (w : World) : Sem.run Try.prog (callFunc 107 a) w = .ok (.enter 107 a) w := by kernel_rfl
theorem cf_hk_count (a : Array Value) (w : World) : Sem.run Try.prog (callFunc 108 a) w = .ok (.enter 108 a) w := by kernel_rfl
theorem cf_hk_drop (a : Array Value) (w : World) : Sem.run Try.prog (callFunc 109 a) w = .ok (.enter 109 a) w := by kernel_rfl
theorem cf_hk_find (a : Array Value) (w : World) : Sem.run Try.prog (callFunc 110 a) w = .ok (.enter 110 a) w := by kernel_rfl
theorem cf_hk_use (a : Array Value) (w : World) : Sem.run Try.prog (callFunc 111 a) w = .ok (.enter 111 a) w := by kernel_rfl
theorem cf_rk_add (a : Array Value) (w : World) : Sem.run Try.prog (callFunc 145 a) w = .ok (.enter 145 a) w := by kernel_rfl
theorem cf_rk_all (a : Array Value) (w : World) : Sem.run Try.prog (callFunc 146 a) w = .ok (.enter 146 a) w := by kernel_rfl
theorem cf_rk_count (a : Array Value) (w : World) : Sem.run Try.prog (callFunc 147 a) w = .ok (.enter 147 a) w := by kernel_rfl
theorem cf_rk_drop (a : Array Value) (w : World) : Sem.run Try.prog (callFunc 148 a) w = .ok (.enter 148 a) w := by kernel_rfl
theorem cf_rk_find (a : Array Value) (w : World) : Sem.run Try.prog (callFunc 149 a) w = .ok (.enter 149 a) w := by kernel_rfl
theorem cf_rk_use (a : Array Value) (w : World) : Sem.run Try.prog (callFunc 150 a) w = .ok (.enter 150 a) w := by kernel_rfl
end Go.Proofs.Ytnlojohjhfpbgaa
