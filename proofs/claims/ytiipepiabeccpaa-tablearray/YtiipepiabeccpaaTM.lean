/-
  Tables: which method an interface leads to.
-/
import Derived.Test.YtiipepiabeccpaaT6
namespace Go.Proofs.Ytiipepiabeccpaa
open Go.RowKit Go.Deep
set_option linter.all false

theorem m_ak_add (v : Value) (w : World) : Sem.run Try.prog (method 306 144 v "swingbridge/table.add") w = .ok (106, v) w := by kernel_rfl
theorem m_ak_all (v : Value) (w : World) : Sem.run Try.prog (method 306 144 v "swingbridge/table.all") w = .ok (107, v) w := by kernel_rfl
theorem m_ak_count (v : Value) (w : World) : Sem.run Try.prog (method 306 144 v "swingbridge/table.count") w = .ok (108, v) w := by kernel_rfl
theorem m_ak_drop (v : Value) (w : World) : Sem.run Try.prog (method 306 144 v "swingbridge/table.drop") w = .ok (109, v) w := by kernel_rfl
theorem m_ak_find (v : Value) (w : World) : Sem.run Try.prog (method 306 144 v "swingbridge/table.find") w = .ok (110, v) w := by kernel_rfl
theorem m_ak_use (v : Value) (w : World) : Sem.run Try.prog (method 306 144 v "swingbridge/table.use") w = .ok (111, v) w := by kernel_rfl
theorem m_hk_add (v : Value) (w : World) : Sem.run Try.prog (method 306 148 v "swingbridge/table.add") w = .ok (112, v) w := by kernel_rfl
theorem m_hk_all (v : Value) (w : World) : Sem.run Try.prog (method 306 148 v "swingbridge/table.all") w = .ok (113, v) w := by kernel_rfl
theorem m_hk_count (v : Value) (w : World) : Sem.run Try.prog (method 306 148 v "swingbridge/table.count") w = .ok (114, v) w := by kernel_rfl
theorem m_hk_drop (v : Value) (w : World) : Sem.run Try.prog (method 306 148 v "swingbridge/table.drop") w = .ok (115, v) w := by kernel_rfl
theorem m_hk_find (v : Value) (w : World) : Sem.run Try.prog (method 306 148 v "swingbridge/table.find") w = .ok (116, v) w := by kernel_rfl
theorem m_hk_use (v : Value) (w : World) : Sem.run Try.prog (method 306 148 v "swingbridge/table.use") w = .ok (117, v) w := by kernel_rfl
theorem m_rk_add (v : Value) (w : World) : Sem.run Try.prog (method 306 152 v "swingbridge/table.add") w = .ok (151, v) w := by kernel_rfl
theorem m_rk_all (v : Value) (w : World) : Sem.run Try.prog (method 306 152 v "swingbridge/table.all") w = .ok (152, v) w := by kernel_rfl
theorem m_rk_count (v : Value) (w : World) : Sem.run Try.prog (method 306 152 v "swingbridge/table.count") w = .ok (153, v) w := by kernel_rfl
theorem m_rk_drop (v : Value) (w : World) : Sem.run Try.prog (method 306 152 v "swingbridge/table.drop") w = .ok (154, v) w := by kernel_rfl
theorem m_rk_find (v : Value) (w : World) : Sem.run Try.prog (method 306 152 v "swingbridge/table.find") w = .ok (155, v) w := by kernel_rfl
theorem m_rk_use (v : Value) (w : World) : Sem.run Try.prog (method 306 152 v "swingbridge/table.use") w = .ok (156, v) w := by kernel_rfl
theorem cf_ak_add (a : Array Value) (w : World) : Sem.run Try.prog (callFunc 106 a) w = .ok (.enter 106 a) w := by kernel_rfl
theorem cf_ak_all (a : Array Value) (w : World) : Sem.run Try.prog (callFunc 107 a) w = .ok (.enter 107 a) w := by kernel_rfl
theorem cf_ak_count (a : Array Value) (w : World) : Sem.run Try.prog (callFunc 108 a) w = .ok (.enter 108 a) w := by kernel_rfl
theorem cf_ak_drop (a : Array Value) (w : World) : Sem.run Try.prog (callFunc 109 a) w = .ok (.enter 109 a) w := by kernel_rfl
theorem cf_ak_find (a : Array Value) (w : World) : Sem.run Try.prog (callFunc 110 a) w = .ok (.enter 110 a) w := by kernel_rfl
theorem cf_ak_use (a : Array Value) (w : World) : Sem.run Try.prog (callFunc 111 a) w = .ok (.enter 111 a) w := by kernel_rfl
theorem cf_hk_add (a : Array Value) (w : World) : Sem.run Try.prog (callFunc 112 a) w = .ok (.enter 112 a) w := by kernel_rfl
theorem cf_hk_all (a : Array Value) (w : World) : Sem.run Try.prog (callFunc 113 a) w = .ok (.enter 113 a) w := by kernel_rfl
theorem cf_hk_count (a : Array Value) (w : World) : Sem.run Try.prog (callFunc 114 a) w = .ok (.enter 114 a) w := by kernel_rfl
theorem cf_hk_drop (a : Array Value) (w : World) : Sem.run Try.prog (callFunc 115 a) w = .ok (.enter 115 a) w := by kernel_rfl
theorem cf_hk_find (a : Array Value) (w : World) : Sem.run Try.prog (callFunc 116 a) w = .ok (.enter 116 a) w := by kernel_rfl
theorem cf_hk_use (a : Array Value) (w : World) : Sem.run Try.prog (callFunc 117 a) w = .ok (.enter 117 a) w := by kernel_rfl
theorem cf_rk_add (a : Array Value) (w : World) : Sem.run Try.prog (callFunc 151 a) w = .ok (.enter 151 a) w := by kernel_rfl
theorem cf_rk_all (a : Array Value) (w : World) : Sem.run Try.prog (callFunc 152 a) w = .ok (.enter 152 a) w := by kernel_rfl
theorem cf_rk_count (a : Array Value) (w : World) : Sem.run Try.prog (callFunc 153 a) w = .ok (.enter 153 a) w := by kernel_rfl
theorem cf_rk_drop (a : Array Value) (w : World) : Sem.run Try.prog (callFunc 154 a) w = .ok (.enter 154 a) w := by kernel_rfl
theorem cf_rk_find (a : Array Value) (w : World) : Sem.run Try.prog (callFunc 155 a) w = .ok (.enter 155 a) w := by kernel_rfl
theorem cf_rk_use (a : Array Value) (w : World) : Sem.run Try.prog (callFunc 156 a) w = .ok (.enter 156 a) w := by kernel_rfl
end Go.Proofs.Ytiipepiabeccpaa
