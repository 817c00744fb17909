/-
  CONTRACTS of strings.Builder (one that the call made itself): WriteString, String.
-/
import Derived.Test.YtecjecdgjmipcaaSs
import Derived.Test.YtecjecdgjmipcaaCl
import Derived.Lib.Builder
import Derived.Lib.UnsafeStr
namespace Go.Proofs.Ytecjecdgjmipcaa
open Go.RowKit Go.Mk

/-- append(nil, ""...). -/
theorem app_nil (w : World) (ty : TypeId) : (Builtin.append_ #[54, 9] ty #[.slice none 0 0, .string (bs [])]).run Try.prog w = .ok (.slice none 0 0) w := by
  obtain ⟨i0, hi, hz0, hz1, hz2⟩ := info_parts Try.infoByte
  have hs := Src.ofString (P := Try.prog) w Try.underlying9 (bs [])
  rcases hs.kind with ⟨e', hk⟩ | hk <;> simp [Builtin.append_, run_underlying Try.underlying54, run_underlying hk, sizeOf, typeInfo, hi, hs.len] <;> rfl

end Go.Proofs.Ytecjecdgjmipcaa
