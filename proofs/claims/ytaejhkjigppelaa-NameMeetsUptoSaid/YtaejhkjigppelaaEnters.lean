/- Functions that are values. -/
import Derived.Test.YtaejhkjigppelaaConv
namespace Go.Proofs.Ytaejhkjigppelaa
open Go.RowKit

/-- A function with a body is entered. -/
theorem enters {K : Nat} {fn : Func} (hf : Try.prog.funcs[K]? = some fn) (hn : (fn.name == "runtime.NumGoroutine") = false) (hb : fn.body.isNone = false) (args : Array Value) (w : World) :
    (callFunc K args).run Try.prog w = .ok (.enter K args) w := by
  have h1 : fn.name ≠ "runtime.NumGoroutine" := by simpa using hn
  have h2 : fn.body ≠ none := by
    intro h
    rw [h] at hb
    simp at hb
  unfold callFunc
  simp [program, Sem.run, hf, h1, h2]

end Go.Proofs.Ytaejhkjigppelaa
