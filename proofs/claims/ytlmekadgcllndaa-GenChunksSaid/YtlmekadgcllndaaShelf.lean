/- The library has no contract that this seat wants. -/
import Derived.Test.YtlmekadgcllndaaRows
