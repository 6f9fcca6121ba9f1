/- Jl6, laid in one text. -/
import Derived.Test.YtpaoimhebheaeaaGreatDoorMg28
