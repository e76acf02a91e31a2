/-
  OF THE WALK: HmX.
-/
import Derived.Test.YthbmknpbcgnabaaGreatDoorP01
section
namespace Go.Proofs.YthbmknpbcgnabaaGreatDoor.Hm
namespace Sha
def digitsN (n : Nat) : List Nat := [n % 65536, n / 65536 % 65536, n / 4294967296 % 65536, n / 281474976710656]
def timesIn (a b : List Nat) (out : List Nat) (i : Nat) : Nat → List Nat × Nat
  | 0 => (out, 0)
  | k + 1 => match timesIn a b out i k with
    | (o, c) => match (o.getD (i + k) 0 + a.getD i 0 * b.getD k 0 + c) % 18446744073709551616 with
      | n => (o.set (i + k) (n % 65536), n / 65536)
def timesTo (a b : List Nat) : Nat → List Nat
  | 0 => List.replicate (a.length + b.length) 0
  | i + 1 => match timesIn a b (timesTo a b i) i b.length with
    | (o, c) => o.set (i + b.length) ((o.getD (i + b.length) 0 + c) % 18446744073709551616)
def timesN (a b : List Nat) : List Nat := timesTo a b a.length
def aboveTo (a b : List Nat) : Nat → Bool
  | 0 => true
  | i + 1 => if a.getD i 0 = b.getD i 0 then aboveTo a b i else decide (b.getD i 0 < a.getD i 0)
def aboveN (a : List Nat) (n zeros : Nat) : Bool := aboveTo a (List.replicate zeros 0 ++ digitsN n) (a.length + (zeros + 4))
def tooMuch (n : Nat) (cube : Bool) (y : List Nat) : Bool := if cube then aboveN (timesN (timesN y y) y) n 6 else aboveN (timesN y y) n 4
def rootGo (n : Nat) (cube : Bool) : Nat → Nat
  | 0 => 0
  | j + 1 => match rootGo n cube j with
    | x => if tooMuch n cube (digitsN (x + 2 ^ (40 - j))) then x else x + 2 ^ (40 - j)
def rootN (n : Nat) (cube : Bool) : Nat := rootGo n cube 41 % 4294967296
def primeGo (n : Nat) : Nat → Nat → Bool
  | 0, _ => true
  | f + 1, d => if d * d ≤ n then (if n % d = 0 then false else primeGo n f (d + 1)) else true
def primeN (n : Nat) : Bool := primeGo n n 2
def primesTo : Nat → List Nat
  | 0 => []
  | k + 1 => if primeN (k + 2) then primesTo k ++ [k + 2] else primesTo k
def K0 : List UInt32 := [1116352408, 1899447441, 3049323471, 3921009573, 961987163, 1508970993, 2453635748, 2870763221, 3624381080, 310598401, 607225278, 1426881987, 1925078388, 2162078206, 2614888103, 3248222580, 3835390401, 4022224774, 264347078, 604807628, 770255983, 1249150122, 1555081692, 1996064986, 2554220882, 2821834349, 2952996808, 3210313671, 3336571891, 3584528711, 113926993, 338241895, 666307205, 773529912, 1294757372, 1396182291, 1695183700, 1986661051, 2177026350, 2456956037, 2730485921, 2820302411, 3259730800, 3345764771, 3516065817, 3600352804, 4094571909, 275423344, 430227734, 506948616, 659060556, 883997877, 958139571, 1322822218, 1537002063, 1747873779, 1955562222, 2024104815, 2227730452, 2361852424, 2428436474, 2756734187, 3204031479, 3329325298]
theorem K0_length : K0.length = 64 := rfl
def rootsC (k : Nat) : List UInt32 := (primesTo k).map fun p => UInt32.ofNat (rootN p true)
def rootsR (k : Nat) : List UInt32 := ((primesTo k).take 8).map fun p => UInt32.ofNat (rootN p false)
set_option maxRecDepth 100000
theorem primes_few : ∀ k < 310, (primesTo k).length < 64 := by decide +kernel
theorem primes_list : primesTo 310 = [2, 3, 5, 7, 11, 13, 17, 19, 23, 29, 31, 37, 41, 43, 47, 53, 59, 61, 67, 71, 73, 79, 83, 89, 97, 101, 103, 107, 109, 113, 127, 131, 137, 139, 149, 151, 157, 163, 167, 173, 179, 181, 191, 193, 197, 199, 211, 223, 227, 229, 233, 239, 241, 251, 257, 263, 269, 271, 277, 281, 283, 293, 307, 311] := by decide +kernel
theorem rc2 : rootN 2 true = 1116352408 := by decide +kernel
theorem rc3 : rootN 3 true = 1899447441 := by decide +kernel
theorem rc5 : rootN 5 true = 3049323471 := by decide +kernel
theorem rc7 : rootN 7 true = 3921009573 := by decide +kernel
theorem rc11 : rootN 11 true = 961987163 := by decide +kernel
theorem rc13 : rootN 13 true = 1508970993 := by decide +kernel
theorem rc17 : rootN 17 true = 2453635748 := by decide +kernel
theorem rc19 : rootN 19 true = 2870763221 := by decide +kernel
theorem rc23 : rootN 23 true = 3624381080 := by decide +kernel
theorem rc29 : rootN 29 true = 310598401 := by decide +kernel
theorem rc31 : rootN 31 true = 607225278 := by decide +kernel
theorem rc37 : rootN 37 true = 1426881987 := by decide +kernel
theorem rc41 : rootN 41 true = 1925078388 := by decide +kernel
theorem rc43 : rootN 43 true = 2162078206 := by decide +kernel
theorem rc47 : rootN 47 true = 2614888103 := by decide +kernel
theorem rc53 : rootN 53 true = 3248222580 := by decide +kernel
theorem rc59 : rootN 59 true = 3835390401 := by decide +kernel
theorem rc61 : rootN 61 true = 4022224774 := by decide +kernel
theorem rc67 : rootN 67 true = 264347078 := by decide +kernel
theorem rc71 : rootN 71 true = 604807628 := by decide +kernel
theorem rc73 : rootN 73 true = 770255983 := by decide +kernel
theorem rc79 : rootN 79 true = 1249150122 := by decide +kernel
theorem rc83 : rootN 83 true = 1555081692 := by decide +kernel
theorem rc89 : rootN 89 true = 1996064986 := by decide +kernel
theorem rc97 : rootN 97 true = 2554220882 := by decide +kernel
theorem rc101 : rootN 101 true = 2821834349 := by decide +kernel
theorem rc103 : rootN 103 true = 2952996808 := by decide +kernel
theorem rc107 : rootN 107 true = 3210313671 := by decide +kernel
theorem rc109 : rootN 109 true = 3336571891 := by decide +kernel
theorem rc113 : rootN 113 true = 3584528711 := by decide +kernel
theorem rc127 : rootN 127 true = 113926993 := by decide +kernel
theorem rc131 : rootN 131 true = 338241895 := by decide +kernel
theorem rc137 : rootN 137 true = 666307205 := by decide +kernel
theorem rc139 : rootN 139 true = 773529912 := by decide +kernel
theorem rc149 : rootN 149 true = 1294757372 := by decide +kernel
theorem rc151 : rootN 151 true = 1396182291 := by decide +kernel
theorem rc157 : rootN 157 true = 1695183700 := by decide +kernel
theorem rc163 : rootN 163 true = 1986661051 := by decide +kernel
theorem rc167 : rootN 167 true = 2177026350 := by decide +kernel
theorem rc173 : rootN 173 true = 2456956037 := by decide +kernel
theorem rc179 : rootN 179 true = 2730485921 := by decide +kernel
theorem rc181 : rootN 181 true = 2820302411 := by decide +kernel
theorem rc191 : rootN 191 true = 3259730800 := by decide +kernel
theorem rc193 : rootN 193 true = 3345764771 := by decide +kernel
theorem rc197 : rootN 197 true = 3516065817 := by decide +kernel
theorem rc199 : rootN 199 true = 3600352804 := by decide +kernel
theorem rc211 : rootN 211 true = 4094571909 := by decide +kernel
theorem rc223 : rootN 223 true = 275423344 := by decide +kernel
theorem rc227 : rootN 227 true = 430227734 := by decide +kernel
theorem rc229 : rootN 229 true = 506948616 := by decide +kernel
theorem rc233 : rootN 233 true = 659060556 := by decide +kernel
theorem rc239 : rootN 239 true = 883997877 := by decide +kernel
theorem rc241 : rootN 241 true = 958139571 := by decide +kernel
theorem rc251 : rootN 251 true = 1322822218 := by decide +kernel
theorem rc257 : rootN 257 true = 1537002063 := by decide +kernel
theorem rc263 : rootN 263 true = 1747873779 := by decide +kernel
theorem rc269 : rootN 269 true = 1955562222 := by decide +kernel
theorem rc271 : rootN 271 true = 2024104815 := by decide +kernel
theorem rc277 : rootN 277 true = 2227730452 := by decide +kernel
theorem rc281 : rootN 281 true = 2361852424 := by decide +kernel
theorem rc283 : rootN 283 true = 2428436474 := by decide +kernel
theorem rc293 : rootN 293 true = 2756734187 := by decide +kernel
theorem rc307 : rootN 307 true = 3204031479 := by decide +kernel
theorem rc311 : rootN 311 true = 3329325298 := by decide +kernel
theorem rr2 : rootN 2 false = 1779033703 := by decide +kernel
theorem rr3 : rootN 3 false = 3144134277 := by decide +kernel
theorem rr5 : rootN 5 false = 1013904242 := by decide +kernel
theorem rr7 : rootN 7 false = 2773480762 := by decide +kernel
theorem rr11 : rootN 11 false = 1359893119 := by decide +kernel
theorem rr13 : rootN 13 false = 2600822924 := by decide +kernel
theorem rr17 : rootN 17 false = 528734635 := by decide +kernel
theorem rr19 : rootN 19 false = 1541459225 := by decide +kernel
theorem rootsC_all : rootsC 310 = K0 := by
  unfold rootsC
  rw [primes_list]
  simp only [List.map_cons, List.map_nil, rc2, rc3, rc5, rc7, rc11, rc13, rc17, rc19, rc23, rc29, rc31, rc37, rc41, rc43, rc47, rc53, rc59, rc61, rc67, rc71, rc73, rc79, rc83, rc89, rc97, rc101, rc103, rc107, rc109, rc113, rc127, rc131, rc137, rc139, rc149, rc151, rc157, rc163, rc167, rc173, rc179, rc181, rc191, rc193, rc197, rc199, rc211, rc223, rc227, rc229, rc233, rc239, rc241, rc251, rc257, rc263, rc269, rc271, rc277, rc281, rc283, rc293, rc307, rc311]
  rfl
theorem rootsR_all : rootsR 310 = R0.list := by
  unfold rootsR
  rw [primes_list]
  simp only [List.take_succ_cons, List.take_zero, List.map_cons, List.map_nil, rr2, rr3, rr5, rr7, rr11, rr13, rr17, rr19]
  rfl
end Sha
end Go.Proofs.YthbmknpbcgnabaaGreatDoor.Hm
end
section
namespace Go.Proofs.YthbmknpbcgnabaaGreatDoor.Hm
namespace Sha
set_option maxRecDepth 100000
end Sha
end Go.Proofs.YthbmknpbcgnabaaGreatDoor.Hm
end
