import PyProof.Rows.All
import Wide.All
import OpenK.AllK
import Wide.FinOn
import HandS.ForMost
import HandS.Flow
import HandS.Wide
import HandS.WideBits
import HandS.Gcd
import HandS.IsInst
import HandS.Call
import HandS.SortInts
import HandS.Walk
import HandS.Star
import PyProof.ReprRoads
import HandS.AnyAll
import HandS.EndBits
import HandS.Exc
import HandS.Text
import KE.GoesEnum
import HandS.RaiseMore
import HandS.Comp
import HandS.Style
import PyProof.P3Eq
import HandS.Deep
import HandS.More
import HandS.TupAny
import HandS.ExcOwn
import HandS.ExcInit
import HandS.WordsExc
import HandS.TryOnly
import HandS.ExcField
import HandS.ExcIs
import KE.KExcIs
import HandS.Small
import PyProof.Rows.SeqMore
import HandS.HeadHook4
import HandS.Words
import HandS.DictTup
import KE.SortData
import HandS.SetFor
import HandS.Strs
import PyProof.Rows.SetFrom
import PyProof.StrLawsRepr
import HandS.ListEq
import HandS.Zip
import HandS.TupSets
import HandS.FStr
import HandS.Steps
import PyProof.EqKinds
import PyProof.NeKinds
import HandS.TryMany
import HandS.StrMore
import PyProof.StrOps2
import HandS.Codes
import KE.GoesMore
import KE.GoesZip
import HandS.Iter
import PySem.Challenge.RW_truechain_k34_names_and_copies
set_option Elab.async false
set_option linter.all false
set_option maxRecDepth 100000
set_option exponentiation.threshold 100000
namespace Dl
open PySem PySem.Spec PyProof.Rows L2
/-- a tuple of the module, told by its place -/
def tupAt (K : PySem.W.Frag) (a : Addr) (vs : List He.Dv) : Bool := match K.lookup a with
  | some ⟨.type c, _, .seq its _, _⟩ => decide (c = "tuple") && (decide (its.size ≤ sizeLine) && He.relAll (vs.map (He.Dv.v K)) its.toList)
  | _ => false
/-- where the value of a key stands -/
def vaA (K : PySem.W.Frag) (d : Addr) (z : Str) : Addr := match PySem.W.nsIn K d z with
  | some (some (.ref a)) => a
  | _ => 0
end Dl
namespace Lk
open PySem PySem.Spec PyProof.Rows L2 Dl
def topS (i : Nat) : Stmt := PySem.Challenge.pw_truechain_k34_names_and_copies.main.body.getD i (.Pass ⟨0, 0, 0, 0⟩)
abbrev s__law_bag : Stmt := topS 10
abbrev s__law_take : Stmt := topS 11
abbrev s__law_name : Stmt := topS 18
abbrev s__law_rising : Stmt := topS 21
abbrev s__law_low : Stmt := topS 14
abbrev s__law_small : Stmt := topS 19
abbrev s__law_free : Stmt := topS 20
abbrev s__law_under : Stmt := topS 15
abbrev s__law_most : Stmt := topS 17
abbrev s__law_least : Stmt := topS 16
abbrev s__law_any_spot : Stmt := topS 22
abbrev s__law_any_rows : Stmt := topS 23
abbrev s__law_any_paper : Stmt := topS 24
abbrev s__law_names_due : Stmt := topS 25
abbrev s__law_copy : Stmt := topS 13
abbrev s_parts_of : Stmt := topS 6
abbrev s_elders_in : Stmt := topS 7
abbrev s_names_in : Stmt := topS 4
abbrev s__law_alike : Stmt := topS 12
abbrev s_copied_part : Stmt := topS 8
abbrev s_copy_of : Stmt := topS 5
abbrev s__law_emptied : Stmt := topS 26
abbrev s_law : Stmt := topS 27
def d__law_bag : He.DefD := ⟨("_law_bag", none), "_law_bag", "_law_bag", defArgs s__law_bag, defBody s__law_bag, defScope s__law_bag, [], []⟩
def d__law_take : He.DefD := ⟨("_law_take", none), "_law_take", "_law_take", defArgs s__law_take, defBody s__law_take, defScope s__law_take, [], []⟩
def d__law_name : He.DefD := ⟨("_law_name", none), "_law_name", "_law_name", defArgs s__law_name, defBody s__law_name, defScope s__law_name, [], []⟩
def d__law_rising : He.DefD := ⟨("_law_rising", none), "_law_rising", "_law_rising", defArgs s__law_rising, defBody s__law_rising, defScope s__law_rising, [], []⟩
def d__law_low : He.DefD := ⟨("_law_low", none), "_law_low", "_law_low", defArgs s__law_low, defBody s__law_low, defScope s__law_low, [], []⟩
def d__law_small : He.DefD := ⟨("_law_small", none), "_law_small", "_law_small", defArgs s__law_small, defBody s__law_small, defScope s__law_small, [], []⟩
def d__law_free : He.DefD := ⟨("_law_free", none), "_law_free", "_law_free", defArgs s__law_free, defBody s__law_free, defScope s__law_free, [], []⟩
def d__law_under : He.DefD := ⟨("_law_under", none), "_law_under", "_law_under", defArgs s__law_under, defBody s__law_under, defScope s__law_under, [], []⟩
def d__law_most : He.DefD := ⟨("_law_most", none), "_law_most", "_law_most", defArgs s__law_most, defBody s__law_most, defScope s__law_most, [], []⟩
def d__law_least : He.DefD := ⟨("_law_least", none), "_law_least", "_law_least", defArgs s__law_least, defBody s__law_least, defScope s__law_least, [], []⟩
def d__law_any_spot : He.DefD := ⟨("_law_any_spot", none), "_law_any_spot", "_law_any_spot", defArgs s__law_any_spot, defBody s__law_any_spot, defScope s__law_any_spot, [], []⟩
def d__law_any_rows : He.DefD := ⟨("_law_any_rows", none), "_law_any_rows", "_law_any_rows", defArgs s__law_any_rows, defBody s__law_any_rows, defScope s__law_any_rows, [], []⟩
def d__law_any_paper : He.DefD := ⟨("_law_any_paper", none), "_law_any_paper", "_law_any_paper", defArgs s__law_any_paper, defBody s__law_any_paper, defScope s__law_any_paper, [], []⟩
def d__law_names_due : He.DefD := ⟨("_law_names_due", none), "_law_names_due", "_law_names_due", defArgs s__law_names_due, defBody s__law_names_due, defScope s__law_names_due, [], []⟩
def d__law_copy : He.DefD := ⟨("_law_copy", none), "_law_copy", "_law_copy", defArgs s__law_copy, defBody s__law_copy, defScope s__law_copy, [], []⟩
def d_parts_of : He.DefD := ⟨("parts_of", none), "parts_of", "parts_of", defArgs s_parts_of, defBody s_parts_of, defScope s_parts_of, [], []⟩
def d_elders_in : He.DefD := ⟨("elders_in", none), "elders_in", "elders_in", defArgs s_elders_in, defBody s_elders_in, defScope s_elders_in, [], []⟩
def d_names_in : He.DefD := ⟨("names_in", none), "names_in", "names_in", defArgs s_names_in, defBody s_names_in, defScope s_names_in, [], []⟩
def d__law_alike : He.DefD := ⟨("_law_alike", none), "_law_alike", "_law_alike", defArgs s__law_alike, defBody s__law_alike, defScope s__law_alike, [], []⟩
def d_copied_part : He.DefD := ⟨("copied_part", none), "copied_part", "copied_part", defArgs s_copied_part, defBody s_copied_part, defScope s_copied_part, [], []⟩
def d_copy_of : He.DefD := ⟨("copy_of", none), "copy_of", "copy_of", defArgs s_copy_of, defBody s_copy_of, defScope s_copy_of, [], []⟩
def d__law_emptied : He.DefD := ⟨("_law_emptied", none), "_law_emptied", "_law_emptied", defArgs s__law_emptied, defBody s__law_emptied, defScope s__law_emptied, [], []⟩
def d_law : He.DefD := ⟨("law", none), "law", "law", defArgs s_law, defBody s_law, defScope s_law, [], []⟩
def fa : List He.Fa := [.glo "_law_bag", .glo "_law_take", .glo "_law_name", .glo "_law_rising", .glo "_law_low", .glo "_law_small", .glo "_law_free", .glo "_law_under", .glo "_law_most", .glo "_law_least", .glo "_law_any_spot", .glo "_law_any_rows", .glo "_law_any_paper", .glo "_law_names_due", .glo "_law_copy", .glo "parts_of", .glo "elders_in", .glo "names_in", .glo "_law_alike", .glo "copied_part", .glo "copy_of", .glo "_law_emptied", .glo "law", .free "abs", .free "len", .free "range", .free "sorted", .free "int", .free "set", .free "isinstance", .free "list", .free "tuple", .glo "PARTS", .int "KIND_AT" 2, .int "ROWS_AT" (-1), .free "zip", .free "repr"]
def fn : List He.DefD := [d__law_bag, d__law_take, d__law_name, d__law_rising, d__law_low, d__law_small, d__law_free, d__law_under, d__law_most, d__law_least, d__law_any_spot, d__law_any_rows, d__law_any_paper, d__law_names_due, d__law_copy, d_parts_of, d_elders_in, d_names_in, d__law_alike, d_copied_part, d_copy_of, d__law_emptied, d_law]
def tb : List He.Tab := [(fun K => He.ga K "PARTS", ["thing", "off", "harmed", "mended", "made", "told", "held", "read"])]
def tf : List He.Defn := []
def exs : List (PySem.W.Frag → Bool) := [fun K => tupAt K (vaA K (He.ga K "PARTS") "read") [(.str "name"), (.str "spot")],
  fun K => tupAt K (vaA K (He.ga K "PARTS") "held") [(.str "name"), (.str "finer"), (.str "term"), (.str "rows")],
  fun K => tupAt K (vaA K (He.ga K "PARTS") "told") [(.str "name"), (.str "term"), (.str "rows")],
  fun K => tupAt K (vaA K (He.ga K "PARTS") "made") [(.str "name"), (.str "rate"), (.str "rows")],
  fun K => tupAt K (vaA K (He.ga K "PARTS") "mended") [(.str "name")],
  fun K => tupAt K (vaA K (He.ga K "PARTS") "harmed") [(.str "name")],
  fun K => tupAt K (vaA K (He.ga K "PARTS") "off") [(.str "name")],
  fun K => tupAt K (vaA K (He.ga K "PARTS") "thing") [(.str "name"), (.str "sort"), (.str "level"), (.str "rate"), (.str "marks")],
  fun K => He.valsB K (He.ga K "PARTS") [("thing", .adr (fun K => vaA K (He.ga K "PARTS") "thing")), ("off", .adr (fun K => vaA K (He.ga K "PARTS") "off")), ("harmed", .adr (fun K => vaA K (He.ga K "PARTS") "harmed")), ("mended", .adr (fun K => vaA K (He.ga K "PARTS") "mended")), ("made", .adr (fun K => vaA K (He.ga K "PARTS") "made")), ("told", .adr (fun K => vaA K (He.ga K "PARTS") "told")), ("held", .adr (fun K => vaA K (He.ga K "PARTS") "held")), ("read", .adr (fun K => vaA K (He.ga K "PARTS") "read"))]]
def ex (K : PySem.W.Frag) : Bool := exs.all fun b => b K
abbrev hk : PySem.W.Hook := He.hookX 3 fa fn tb tf ex
section
open PySem PySem.W PyProof.Rows
local macro_rules | `(tactic| k_head) => `(tactic| o_head Lk.hk)
set_option maxHeartbeats 0
open_top hd for PySem.Challenge.rw_truechain_k34_names_and_copies
end
end Lk
/-! the data layer: values as trees, heaps out of sight -/
namespace Dl
open PySem PySem.Spec PyProof.Rows L2 GxR
/-- what is asked of a class whose objects are held as data -/
structure ObC (K : PySem.W.Frag) (c : Str) (C : Addr) : Prop where
  name : PySem.W.nsIn K mainGlobals c = some (some (.ref C))
  cls : Cls K C
  ha : PySem.W.findIn K (.ref C) "__class__" = some (some (.builtin "object.__class__"))
  hn : PySem.W.specialIn K (.builtin "object.__class__") "__get__" = some (some (.builtin "getset_descriptor.__get__"))
  ht : PySem.W.takesIn K (.builtin "object.__class__") = some true
  hm : PySem.W.mroIn K C (.type "object") = some true
  kit : ∀ n, (n = "int" ∨ n = "bool" ∨ n = "str" ∨ n = "list" ∨ n = "tuple" ∨ n = "dict") → PySem.W.kitOne K (.ref C) (.type n) = some false
/-- an object of a class of the module as data: its class by its name, its fields -/
def obD (c : Str) (ds : List (Str × PyData)) : PyData := .dict ((.none, .str c) :: ds.map fun p => (.str p.1, p.2))
mutual
inductive Rp (K : PySem.W.Frag) (F : Hp) : V → PyData → Prop
  | non : Rp K F .non .none
  | bl (b : Bool) : Rp K F (.bl b) (.bool b)
  | int (i : Int) : Rp K F (.int i) (.int i)
  | str (x : Str) : Rp K F (.str x) (.str x)
  | lst {a : Addr} {vs : List V} {xs : List PyData} (h : F a = some (.lst vs)) (r : RpA K F vs xs) : Rp K F (.ref a) (.list xs)
  | tup {a : Addr} {vs : List V} {xs : List PyData} (h : SqT K F a vs) (r : RpA K F vs xs) : Rp K F (.ref a) (.tuple xs)
  | dct {a : Addr} {kvs : List (Key × V)} {ks xs : List PyData} (h : F a = some (.dK kvs)) (r : RpA K F (kvs.map fun p => kV p.1) ks) (q : RpA K F (kvs.map Prod.snd) xs) : Rp K F (.ref a) (.dict (ks.zip xs))
  | obj {a C dx : Addr} {fs : List (Str × V)} {c : Str} {vs : List V} {ds : List (Str × PyData)} (h : F a = some (.ins C dx fs)) (hc : ObC K c C) (hn : ds.map (fun p => fs.lookup p.1) = vs.map some) (ho : ∀ n, n ∉ ds.map Prod.fst → fs.lookup n = none) (r : RpA K F vs (ds.map Prod.snd)) : Rp K F (.ref a) (obD c ds)
inductive RpA (K : PySem.W.Frag) (F : Hp) : List V → List PyData → Prop
  | nil : RpA K F [] []
  | cons {v : V} {vs : List V} {x : PyData} {xs : List PyData} (h : Rp K F v x) (t : RpA K F vs xs) : RpA K F (v :: vs) (x :: xs)
end
section
variable {K : PySem.W.Frag} {F F' : Hp}
theorem sqt_up {a : Addr} {vs : List V} (e : Same F F') (h : SqT K F a vs) : SqT K F' a vs := by
  rcases h with (h | ⟨o, h⟩) | h
  · exact .inl (.inl (e _ _ h))
  · exact .inl (.inr ⟨o, e _ _ h⟩)
  · exact .inr h
mutual
theorem Rp.up (e : Same F F') : ∀ {v : V} {x : PyData}, Rp K F v x → Rp K F' v x
  | _, _, .non => .non
  | _, _, .bl b => .bl b
  | _, _, .int b => .int b
  | _, _, .str b => .str b
  | _, _, .lst h r => .lst (e _ _ h) (RpA.up e r)
  | _, _, .tup h r => .tup (sqt_up e h) (RpA.up e r)
  | _, _, .dct h r q => .dct (e _ _ h) (RpA.up e r) (RpA.up e q)
  | _, _, .obj h hc hn ho r => .obj (e _ _ h) hc hn ho (RpA.up e r)
theorem RpA.up (e : Same F F') : ∀ {v : List V} {x : List PyData}, RpA K F v x → RpA K F' v x
  | _, _, .nil => .nil
  | _, _, .cons h t => .cons (Rp.up e h) (RpA.up e t)
end
theorem RpA.len : ∀ {vs : List V} {xs : List PyData}, RpA K F vs xs → vs.length = xs.length
  | _, _, .nil => rfl
  | _, _, .cons _ t => congrArg (· + 1) (RpA.len t)
theorem RpA.app : ∀ {vs ws : List V} {xs ys : List PyData}, RpA K F vs xs → RpA K F ws ys → RpA K F (vs ++ ws) (xs ++ ys)
  | _, _, _, _, .nil, q => q
  | _, _, _, _, .cons h t, q => .cons h (RpA.app t q)
theorem RpA.get : ∀ {vs : List V} {xs : List PyData} {i : Nat} {x : PyData}, RpA K F vs xs → xs[i]? = some x → ∃ v, vs[i]? = some v ∧ Rp K F v x
  | _, _, _, _, .nil, e => by simp at e
  | _, _, 0, _, .cons h _, e => by simp at e; subst e; exact ⟨_, rfl, h⟩
  | _, _, i + 1, x, .cons _ t, e => by
    obtain ⟨v, h1, h2⟩ := RpA.get (i := i) (x := x) t (by simpa using e)
    exact ⟨v, by simpa using h1, h2⟩
theorem RpA.getV : ∀ {vs : List V} {xs : List PyData} {i : Nat} {v : V}, RpA K F vs xs → vs[i]? = some v → ∃ x, xs[i]? = some x ∧ Rp K F v x
  | _, _, _, _, .nil, e => by simp at e
  | _, _, 0, _, .cons h _, e => by simp at e; subst e; exact ⟨_, rfl, h⟩
  | _, _, i + 1, x, .cons _ t, e => by
    obtain ⟨v, h1, h2⟩ := RpA.getV (i := i) (v := x) t (by simpa using e)
    exact ⟨v, by simpa using h1, h2⟩
theorem RpA.set {v : V} {x : PyData} (h : Rp K F v x) : ∀ {vs : List V} {xs : List PyData} (i : Nat), RpA K F vs xs → RpA K F (vs.set i v) (xs.set i x)
  | _, _, _, .nil => .nil
  | _, _, 0, .cons _ t => .cons h t
  | _, _, i + 1, .cons q t => .cons q (RpA.set h i t)
theorem RpA.take : ∀ {vs : List V} {xs : List PyData} (n : Nat), RpA K F vs xs → RpA K F (vs.take n) (xs.take n)
  | _, _, 0, _ => .nil
  | _, _, _ + 1, .nil => .nil
  | _, _, n + 1, .cons h t => .cons h (RpA.take n t)
theorem RpA.drop : ∀ {vs : List V} {xs : List PyData} (n : Nat), RpA K F vs xs → RpA K F (vs.drop n) (xs.drop n)
  | _, _, 0, h => h
  | _, _, _ + 1, .nil => .nil
  | _, _, n + 1, .cons _ t => RpA.drop n t
theorem RpA.ints : ∀ ns : List Int, RpA K F (ns.map V.int) (ns.map PyData.int)
  | [] => .nil
  | n :: ns => .cons (.int n) (RpA.ints ns)
/-- the ints of data that are all ints -/
theorem RpA.ofInts : ∀ {vs : List V} {ns : List Int}, RpA K F vs (ns.map PyData.int) → vs = ns.map V.int
  | _, [], .nil => rfl
  | _, n :: ns, .cons h t => by
    cases h
    rw [RpA.ofInts t]
    rfl
end
mutual
def noL : PyData → Bool
  | .none => true
  | .bool _ => true
  | .int _ => true
  | .str _ => true
  | .list _ => false
  | .tuple xs => noLs xs
  | .dict _ => false
def noLs : List PyData → Bool
  | [] => true
  | x :: xs => noL x && noLs xs
end
section
variable {K : PySem.W.Frag} {b : Bg} {F H F' H' : Hp}
/-- what may change -/
def isM : HO → Bool
  | .lst _ => true
  | .dK _ => true
  | .ins _ _ _ => true
  | .own _ => true
  | _ => false
mutual
theorem noL_up {F2 : Hp} (h : ∀ a o, isM o = false → F a = some o → F2 a = some o) : ∀ {v : V} {x : PyData}, noL x = true → Rp K F v x → Rp K F2 v x
  | _, _, _, .non => .non
  | _, _, _, .bl b => .bl b
  | _, _, _, .int b => .int b
  | _, _, _, .str b => .str b
  | _, _, n, .lst _ _ => by simp only [noL] at n; cases n
  | _, _, n, .tup e r => by
    refine .tup ?_ (noLs_up h (by simpa only [noL] using n) r)
    rcases e with (e | ⟨o, e⟩) | e
    · exact .inl (.inl (h _ _ rfl e))
    · exact .inl (.inr ⟨o, h _ _ rfl e⟩)
    · exact .inr e
  | _, _, n, .dct _ _ _ => by simp only [noL] at n; cases n
  | _, _, n, .obj _ _ _ _ _ => by simp only [obD, noL] at n; cases n
theorem noLs_up {F2 : Hp} (h : ∀ a o, isM o = false → F a = some o → F2 a = some o) : ∀ {v : List V} {x : List PyData}, noLs x = true → RpA K F v x → RpA K F2 v x
  | _, _, _, .nil => .nil
  | _, _, n, .cons a t => by
    rw [noLs, Bool.and_eq_true] at n
    exact .cons (noL_up h n.1 a) (noLs_up h n.2 t)
end
end
theorem key_up {K : PySem.W.Frag} {F F2 : Hp} {k : Key} {x : PyData} (h : Rp K F (kV k) x) : Rp K F2 (kV k) x := by
  cases k with
  | inl i => cases h; exact .int i
  | inr z => cases h; exact .str z
theorem noKs_up {K : PySem.W.Frag} {F F2 : Hp} : ∀ {kvs : List (Key × V)} {ks : List PyData}, RpA K F (kvs.map fun p => kV p.1) ks → RpA K F2 (kvs.map fun p => kV p.1) ks
  | [], _, .nil => .nil
  | (_, _) :: _, _, .cons h t => .cons (key_up h) (noKs_up t)
/-! ### trees of objects that are owned: S, the addresses of what may change -/
mutual
inductive Ot (K : PySem.W.Frag) (F H : Hp) (dp : Bool) : List Addr → V → PyData → Prop
  | leaf {v : V} {x : PyData} (r : Rp K F v x) (n : dp = true → noL x = true) : Ot K F H dp [] v x
  | lst {a : Addr} {S : List Addr} {vs : List V} {xs : List PyData} (h : H a = some (.lst vs)) (r : OtA K F H dp S vs xs) : Ot K F H dp (a :: S) (.ref a) (.list xs)
  | tup {a : Addr} {S : List Addr} {vs : List V} {xs : List PyData} (h : SqT K F a vs) (r : OtA K F H dp S vs xs) : Ot K F H dp S (.ref a) (.tuple xs)
  | dct {a : Addr} {S : List Addr} {kvs : List (Key × V)} {ks xs : List PyData} (h : H a = some (.dK kvs)) (r : RpA K F (kvs.map fun p => kV p.1) ks) (q : OtA K F H dp S (kvs.map Prod.snd) xs) : Ot K F H dp (a :: S) (.ref a) (.dict (ks.zip xs))
  | obj {a C dx : Addr} {S : List Addr} {fs : List (Str × V)} {c : Str} {vs : List V} {ds : List (Str × PyData)} (h : H a = some (.ins C dx fs)) (hd : H dx = some (.own a)) (hc : ObC K c C) (hn : ds.map (fun p => fs.lookup p.1) = vs.map some) (ho : ∀ n, n ∉ ds.map Prod.fst → fs.lookup n = none) (hl : fs.length = ds.length) (r : OtA K F H dp S vs (ds.map Prod.snd)) : Ot K F H dp (a :: dx :: S) (.ref a) (obD c ds)
inductive OtA (K : PySem.W.Frag) (F H : Hp) (dp : Bool) : List Addr → List V → List PyData → Prop
  | nil : OtA K F H dp [] [] []
  | cons {S T : List Addr} {v : V} {vs : List V} {x : PyData} {xs : List PyData} (h : Ot K F H dp S v x) (t : OtA K F H dp T vs xs) : OtA K F H dp (S ++ T) (v :: vs) (x :: xs)
end
section
variable {K : PySem.W.Frag} {F F' H H' : Hp} {dp : Bool}
mutual
theorem Ot.up (e : Same F F') : ∀ {S : List Addr} {v : V} {x : PyData}, (∀ a ∈ S, ∀ o, H a = some o → H' a = some o) → Ot K F H dp S v x → Ot K F' H' dp S v x
  | _, _, _, _, .leaf r n => .leaf (r.up e) n
  | _, _, _, k, .lst h r => .lst (k _ (List.mem_cons_self ..) _ h) (OtA.up e (fun a m => k a (List.mem_cons_of_mem _ m)) r)
  | _, _, _, k, .tup h r => .tup (sqt_up e h) (OtA.up e k r)
  | _, _, _, k, .dct h r q => .dct (k _ (List.mem_cons_self ..) _ h) (r.up e) (OtA.up e (fun a m => k a (List.mem_cons_of_mem _ m)) q)
  | _, _, _, k, .obj h hd hc hn ho hl r => .obj (k _ (List.mem_cons_self ..) _ h) (k _ (List.mem_cons_of_mem _ (List.mem_cons_self ..)) _ hd) hc hn ho hl (OtA.up e (fun a m => k a (List.mem_cons_of_mem _ (List.mem_cons_of_mem _ m))) r)
theorem OtA.up (e : Same F F') : ∀ {S : List Addr} {v : List V} {x : List PyData}, (∀ a ∈ S, ∀ o, H a = some o → H' a = some o) → OtA K F H dp S v x → OtA K F' H' dp S v x
  | _, _, _, _, .nil => .nil
  | _, _, _, k, .cons h t => .cons (Ot.up e (fun a m => k a (List.mem_append.mpr (.inl m))) h) (OtA.up e (fun a m => k a (List.mem_append.mpr (.inr m))) t)
end
/-- known too: what S holds -/
def opn (ls : List Addr) (F H : Hp) : Hp := fun a => if a ∈ ls then H a else F a
theorem opn_same {ls : List Addr} (h : ∀ l ∈ ls, F l = none) : Same F (opn ls F H) := fun a o e => by
  unfold opn
  rw [if_neg (fun z => by rw [h a z] at e; cases e)]
  exact e
mutual
theorem Ot.open {Z : List Addr} (e : Same F (opn Z F H)) : ∀ {S : List Addr} {v : V} {x : PyData}, (∀ a ∈ S, a ∈ Z) → Ot K F H dp S v x → Rp K (opn Z F H) v x
  | _, _, _, _, .leaf r _ => r.up e
  | _, _, _, k, .lst h r => .lst (by unfold opn; rw [if_pos (k _ (List.mem_cons_self ..))]; exact h) (OtA.open e (fun a m => k a (List.mem_cons_of_mem _ m)) r)
  | _, _, _, k, .tup h r => .tup (sqt_up e h) (OtA.open e k r)
  | _, _, _, k, .dct h r q => .dct (by unfold opn; rw [if_pos (k _ (List.mem_cons_self ..))]; exact h) (r.up e) (OtA.open e (fun a m => k a (List.mem_cons_of_mem _ m)) q)
  | _, _, _, k, .obj h hd hc hn ho hl r => .obj (by unfold opn; rw [if_pos (k _ (List.mem_cons_self ..))]; exact h) hc hn ho (OtA.open e (fun a m => k a (List.mem_cons_of_mem _ (List.mem_cons_of_mem _ m))) r)
theorem OtA.open {Z : List Addr} (e : Same F (opn Z F H)) : ∀ {S : List Addr} {v : List V} {x : List PyData}, (∀ a ∈ S, a ∈ Z) → OtA K F H dp S v x → RpA K (opn Z F H) v x
  | _, _, _, _, .nil => .nil
  | _, _, _, k, .cons h t => .cons (Ot.open e (fun a m => k a (List.mem_append.mpr (.inl m))) h) (OtA.open e (fun a m => k a (List.mem_append.mpr (.inr m))) t)
end
mutual
/-- what is owned stands there, and may change -/
theorem Ot.there : ∀ {S : List Addr} {v : V} {x : PyData}, Ot K F H dp S v x → ∀ a ∈ S, ∃ o, H a = some o ∧ isM o = true
  | _, _, _, .leaf _ _, _, m => absurd m List.not_mem_nil
  | _, _, _, .lst h r, a, m => by
    rcases List.mem_cons.mp m with rfl | m
    · exact ⟨_, h, rfl⟩
    · exact OtA.there r a m
  | _, _, _, .tup _ r, a, m => OtA.there r a m
  | _, _, _, .dct h _ q, a, m => by
    rcases List.mem_cons.mp m with rfl | m
    · exact ⟨_, h, rfl⟩
    · exact OtA.there q a m
  | _, _, _, .obj h hd _ _ _ _ r, a, m => by
    rcases List.mem_cons.mp m with rfl | m
    · exact ⟨_, h, rfl⟩
    · rcases List.mem_cons.mp m with rfl | m
      · exact ⟨_, hd, rfl⟩
      · exact OtA.there r a m
theorem OtA.there : ∀ {S : List Addr} {v : List V} {x : List PyData}, OtA K F H dp S v x → ∀ a ∈ S, ∃ o, H a = some o ∧ isM o = true
  | _, _, _, .nil, _, m => absurd m List.not_mem_nil
  | _, _, _, .cons h t, a, m => by
    rcases List.mem_append.mp m with m | m
    · exact Ot.there h a m
    · exact OtA.there t a m
end
theorem isM_tbl {o : HO} (h : isM o = true) : ∀ ps, o ≠ .tbl ps := fun ps e => by subst e; cases h
mutual
theorem Ot.shut {F2 : Hp} (h : ∀ a o, isM o = false → F a = some o → F2 a = some o) : ∀ {S : List Addr} {v : V} {x : PyData}, Ot K F H true S v x → Ot K F2 H true S v x
  | _, _, _, .leaf r n => .leaf (noL_up h (n rfl) r) n
  | _, _, _, .lst e r => .lst e (OtA.shut h r)
  | _, _, _, .tup e r => .tup (by
      rcases e with (e | ⟨o, e⟩) | e
      · exact .inl (.inl (h _ _ rfl e))
      · exact .inl (.inr ⟨o, h _ _ rfl e⟩)
      · exact .inr e) (OtA.shut h r)
  | _, _, _, .dct e r q => .dct e (noKs_up r) (OtA.shut h q)
  | _, _, _, .obj e hd hc hn ho hl r => .obj e hd hc hn ho hl (OtA.shut h r)
theorem OtA.shut {F2 : Hp} (h : ∀ a o, isM o = false → F a = some o → F2 a = some o) : ∀ {S : List Addr} {v : List V} {x : List PyData}, OtA K F H true S v x → OtA K F2 H true S v x
  | _, _, _, .nil => .nil
  | _, _, _, .cons q t => .cons (Ot.shut h q) (OtA.shut h t)
end
theorem OtA.len : ∀ {S : List Addr} {vs : List V} {xs : List PyData}, OtA K F H dp S vs xs → vs.length = xs.length
  | _, _, _, .nil => rfl
  | _, _, _, .cons _ t => congrArg (· + 1) (OtA.len t)
theorem OtA.of : ∀ {vs : List V} {xs : List PyData}, RpA K F vs xs → OtA K F H false [] vs xs
  | _, _, .nil => .nil
  | _, _, .cons h t => OtA.cons (S := []) (T := []) (.leaf h fun z => nomatch z) (OtA.of t)
mutual
theorem Ot.any : ∀ {S : List Addr} {v : V} {x : PyData}, Ot K F H dp S v x → Ot K F H false S v x
  | _, _, _, .leaf r _ => .leaf r fun z => nomatch z
  | _, _, _, .lst h r => .lst h (OtA.any r)
  | _, _, _, .tup h r => .tup h (OtA.any r)
  | _, _, _, .dct h r q => .dct h r (OtA.any q)
  | _, _, _, .obj h hd hc hn ho hl r => .obj h hd hc hn ho hl (OtA.any r)
theorem OtA.any : ∀ {S : List Addr} {v : List V} {x : List PyData}, OtA K F H dp S v x → OtA K F H false S v x
  | _, _, _, .nil => .nil
  | _, _, _, .cons h t => .cons (Ot.any h) (OtA.any t)
end
end
/-- what is a list or a dict at its root -/
def mutR : PyData → Bool
  | .list _ => true
  | .dict _ => true
  | _ => false
theorem Ot.root {K : PySem.W.Frag} {F H : Hp} {S : List Addr} {v : V} {x : PyData} (h : Ot K F H true S v x) : mutR x = true → S ≠ [] := by
  cases h with
  | leaf r n =>
    have n := n rfl
    cases x with
    | list xs => simp [noL] at n
    | dict xs => simp [noL] at n
    | _ => exact fun z => nomatch z
  | tup => exact fun z => nomatch z
  | lst => exact fun _ z => nomatch z
  | dct => exact fun _ z => nomatch z
  | obj => exact fun _ z => nomatch z
/-! ### the world of a running def: the bag, what is known F, the heap H -/
/-- where the bag stands, and the cells that it was made of; where the tables of codes stand -/
structure Bg where
  b : Addr
  c : Addr
  ns : List Int
  ts : List Addr
/-- the draws' list: three numbers and the cells -/
def Bag (b : Bg) (F H : Hp) : Prop := (∃ x y z : Int, H b.b = some (.lst [.int x, .int y, .int z, .ref b.c]) ∧ 0 ≤ x ∧ 0 ≤ y ∧ 0 ≤ z) ∧ F b.c = some (.lst (b.ns.map V.int)) ∧ (∀ n ∈ b.ns, 0 ≤ n) ∧ ∀ t ∈ b.ts, F t = none ∧ TabG H t
/-- a step of the world -/
structure Stp (K : PySem.W.Frag) (b : Bg) (F H F' H' : Hp) : Prop where
  keep : ∀ a o, a ≠ b.b → (∀ ps, o ≠ .tbl ps) → H a = some o → H' a = some o
  bag : Bag b F' H'
  ex : Same F F'
  sub : Same F' H'
  fb : F' b.b = none
  new : ∀ a, F a = none → H a ≠ none → F' a = none
  tab : ∀ a ps, a ≠ b.b → H a = some (.tbl ps) → ∃ qs, H' a = some (.tbl qs) ∧ (TriplesOk ps.toList → TriplesOk qs.toList)
/-- a step may begin here -/
structure Wd (K : PySem.W.Frag) (b : Bg) (F H : Hp) : Prop where
  bag : Bag b F H
  sub : Same F H
  fb : F b.b = none
section
variable {K : PySem.W.Frag} {b : Bg} {F H F' H' F2 H2 : Hp}
theorem Wd.refl (w : Wd K b F H) : Stp K b F H F H := ⟨fun _ _ _ _ h => h, w.bag, fun _ _ h => h, w.sub, w.fb, fun _ h _ => h, fun _ ps _ h => ⟨ps, h, fun q => q⟩⟩
theorem Stp.wd (s : Stp K b F H F' H') : Wd K b F' H' := ⟨s.bag, s.sub, s.fb⟩
theorem Stp.there (s : Stp K b F H F' H') {a : Addr} (ne : a ≠ b.b) (h : H a ≠ none) : H' a ≠ none := by
  cases e : H a with
  | none => exact absurd e h
  | some o =>
    by_cases t : ∃ ps, o = .tbl ps
    · obtain ⟨ps, rfl⟩ := t
      obtain ⟨qs, q, _⟩ := s.tab a ps ne e
      rw [q]; exact fun z => nomatch z
    · rw [s.keep a o ne (fun ps z => t ⟨ps, z⟩) e]; exact fun z => nomatch z
theorem Stp.trans (s : Stp K b F H F' H') (t : Stp K b F' H' F2 H2) : Stp K b F H F2 H2 :=
  ⟨fun a o ne nt h => t.keep a o ne nt (s.keep a o ne nt h), t.bag, s.ex.trans t.ex, t.sub, t.fb, fun a hf hh => by
    by_cases e : a = b.b
    · rw [e]; exact t.fb
    · exact t.new a (s.new a hf hh) (s.there e hh), fun a ps ne h => by
    obtain ⟨qs, h1, k1⟩ := s.tab a ps ne h
    obtain ⟨rs, h2, k2⟩ := t.tab a qs ne h1
    exact ⟨rs, h2, fun z => k2 (k1 z)⟩⟩
theorem Bag.up (h : Bag b F H) (e : Same F F') (hb : H' b.b = H b.b) (ht : ∀ t ∈ b.ts, F t = none → TabG H t → F' t = none ∧ TabG H' t) : Bag b F' H' := by
  obtain ⟨⟨x, y, z, eb, r⟩, ec, q, k⟩ := h
  exact ⟨⟨x, y, z, hb.trans eb, r⟩, e _ _ ec, q, fun t m => ht t m (k t m).1 (k t m).2⟩
theorem TabG.ne {t p : Addr} (h : TabG H t) (hp : H p = none) : t ≠ p := fun e => by
  obtain ⟨ps, z, _⟩ := h
  rw [e, hp] at z
  cases z
theorem TabG.up {t p : Addr} {o : HO} (h : TabG H t) (hp : H p = none) : TabG (upd H p o) t := by
  obtain ⟨ps, z, k⟩ := id h
  exact ⟨ps, by rw [upd_ne (TabG.ne h hp)]; exact z, k⟩
theorem Bag.lst (h : Bag b F H) : ∃ vs, H b.b = some (.lst vs) := let ⟨⟨_, _, _, e, _⟩, _⟩ := h; ⟨_, e⟩
theorem same_laid {p : Addr} {o : HO} (hf : F p = none) : Same F (upd F p o) := fun a u h => by
  rw [upd_ne (ne_of_none h hf)]; exact h
/-- a new object is laid, known from now on -/
theorem Wd.laid (w : Wd K b F H) {p : Addr} {o : HO} (hp : H p = none) : Stp K b F H (upd F p o) (upd H p o) := by
  obtain ⟨vs, eb⟩ := w.bag.lst
  have pb : p ≠ b.b := fun e => by rw [e, eb] at hp; cases hp
  have fp : F p = none := by
    cases e : F p with
    | none => rfl
    | some o => rw [w.sub _ _ e] at hp; cases hp
  refine ⟨fun a u ne _ h => ?_, w.bag.up (same_laid fp) (upd_ne (Ne.symm pb)) (fun t _ h1 h2 => ⟨by rw [upd_ne (TabG.ne h2 hp)]; exact h1, TabG.up h2 hp⟩), same_laid fp, fun a u h => ?_, ?_, fun a hf hh => ?_, fun a ps ne h => ⟨ps, by rw [upd_ne (ne_of_none h hp)]; exact h, fun q => q⟩⟩
  · rw [upd_ne (ne_of_none h hp)]; exact h
  · by_cases e : a = p
    · rw [e, upd_same] at h ⊢; exact h
    · rw [upd_ne e] at h ⊢; exact w.sub _ _ h
  · rw [upd_ne (Ne.symm pb)]; exact w.fb
  · by_cases e : a = p
    · rw [e] at hh; exact absurd hp hh
    · rw [upd_ne e]; exact hf
/-- .. not known yet -/
theorem Wd.laidM (w : Wd K b F H) {p : Addr} {o : HO} (hp : H p = none) : Stp K b F H F (upd H p o) := by
  obtain ⟨vs, eb⟩ := w.bag.lst
  have pb : p ≠ b.b := fun e => by rw [e, eb] at hp; cases hp
  refine ⟨fun a u ne _ h => ?_, w.bag.up (fun _ _ h => h) (upd_ne (Ne.symm pb)) (fun t _ h1 h2 => ⟨h1, TabG.up h2 hp⟩), fun a u h => h, fun a u h => ?_, w.fb, fun a hf hh => hf, fun a ps ne h => ⟨ps, by rw [upd_ne (ne_of_none h hp)]; exact h, fun q => q⟩⟩
  · rw [upd_ne (ne_of_none h hp)]; exact h
  · have := w.sub _ _ h
    rw [upd_ne (ne_of_none this hp)]; exact this
end
/-! ### values and slots -/
inductive DV where
  | d (x : PyData)
  | fr (xs : List PyData)
  /-- a new tree -/
  | ft (x : PyData)
  | ow (l : Addr) (xs : List PyData)
  /-- a tree that stands in a slot -/
  | tr (p : Bool) (S : List Addr) (x : PyData)
  | raw (v : V)
  | bag
inductive Sl where
  | un
  | d (x : PyData)
  | ow (l : Addr) (xs : List PyData)
  | tr (p : Bool) (S : List Addr) (x : PyData)
  /-- a tree whose root is known: what a def may change within its argument -/
  | tv (v : V) (S : List Addr) (x : PyData)
  | raw (v : V)
  | bag
/-- a value v stands for dv: H₀ ahead of the evaluation, F H behind it -/
def Res (K : PySem.W.Frag) (b : Bg) (H₀ F H : Hp) : DV → V → Prop
  | .d x, v => Rp K F v x
  | .fr xs, v => ∃ p vs, v = .ref p ∧ H₀ p = none ∧ F p = none ∧ p ≠ b.b ∧ H p = some (.lst vs) ∧ RpA K F vs xs
  | .ow l xs, v => v = .ref l ∧ F l = none ∧ l ≠ b.b ∧ ∃ vs, H l = some (.lst vs) ∧ RpA K F vs xs
  | .ft x, v => ∃ S, S.Nodup ∧ (∀ a ∈ S, H₀ a = none ∧ F a = none ∧ a ≠ b.b) ∧ Ot K F H true S v x
  | .tr p S x, v => (∀ a ∈ S, F a = none ∧ a ≠ b.b) ∧ Ot K F H p S v x
  | .raw u, v => v = u
  | .bag, v => v = .ref b.b
/-- what a slot owns -/
def slA : Sl → List Addr
  | .ow l _ => [l]
  | .tr _ S _ => S
  | .tv _ S _ => S
  | _ => []
def SlOk (K : PySem.W.Frag) (b : Bg) (H₀ F H : Hp) : Sl → Option (Option V) → Prop
  | .un, _ => True
  | .d x, o => ∃ v, o = some (some v) ∧ Rp K F v x
  | .ow l xs, o => o = some (some (.ref l)) ∧ H₀ l = none ∧ F l = none ∧ l ≠ b.b ∧ ∃ vs, H l = some (.lst vs) ∧ RpA K F vs xs
  | .tr p S x, o => ∃ v, o = some (some v) ∧ S.Nodup ∧ (∀ a ∈ S, H₀ a = none ∧ F a = none ∧ a ≠ b.b) ∧ (mutR x = true → S ≠ []) ∧ Ot K F H p S v x
  | .tv v S x, o => o = some (some v) ∧ S.Nodup ∧ (∀ a ∈ S, H₀ a = none ∧ F a = none ∧ a ≠ b.b) ∧ (mutR x = true → S ≠ []) ∧ Ot K F H true S v x
  | .raw v, o => o = some (some v)
  | .bag, o => o = some (some (.ref b.b))
/-- the slots stand for env; since the def's entry (F₀ H₀) -/
structure Rel (K : PySem.W.Frag) (b : Bg) (F₀ H₀ : Hp) (env : List Sl) (σ : L2.St) (F H : Hp) : Prop where
  len : σ.length = env.length
  st : Stp K b F₀ H₀ F H
  at' : ∀ (i : Nat) (s : Sl), env[i]? = some s → SlOk K b H₀ F H s σ[i]?
  own : ∀ (i j : Nat) (s t : Sl) (a : Addr), env[i]? = some s → env[j]? = some t → a ∈ slA s → a ∈ slA t → i = j
section
variable {K : PySem.W.Frag} {b : Bg} {F₀ H₀ F H F' H' : Hp} {env : List Sl} {σ : L2.St}
theorem Rel.wd (r : Rel K b F₀ H₀ env σ F H) : Wd K b F H := r.st.wd
theorem SlOk.step (w : Wd K b F H) (s : Stp K b F H F' H') : ∀ {z : Sl} {o : Option (Option V)}, SlOk K b H₀ F H z o → SlOk K b H₀ F' H' z o
  | .un, _, _ => True.intro
  | .d _, _, ⟨v, e, r⟩ => ⟨v, e, r.up s.ex⟩
  | .ow l xs, _, ⟨e, h0, hf, ne, vs, hl, r⟩ => ⟨e, h0, s.new l hf (by rw [hl]; exact fun z => nomatch z), ne, vs, s.keep _ _ ne (fun _ z => nomatch z) hl, r.up s.ex⟩
  | .tr p S x, _, ⟨v, e, nd, k, mr, q⟩ => ⟨v, e, nd, fun a m => by
      obtain ⟨o, ho, _⟩ := q.there a m
      exact ⟨(k a m).1, s.new a (k a m).2.1 (by rw [ho]; exact fun z => nomatch z), (k a m).2.2⟩, mr, q.up s.ex fun a m o ho => by
      obtain ⟨o', ho', nt⟩ := q.there a m
      rw [ho] at ho'
      cases ho'
      exact s.keep a o (k a m).2.2 (isM_tbl nt) ho⟩
  | .tv v S x, _, ⟨e, nd, k, mr, q⟩ => ⟨e, nd, fun a m => by
      obtain ⟨o, ho, _⟩ := q.there a m
      exact ⟨(k a m).1, s.new a (k a m).2.1 (by rw [ho]; exact fun z => nomatch z), (k a m).2.2⟩, mr, q.up s.ex fun a m o ho => by
      obtain ⟨o', ho', nt⟩ := q.there a m
      rw [ho] at ho'
      cases ho'
      exact s.keep a o (k a m).2.2 (isM_tbl nt) ho⟩
  | .raw _, _, e => e
  | .bag, _, e => e
theorem Rel.step (r : Rel K b F₀ H₀ env σ F H) (s : Stp K b F H F' H') : Rel K b F₀ H₀ env σ F' H' :=
  ⟨r.len, r.st.trans s, fun i z h => (r.at' i z h).step r.wd s, r.own⟩
theorem Res.step (s : Stp K b F H F' H') {Hz : Hp} : ∀ {dv : DV} {v : V}, Res K b Hz F H dv v → Res K b Hz F' H' dv v
  | .d _, _, r => Rp.up s.ex r
  | .fr xs, _, ⟨p, vs, e, h0, hf, ne, hp, r⟩ => ⟨p, vs, e, h0, s.new p hf (by rw [hp]; exact fun z => nomatch z), ne, s.keep _ _ ne (fun _ z => nomatch z) hp, r.up s.ex⟩
  | .ow l xs, _, ⟨e, hf, ne, vs, hp, r⟩ => ⟨e, s.new l hf (by rw [hp]; exact fun z => nomatch z), ne, vs, s.keep _ _ ne (fun _ z => nomatch z) hp, r.up s.ex⟩
  | .ft x, _, ⟨S, nd, k, q⟩ => ⟨S, nd, fun a m => by
      obtain ⟨o, ho, _⟩ := q.there a m
      exact ⟨(k a m).1, s.new a (k a m).2.1 (by rw [ho]; exact fun z => nomatch z), (k a m).2.2⟩, q.up s.ex fun a m o ho => by
      obtain ⟨o', ho', nt⟩ := q.there a m
      rw [ho] at ho'
      cases ho'
      exact s.keep a o (k a m).2.2 (isM_tbl nt) ho⟩
  | .tr p S x, _, ⟨k, q⟩ => ⟨fun a m => by
      obtain ⟨o, ho, _⟩ := q.there a m
      exact ⟨s.new a (k a m).1 (by rw [ho]; exact fun z => nomatch z), (k a m).2⟩, q.up s.ex fun a m o ho => by
      obtain ⟨o', ho', nt⟩ := q.there a m
      rw [ho] at ho'
      cases ho'
      exact s.keep a o (k a m).2 (isM_tbl nt) ho⟩
  | .raw _, _, e => e
  | .bag, _, e => e
theorem Stp.back (s : Stp K b F H F' H') {p : Addr} (ne : p ≠ b.b) (h : H' p = none) : H p = none := by
  cases e : H p with
  | none => rfl
  | some o => exact absurd h (s.there ne (by rw [e]; exact fun z => nomatch z))
theorem Res.early (s : Stp K b F H F' H') {F2 H2 : Hp} : ∀ {dv : DV} {v : V}, Res K b H' F2 H2 dv v → Res K b H F2 H2 dv v
  | .d _, _, r => r
  | .fr xs, _, ⟨p, vs, e, h0, hf, ne, hp, r⟩ => ⟨p, vs, e, s.back ne h0, hf, ne, hp, r⟩
  | .ft x, _, ⟨S, nd, k, q⟩ => ⟨S, nd, fun a m => ⟨s.back (k a m).2.2 (k a m).1, (k a m).2⟩, q⟩
  | .tr p S x, _, r => r
  | .ow l xs, _, r => r
  | .raw _, _, e => e
  | .bag, _, e => e
/-- a fresh list becomes known: seen from Fz Hz, ahead of its making -/
theorem Stp.freeze {Fz Hz : Hp} (s : Stp K b Fz Hz F H) {p : Addr} {vs : List V} (h0 : Hz p = none) (hf : F p = none) (ne : p ≠ b.b) (hp : H p = some (.lst vs)) : Stp K b Fz Hz (upd F p (.lst vs)) H := by
  refine ⟨s.keep, s.bag.up (same_laid hf) rfl (fun t _ h1 h2 => ⟨by rw [upd_ne (fun e => by obtain ⟨ps, z, _⟩ := h2; rw [e, hp] at z; cases z)]; exact h1, h2⟩), fun a o h => ?_, fun a o h => ?_, ?_, fun a h1 h2 => ?_, s.tab⟩
  · have := s.ex a o h
    rw [upd_ne (ne_of_none this hf)]; exact this
  · by_cases e : a = p
    · rw [e, upd_same] at h; rw [e, hp]; exact h
    · rw [upd_ne e] at h; exact s.sub _ _ h
  · rw [upd_ne (Ne.symm ne)]; exact s.fb
  · by_cases e : a = p
    · rw [e] at h2; exact absurd h0 h2
    · rw [upd_ne e]; exact s.new a h1 h2
/-- a tree becomes known: seen from Fz Hz, ahead of its making -/
theorem Stp.freezeT {Fz Hz : Hp} (s : Stp K b Fz Hz F H) {S : List Addr} (k : ∀ a ∈ S, Hz a = none ∧ F a = none ∧ a ≠ b.b) (th : ∀ a ∈ S, ∃ o, H a = some o ∧ isM o = true) : Stp K b Fz Hz (opn S F H) H := by
  have e : Same F (opn S F H) := opn_same fun l m => (k l m).2.1
  refine ⟨s.keep, s.bag.up e rfl (fun t _ h1 h2 => ⟨by
    unfold opn
    rw [if_neg fun m => by
      obtain ⟨ps, z, _⟩ := h2
      obtain ⟨o, ho, nt⟩ := th t m
      rw [ho] at z
      cases z
      cases nt]
    exact h1, h2⟩), s.ex.trans e, fun a o h => ?_, ?_, fun a h1 h2 => ?_, s.tab⟩
  · unfold opn at h
    split at h
    · exact h
    · exact s.sub _ _ h
  · unfold opn
    rw [if_neg fun m => (k _ m).2.2 rfl]
    exact s.fb
  · unfold opn
    rw [if_neg fun m => h2 (k _ m).1]
    exact s.new a h1 h2
end
end Dl
namespace Dl
open PySem PySem.Spec PyProof.Rows L2
theorem pe_weak {X : Cx} {e : Expr} {t u : TE} (h : PE X e t) (i : ∀ σ H Q, u σ H Q → t σ H Q) : PE X e u := ⟨fun p s σ H Q I q => h.run p s σ H Q I (i σ H Q q)⟩
theorem pt_weak {X : Cx} {e : Expr} {t u : TT} (h : PT X e t) (i : ∀ σ H Q, u σ H Q → t σ H Q) : PT X e u := ⟨fun p s σ H Q I q => h.run p s σ H Q I (i σ H Q q)⟩
theorem pw_weak {X : Cx} {e : Expr} {t u : TT} (h : PW X e t) (i : ∀ σ H Q, u σ H Q → t σ H Q) : PW X e u := ⟨fun wh p s σ H Q I q => h.run wh p s σ H Q I (i σ H Q q)⟩
theorem pa_weak {X : Cx} {e : List Expr} {t u : TA} (h : PA X e t) (i : ∀ σ H Q, u σ H Q → t σ H Q) : PA X e u := ⟨fun wh p s σ H Q I q => h.run wh p s σ H Q I (i σ H Q q)⟩
theorem ps_weak {X : Cx} {e : Stmt} {t u : TS} (h : PS X e t) (i : ∀ D σ H, u D σ H → t D σ H) : PS X e u := ⟨fun p s σ H D I q => h.run p s σ H D I (i D σ H q)⟩
theorem pss_weak {X : Cx} {e : List Stmt} {t u : TS} (h : PSs X e t) (i : ∀ D σ H, u D σ H → t D σ H) : PSs X e u := ⟨fun p s σ H D I q => h.run p s σ H D I (i D σ H q)⟩
/-- what stays through a def's run: the bag's place, what was known and what stood at the entry -/
structure Wn where
  b : Bg
  F : Hp
  H : Hp
abbrev RelW (K : PySem.W.Frag) (w : Wn) (env : List Sl) (σ : L2.St) (F H : Hp) : Prop := Rel K w.b w.F w.H env σ F H
abbrev DT := List Sl → (DV → Prop) → Prop
abbrev DTT := List Sl → (Bool → Prop) → Prop
abbrev DA := List Sl → (List DV → Prop) → Prop
structure DK where
  nx : List Sl → Prop
  rt : DV → Prop
  bk : List Sl → Prop := fun _ => False
  ct : List Sl → Prop := fun _ => False
abbrev DS := DK → List Sl → Prop
/-- an argument's value -/
def ArR (K : PySem.W.Frag) (b : Bg) (F H : Hp) : DV → V → Prop
  | .d x, v => Rp K F v x
  | .ow l xs, v => v = .ref l ∧ F l = none ∧ l ≠ b.b ∧ ∃ vs, H l = some (.lst vs) ∧ RpA K F vs xs
  | .raw u, v => v = u
  | .bag, v => v = .ref b.b
  | .tr p S x, v => (∀ a ∈ S, F a = none ∧ a ≠ b.b) ∧ Ot K F H p S v x
  | .fr _, _ => False
  | .ft _, _ => False
def lf (K : PySem.W.Frag) (w : Wn) (t : DT) : TE := fun σ H Q => ∃ env F P, RelW K w env σ F H ∧ t env P ∧ ∀ dv v F' H', Stp K w.b F H F' H' → Res K w.b H F' H' dv v → P dv → Q v H'
def lfT (K : PySem.W.Frag) (w : Wn) (t : DTT) : TT := fun σ H Q => ∃ env F P, RelW K w env σ F H ∧ t env P ∧ ∀ c F' H', Stp K w.b F H F' H' → P c → Q c H'
def lfA (K : PySem.W.Frag) (w : Wn) (t : DA) : TA := fun σ H Q => ∃ env F P, RelW K w env σ F H ∧ t env P ∧ ∀ dvs vs F' H', Stp K w.b F H F' H' → Paired (ArR K w.b F' H') dvs vs → P dvs → Q vs H'
structure Fit (K : PySem.W.Frag) (w : Wn) (F₁ : Hp) (d : DK) (D : Ends) : Prop where
  nx : ∀ env σ F H, RelW K w env σ F H → Same F₁ F → d.nx env → D.nx σ H
  bk : ∀ env σ F H, RelW K w env σ F H → Same F₁ F → d.bk env → D.bk σ H
  ct : ∀ env σ F H, RelW K w env σ F H → Same F₁ F → d.ct env → D.ct σ H
  rt : ∀ dv v F H, Stp K w.b w.F w.H F H → Res K w.b w.H F H dv v → d.rt dv → D.rt v H
theorem Fit.up {K : PySem.W.Frag} {w : Wn} {F₁ F₂ : Hp} {d : DK} {D : Ends} (f : Fit K w F₁ d D) (s : Same F₁ F₂) : Fit K w F₂ d D :=
  ⟨fun env σ F H r z => f.nx env σ F H r (s.trans z), fun env σ F H r z => f.bk env σ F H r (s.trans z), fun env σ F H r z => f.ct env σ F H r (s.trans z), f.rt⟩
theorem sm0 {F : Hp} : Same F F := fun _ _ z => z
def lfS (K : PySem.W.Frag) (w : Wn) (t : DS) : TS := fun D σ H => ∃ env F d, RelW K w env σ F H ∧ t d env ∧ Fit K w F d D
abbrev DPE (X : Cx) (w : Wn) (e : Expr) (t : DT) : Prop := PE X e (lf X.K w t)
abbrev DPT (X : Cx) (w : Wn) (e : Expr) (t : DTT) : Prop := PT X e (lfT X.K w t)
abbrev DPW (X : Cx) (w : Wn) (e : Expr) (t : DTT) : Prop := PW X e (lfT X.K w t)
abbrev DPA (X : Cx) (w : Wn) (e : List Expr) (t : DA) : Prop := PA X e (lfA X.K w t)
abbrev DPS (X : Cx) (w : Wn) (e : Stmt) (t : DS) : Prop := PS X e (lfS X.K w t)
abbrev DPSs (X : Cx) (w : Wn) (e : List Stmt) (t : DS) : Prop := PSs X e (lfS X.K w t)
/-! ### what a value is read as -/
def rd : DV → (PyData → Prop) → Prop
  | .d x, k => k x
  | .fr xs, k => k (.list xs)
  | .ow _ xs, k => k (.list xs)
  | .raw _, _ => False
  | .bag, _ => False
  | .ft _, _ => False
  | .tr _ _ _, _ => False
inductive Rr (K : PySem.W.Frag) (b : Bg) (F H : Hp) : V → PyData → Prop
  | d {v : V} {x : PyData} (h : Rp K F v x) : Rr K b F H v x
  | o {l : Addr} {vs : List V} {xs : List PyData} (hf : F l = none) (ne : l ≠ b.b) (h : H l = some (.lst vs)) (r : RpA K F vs xs) : Rr K b F H (.ref l) (.list xs)
section
variable {K : PySem.W.Frag} {b : Bg} {F H F' H' Hz : Hp} {v : V}
theorem Rr.step (s : Stp K b F H F' H') {x : PyData} : Rr K b F H v x → Rr K b F' H' v x
  | .d h => .d (h.up s.ex)
  | .o hf ne h r => .o (s.new _ hf (by rw [h]; exact fun z => nomatch z)) ne (s.keep _ _ ne (by intro _ z; cases z) h) (r.up s.ex)
theorem rd_ok {dv : DV} {k : PyData → Prop} (r : Res K b Hz F H dv v) (h : rd dv k) : ∃ x, Rr K b F H v x ∧ k x := by
  cases dv with
  | d x => exact ⟨x, .d r, h⟩
  | fr xs =>
    obtain ⟨p, vs, rfl, _, hf, ne, hp, q⟩ := r
    exact ⟨_, .o hf ne hp q, h⟩
  | ow l xs =>
    obtain ⟨rfl, hf, ne, vs, hp, q⟩ := r
    exact ⟨_, .o hf ne hp q, h⟩
  | raw u => exact False.elim h
  | bag => exact False.elim h
  | ft x => exact False.elim h
  | tr p S x => exact False.elim h
theorem Rr.int {i : Int} (h : Rr K b F H v (.int i)) : v = .int i := by cases h with | d h => cases h; rfl
theorem Rr.bl {i : Bool} (h : Rr K b F H v (.bool i)) : v = .bl i := by cases h with | d h => cases h; rfl
theorem Rr.str {i : Str} (h : Rr K b F H v (.str i)) : v = .str i := by cases h with | d h => cases h; rfl
theorem Rr.non (h : Rr K b F H v .none) : v = .non := by cases h with | d h => cases h; rfl
theorem Rr.lst {xs : List PyData} (w : Same F H) (h : Rr K b F H v (.list xs)) : ∃ l vs, v = .ref l ∧ H l = some (.lst vs) ∧ RpA K F vs xs := by
  cases h with
  | d h => cases h with | lst h r => exact ⟨_, _, rfl, w _ _ h, r⟩
  | o _ _ h r => exact ⟨_, _, rfl, h, r⟩
theorem Rr.tup {xs : List PyData} (w : Same F H) (h : Rr K b F H v (.tuple xs)) : ∃ l vs, v = .ref l ∧ SqT K H l vs ∧ RpA K F vs xs := by
  cases h with
  | d h => cases h with | tup h r => exact ⟨_, _, rfl, sqt_up w h, r⟩
theorem Rr.all {x : PyData} (w : Same F H) (h : Rr K b F H v x) : Rp K H v x := by
  cases h with
  | d h => exact h.up w
  | o hf ne h r => exact .lst h (r.up w)
theorem Res.intOf {i : Int} (r : Res K b Hz F H (.d (.int i)) v) : v = .int i := by cases (show Rp K F v (.int i) from r); rfl
theorem Res.blOf {i : Bool} (r : Res K b Hz F H (.d (.bool i)) v) : v = .bl i := by cases (show Rp K F v (.bool i) from r); rfl
end
/-! ### expressions -/
section
variable {X : Cx} {w : Wn} {a b e c : Expr} {ta tb tc te : DT} {pos : Pos}
def tVarD (i : Nat) : DT := fun env P => match env[i]? with
  | some (.d x) => P (.d x)
  | some (.ow l xs) => P (.ow l xs)
  | some (.tr p S x) => P (.tr p S x)
  | some (.tv _ S x) => P (.tr true S x)
  | some (.raw v) => P (.raw v)
  | some .bag => P .bag
  | _ => False
theorem d_var (i : Nat) {x : Str} (hN : X.N[i]? = some x := by rfl) (hv : Vis X.env.scope x := by first | exact Or.inl rfl | exact Or.inr (Or.inl rfl) | exact Or.inr (Or.inr rfl)) (hd : (x == ("__debug__" : Str)) = false := by decide) (hc : (x == ("__classdict__" : Str)) = false := by decide) :
    DPE X w (.Name x pos) (tVarD i) := pe_weak (pe_var hN hv hd hc) fun σ H Q ⟨env, F, P, r, h, q⟩ => by
  unfold tVarD at h
  split at h
  · next x e =>
    obtain ⟨v, e1, r1⟩ := r.at' i _ e
    exact ⟨v, e1, q (.d x) _ F H r.wd.refl r1 h⟩
  · next l xs e =>
    obtain ⟨e1, h0, hf, ne, vs, hl, r1⟩ := r.at' i _ e
    exact ⟨_, e1, q (.ow l xs) _ F H r.wd.refl ⟨rfl, hf, ne, vs, hl, r1⟩ h⟩
  · next p S x e =>
    obtain ⟨v, e1, _, k, _, q1⟩ := r.at' i _ e
    exact ⟨v, e1, q (.tr p S x) v F H r.wd.refl ⟨fun a m => (k a m).2, q1⟩ h⟩
  · next v S x e =>
    obtain ⟨e1, _, k, _, q1⟩ := r.at' i _ e
    exact ⟨v, e1, q (.tr true S x) v F H r.wd.refl ⟨fun a m => (k a m).2, q1⟩ h⟩
  · next v e => exact ⟨v, r.at' i _ e, q (.raw v) v F H r.wd.refl rfl h⟩
  · next e => exact ⟨_, r.at' i _ e, q .bag _ F H r.wd.refl rfl h⟩
  · exact h.elim
def tCD (x : PyData) : DT := fun _ P => P (.d x)
theorem d_int {i : Int} {j} : DPE X w (.Constant (.int i) j pos) (tCD (.int i)) := pe_weak pe_int fun σ H Q ⟨env, F, P, r, h, q⟩ => q (.d (.int i)) _ F H r.wd.refl (Rp.int i) h
theorem d_bl {i : Bool} {j} : DPE X w (.Constant (.bool i) j pos) (tCD (.bool i)) := pe_weak pe_bl fun σ H Q ⟨env, F, P, r, h, q⟩ => q (.d (.bool i)) _ F H r.wd.refl (Rp.bl i) h
theorem d_str {i : Str} {j} : DPE X w (.Constant (.str i) j pos) (tCD (.str i)) := pe_weak pe_str fun σ H Q ⟨env, F, P, r, h, q⟩ => q (.d (.str i)) _ F H r.wd.refl (Rp.str i) h
/-- a number that the module names -/
theorem d_globI {x : Str} {i : Int} {t : Tok} (hg : Gl X x) (hm : X.mg x = some (.int i t)) (hd : (x == ("__debug__" : Str)) = false := by decide) : DPE X w (.Name x pos) (tCD (.int i)) :=
  pe_weak (pe_glob (v := .int i) hg hm ⟨t, rfl⟩ hd) fun σ H Q ⟨env, F, P, r, h, q⟩ => q (.d (.int i)) _ F H r.wd.refl (Rp.int i) h
def tRaw (v : V) : DT := fun _ P => P (.raw v)
/-- a built-in class as a value -/
theorem d_ty {x : Str} {n : String} (hg : Gl X x) (hm : X.mg x = none) (hv : bootBuiltins x = some (.type n)) (hn : x ≠ "__name__" := by decide) (hd : (x == ("__debug__" : Str)) = false := by decide) : DPE X w (.Name x pos) (tRaw (.ty n)) :=
  pe_weak (pe_bltn (v := .ty n) hg hm hv rfl hn hd) fun σ H Q ⟨env, F, P, r, h, q⟩ => q (.raw (.ty n)) _ F H r.wd.refl rfl h
/-! two operands -/
abbrev G2 := PyData → PyData → (DV → Prop) → Prop
def lR (K : PySem.W.Frag) (b : Bg) (g : G2) : R2 := fun x y H Q => ∃ F dx dy P, Wd K b F H ∧ Rr K b F H x dx ∧ Rr K b F H y dy ∧ g dx dy P ∧ ∀ dv v F' H', Stp K b F H F' H' → Res K b H F' H' dv v → P dv → Q v H'
def tBin (g : G2) (ta tb : DT) : DT := fun env P => ta env fun u => rd u fun x => tb env fun z => rd z fun y => g x y P
theorem bin_go {g : G2} {σ : L2.St} {H : Hp} {Q : VK} (h : lf X.K w (tBin g ta tb) σ H Q) : tOp (lR X.K w.b g) (lf X.K w ta) (lf X.K w tb) σ H Q := by
  obtain ⟨env, F, P, r, h, q⟩ := h
  refine ⟨env, F, _, r, h, fun dv v F1 H1 s1 r1 h1 => ?_⟩
  obtain ⟨x, x1, h1⟩ := rd_ok r1 h1
  refine ⟨env, F1, _, r.step s1, h1, fun dv2 v2 F2 H2 s2 r2 h2 => ?_⟩
  obtain ⟨y, y1, h2⟩ := rd_ok r2 h2
  exact ⟨F2, x, y, P, s2.wd, x1.step s2, y1, h2, fun dv3 v3 F3 H3 s3 r3 h3 => q dv3 v3 F3 H3 ((s1.trans s2).trans s3) (r3.early (s1.trans s2)) h3⟩
theorem d_bin {op : Operator} {g : G2} (ho : OpR X (binaryOp op) (lR X.K w.b g)) (ha : DPE X w a ta) (hb : DPE X w b tb) : DPE X w (.BinOp a op b pos) (tBin g ta tb) :=
  pe_weak (pe_op ho ha hb) fun _ _ _ h => bin_go h
theorem d_cmp {op : CmpOp} {g : G2} (ho : OpR X (compareOp op) (lR X.K w.b g)) (ha : DPE X w a ta) (hb : DPE X w b tb) (hm : behindInMarks op b = false := by first | exact nomark _ | rfl) : DPE X w (.Compare a [op] [b] pos) (tBin g ta tb) :=
  pe_weak (pe_cmpR ho ha hb hm) fun _ _ _ h => bin_go h
/-- the Bool that a value of True, False is -/
def isB : DV → (Bool → Prop) → Prop
  | .d (.bool c), k => k c
  | _, _ => False
theorem isB_ok {K : PySem.W.Frag} {b : Bg} {Hz F H : Hp} {v : V} {dv : DV} {k : Bool → Prop} (r : Res K b Hz F H dv v) (h : isB dv k) : ∃ c, v = .bl c ∧ k c := by
  unfold isB at h
  split at h
  · next c => exact ⟨c, r.blOf, h⟩
  · exact h.elim
def tTst (t : DT) : DTT := fun env P => t env fun u => isB u P
theorem dt_cmp {op : CmpOp} {g : G2} (ho : OpR X (compareOp op) (lR X.K w.b g)) (ha : DPE X w a ta) (hb : DPE X w b tb) (hm : behindInMarks op b = false := by first | exact nomark _ | rfl) : DPT X w (.Compare a [op] [b] pos) (tTst (tBin g ta tb)) :=
  pt_weak (pt_cmpR ho ha hb hm) fun σ H Q ⟨env, F, P, r, h, q⟩ => bin_go ⟨env, F, _, r, h, fun dv v F1 H1 s1 r1 h1 => by
    obtain ⟨c, rfl, h1⟩ := isB_ok r1 h1
    exact ⟨c, rfl, q c F1 H1 s1 h1⟩⟩
/-! one operand -/
abbrev G1 := PyData → (DV → Prop) → Prop
def tUnD (g : G1) (ta : DT) : DT := fun env P => ta env fun u => rd u fun x => g x P
def gNeg : G1 := fun x P => match x with
  | .int i => P (.d (.int (-i)))
  | _ => False
theorem d_neg (ha : DPE X w a ta) : DPE X w (.UnaryOp .USub a pos) (tUnD gNeg ta) := pe_weak (pe_un un_neg ha) fun σ H Q ⟨env, F, P, r, h, q⟩ => by
  refine ⟨env, F, _, r, h, fun dv v F1 H1 s1 r1 h1 => ?_⟩
  obtain ⟨x, x1, h1⟩ := rd_ok r1 h1
  unfold gNeg at h1
  split at h1
  · next i => exact ⟨i, x1.int, q (.d (.int (-i))) _ F1 H1 s1 (Rp.int _) h1⟩
  · exact h1.elim
/-! ### tests -/
variable {tA tB tC : DTT} {rest : List Expr}
def tAndD (t u : DTT) : DTT := fun env P => t env fun c => if c = true then u env P else P false
def tOrD (t u : DTT) : DTT := fun env P => t env fun c => if c = true then P true else u env P
def tNotD (t : DTT) : DTT := fun env P => t env fun c => P (!c)
theorem dw_and1 (ha : DPT X w a tA) : DPW X w (.BoolOp .And [a] pos) tA := pw_and1 ha
theorem dw_or1 (ha : DPT X w a tA) : DPW X w (.BoolOp .Or [a] pos) tA := pw_or1 ha
theorem dw_and (ha : DPT X w a tA) (hb : DPW X w (.BoolOp .And (b :: rest) pos) tB) : DPW X w (.BoolOp .And (a :: b :: rest) pos) (tAndD tA tB) :=
  pw_weak (pw_and ha hb) fun σ H Q ⟨env, F, P, r, h, q⟩ => ⟨env, F, _, r, h, fun c F1 H1 s1 h1 => by
    cases c with
    | true => exact ⟨env, F1, P, r.step s1, h1, fun c F2 H2 s2 h2 => q c F2 H2 (s1.trans s2) h2⟩
    | false => exact q false F1 H1 s1 h1⟩
theorem dw_or (ha : DPT X w a tA) (hb : DPW X w (.BoolOp .Or (b :: rest) pos) tB) : DPW X w (.BoolOp .Or (a :: b :: rest) pos) (tOrD tA tB) :=
  pw_weak (pw_or ha hb) fun σ H Q ⟨env, F, P, r, h, q⟩ => ⟨env, F, _, r, h, fun c F1 H1 s1 h1 => by
    cases c with
    | false => exact ⟨env, F1, P, r.step s1, h1, fun c F2 H2 s2 h2 => q c F2 H2 (s1.trans s2) h2⟩
    | true => exact q true F1 H1 s1 h1⟩
theorem dt_w (h : DPW X w a tA) : DPT X w a tA := PW.pt h
theorem dt_not (ha : DPT X w a tA) : DPT X w (.UnaryOp .Not a pos) (tNotD tA) :=
  pt_weak (pt_not ha) fun σ H Q ⟨env, F, P, r, h, q⟩ => ⟨env, F, _, r, h, fun c F1 H1 s1 h1 => q _ F1 H1 s1 h1⟩
/-- an expression by its truth -/
def truD : PyData → Bool
  | .none => false
  | .bool c => c
  | .int i => i != 0
  | .str x => x.length != 0
  | .list xs => !xs.isEmpty
  | .tuple xs => !xs.isEmpty
  | .dict kvs => !kvs.isEmpty
def truOk : PyData → Prop
  | .str x => x.length ≤ 100000
  | .dict _ => False
  | _ => True
theorem lim_le {n : Nat} (h : n ≤ 100000) : n ≤ sizeLine := Nat.le_trans h (by decide)
theorem lim_lt {n : Nat} (h : n < 100000) : n < sizeLine := Nat.lt_of_lt_of_le h (by decide)
theorem rpa_empty {K : PySem.W.Frag} {F : Hp} {vs : List V} {xs : List PyData} (r : RpA K F vs xs) : vs.isEmpty = xs.isEmpty := by cases r <;> rfl
theorem tru_of {K : PySem.W.Frag} {b : Bg} {F H : Hp} {v : V} {x : PyData} (s : Same F H) (h : Rr K b F H v x) (ok : truOk x) : TruV K v H (truD x) := by
  cases x with
  | none => cases h.non; rfl
  | bool c => cases h.bl; rfl
  | int i => cases h.int; rfl
  | str x =>
    cases h.str
    refine ⟨lim_le ok, ?_⟩
    show (x.length != 0) = ((x.length : Int) != 0)
    cases hx : x.length with
    | zero => rfl
    | succ n => rw [bne_iff_ne.mpr (show n + 1 ≠ 0 by omega), bne_iff_ne.mpr (show ((n + 1 : Nat) : Int) ≠ 0 by omega)]
  | list xs =>
    obtain ⟨l, vs, rfl, e, r⟩ := h.lst s
    exact .inl ⟨vs, SqL.of e, by rw [rpa_empty r]; rfl⟩
  | tuple xs =>
    obtain ⟨l, vs, rfl, e, r⟩ := h.tup s
    exact .inr (.inl ⟨vs, e, by rw [rpa_empty r]; rfl⟩)
  | dict kvs => exact False.elim ok
def tTru (t : DT) : DTT := fun env P => t env fun u => rd u fun x => truOk x ∧ P (truD x)
theorem dt_e (ha : DPE X w a ta) (he : ∀ whole, isTrue a X.env whole = (do let v ← whole; standAt a.pos; holding [v] (truthy v)) := by intro _; rfl) : DPT X w a (tTru ta) :=
  pt_weak (pt_truth ha he) fun σ H Q ⟨env, F, P, r, h, q⟩ => by
    refine ⟨env, F, _, r, h, fun dv v F1 H1 s1 r1 h1 => ?_⟩
    obtain ⟨x, x1, ok, h1⟩ := rd_ok r1 h1
    exact ⟨truD x, tru_of s1.sub x1 ok, q _ F1 H1 s1 h1⟩
/-- values of and, or, not, if-else -/
theorem lf_early {t : DT} {σ : L2.St} {F H F1 H1 : Hp} {env : List Sl} {P : DV → Prop} {Q : VK} (s1 : Stp X.K w.b F H F1 H1) (r : RelW X.K w env σ F H) (h : t env P)
    (q : ∀ dv v F' H', Stp X.K w.b F H F' H' → Res X.K w.b H F' H' dv v → P dv → Q v H') : lf X.K w t σ H1 Q :=
  ⟨env, F1, P, r.step s1, h, fun dv v F2 H2 s2 r2 h2 => q dv v F2 H2 (s1.trans s2) (r2.early s1) h2⟩
theorem d_one {op} {t : DT} (h : DPE X w a t) : DPE X w (.BoolOp op [a] pos) t := pe_one h
def tIteD (t : DTT) (ta tb : DT) : DT := fun env P => t env fun c => if c = true then ta env P else tb env P
end
end Dl
namespace Dl
open PySem PySem.Spec PyProof.Rows L2
/-! ### operators by what they are given -/
def gAdd : G2 := fun x y P => match x, y with
  | .int i, .int j => P (.d (.int (i + j)))
  | .str i, .str j => i.length + j.length ≤ 100000 ∧ P (.d (.str (i ++ j)))
  | .list xs, .list ys => xs.length + ys.length ≤ 100000 ∧ P (.fr (xs ++ ys))
  | .tuple xs, .tuple ys => xs ≠ [] ∧ xs.length + ys.length ≤ 100000 ∧ P (.d (.tuple (xs ++ ys)))
  | _, _ => False
def gMinus : G2 := fun x y P => match x, y with
  | .int i, .int j => P (.d (.int (i - j)))
  | _, _ => False
def gMul : G2 := fun x y P => match x, y with
  | .int i, .int j => i.natAbs.log2 + j.natAbs.log2 < 1000000 ∧ P (.d (.int (i * j)))
  | _, _ => False
def gFdiv : G2 := fun x y P => match x, y with
  | .int i, .int j => j ≠ 0 ∧ j.natAbs.log2 < 9000 ∧ P (.d (.int (i.fdiv j)))
  | _, _ => False
def gMod : G2 := fun x y P => match x, y with
  | .int i, .int j => j ≠ 0 ∧ P (.d (.int (i.fmod j)))
  | _, _ => False
def gPow : G2 := fun x y P => match x, y with
  | .int i, .int j => (0 ≤ j ∧ j ≤ 1000000 ∧ i.natAbs < 2 ^ 64) ∧ P (.d (.int (i ^ j.toNat)))
  | _, _ => False
section
variable {X : Cx} {w : Wn}
theorem res_d {K : PySem.W.Frag} {b : Bg} {Hz F H : Hp} {v : V} {x : PyData} (h : Rp K F v x) : Res K b Hz F H (.d x) v := h
/-- a fresh list is laid -/
theorem res_new {K : PySem.W.Frag} {b : Bg} {F H : Hp} {vs : List V} {xs : List PyData} {P : DV → Prop} {Q : VK} (wd : Wd K b F H) (r : RpA K F vs xs) (q : ∀ dv v F' H', Stp K b F H F' H' → Res K b H F' H' dv v → P dv → Q v H') (h : P (.fr xs)) :
    ∀ p, H p = none → Q (.ref p) (upd H p (.lst vs)) := fun p hp => by
  obtain ⟨us, eb⟩ := wd.bag.lst
  have pb : p ≠ b.b := fun e => by rw [e, eb] at hp; cases hp
  refine q (.fr xs) _ F _ (wd.laidM hp) ⟨p, vs, rfl, hp, ?_, pb, upd_same, r⟩ h
  cases e : F p with
  | none => rfl
  | some o => rw [wd.sub _ _ e] at hp; cases hp
theorem res_newT {K : PySem.W.Frag} {b : Bg} {F H : Hp} {vs : List V} {xs : List PyData} {P : DV → Prop} {Q : VK} (wd : Wd K b F H) (r : RpA K F vs xs) (q : ∀ dv v F' H', Stp K b F H F' H' → Res K b H F' H' dv v → P dv → Q v H') (h : P (.d (.tuple xs))) :
    ∀ p, H p = none → Q (.ref p) (upd H p (.tup vs)) := fun p hp => by
  have st := wd.laid (o := .tup vs) hp
  exact q (.d (.tuple xs)) _ _ _ st (Rp.tup (SqT.of upd_same) (r.up st.ex)) h
theorem nonempty_vs {K : PySem.W.Frag} {F : Hp} {vs : List V} {xs : List PyData} (r : RpA K F vs xs) (h : xs ≠ []) : vs ≠ [] := by
  cases r with
  | nil => exact absurd rfl h
  | cons _ _ => exact fun z => nomatch z
theorem o_add : OpR X (binaryOp .Add) (lR X.K w.b gAdd) := by
  intro pins s σ H x y v u Q I rx ry h
  obtain ⟨F, dx, dy, P, wd, hx, hy, g, q⟩ := h
  unfold gAdd at g
  split at g
  · cases hx.int; cases hy.int
    exact op_add pins s σ H _ _ v u Q I rx ry ⟨_, _, rfl, rfl, q _ _ F H wd.refl (res_d (.int _)) g⟩
  · cases hx.str; cases hy.str
    exact op_add_str pins s σ H _ _ v u Q I rx ry ⟨_, _, rfl, rfl, lim_le g.1, q _ _ F H wd.refl (res_d (.str _)) g.2⟩
  · obtain ⟨l, vs, rfl, e1, r1⟩ := hx.lst wd.sub
    obtain ⟨m, us, rfl, e2, r2⟩ := hy.lst wd.sub
    exact op_cat pins s σ H _ _ v u Q I rx ry ⟨l, m, vs, us, rfl, rfl, e1, e2, by rw [r1.len, r2.len]; exact lim_le g.1, res_new wd (r1.app r2) q g.2⟩
  · next xs ys =>
    obtain ⟨l, vs, rfl, e1, r1⟩ := hx.tup wd.sub
    obtain ⟨m, us, rfl, e2, r2⟩ := hy.tup wd.sub
    have ne := nonempty_vs r1 g.1
    refine op_catT pins s σ H _ _ v u Q I rx ry ⟨l, m, vs, us, rfl, rfl, e1, e2, ne, by rw [r1.len, r2.len]; exact lim_le g.2.1, fun e => ?_, fun _ => res_newT wd (r1.app r2) q g.2.2⟩
    subst e
    cases r2
    rw [List.append_nil] at g
    have hq : Rp X.K F (.ref l) (.tuple xs) := by
      cases hx with
      | d h => exact h
    exact q _ _ F H wd.refl (res_d hq) g.2.2
  · exact g.elim
theorem o_sub : OpR X (binaryOp .Sub) (lR X.K w.b gMinus) := by
  intro pins s σ H x y v u Q I rx ry h
  obtain ⟨F, dx, dy, P, wd, hx, hy, g, q⟩ := h
  unfold gMinus at g
  split at g
  · cases hx.int; cases hy.int
    exact op_sub pins s σ H _ _ v u Q I rx ry ⟨_, _, rfl, rfl, q _ _ F H wd.refl (res_d (.int _)) g⟩
  · exact g.elim
theorem o_mul : OpR X (binaryOp .Mult) (lR X.K w.b gMul) := by
  intro pins s σ H x y v u Q I rx ry h
  obtain ⟨F, dx, dy, P, wd, hx, hy, g, q⟩ := h
  unfold gMul at g
  split at g
  · cases hx.int; cases hy.int
    exact op_mulW pins s σ H _ _ v u Q I rx ry ⟨_, _, rfl, rfl, g.1, q _ _ F H wd.refl (res_d (.int _)) g.2⟩
  · exact g.elim
theorem op_fdivX : OpR X (binaryOp .FloorDiv) (rI (fun _ j => j ≠ 0 ∧ j.natAbs.log2 < 9000) fun i j => .int (i.fdiv j)) :=
  opI fun _ _ _ _ _ _ _ hc q => floordiv_int hc.1 q (.inl (PyProof.noPylong_of_log2 hc.2))
theorem o_fdiv : OpR X (binaryOp .FloorDiv) (lR X.K w.b gFdiv) := by
  intro pins s σ H x y v u Q I rx ry h
  obtain ⟨F, dx, dy, P, wd, hx, hy, g, q⟩ := h
  unfold gFdiv at g
  split at g
  · cases hx.int; cases hy.int
    exact op_fdivX pins s σ H _ _ v u Q I rx ry ⟨_, _, rfl, rfl, ⟨g.1, g.2.1⟩, q _ _ F H wd.refl (res_d (.int _)) g.2.2⟩
  · exact g.elim
theorem o_mod : OpR X (binaryOp .Mod) (lR X.K w.b gMod) := by
  intro pins s σ H x y v u Q I rx ry h
  obtain ⟨F, dx, dy, P, wd, hx, hy, g, q⟩ := h
  unfold gMod at g
  split at g
  · cases hx.int; cases hy.int
    exact op_modN pins s σ H _ _ v u Q I rx ry ⟨_, _, rfl, rfl, g.1, q _ _ F H wd.refl (res_d (.int _)) g.2⟩
  · exact g.elim
theorem o_pow : OpR X (binaryOp .Pow) (lR X.K w.b gPow) := by
  intro pins s σ H x y v u Q I rx ry h
  obtain ⟨F, dx, dy, P, wd, hx, hy, g, q⟩ := h
  unfold gPow at g
  split at g
  · cases hx.int; cases hy.int
    exact op_pow pins s σ H _ _ v u Q I rx ry ⟨_, _, rfl, rfl, g.1, q _ _ F H wd.refl (res_d (.int _)) g.2⟩
  · exact g.elim
/-! comparisons -/
def gIn (p : Int → Int → Bool) (s : Str → Str → Bool) : G2 := fun x y P => match x, y with
  | .int i, .int j => P (.d (.bool (p i j)))
  | .str i, .str j => P (.d (.bool (s i j)))
  | _, _ => False
abbrev gLt : G2 := gIn (fun i j => decide (i < j)) fun i j => decide (i.cps.toList < j.cps.toList)
theorem o_lt : OpR X (compareOp .Lt) (lR X.K w.b gLt) := by
  intro pins s σ H x y v u Q I rx ry h
  obtain ⟨F, dx, dy, P, wd, hx, hy, g, q⟩ := h
  unfold gLt gIn at g
  split at g
  · cases hx.int; cases hy.int
    exact op_lt pins s σ H _ _ v u Q I rx ry ⟨_, _, rfl, rfl, q _ _ F H wd.refl (res_d (.bl _)) g⟩
  · cases hx.str; cases hy.str
    exact op_lt_str pins s σ H _ _ v u Q I rx ry ⟨_, _, rfl, rfl, q _ _ F H wd.refl (res_d (.bl _)) g⟩
  · exact g.elim
theorem o_gt : OpR X (compareOp .Gt) (lR X.K w.b (gIn (fun i j => decide (j < i)) fun i j => decide (j.cps.toList < i.cps.toList))) := by
  intro pins s σ H x y v u Q I rx ry h
  obtain ⟨F, dx, dy, P, wd, hx, hy, g, q⟩ := h
  unfold gIn at g
  split at g
  · cases hx.int; cases hy.int
    exact op_gt pins s σ H _ _ v u Q I rx ry ⟨_, _, rfl, rfl, q _ _ F H wd.refl (res_d (.bl _)) g⟩
  · cases hx.str; cases hy.str
    exact op_gt_str pins s σ H _ _ v u Q I rx ry ⟨_, _, rfl, rfl, q _ _ F H wd.refl (res_d (.bl _)) g⟩
  · exact g.elim
/-! what Rp says to the library's Reads -/
end
section
variable {X : Cx} {pins : List (Addr × Obj)} {σ : L2.St} {H : Hp} {s : Shared}
mutual
def flatD : PyData → Bool
  | .none => true
  | .bool _ => true
  | .int _ => true
  | .str _ => true
  | .list xs => flatA xs
  | .tuple xs => flatA xs
  | .dict _ => false
def flatA : List PyData → Bool
  | [] => true
  | x :: xs => flatD x && flatA xs
end
mutual
theorem rp_reads (I : Inv X pins σ H s) : ∀ (d : PyData) (v : V) (u : Value), flatD d = true → Rp X.K H v d → RelV v u → ∃ as, Reads s.heap u d as
  | .none, _, _, _, h, r => by cases h; cases r; exact ⟨_, Reads.none⟩
  | .bool b, _, _, _, h, r => by cases h; cases r; exact ⟨_, Reads.bool b⟩
  | .int i, _, _, _, h, r => by cases h; obtain ⟨t, rfl⟩ := r; exact ⟨_, Reads.int i t⟩
  | .str i, _, _, _, h, r => by cases h; obtain ⟨t, rfl⟩ := r; exact ⟨_, Reads.str i t⟩
  | .list ds, _, _, f, h, r => by
    cases h with
    | lst hs ha =>
      cases r
      obtain ⟨its, rv, ⟨o, n, ho, hc, _, hd⟩, _⟩ := I.list (SqL.of hs)
      obtain ⟨as, hr⟩ := rpa_reads I ds _ its (by simpa only [flatD] using f) ha rv
      exact ⟨_, Reads.list ho hc hd hr⟩
  | .tuple ds, _, _, f, h, r => by
    cases h with
    | tup hs ha =>
      cases r
      obtain ⟨its, rv, ⟨o, ho, hc, n, hd⟩, _⟩ := I.tuple hs
      obtain ⟨as, hr⟩ := rpa_reads I ds _ its (by simpa only [flatD] using f) ha rv
      exact ⟨_, Reads.tuple ho hc hd hr⟩
  | .dict _, _, _, f, _, _ => by simp only [flatD] at f; cases f
theorem rpa_reads (I : Inv X pins σ H s) : ∀ (ds : List PyData) (vs : List V) (us : List Value), flatA ds = true → RpA X.K H vs ds → Vals vs us → ∃ as, ReadsAll s.heap us ds as
  | [], _, _, _, h, r => by cases h; cases r; exact ⟨_, ReadsAll.nil⟩
  | d :: ds, _, _, f, h, r => by
    cases h with
    | cons h1 h2 =>
      cases r with
      | cons r1 r2 =>
        rw [flatA, Bool.and_eq_true] at f
        obtain ⟨as, q1⟩ := rp_reads I d _ _ f.1 h1 r1
        obtain ⟨bs, q2⟩ := rpa_reads I ds _ _ f.2 h2 r2
        exact ⟨_, ReadsAll.cons q1 q2⟩
end
mutual
theorem flat_of_can : ∀ d : PyData, d.canLay0 = true → flatD d = true
  | .none, _ => by simp only [flatD]
  | .bool _, _ => by simp only [flatD]
  | .int _, _ => by simp only [flatD]
  | .str _, _ => by simp only [flatD]
  | .list xs, h => by simp only [flatD]; exact flatA_of_can xs (by simpa only [PyData.canLay0] using h)
  | .tuple xs, h => by simp only [flatD]; exact flatA_of_can xs (by simpa only [PyData.canLay0] using h)
  | .dict _, h => by simp only [PyData.canLay0] at h; cases h
theorem flatA_of_can : ∀ d : List PyData, PyData.canLayAll0 d = true → flatA d = true
  | [], _ => by simp only [flatA]
  | x :: xs, h => by
    simp only [PyData.canLayAll0, Bool.and_eq_true] at h
    rw [flatA, flat_of_can x h.1, flatA_of_can xs h.2]
    rfl
end
end
/-- two values alike -/
def gEqv (f : Bool → Bool) : G2 := fun x y P => match x, y with
  | .int i, .int j => P (.d (.bool (f (decide (i = j)))))
  | .str i, .str j => P (.d (.bool (f (decide (i = j)))))
  | .bool i, .bool j => P (.d (.bool (f (decide (i = j)))))
  | x, y => SeqAt.shaped x = true ∧ SeqAt.shaped y = true ∧ P (.d (.bool (f (x.eqv y))))
section
variable {X : Cx} {w : Wn}
theorem o_eq (hu : X.A.units + 64 < cLine) : OpR X (compareOp .Eq) (lR X.K w.b (gEqv id)) := by
  intro pins s σ H x y v u Q I rx ry h
  obtain ⟨F, dx, dy, P, wd, hx, hy, g, q⟩ := h
  unfold gEqv at g
  split at g
  · cases hx.int; cases hy.int
    refine op_eq pins s σ H _ _ v u Q I rx ry ⟨rfl, ?_⟩
    rw [dec_int, Bool.beq_eq_decide_eq]
    exact q _ _ F H wd.refl (res_d (.bl _)) g
  · cases hx.str; cases hy.str
    refine op_eq pins s σ H _ _ v u Q I rx ry ⟨rfl, ?_⟩
    rw [dec_str, Bool.beq_eq_decide_eq]
    exact q _ _ F H wd.refl (res_d (.bl _)) g
  · cases hx.bl; cases hy.bl
    refine op_eq pins s σ H _ _ v u Q I rx ry ⟨rfl, ?_⟩
    rw [dec_bl, Bool.beq_eq_decide_eq]
    exact q _ _ F H wd.refl (res_d (.bl _)) g
  · obtain ⟨as, r1⟩ := rp_reads I _ _ _ (flat_of_can _ (SeqAt.canLay_of_shaped g.1)) (hx.all wd.sub) rx
    obtain ⟨bs, r2⟩ := rp_reads I _ _ _ (flat_of_can _ (SeqAt.canLay_of_shaped g.2.1)) (hy.all wd.sub) ry
    exact SeqAt.compareEq_shaped r1 r2 g.1 g.2.1 hu ⟨.bl _, H, I, rfl, q _ _ F H wd.refl (res_d (.bl _)) g.2.2⟩
theorem o_ne (hu : X.A.units + 64 < cLine) : OpR X (compareOp .NotEq) (lR X.K w.b (gEqv not)) := by
  intro pins s σ H x y v u Q I rx ry h
  obtain ⟨F, dx, dy, P, wd, hx, hy, g, q⟩ := h
  unfold gEqv at g
  split at g
  · cases hx.int; cases hy.int
    refine op_ne pins s σ H _ _ v u Q I rx ry ⟨rfl, ?_⟩
    rw [dec_int, Bool.beq_eq_decide_eq]
    exact q _ _ F H wd.refl (res_d (.bl _)) g
  · cases hx.str; cases hy.str
    refine op_ne pins s σ H _ _ v u Q I rx ry ⟨rfl, ?_⟩
    rw [dec_str, Bool.beq_eq_decide_eq]
    exact q _ _ F H wd.refl (res_d (.bl _)) g
  · cases hx.bl; cases hy.bl
    refine op_ne pins s σ H _ _ v u Q I rx ry ⟨rfl, ?_⟩
    rw [dec_bl, Bool.beq_eq_decide_eq]
    exact q _ _ F H wd.refl (res_d (.bl _)) g
  · obtain ⟨as, r1⟩ := rp_reads I _ _ _ (flat_of_can _ (SeqAt.canLay_of_shaped g.1)) (hx.all wd.sub) rx
    obtain ⟨bs, r2⟩ := rp_reads I _ _ _ (flat_of_can _ (SeqAt.canLay_of_shaped g.2.1)) (hy.all wd.sub) ry
    exact SeqAt.compareNe_shaped r1 r2 g.1 g.2.1 hu ⟨.bl _, H, I, rfl, q _ _ F H wd.refl (res_d (.bl _)) g.2.2⟩
/-! ### arguments, displays -/
variable {e : Expr} {es : List Expr} {te : DT} {t tr : DA} {pos : Pos}
def frz : DV → DV
  | .fr xs => .d (.list xs)
  | .ft x => .d x
  | x => x
theorem frz_ok {K : PySem.W.Frag} {b : Bg} {F H F' H' : Hp} {v : V} {dv : DV} (s : Stp K b F H F' H') (r : Res K b H F' H' dv v) : ∃ F2, Stp K b F H F2 H' ∧ ArR K b F2 H' (frz dv) v := by
  cases dv with
  | d x => exact ⟨F', s, r⟩
  | fr xs =>
    obtain ⟨p, vs, rfl, h0, hf, ne, hp, q⟩ := r
    exact ⟨_, s.freeze h0 hf ne hp, Rp.lst upd_same (q.up (same_laid hf))⟩
  | ow l xs => exact ⟨F', s, r⟩
  | raw u => exact ⟨F', s, r⟩
  | bag => exact ⟨F', s, r⟩
  | ft x =>
    obtain ⟨S, nd, k, q⟩ := r
    exact ⟨_, s.freezeT k q.there, q.open (opn_same fun l m => (k l m).2.1) fun _ m => m⟩
  | tr p S x => exact ⟨F', s, r⟩
theorem ArR.step {K : PySem.W.Frag} {b : Bg} {F H F' H' : Hp} (s : Stp K b F H F' H') : ∀ {dv : DV} {v : V}, ArR K b F H dv v → ArR K b F' H' dv v
  | .d _, _, r => Rp.up s.ex r
  | .fr xs, _, r => r.elim
  | .ow l xs, _, ⟨e, hf, ne, vs, hp, r⟩ => ⟨e, s.new l hf (by rw [hp]; exact fun z => nomatch z), ne, vs, s.keep _ _ ne (fun _ z => nomatch z) hp, r.up s.ex⟩
  | .ft x, _, r => r.elim
  | .tr p S x, _, ⟨k, q⟩ => ⟨fun a m => by
      obtain ⟨o, ho, _⟩ := q.there a m
      exact ⟨s.new a (k a m).1 (by rw [ho]; exact fun z => nomatch z), (k a m).2⟩, q.up s.ex fun a m o ho => by
      obtain ⟨o', ho', nt⟩ := q.there a m
      rw [ho] at ho'
      cases ho'
      exact s.keep a o (k a m).2 (isM_tbl nt) ho⟩
  | .raw _, _, e => e
  | .bag, _, e => e
def tNilD : DA := fun _ P => P []
def tConsD (te : DT) (tr : DA) : DA := fun env P => te env fun u => tr env fun us => P (frz u :: us)
theorem da_nil : DPA X w [] tNilD := pa_weak pa_nil fun σ H Q ⟨env, F, P, r, h, q⟩ => q [] [] F H r.wd.refl .nil h
theorem da_cons (ha : DPE X w e te) (hr : DPA X w es tr) (hs : starEach (e :: es) X.env = (false, eval e X.env) :: starEach es X.env := by rfl) : DPA X w (e :: es) (tConsD te tr) :=
  pa_weak (pa_cons ha hr hs) fun σ H Q ⟨env, F, P, r, h, q⟩ => ⟨env, F, _, r, h, fun dv v F1 H1 s1 r1 h1 => by
    obtain ⟨F2, s2, a2⟩ := frz_ok s1 r1
    exact ⟨env, F2, _, r.step s2, h1, fun dvs vs F3 H3 s3 r3 h3 => q (frz dv :: dvs) (v :: vs) F3 H3 (s2.trans s3) (.cons (a2.step s3) r3) h3⟩⟩
/-- all of them data -/
def allD : List DV → (List PyData → Prop) → Prop
  | [], k => k []
  | .d x :: r, k => allD r fun xs => k (x :: xs)
  | _ :: _, _ => False
theorem allD_ok {K : PySem.W.Frag} {b : Bg} {F H : Hp} : ∀ {dvs : List DV} {vs : List V} {k : List PyData → Prop}, Paired (ArR K b F H) dvs vs → allD dvs k → ∃ xs, RpA K F vs xs ∧ k xs
  | _, _, _, .nil, h => ⟨[], .nil, h⟩
  | .d x :: r, _, k, .cons a t, h => by
    obtain ⟨xs, q, hk⟩ := allD_ok t (show allD r (fun xs => k (x :: xs)) from h)
    exact ⟨x :: xs, .cons a q, hk⟩
  | .fr _ :: _, _, _, .cons _ _, h => h.elim
  | .ow _ _ :: _, _, _, .cons _ _, h => h.elim
  | .raw _ :: _, _, _, .cons _ _, h => h.elim
  | .bag :: _, _, _, .cons _ _, h => h.elim
def tLstD (t : DA) : DT := fun env P => t env fun us => allD us fun xs => xs.length ≤ 100000 ∧ P (.fr xs)
def tTupD (t : DA) : DT := fun env P => t env fun us => allD us fun xs => xs.length ≤ 100000 ∧ P (.d (.tuple xs))
theorem d_lst (h : DPA X w es t) : DPE X w (.List es pos) (tLstD t) := pe_weak (pe_lst h) fun σ H Q ⟨env, F, P, r, h, q⟩ => ⟨env, F, _, r, h, fun dvs vs F1 H1 s1 r1 h1 => by
  obtain ⟨xs, q1, hz, hp⟩ := allD_ok r1 h1
  exact ⟨by rw [q1.len]; exact lim_le hz, res_new s1.wd q1 (fun dv v F2 H2 s2 r2 h2 => q dv v F2 H2 (s1.trans s2) (r2.early s1) h2) hp⟩⟩
theorem d_tup {x1} (h : DPA X w es t) : DPE X w (.Tuple es x1 pos) (tTupD t) := pe_weak (pe_tup h) fun σ H Q ⟨env, F, P, r, h, q⟩ => ⟨env, F, _, r, h, fun dvs vs F1 H1 s1 r1 h1 => by
  obtain ⟨xs, q1, hz, hp⟩ := allD_ok r1 h1
  exact ⟨by rw [q1.len]; exact lim_le hz, res_newT s1.wd q1 (fun dv v F2 H2 s2 r2 h2 => q dv v F2 H2 (s1.trans s2) (r2.early s1) h2) hp⟩⟩
/-! ### an item -/
variable {a b : Expr} {ta tb : DT}
def gIx : G2 := fun x y P => match x, y with
  | .list xs, .int i => match atI xs i with
    | some z => P (.d z)
    | none => False
  | .tuple xs, .int i => match atI xs i with
    | some z => P (.d z)
    | none => False
  | .str z, .int i => z.length ≤ 100000 ∧ match atI z.cps.toList i with
    | some c => P (.d (.str ⟨#[c]⟩))
    | none => False
  | _, _ => False
theorem at_rp {K : PySem.W.Frag} {F : Hp} {vs : List V} {xs : List PyData} {i : Int} {z : PyData} (r : RpA K F vs xs) (h : atI xs i = some z) : ∃ v, atI vs i = some v ∧ Rp K F v z := by
  unfold atI at h ⊢
  rw [r.len]
  cases e : ixN xs.length i with
  | none => rw [e] at h; cases h
  | some j =>
    rw [e] at h
    exact r.get h
theorem ix_all : IxR X (lR X.K w.b gIx) := by
  intro value slice pins s σ H x y v u Q I rx ry h hs
  obtain ⟨F, dx, dy, P, wd, hx, hy, g, q⟩ := h
  unfold gIx at g
  split at g
  · obtain ⟨l, vs, rfl, e, r⟩ := hx.lst wd.sub
    cases hy.int
    split at g
    · next z ez =>
      obtain ⟨v1, e1, r1⟩ := at_rp r ez
      exact ix_list value slice pins s σ H _ _ v u Q I rx ry ⟨l, vs, _, v1, rfl, rfl, SqL.of e, e1, q _ _ F H wd.refl (res_d r1) g⟩ hs
    · exact g.elim
  · obtain ⟨l, vs, rfl, e, r⟩ := hx.tup wd.sub
    cases hy.int
    split at g
    · next z ez =>
      obtain ⟨v1, e1, r1⟩ := at_rp r ez
      exact ix_tup value slice pins s σ H _ _ v u Q I rx ry ⟨l, vs, _, v1, rfl, rfl, e, e1, q _ _ F H wd.refl (res_d r1) g⟩ hs
    · exact g.elim
  · cases hx.str
    cases hy.int
    obtain ⟨hz, g⟩ := g
    split at g
    · next z ez => exact ix_str value slice pins s σ H _ _ v u Q I rx ry ⟨_, _, z, rfl, rfl, lim_le hz, ez, q _ _ F H wd.refl (res_d (.str _)) g⟩ hs
    · exact g.elim
  · exact g.elim
theorem d_ix (ha : DPE X w a ta) (hb : DPE X w b tb) (hs : PlainIx b := by exact fun _ _ => rfl) : DPE X w (.Subscript a b pos) (tBin gIx ta tb) := pe_weak (pe_ix ix_all ha hb hs) fun _ _ _ h => bin_go h
end
end Dl
namespace Dl
open PySem PySem.Spec PyProof.Rows L2
/-! ### built-ins by values -/
abbrev GC := List DV → (DV → Prop) → Prop
def lC (K : PySem.W.Frag) (b : Bg) (g : GC) : List V → Hp → VK → Prop := fun vs H Q => ∃ F dvs P, Wd K b F H ∧ Paired (ArR K b F H) dvs vs ∧ g dvs P ∧ ∀ dv v F' H', Stp K b F H F' H' → Res K b H F' H' dv v → P dv → Q v H'
def tCallD (g : GC) (t : DA) : DT := fun env P => t env fun us => g us P
section
variable {K : PySem.W.Frag} {b : Bg} {F H F' H' Hz : Hp}
theorem arr_rr {dv : DV} {v : V} {k : PyData → Prop} (r : ArR K b F H dv v) (h : rd dv k) : ∃ x, Rr K b F H v x ∧ k x := by
  cases dv with
  | d x => exact ⟨x, .d r, h⟩
  | fr xs => exact False.elim r
  | ow l xs =>
    obtain ⟨rfl, hf, ne, vs, hp, q⟩ := r
    exact ⟨_, .o hf ne hp q, h⟩
  | raw u => exact False.elim h
  | bag => exact False.elim h
  | ft x => exact False.elim r
  | tr p S x => exact False.elim h
def one : List DV → (DV → Prop) → Prop
  | [x], k => k x
  | _, _ => False
def two : List DV → (DV → DV → Prop) → Prop
  | [x, y], k => k x y
  | _, _ => False
theorem one_ok {R : DV → V → Prop} {dvs : List DV} {vs : List V} {k : DV → Prop} (r : Paired R dvs vs) (h : one dvs k) : ∃ x v, vs = [v] ∧ R x v ∧ k x := by
  unfold one at h
  split at h
  · cases r with | cons a t => cases t; exact ⟨_, _, rfl, a, h⟩
  · exact h.elim
theorem two_ok {R : DV → V → Prop} {dvs : List DV} {vs : List V} {k : DV → DV → Prop} (r : Paired R dvs vs) (h : two dvs k) : ∃ x y v u, vs = [v, u] ∧ R x v ∧ R y u ∧ k x y := by
  unfold two at h
  split at h
  · cases r with | cons a t => cases t with | cons a2 t => cases t; exact ⟨_, _, _, _, rfl, a, a2, h⟩
  · exact h.elim
end
section
variable {X : Cx} {w : Wn} {e : Expr} {es : List Expr} {t : DA} {x : Str} {p pos : Pos} {id T : String} {g : GC}
theorem callb_go {σ : L2.St} {H : Hp} {Q : VK} (h : lf X.K w (tCallD g t) σ H Q) : tCB (lC X.K w.b g) (lfA X.K w t) σ H Q := by
  obtain ⟨env, F, P, r, h, q⟩ := h
  exact ⟨env, F, _, r, h, fun dvs vs F1 H1 s1 r1 h1 => ⟨F1, dvs, P, s1.wd, r1, h1, fun dv v F2 H2 s2 r2 h2 => q dv v F2 H2 (s1.trans s2) (r2.early s1) h2⟩⟩
theorem d_callB (hc : CallR X (.builtin id) (lC X.K w.b g)) (gl : Gl X x) (gm : X.mg x = none) (gv : bootBuiltins x = some (.builtin id)) (ha : DPA X w (e :: es) t) (hn : x ≠ "__name__" := by decide) (db : (x == ("__debug__" : Str)) = false := by decide)
    (he : starEach (e :: es) X.env = (false, eval e X.env) :: starEach es X.env := by rfl) (hpl : (backTo pos (starEach es X.env)).any (·.1) = false := by rfl) : DPE X w (.Call (.Name x p) (e :: es) [] pos) (tCallD g t) :=
  pe_weak (pe_callB hc gl gm gv ha hn db he hpl) fun _ _ _ h => callb_go h
theorem d_callTy (hc : CallR X (.type T) (lC X.K w.b g)) (gl : Gl X x) (gm : X.mg x = none) (gv : bootBuiltins x = some (.type T)) (ha : DPA X w (e :: es) t) (hn : x ≠ "__name__" := by decide) (db : (x == ("__debug__" : Str)) = false := by decide)
    (he : starEach (e :: es) X.env = (false, eval e X.env) :: starEach es X.env := by rfl) (hpl : (backTo pos (starEach es X.env)).any (·.1) = false := by rfl) : DPE X w (.Call (.Name x p) (e :: es) [] pos) (tCallD g t) :=
  pe_weak (pe_callTy hc gl gm gv ha hn db he hpl) fun _ _ _ h => callb_go h
def cLen : GC := fun us P => one us fun u => rd u fun x => match x with
  | .list xs => P (.d (.int xs.length))
  | .tuple xs => P (.d (.int xs.length))
  | .str z => z.length ≤ 100000 ∧ P (.d (.int z.length))
  | _ => False
theorem k_len : CallR X (.builtin "len") (lC X.K w.b cLen) := by
  intro pins s σ H vs us Q I r h
  obtain ⟨F, dvs, P, wd, ar, g, q⟩ := h
  obtain ⟨u, v, rfl, a, g⟩ := one_ok ar g
  obtain ⟨x, hx, g⟩ := arr_rr a g
  split at g
  · obtain ⟨l, vs, rfl, e, r1⟩ := hx.lst wd.sub
    exact call_len_seq pins s σ H _ us Q I r ⟨l, vs, rfl, .inl (SqL.of e), by rw [r1.len]; exact q _ _ F H wd.refl (res_d (.int _)) g⟩
  · obtain ⟨l, vs, rfl, e, r1⟩ := hx.tup wd.sub
    exact call_len_seq pins s σ H _ us Q I r ⟨l, vs, rfl, .inr e, by rw [r1.len]; exact q _ _ F H wd.refl (res_d (.int _)) g⟩
  · cases hx.str
    exact call_len_str pins s σ H _ us Q I r ⟨_, rfl, lim_le g.1, q _ _ F H wd.refl (res_d (.int _)) g.2⟩
  · exact g.elim
def cAbs : GC := fun us P => one us fun u => rd u fun x => match x with
  | .int i => P (.d (.int i.natAbs))
  | _ => False
theorem k_abs : CallR X (.builtin "abs") (lC X.K w.b cAbs) := by
  intro pins s σ H vs us Q I r h
  obtain ⟨F, dvs, P, wd, ar, g, q⟩ := h
  obtain ⟨u, v, rfl, a, g⟩ := one_ok ar g
  obtain ⟨x, hx, g⟩ := arr_rr a g
  split at g
  · next i =>
    cases hx.int
    refine call_abs pins s σ H _ us Q I r ⟨i, rfl, ?_⟩
    have e : (if i < 0 then -i else i) = (i.natAbs : Int) := by split <;> omega
    rw [e]
    exact q _ _ F H wd.refl (res_d (.int _)) g
  · exact g.elim
def cMin (f : Int → Int → Int) : GC := fun us P => two us fun u z => rd u fun x => rd z fun y => match x, y with
  | .int i, .int j => P (.d (.int (f i j)))
  | _, _ => False
def cInt : GC := fun us P => one us fun u => rd u fun x => match x with
  | .int i => P (.d (.int i))
  | .bool c => P (.d (.int (if c then 1 else 0)))
  | _ => False
theorem k_int : CallR X (.type "int") (lC X.K w.b cInt) := by
  intro pins s σ H vs us Q I r h
  obtain ⟨F, dvs, P, wd, ar, g, q⟩ := h
  obtain ⟨u, v, rfl, a, g⟩ := one_ok ar g
  obtain ⟨x, hx, g⟩ := arr_rr a g
  split at g
  · cases hx.int
    exact call_int1 pins s σ H _ us Q I r (.inl ⟨_, rfl, q _ _ F H wd.refl (res_d (.int _)) g⟩)
  · cases hx.bl
    exact call_int1 pins s σ H _ us Q I r (.inr ⟨_, rfl, q _ _ F H wd.refl (res_d (.int _)) g⟩)
  · exact g.elim
def cGcd : GC := fun us P => two us fun u z => rd u fun x => rd z fun y => match x, y with
  | .int i, .int j => P (.d (.int ((Nat.gcd i.natAbs j.natAbs : Nat) : Int)))
  | _, _ => False
def cList : GC := fun us P => one us fun u => rd u fun x => match x with
  | .list xs => P (.fr xs)
  | .tuple xs => P (.fr xs)
  | _ => False
/-! isinstance -/
def tyN : PyData → String
  | .none => "NoneType"
  | .bool _ => "bool"
  | .int _ => "int"
  | .str _ => "str"
  | .list _ => "list"
  | .tuple _ => "tuple"
  | .dict _ => "dict"
/-- an object of a class of the module -/
def isOb : PyData → Bool
  | .dict ((.none, _) :: _) => true
  | _ => false
theorem dct_isOb {K : PySem.W.Frag} {F : Hp} {kvs : List (Key × V)} {ks xs : List PyData} (r : RpA K F (kvs.map fun p => kV p.1) ks) : isOb (.dict (ks.zip xs)) = false := by
  match kvs, ks, xs, r with
  | [], _, _, .nil => rfl
  | (k, v) :: _, x :: _, y :: _, .cons a _ =>
    cases x with
    | none => cases k <;> cases a
    | _ => rfl
  | _ :: _, _ :: _, [], _ => rfl
def isA (n : String) : PyData → Bool
  | .none => n == "NoneType"
  | .bool _ => n == "bool" || n == "int"
  | .int _ => n == "int"
  | .str _ => n == "str"
  | .list _ => n == "list"
  | .tuple _ => n == "tuple"
  | .dict kvs => n == "dict" && !isOb (.dict kvs)
def cIsi (n : String) : GC := fun us P => two us fun u z => rd u fun x => match z with
  | .raw (.ty m) => m = n ∧ P (.d (.bool (isA n x)))
  | _ => False
theorem kit_all {n : String} (hn : n = "int" ∨ n = "bool" ∨ n = "str" ∨ n = "list" ∨ n = "tuple" ∨ n = "dict") (x : PyData) (hx : isOb x = false) : kitB (tyN x) n = some (isA n x) := by
  rcases hn with rfl | rfl | rfl | rfl | rfl | rfl <;> cases x <;> (simp only [tyN, isA, hx, Bool.not_false, Bool.and_true]; decide +kernel)
theorem ty_isa {K : PySem.W.Frag} {b : Bg} {F H : Hp} {v : V} {x : PyData} {n : String} (hn : n = "int" ∨ n = "bool" ∨ n = "str" ∨ n = "list" ∨ n = "tuple" ∨ n = "dict") (s : Same F H) (h : Rr K b F H v x) : ∃ t, TyX K H v t ∧ PySem.W.kitOne K t (.type n) = some (isA n x) := by
  cases x with
  | none => cases h.non; exact ⟨_, .base .non, kit_ty (kit_all hn .none rfl)⟩
  | bool c => cases h.bl; exact ⟨_, .base (.bl _), kit_ty (kit_all hn (.bool c) rfl)⟩
  | int c => cases h.int; exact ⟨_, .base (.int _), kit_ty (kit_all hn (.int c) rfl)⟩
  | str c => cases h.str; exact ⟨_, .base (.str _), kit_ty (kit_all hn (.str c) rfl)⟩
  | list xs => obtain ⟨l, vs, rfl, e, r⟩ := h.lst s; exact ⟨_, .base (.lst e), kit_ty (kit_all hn (.list xs) rfl)⟩
  | tuple xs =>
    obtain ⟨l, vs, rfl, e, r⟩ := h.tup s
    refine ⟨_, ?_, kit_ty (kit_all hn (.tuple xs) rfl)⟩
    rcases e with (e | ⟨o, e⟩) | ⟨o, its, n, e, c, _⟩
    · exact .base (.tup e)
    · exact .fTuple e
    · exact .kTuple e c
  | dict kvs =>
    generalize e : PyData.dict kvs = z at h
    cases h with
    | d h =>
      cases h with
      | dct h r q => exact ⟨_, .base (.dK (s _ _ h)), kit_ty (kit_all hn _ (dct_isOb r))⟩
      | obj h hc _ _ r =>
        refine ⟨_, .base (.ins (s _ _ h) hc.cls hc.ha hc.hn hc.ht hc.hm), ?_⟩
        rw [hc.kit n hn]
        simp only [isA, obD, isOb, Bool.not_true, Bool.and_false]
      | _ => cases e
    | o => cases e
theorem k_isi {n : String} (hn : n = "int" ∨ n = "bool" ∨ n = "str" ∨ n = "list" ∨ n = "tuple" ∨ n = "dict") : CallR X (.builtin "isinstance") (lC X.K w.b (cIsi n)) := by
  intro pins s σ H vs us Q I r h
  obtain ⟨F, dvs, P, wd, ar, g, q⟩ := h
  obtain ⟨u, z, v1, v2, rfl, a1, a2, g⟩ := two_ok ar g
  obtain ⟨x, hx, g⟩ := arr_rr a1 g
  split at g
  · obtain ⟨e, g⟩ := g
    subst e
    cases (show v2 = V.ty _ from a2)
    obtain ⟨t, ty, kt⟩ := ty_isa hn wd.sub hx
    exact call_isi pins s σ H _ us Q I r ⟨v1, .ty _, _, _, _, rfl, .ty _, ty, kt, q _ _ F H wd.refl (res_d (.bl _)) g⟩
  · exact g.elim
end
/-! ### calls of the text's own defs -/
def Fg (P : Program) (w : World) (K : PySem.W.Frag) (mg : Str → Option Value) (base : Heap) (CX : CXT) (k : Nat) (f : Addr) (sp : Sp) : Prop :=
  ∀ (A : Around) (outer : List Env) (s : Shared) (H : Hp) (us : List Value) (vs : List V) (Q : VK) (E : XK), A.guards = some [] → Room k A → Env0 P w K mg base A outer s H → Vals vs us → sp vs H Q E →
    codeAny (model P w) A (.call (.ref f) { pos := us, kw := [] }) (CR CX outer P w H s Q E) s
/-- a promise in the data's words -/
abbrev DSp := List DV → (DV → Prop) → Prop
def AgR (K : PySem.W.Frag) (b : Bg) (F : Hp) : DV → V → Prop
  | .d x, v => Rp K F v x
  | .raw u, v => v = u
  | .bag, v => v = .ref b.b
  | _, _ => False
def Pm (K : PySem.W.Frag) (ts : List Addr) (sp : DSp) : Sp := fun vs H Q _ => ∃ b F dvs P, b.ts = ts ∧ Wd K b F H ∧ Paired (AgR K b F) dvs vs ∧ sp dvs P ∧ ∀ dv v F' H', Stp K b F H F' H' → Res K b H F' H' dv v → P dv → Q v H'
def dat : DV → DV
  | .ow _ xs => .d (.list xs)
  | .tr _ _ x => .d x
  | x => x
def owA : DV → List Addr
  | .ow l _ => [l]
  | .tr _ S _ => S
  | _ => []
def anyOw (us : List DV) : List Addr := us.flatMap owA
def okR (us : List DV) (r : DV) : Prop := anyOw us = [] ∨ match r with
  | .d x => noL x = true
  | .ft _ => True
  | _ => False
def tUse (sp : DSp) (t : DA) : DT := fun env P => t env fun us => sp (us.map dat) fun r => okR us r ∧ P r
section
variable {K : PySem.W.Frag} {b : Bg} {F H F' H' : Hp}
def shut (ls : List Addr) (F : Hp) : Hp := fun a => if a ∈ ls then none else F a
theorem args_open {dvs : List DV} {vs : List V} (r : Paired (ArR K b F H) dvs vs) : ∀ l ∈ anyOw dvs, F l = none ∧ l ≠ b.b ∧ ∃ o, H l = some o ∧ isM o = true := by
  induction r with
  | nil => intro l hl; cases hl
  | @cons dv v dvs vs a t ih =>
    intro l hl
    rcases List.mem_append.mp (show l ∈ owA dv ++ anyOw dvs from hl) with h | h
    · cases dv with
      | ow m xs =>
        obtain rfl : l = m := by simpa [owA] using h
        obtain ⟨_, hf, ne, ws, e, _⟩ := a
        exact ⟨hf, ne, _, e, rfl⟩
      | tr p S x =>
        have h : l ∈ S := h
        exact ⟨(a.1 l h).1, (a.1 l h).2, a.2.there l h⟩
      | ft x => simp [owA] at h
      | d x => simp [owA] at h
      | fr xs => simp [owA] at h
      | raw v => simp [owA] at h
      | bag => simp [owA] at h
    · exact ih l h
theorem args_dat {ls : List Addr} {dvs : List DV} {vs : List V} (r : Paired (ArR K b F H) dvs vs) (hs : Same F (opn ls F H)) (hl : ∀ l ∈ anyOw dvs, l ∈ ls) : Paired (AgR K b (opn ls F H)) (dvs.map dat) vs := by
  induction r with
  | nil => exact .nil
  | @cons dv v dvs vs a t ih =>
    refine .cons ?_ (ih fun l h => hl l (List.mem_append.mpr (.inr h)))
    cases dv with
    | d x => exact Rp.up hs a
    | raw u => exact a
    | bag => exact a
    | fr xs => exact a.elim
    | ow l xs =>
      obtain ⟨rfl, hf, ne, ws, e, q⟩ := a
      have : l ∈ ls := hl l (List.mem_append.mpr (.inl (by simp [owA])))
      refine Rp.lst ?_ (q.up hs)
      unfold opn
      rw [if_pos this]
      exact e
    | ft x => exact a.elim
    | tr p S x => exact a.2.open hs fun l m => hl l (List.mem_append.mpr (.inl m))
end
section
variable {K : PySem.W.Frag} {b : Bg} {F1 H1 F2 H2 : Hp} {ls : List Addr}
/-- behind a call: what was opened for it is shut again -/
theorem shut_ok (wd : Wd K b F1 H1) (op : ∀ l ∈ ls, F1 l = none ∧ l ≠ b.b ∧ ∃ o, H1 l = some o ∧ isM o = true) (s2 : Stp K b (opn ls F1 H1) H1 F2 H2) : Stp K b F1 H1 (shut ls F2) H2 ∧ ∀ a o, isM o = false → F2 a = some o → shut ls F2 a = some o := by
  have hs : Same F1 (opn ls F1 H1) := opn_same fun l hl => (op l hl).1
  refine ⟨⟨s2.keep, ⟨s2.bag.1, ?_, s2.bag.2.2.1, fun t m => ⟨by unfold shut; split; exact rfl; exact (s2.bag.2.2.2 t m).1, (s2.bag.2.2.2 t m).2⟩⟩, fun a o z => ?_, fun a o z => ?_, ?_, fun a z1 z2 => ?_, s2.tab⟩, fun a o hm z => ?_⟩
  · unfold shut
    rw [if_neg fun m => by have := wd.bag.2.1; rw [(op _ m).1] at this; cases this]
    exact s2.bag.2.1
  · unfold shut
    rw [if_neg fun m => by rw [(op a m).1] at z; cases z]
    exact s2.ex a o (hs a o z)
  · unfold shut at z
    split at z
    · cases z
    · exact s2.sub _ _ z
  · unfold shut
    split
    · rfl
    · exact s2.fb
  · unfold shut
    split
    · rfl
    · next m =>
      refine s2.new a ?_ z2
      unfold opn
      rw [if_neg m]
      exact z1
  · unfold shut
    rw [if_neg fun m => ?_]
    · exact z
    · obtain ⟨_, ne, ws, el, mm⟩ := op a m
      have h3 := s2.keep a ws ne (isM_tbl mm) el
      rw [s2.sub _ _ z] at h3
      cases h3
      rw [hm] at mm
      cases mm
theorem opened (wd : Wd K b F1 H1) (op : ∀ l ∈ ls, F1 l = none ∧ l ≠ b.b ∧ ∃ o, H1 l = some o ∧ isM o = true) : Wd K b (opn ls F1 H1) H1 := by
  have hs : Same F1 (opn ls F1 H1) := opn_same fun l hl => (op l hl).1
  refine ⟨wd.bag.up hs rfl (fun t _ h1 h2 => ⟨by
    unfold opn
    rw [if_neg (fun m => by
      obtain ⟨ps, z, _⟩ := h2
      obtain ⟨_, _, o, e, mm⟩ := op t m
      rw [e] at z
      cases z
      cases mm)]
    exact h1, h2⟩), fun a o z => ?_, ?_⟩
  · unfold opn at z
    split at z
    · exact z
    · exact wd.sub _ _ z
  · unfold opn
    rw [if_neg fun z => (op _ z).2.1 rfl]
    exact wd.fb
/-- what a call tells, told where its arguments are shut again -/
theorem okR_shut {us : List DV} {dv : DV} {v : V} (ok : okR us dv) (ne : anyOw us ≠ []) (h : ∀ a o, isM o = false → F2 a = some o → shut ls F2 a = some o) (rs : Res K b H1 F2 H2 dv v) : Res K b H1 (shut ls F2) H2 dv v := by
  rcases ok with ok | ok
  · exact absurd ok ne
  · cases dv with
    | d x => exact noL_up h ok rs
    | ft x =>
      obtain ⟨S, nd, k, q⟩ := rs
      exact ⟨S, nd, fun a m => ⟨(k a m).1, by unfold shut; split; rfl; exact (k a m).2.1, (k a m).2.2⟩, q.shut h⟩
    | fr xs => exact ok.elim
    | ow l xs => exact ok.elim
    | tr p S x => exact ok.elim
    | raw u => exact ok.elim
    | bag => exact ok.elim
theorem opn_nil : opn [] F1 H1 = F1 := by
  funext a
  unfold opn
  rw [if_neg (by simp)]
end
section
variable {X : Cx} {w : Wn} {CX : CXT} {k : Nat} {f : Addr} {sp : Sp} {ds : DSp} {E : XK} {x : Str} {e : Expr} {es : List Expr} {p pos : Pos} {t : DA}
theorem run_g {pins : List (Addr × Obj)} {σ : L2.St} {H : Hp} {s : Shared} {Q : VK} {us : List Value} {vs : List V} (Fk : Fg X.prog X.w X.K X.mg X.base CX k f sp) (ag : X.A.guards = some []) (room : Room k X.A) (ps : Passes CX X E)
    (I : L2.Inv X pins σ H s) (rv : Vals vs us) (want : sp vs H Q E) : wpAny (model X.prog X.w) X.A (call (.ref f) us) (EP X pins σ Q) X.xe s := by
  refine wpAny_call (codeAny_mono (Fk X.A X.stack s H us vs Q E ag room I.env0 rv want) fun res s2 got => ?_)
  match res, got with
  | .error u, got => exact ps pins σ H s u s2 I got
  | .ok (.ret u), got => exact I.after got
theorem d_use {ts : List Addr} (Fk : Fg X.prog X.w X.K X.mg X.base CX k f (Pm X.K ts ds)) (ht : w.b.ts = ts) (ag : X.A.guards = some []) (room : Room k X.A) (ps : Passes CX X E) (gl : Gl X x) (gm : X.mg x = some (.ref f)) (kp : PySem.W.keepIn X.K (.ref f) = true)
    (ha : DPA X w (e :: es) t) (db : (x == ("__debug__" : Str)) = false := by decide) (s1 : starEach (e :: es) X.env = (false, eval e X.env) :: starEach es X.env := by rfl) (s2 : (backTo pos (starEach es X.env)).any (·.1) = false := by rfl) :
    DPE X w (.Call (.Name x p) (e :: es) [] pos) (tUse ds t) := by
  have base : PE X (.Call (.Name x p) (e :: es) [] pos) (fun σ H Q => lfA X.K w t σ H fun vs H1 => Pm X.K ts ds vs H1 Q E) := by
    refine ⟨fun pins s σ H Q I want => wpAny_Call_Name_kw (ld_glob I gl gm ?_ db)⟩
    refine PySem.W.callWith_K (h₀ := X.base) I.ok.mod.kin kp ?_ s1 s2
    exact thn (ha.run pos pins s σ H _ I want) fun us st ⟨vs, H1, I1, rv, q⟩ => ⟨I1.kIn, run_g Fk ag room ps I1 rv q⟩
  refine pe_weak base fun σ H Q ⟨env, F, P, r, h, q⟩ => ⟨env, F, _, r, h, fun dvs vs F1 H1 st ar h1 => ?_⟩
  have op := args_open ar
  have hs : Same F1 (opn (anyOw dvs) F1 H1) := opn_same fun l hl => (op l hl).1
  refine ⟨w.b, opn (anyOw dvs) F1 H1, _, _, ht, opened st.wd op, args_dat ar hs (fun l hl => hl), h1, fun dv v F2 H2 s2 rs ⟨ok, hp⟩ => ?_⟩
  by_cases em : anyOw dvs = []
  · rw [em, opn_nil] at s2
    exact q dv v F2 H2 (st.trans s2) (rs.early st) hp
  · obtain ⟨sh, kp⟩ := shut_ok st.wd op s2
    exact q dv v _ H2 (st.trans sh) ((okR_shut ok em kp rs).early st) hp
end
end Dl
namespace Dl
open PySem PySem.Spec PyProof.Rows L2
section
variable {K : PySem.W.Frag} {b : Bg} {F₀ H₀ F H F' H' : Hp} {env : List Sl} {σ : L2.St}
theorem slA_ok {s : Sl} {o : Option (Option V)} (h : SlOk K b H₀ F H s o) : ∀ a ∈ slA s, H₀ a = none ∧ F a = none ∧ a ≠ b.b ∧ ∃ o, H a = some o ∧ isM o = true := by
  intro a m
  cases s with
  | ow l xs =>
    obtain ⟨_, h0, hf, ne, vs, hl, _⟩ := h
    obtain rfl : a = l := by simpa [slA] using m
    exact ⟨h0, hf, ne, _, hl, rfl⟩
  | tr p S x =>
    obtain ⟨v, _, _, k, _, q⟩ := h
    have m : a ∈ S := m
    exact ⟨(k a m).1, (k a m).2.1, (k a m).2.2, q.there a m⟩
  | tv v S x =>
    obtain ⟨_, _, k, _, q⟩ := h
    have m : a ∈ S := m
    exact ⟨(k a m).1, (k a m).2.1, (k a m).2.2, q.there a m⟩
  | un => simp [slA] at m
  | d x => simp [slA] at m
  | raw x => simp [slA] at m
  | bag => simp [slA] at m
theorem own_set {i : Nat} {z : Sl} (own : ∀ (i j : Nat) (s t : Sl) (a : Addr), env[i]? = some s → env[j]? = some t → a ∈ slA s → a ∈ slA t → i = j) (ow : ∀ a, a ∈ slA z → ∀ j s, j ≠ i → env[j]? = some s → a ∉ slA s) :
    ∀ (j k : Nat) (s t : Sl) (a : Addr), (env.set i z)[j]? = some s → (env.set i z)[k]? = some t → a ∈ slA s → a ∈ slA t → j = k := by
  intro j k s t a h1 h2 m1 m2
  rw [List.getElem?_set] at h1 h2
  by_cases e1 : i = j
  · by_cases e2 : i = k
    · exact e1.symm.trans e2
    · rw [if_pos e1] at h1
      rw [if_neg e2] at h2
      split at h1
      · cases h1
        exact absurd m2 (ow a m1 k t (Ne.symm e2) h2)
      · cases h1
  · rw [if_neg e1] at h1
    by_cases e2 : i = k
    · rw [if_pos e2] at h2
      split at h2
      · cases h2
        exact absurd m1 (ow a m2 j s (Ne.symm e1) h1)
      · cases h2
    · rw [if_neg e2] at h2
      exact own j k s t a h1 h2 m1 m2
theorem Rel.put (r : Rel K b F₀ H₀ env σ F H) (i : Nat) {z : Sl} {v : V} (ok : SlOk K b H₀ F H z (some (some v))) (ow : ∀ a, a ∈ slA z → ∀ j s, j ≠ i → env[j]? = some s → a ∉ slA s) :
    Rel K b F₀ H₀ (env.set i z) (σ.set i (some v)) F H := by
  refine ⟨by rw [List.length_set, List.length_set]; exact r.len, r.st, fun j s e => ?_, own_set r.own ow⟩
  rw [List.getElem?_set] at e ⊢
  by_cases h : i = j
  · subst h
    rw [if_pos rfl] at e ⊢
    by_cases hl : i < env.length
    · rw [if_pos hl] at e
      rw [if_pos (by rw [r.len]; exact hl)]
      cases e
      exact ok
    · rw [if_neg hl] at e
      cases e
  · rw [if_neg h] at e ⊢
    exact r.at' j s e
/-- what an owned slot holds is written -/
theorem Rel.wrtS (r : Rel K b F₀ H₀ env σ F H) {i : Nat} {s s' : Sl} (e : env[i]? = some s) {H' : Hp} (hk : ∀ a o, a ∉ slA s → H a = some o → H' a = some o) (hs : SlOk K b H₀ F H' s' σ[i]?)
    (ow : ∀ a, a ∈ slA s' → a ∈ slA s ∨ H a = none) : Rel K b F₀ H₀ (env.set i s') σ F H' := by
  have ok := slA_ok (r.at' i _ e)
  have hb : H' b.b = H b.b := by
    obtain ⟨vs, eb⟩ := r.st.bag.lst
    rw [eb]
    exact hk _ _ (fun m => (ok _ m).2.2.1 rfl) eb
  refine ⟨by rw [List.length_set]; exact r.len, ⟨fun a o n nt h => ?_, ?_, r.st.ex, fun a o h => ?_, r.st.fb, r.st.new, fun a ps n h => ?_⟩, fun j t h => ?_, own_set r.own fun a m j t nj ej => ?_⟩
  · exact hk a o (fun m => by rw [(ok a m).1] at h; cases h) (r.st.keep a o n nt h)
  · refine r.st.bag.up (fun _ _ h => h) hb fun t _ h1 h2 => ⟨h1, ?_⟩
    obtain ⟨ps, z, k⟩ := h2
    refine ⟨ps, hk _ _ (fun m => ?_) z, k⟩
    obtain ⟨_, _, _, o, ho, mo⟩ := ok t m
    rw [z] at ho
    cases ho
    cases mo
  · exact hk a o (fun m => by rw [(ok a m).2.1] at h; cases h) (r.st.sub a o h)
  · obtain ⟨qs, h1, k⟩ := r.st.tab a ps n h
    exact ⟨qs, hk _ _ (fun m => by rw [(ok a m).1] at h; cases h) h1, k⟩
  · rw [List.getElem?_set] at h
    by_cases hj : i = j
    · subst hj
      rw [if_pos rfl] at h
      split at h
      · cases h
        exact hs
      · cases h
    · rw [if_neg hj] at h
      have old := r.at' j t h
      have apart : ∀ a, a ∈ slA t → a ∉ slA s := fun a m1 m2 => hj (r.own i j _ _ a e h m2 m1)
      cases t with
      | un => exact old
      | d x => exact old
      | raw v => exact old
      | bag => exact old
      | ow m zs =>
        obtain ⟨e1, e2, e3, e4, ws, e5, e6⟩ := old
        exact ⟨e1, e2, e3, e4, ws, hk _ _ (apart m (by simp [slA])) e5, e6⟩
      | tr p S x =>
        obtain ⟨v, e1, nd, k, mr, q⟩ := old
        exact ⟨v, e1, nd, k, mr, q.up (fun _ _ z => z) fun a m o ho => hk a o (apart a m) ho⟩
      | tv v S x =>
        obtain ⟨e1, nd, k, mr, q⟩ := old
        exact ⟨e1, nd, k, mr, q.up (fun _ _ z => z) fun a m o ho => hk a o (apart a m) ho⟩
  · rcases ow a m with m2 | m2
    · exact fun m3 => nj (r.own j i _ _ a ej e m3 m2)
    · intro m3
      obtain ⟨_, _, _, o, ho, _⟩ := slA_ok (r.at' j _ ej) a m3
      rw [m2] at ho
      cases ho
/-- the list of an owned slot is written -/
theorem Rel.wrt (r : Rel K b F₀ H₀ env σ F H) {i : Nat} {l : Addr} {xs ys : List PyData} {vs : List V} (e : env[i]? = some (.ow l xs)) (q : RpA K F vs ys) :
    Rel K b F₀ H₀ (env.set i (.ow l ys)) σ F (upd H l (.lst vs)) := by
  obtain ⟨es, h0, hf, ne, us, hl, _⟩ := r.at' i _ e
  exact r.wrtS e (fun a o n h => by rw [upd_ne (fun z => n (by simp [slA, z]))]; exact h) ⟨es, h0, hf, ne, vs, upd_same, q⟩ fun a m => .inl m
end
/-! ### statements -/
def stD (i : Nat) : DV → List Sl → (List Sl → Prop) → Prop
  | .d x, env, k => k (env.set i (.d x))
  | .fr xs, env, k => ∀ l, k (env.set i (.ow l xs))
  | .raw v, env, k => k (env.set i (.raw v))
  | .bag, env, k => k (env.set i .bag)
  | .ft x, env, k => ∀ S, k (env.set i (.tr true S x))
  | .ow _ _, _, _ => False
  | .tr _ _ _, _, _ => False
section
variable {X : Cx} {w : Wn} {e : Expr} {te : DT} {pos : Pos} {st : Stmt} {rest : List Stmt} {t u : DS}
theorem st_ok {σ : L2.St} {F H F1 H1 : Hp} {env : List Sl} {i : Nat} {dv : DV} {v : V} {k : List Sl → Prop} (r : RelW X.K w env σ F H) (s : Stp X.K w.b F H F1 H1) (rs : Res X.K w.b H F1 H1 dv v) (h : stD i dv env k) :
    ∃ env', RelW X.K w env' (σ.set i (some v)) F1 H1 ∧ k env' := by
  cases dv with
  | d x => exact ⟨_, (r.step s).put i (z := .d x) ⟨v, rfl, rs⟩ (fun a m => by cases m), h⟩
  | raw u =>
    obtain rfl : v = u := rs
    exact ⟨_, (r.step s).put i (z := .raw v) rfl (fun a m => by cases m), h⟩
  | bag =>
    obtain rfl : v = .ref w.b.b := rs
    exact ⟨_, (r.step s).put i (z := .bag) rfl (fun a m => by cases m), h⟩
  | ow l xs => exact h.elim
  | fr xs =>
    obtain ⟨p, vs, rfl, h0, hf, ne, hp, q⟩ := rs
    refine ⟨_, (r.step s).put i (z := .ow p xs) ⟨rfl, r.st.back ne h0, hf, ne, vs, hp, q⟩ (fun a m j t nj ej m2 => ?_), h p⟩
    obtain rfl : a = p := by simpa [slA] using m
    obtain ⟨_, _, _, o, e5, _⟩ := slA_ok (r.at' j _ ej) a m2
    rw [h0] at e5
    cases e5
  | ft x =>
    obtain ⟨S, nd, k, q⟩ := rs
    refine ⟨_, (r.step s).put i (z := .tr true S x) ⟨v, rfl, nd, fun a m => ⟨r.st.back (k a m).2.2 (k a m).1, (k a m).2⟩, q.root, q⟩ (fun a m j t nj ej m2 => ?_), h S⟩
    obtain ⟨_, _, _, o, e5, _⟩ := slA_ok (r.at' j _ ej) a m2
    rw [(k a m).1] at e5
    cases e5
  | tr p S x => exact h.elim
def tSetD (i : Nat) (te : DT) : DS := fun d env => te env fun dv => stD i dv env d.nx
theorem ds_set {x : Str} {i : Nat} {pos' : Pos} (hN : X.N.Nodup) (hi : X.N[i]? = some x) (hx : Loc X.env.scope x) (he : DPE X w e te) (hs : swapsWith e (some (.Name x pos')) pos.line X.env = pure false := by rfl)
    (hf : X.fn x = true ∨ X.env.scope.names.lookup x = some .local := by first | exact .inl rfl | exact .inr rfl) : DPS X w (.Assign [.Name x pos'] e pos) (tSetD i te) :=
  ps_weak (ps_set hN hi hx he hs hf) fun D σ H ⟨env, F, d, r, h, fit⟩ => ⟨env, F, _, r, h, fun dv v F1 H1 s1 r1 h1 => by
    obtain ⟨env', r2, k⟩ := st_ok r s1 r1 h1
    exact fit.nx env' _ F1 H1 r2 s1.ex k⟩
def tSeqD (t u : DS) : DS := fun d env => t { d with nx := u d } env
theorem dss_nil : DPSs X w [] (fun d env => d.nx env) := pss_weak pss_nil fun D σ H ⟨env, F, d, r, h, fit⟩ => fit.nx env σ F H r sm0 h
theorem dss_one (h : DPS X w st t) : DPSs X w [st] t := pss_one h
theorem dss_cons (h1 : DPS X w st t) (h2 : DPSs X w rest u) : DPSs X w (st :: rest) (tSeqD t u) :=
  pss_weak (pss_cons h1 h2) fun D σ H ⟨env, F, d, r, h, fit⟩ => ⟨env, F, _, r, h, ⟨fun env' σ' F' H' r' sm h' => ⟨env', F', d, r', h', fit.up sm⟩, fit.bk, fit.ct, fit.rt⟩⟩
def tDropD (te : DT) : DS := fun d env => te env fun _ => d.nx env
def tRetD (te : DT) : DS := fun d env => te env fun dv => match dv with
  | .ow _ _ => False
  | .tr _ _ _ => False
  | x => d.rt x
theorem Res.since {K : PySem.W.Frag} {b : Bg} {F₀ H₀ F H F2 H2 : Hp} (s : Stp K b F₀ H₀ F H) {dv : DV} {v : V} (r : Res K b H F2 H2 dv v) : Res K b H₀ F2 H2 dv v := r.early s
theorem ds_ret (he : DPE X w e te) : DPS X w (.Return (some e) pos) (tRetD te) :=
  ps_weak (ps_ret he) fun D σ H ⟨env, F, d, r, h, fit⟩ => ⟨env, F, _, r, h, fun dv v F1 H1 s1 r1 h1 => by
    refine fit.rt dv v F1 H1 (r.st.trans s1) (r1.since r.st) ?_
    cases dv with
    | ow l xs => exact h1.elim
    | d x => exact h1
    | fr x => exact h1
    | ft x => exact h1
    | tr p S x => exact h1.elim
    | raw x => exact h1
    | bag => exact h1⟩
def tRetVD (i : Nat) : DS := fun d env => match env[i]? with
  | some (.ow _ xs) => d.rt (.fr xs)
  | some (.d x) => d.rt (.d x)
  | some (.raw v) => d.rt (.raw v)
  | _ => False
theorem ds_retV (i : Nat) {x : Str} {p : Pos} (hN : X.N[i]? = some x := by rfl) (hv : Vis X.env.scope x := by first | exact Or.inl rfl | exact Or.inr (Or.inl rfl) | exact Or.inr (Or.inr rfl)) (hd : (x == ("__debug__" : Str)) = false := by decide) (hc : (x == ("__classdict__" : Str)) = false := by decide) :
    DPS X w (.Return (some (.Name x p)) pos) (tRetVD i) :=
  ps_weak (ps_ret (pe_var hN hv hd hc)) fun D σ H ⟨env, F, d, r, h, fit⟩ => by
    unfold tRetVD at h
    split at h
    · next l xs e =>
      obtain ⟨e1, h0, hf, ne, vs, hl, q⟩ := r.at' i _ e
      exact ⟨_, e1, fit.rt (.fr xs) _ F H r.st ⟨l, vs, rfl, h0, hf, ne, hl, q⟩ h⟩
    · next x e =>
      obtain ⟨v, e1, r1⟩ := r.at' i _ e
      exact ⟨v, e1, fit.rt (.d x) v F H r.st r1 h⟩
    · next v e => exact ⟨v, r.at' i _ e, fit.rt (.raw v) v F H r.st rfl h⟩
    · exact h.elim
variable {c : Expr} {tc : DTT} {as bs : List Stmt}
def tIfD (c : DTT) (t u : DS) : DS := fun d env => c env fun k => if k = true then t d env else u d env
theorem ds_if (hc : DPT X w c tc) (ha : DPSs X w as t) (hb : DPSs X w bs u) : DPS X w (.If c as bs pos) (tIfD tc t u) :=
  ps_weak (ps_if hc ha hb) fun D σ H ⟨env, F, d, r, h, fit⟩ => ⟨env, F, _, r, h, fun k F1 H1 s1 h1 => by
    cases k with
    | true => exact ⟨env, F1, d, r.step s1, h1, fit.up s1.ex⟩
    | false => exact ⟨env, F1, d, r.step s1, h1, fit.up s1.ex⟩⟩
/-- an owned list becomes data for good, ahead of a statement -/
def frzS (i : Nat) (env : List Sl) : List Sl := match env[i]? with
  | some (.ow _ xs) => env.set i (.d (.list xs))
  | some (.tr _ _ x) => env.set i (.d x)
  | _ => env
theorem frz_rel {K : PySem.W.Frag} {w : Wn} {env : List Sl} {σ : L2.St} {F H : Hp} (i : Nat) (r : RelW K w env σ F H) : ∃ F2, RelW K w (frzS i env) σ F2 H ∧ Same F F2 := by
  unfold frzS
  split
  · next l xs e =>
    obtain ⟨e1, h0, hf, ne, vs, hl, q⟩ := r.at' i _ e
    have st := r.st.freeze h0 hf ne hl
    have up : Same F (upd F l (.lst vs)) := same_laid hf
    refine ⟨_, ⟨by rw [List.length_set]; exact r.len, st, fun j s h => ?_, own_set r.own fun a m => by cases m⟩, up⟩
    rw [List.getElem?_set] at h
    by_cases hj : i = j
    · subst hj
      rw [if_pos rfl] at h
      split at h
      · cases h
        exact ⟨_, e1, Rp.lst upd_same (q.up up)⟩
      · cases h
    · rw [if_neg hj] at h
      have old := r.at' j s h
      have apart : l ∉ slA s := fun m => hj (r.own i j _ _ l e h (by simp [slA]) m)
      cases s with
      | un => exact old
      | d x => obtain ⟨v, a1, a2⟩ := old; exact ⟨v, a1, a2.up up⟩
      | raw v => exact old
      | bag => exact old
      | ow m zs =>
        obtain ⟨e1, e2, e3, e4, ws, e5, e6⟩ := old
        have ml : m ≠ l := fun z => apart (by simp [slA, z])
        exact ⟨e1, e2, by rw [upd_ne ml]; exact e3, e4, ws, e5, e6.up up⟩
      | tr p S x =>
        obtain ⟨v, e1, nd, k, mr, q⟩ := old
        refine ⟨v, e1, nd, fun a m => ⟨(k a m).1, ?_, (k a m).2.2⟩, mr, q.up up fun _ _ _ z => z⟩
        rw [upd_ne (fun z => apart (show l ∈ S by rw [← z]; exact m))]
        exact (k a m).2.1
      | tv v S x =>
        obtain ⟨e1, nd, k, mr, q⟩ := old
        refine ⟨e1, nd, fun a m => ⟨(k a m).1, ?_, (k a m).2.2⟩, mr, q.up up fun _ _ _ z => z⟩
        rw [upd_ne (fun z => apart (show l ∈ S by rw [← z]; exact m))]
        exact (k a m).2.1
  · next p S x e =>
    obtain ⟨v, e1, nd, k, mr, q⟩ := r.at' i _ e
    have st := r.st.freezeT k q.there
    have up : Same F (opn S F H) := opn_same fun l m => (k l m).2.1
    refine ⟨_, ⟨by rw [List.length_set]; exact r.len, st, fun j s h => ?_, own_set r.own fun a m => by cases m⟩, up⟩
    rw [List.getElem?_set] at h
    by_cases hj : i = j
    · subst hj
      rw [if_pos rfl] at h
      split at h
      · cases h
        exact ⟨_, e1, q.open up fun _ m => m⟩
      · cases h
    · rw [if_neg hj] at h
      have old := r.at' j s h
      have apart : ∀ a ∈ S, a ∉ slA s := fun a m1 m2 => hj (r.own i j _ _ a e h m1 m2)
      have out : ∀ a ∈ slA s, F a = none → opn S F H a = none := fun a m h0 => by
        unfold opn
        rw [if_neg fun m2 => apart a m2 m]
        exact h0
      cases s with
      | un => exact old
      | d x => obtain ⟨v, a1, a2⟩ := old; exact ⟨v, a1, a2.up up⟩
      | raw v => exact old
      | bag => exact old
      | ow m zs =>
        obtain ⟨e1, e2, e3, e4, ws, e5, e6⟩ := old
        exact ⟨e1, e2, out m (by simp [slA]) e3, e4, ws, e5, e6.up up⟩
      | tr p' T y =>
        obtain ⟨v, e1, nd, k, mr, q⟩ := old
        exact ⟨v, e1, nd, fun a m => ⟨(k a m).1, out a m (k a m).2.1, (k a m).2.2⟩, mr, q.up up fun _ _ _ z => z⟩
      | tv v T y =>
        obtain ⟨e1, nd, k, mr, q⟩ := old
        exact ⟨e1, nd, fun a m => ⟨(k a m).1, out a m (k a m).2.1, (k a m).2.2⟩, mr, q.up up fun _ _ _ z => z⟩
  · exact ⟨F, r, sm0⟩
theorem ds_frz (i : Nat) (h : DPS X w st t) : DPS X w st (fun d env => t d (frzS i env)) := ps_weak h fun D σ H ⟨env, F, d, r, h, fit⟩ => by
  obtain ⟨F2, r2, sm⟩ := frz_rel i r
  exact ⟨_, F2, d, r2, h, fit.up sm⟩
/-- xs.append(e) -/
def tAppD (i : Nat) (te : DT) : DS := fun d env => match env[i]? with
  | some (.ow l xs) => xs.length < 100000 ∧ te env fun dv => match frz dv with
    | .d x => d.nx (env.set i (.ow l (xs ++ [x])))
    | _ => False
  | _ => False
theorem ds_app {i : Nat} (base : PE X e (tBM X.K "list" rAppend (tVar i) (tCons (lf X.K w te) tNil))) (hs : swapsWith e none pos.line X.env = pure false := by rfl) : DPS X w (.Expr e pos) (tAppD i te) :=
  ps_weak (ps_expr base hs) fun D σ H ⟨env, F, d, r, h, fit⟩ => by
    unfold tAppD at h
    split at h
    · next l xs ei =>
      obtain ⟨e1, _, _, _, vs, hl, _⟩ := r.at' i _ ei
      obtain ⟨hz, h⟩ := h
      refine ⟨_, e1, .inl ⟨rfl, vs, SqL.of hl⟩, env, F, _, r, h, fun dv v F1 H1 s1 r1 h1 => ?_⟩
      obtain ⟨F2, s2, a2⟩ := frz_ok s1 r1
      have r2 := r.step s2
      obtain ⟨_, _, _, _, us, hl2, q2⟩ := r2.at' i _ ei
      split at h1
      · next x ex =>
        rw [ex] at a2
        refine ⟨l, us, v, rfl, rfl, hl2, by rw [q2.len]; exact lim_lt hz, ?_⟩
        exact fit.nx _ _ F2 _ (r2.wrt ei (q2.app (.cons a2 .nil))) s2.ex h1
      · exact h1.elim
    · exact h.elim
/-- xs[i] = e, xs an owned list -/
def tSetI (i : Nat) (ti te : DT) : DS := fun d env => te env fun dv => match frz dv, env[i]? with
  | .d x, some (.ow l xs) => ti env fun k => rd k fun y => match y with
    | .int j => match ixN xs.length j with
      | some m => d.nx (env.set i (.ow l (xs.set m x)))
      | none => False
    | _ => False
  | _, _ => False
theorem ds_seti {i : Nat} {ti : DT} {ix o : Expr} {p : Pos} (he : DPE X w e te) (ho : PE X o (tVar i)) (hi : DPE X w ix ti) (hp : PG X (.Subscript o ix p) (gSub (tVar i) (lf X.K w ti) rSetL)) (hs : swapsWithSole [.Subscript o ix p] e pos.line X.env = pure false := by rfl) (hw : swappedStores [.Subscript o ix p] e X.env = pure none := by rfl) :
    DPS X w (.Assign [.Subscript o ix p] e pos) (tSetI i ti te) :=
  ps_weak (ps_asg he hp hs hw) fun D σ H ⟨env, F, d, r, h, fit⟩ => ⟨env, F, _, r, h, fun dv v F1 H1 s1 r1 h1 => by
    obtain ⟨F2, s2, a2⟩ := frz_ok s1 r1
    have r2 := r.step s2
    split at h1
    · next x l xs ex ei =>
      rw [ex] at a2
      obtain ⟨e1, _, _, _, us, hl2, q2⟩ := r2.at' i _ ei
      refine ⟨_, e1, env, F2, _, r2, h1, fun k u F3 H3 s3 r3 h3 => ?_⟩
      obtain ⟨y, y1, h3⟩ := rd_ok r3 h3
      split at h3
      · next j =>
        obtain rfl := y1.int
        split at h3
        · next m em =>
          have r4 := r2.step s3
          obtain ⟨_, _, _, _, ws, hl4, q4⟩ := r4.at' i _ ei
          refine ⟨l, ws, j, m, rfl, rfl, hl4, by rw [q4.len]; exact em, ?_⟩
          exact fit.nx _ _ F3 _ (r4.wrt ei (q4.set (Rp.up s3.ex a2) m)) (s2.ex.trans s3.ex) h3
        · exact h3.elim
      · exact h3.elim
    · exact h1.elim⟩
end
/-! ### loops -/
def forD (g : PyData → List Sl → (List Sl → Prop) → Prop) (tb : DS) (d : DK) : List PyData → List Sl → Prop
  | [], env => d.nx env
  | x :: xs, env => g x env fun e2 => tb { d with nx := forD g tb d xs, ct := forD g tb d xs, bk := d.nx } e2
def whD (tc : DTT) (tb : DS) (d : DK) : Nat → List Sl → Prop
  | 0, _ => False
  | n + 1, env => tc env fun k => if k = true then tb { d with nx := whD tc tb d n, ct := whD tc tb d n, bk := d.nx } env else d.nx env
abbrev DG := PyData → List Sl → (List Sl → Prop) → Prop
def lfG (K : PySem.W.Frag) (w : Wn) (g : DG) : TG := fun v σ H Q => ∃ env F x k, RelW K w env σ F H ∧ Rp K F v x ∧ g x env k ∧ ∀ env' σ' F' H', RelW K w env' σ' F' H' → Same F F' → k env' → Q σ' H'
/-- what is walked: J gives xs, one by one -/
structure Wlk (K : PySem.W.Frag) (b : Bg) (F : Hp) (J : It) (xs : List PyData) : Prop where
  ex : ∃ (G : Hp → Prop) (Y : Nat → Hp → V → Hp → Prop), Walk J xs.length G Y ∧ (∀ F' H', Same F F' → Wd K b F' H' → G H') ∧
    ∀ i F' H' v H2, Same F F' → Wd K b F' H' → Y i H' v H2 → ∃ F2 x, Stp K b F' H' F2 H2 ∧ xs[i]? = some x ∧ Rp K F2 v x
abbrev DIt := List Sl → (List PyData → Prop) → Prop
def lfI (K : PySem.W.Frag) (w : Wn) (t : DIt) : TI := fun σ H R => ∃ env F P, RelW K w env σ F H ∧ t env P ∧ ∀ xs J F' H', Stp K w.b F H F' H' → Wlk K w.b F' J xs → P xs → R J H'
section
variable {X : Cx} {w : Wn} {c e : Expr} {tc : DTT} {as : List Stmt} {pos : Pos} {tb : DS}
def tWhD (tc : DTT) (tb : DS) : DS := fun d env => ∃ n, whD tc tb d n env
theorem ds_while (hp : PassesOwn (model X.prog X.w) X.A X.env X.xe) (hc : DPT X w c tc) (hb : DPSs X w as tb) : DPS X w (.While c as [] pos) (tWhD tc tb) :=
  ps_weak (ps_while hp hc hb) fun D σ H ⟨env, F, d, r, ⟨n, h⟩, fit⟩ => by
    refine ⟨fun m σ H => ∃ env F', RelW X.K w env σ F' H ∧ Same F F' ∧ whD tc tb d m env, ⟨n, env, F, r, sm0, h⟩, ?_⟩
    rintro m σ H ⟨env, F2, r, sm, h⟩
    cases m with
    | zero => exact h.elim
    | succ m =>
      refine ⟨env, F2, _, r, h, fun k F1 H1 s1 h1 => ?_⟩
      cases k with
      | false => exact fit.nx env σ F1 H1 (r.step s1) (sm.trans s1.ex) h1
      | true =>
        refine ⟨fun σ' H' => ∃ env F', RelW X.K w env σ' F' H' ∧ Same F F' ∧ whD tc tb d m env, fun σ' H' h' => ⟨m, Nat.lt_succ_self m, h'⟩, env, F1, _, r.step s1, h1, ?_⟩
        have up := (fit.up sm).up s1.ex
        have sb := sm.trans s1.ex
        exact ⟨fun env' σ' F' H' r' sm' h' => ⟨env', F', r', sb.trans sm', h'⟩, up.nx, fun env' σ' F' H' r' sm' h' => ⟨env', F', r', sb.trans sm', h'⟩, fit.rt⟩
def tForD (g : DG) (ti : DIt) (tb : DS) : DS := fun d env => ti env fun xs => forD g tb d xs env
theorem ds_for {tg iter : Expr} {g : DG} {ti : DIt} (hp : PassesOwn (model X.prog X.w) X.A X.env X.xe) (hc : X.calm = true) (hi : PI X tg iter (lfI X.K w ti)) (hg : PG X tg (lfG X.K w g)) (hb : DPSs X w as tb)
    (hs : ∀ x, foldedSetIterable iter X.env x = pure x := by intro _; rfl) : DPS X w (.For tg iter as [] pos) (tForD g ti tb) :=
  ps_weak (ps_for hp hc hi hg hb hs) fun D σ H ⟨env, F, d, r, h, fit⟩ => by
    refine ⟨env, F, _, r, h, fun xs J F1 H1 s1 wl h1 => ?_⟩
    obtain ⟨G, Y, wk, hG, hY⟩ := wl.ex
    refine for_it wk (fun i σ H => ∃ env F, RelW X.K w env σ F H ∧ Same F1 F ∧ forD g tb d (xs.drop i) env) ⟨env, F1, r.step s1, fun _ _ z => z, h1⟩ (fun i σ H _ ⟨env, F, r, sm, _⟩ => hG F H sm r.wd) (fun i v σ H H' hi ⟨env, F, r, sm, hd⟩ y => ?_) fun σ H ⟨env, F, r, sm, hd⟩ => ?_
    · obtain ⟨F2, x, s2, ex, rx⟩ := hY i F H v H' sm r.wd y
      have e1 : xs.drop i = x :: xs.drop (i + 1) := by
        obtain ⟨hl, ex⟩ := List.getElem?_eq_some_iff.mp ex
        rw [List.drop_eq_getElem_cons hl, ex]
      rw [e1] at hd
      refine ⟨env, F2, x, _, r.step s2, rx, hd, fun env' σ' F' H'' r' sm' k' => ⟨env', F', _, r', k', ?_⟩⟩
      have sb : Same F1 F' := (sm.trans s2.ex).trans sm'
      have up := fit.up (s1.ex.trans sb)
      exact ⟨fun env' σ' F'' H' r' sm' h' => ⟨env', F'', r', sb.trans sm', h'⟩, up.nx, fun env' σ' F'' H' r' sm' h' => ⟨env', F'', r', sb.trans sm', h'⟩, fit.rt⟩
    · rw [List.drop_length] at hd
      exact fit.nx env σ F H r (s1.ex.trans sm) hd
end
end Dl
namespace Dl
open PySem PySem.Spec PyProof.Rows L2
/-! ### what is walked -/
section
variable {K : PySem.W.Frag} {b : Bg} {F : Hp}
theorem wlk_list {a : Addr} {vs : List V} {xs : List PyData} (h : F a = some (.lst vs)) (r : RpA K F vs xs) : Wlk K b F (Itl K a) xs :=
  ⟨⟨_, _, r.len ▸ walk_list (K := K) (a := a) (xs := vs), fun F' H' s w => SqL.of (w.sub _ _ (s _ _ h)), fun i F' H' v H2 s w y => by
    obtain ⟨rfl, e⟩ := y
    obtain ⟨x, e1, r1⟩ := r.getV e
    exact ⟨F', x, w.refl, e1, r1.up s⟩⟩⟩
theorem wlk_tup {a : Addr} {vs : List V} {xs : List PyData} (h : SqT K F a vs) (r : RpA K F vs xs) : Wlk K b F (Itt K a) xs :=
  ⟨⟨_, _, r.len ▸ walk_tup (K := K) (a := a) (xs := vs), fun F' H' s w => sqt_up w.sub (sqt_up s h), fun i F' H' v H2 s w y => by
    obtain ⟨rfl, e⟩ := y
    obtain ⟨x, e1, r1⟩ := r.getV e
    exact ⟨F', x, w.refl, e1, r1.up s⟩⟩⟩
def rngD (lo : Int) (n : Nat) : List PyData := (List.range n).map fun i => .int (lo + (i : Nat))
theorem rngD_len (lo : Int) (n : Nat) : (rngD lo n).length = n := by simp [rngD]
theorem wlk_rng {lo : Int} {n : Nat} : Wlk K b F (Itr lo n) (rngD lo n) :=
  ⟨⟨_, fun i H v H' => i < n ∧ H' = H ∧ v = .int (lo + i), ⟨fun i H hi _ => by rw [rngD_len] at hi; exact hi, fun H _ => by rw [rngD_len]; exact Nat.le_refl _, fun i H x H' hi _ y => by rw [rngD_len] at hi; exact ⟨hi, y⟩⟩, fun _ _ _ _ => True.intro, fun i F' H' v H2 s w y => by
    obtain ⟨hi, rfl, rfl⟩ := y
    refine ⟨F', .int (lo + i), w.refl, ?_, .int _⟩
    unfold rngD
    rw [List.getElem?_map, List.getElem?_range hi]
    rfl⟩⟩
def signsD (z : Str) : List PyData := z.cps.toList.map fun c => .str ⟨#[c]⟩
theorem pair_new {F' H' : Hp} (w : Wd K b F' H') {T : Addr} {x y : V} {dx dy : PyData} (hT : H' T = none) (rx : Rp K F' x dx) (ry : Rp K F' y dy) : ∃ F2, Stp K b F' H' F2 (upd H' T (.tup [x, y])) ∧ Rp K F2 (.ref T) (.tuple [dx, dy]) := by
  have st := w.laid (o := .tup [x, y]) hT
  exact ⟨_, st, Rp.tup (SqT.of upd_same) (.cons (rx.up st.ex) (.cons (ry.up st.ex) .nil))⟩
def enumD (xs : List PyData) : List PyData := xs.zipIdx.map fun p => .tuple [.int (p.2 : Nat), p.1]
def zipD (xs ys : List PyData) : List PyData := (xs.zip ys).map fun p => .tuple [p.1, p.2]
end
section
variable {X : Cx} {w : Wn} {tg e : Expr} {te : DT} {ta : DA} {pos p : Pos}
theorem pi_weak {iter : Expr} {t u : TI} (h : PI X tg iter t) (i : ∀ σ H R, u σ H R → t σ H R) : PI X tg iter u := ⟨fun p s σ H R I q => h.run p s σ H R I (i σ H R q)⟩
def itLst (te : DT) : DIt := fun env P => te env fun dv => match frz dv with
  | .d (.list xs) => P xs
  | _ => False
def itTup (te : DT) : DIt := fun env P => te env fun dv => match frz dv with
  | .d (.tuple xs) => P xs
  | _ => False
def itStr (te : DT) : DIt := fun env P => te env fun dv => match frz dv with
  | .d (.str z) => P (signsD z)
  | _ => False
theorem di_list (he : DPE X w e te) : PI X tg e (lfI X.K w (itLst te)) := pi_weak (pi_list he) fun σ H R ⟨env, F, P, r, h, q⟩ => ⟨env, F, _, r, h, fun dv v F1 H1 s1 r1 h1 => by
  obtain ⟨F2, s2, a2⟩ := frz_ok s1 r1
  split at h1
  · next xs ex =>
    rw [ex] at a2
    cases (show Rp X.K F2 v (.list xs) from a2) with
    | lst e1 r2 => exact ⟨_, rfl, ⟨_, SqL.of (s2.sub _ _ e1)⟩, q xs _ F2 H1 s2 (wlk_list e1 r2) h1⟩
  · exact h1.elim⟩
theorem di_tup (he : DPE X w e te) : PI X tg e (lfI X.K w (itTup te)) := pi_weak (pi_tup he) fun σ H R ⟨env, F, P, r, h, q⟩ => ⟨env, F, _, r, h, fun dv v F1 H1 s1 r1 h1 => by
  obtain ⟨F2, s2, a2⟩ := frz_ok s1 r1
  split at h1
  · next xs ex =>
    rw [ex] at a2
    cases (show Rp X.K F2 v (.tuple xs) from a2) with
    | tup e1 r2 => exact ⟨_, rfl, ⟨_, sqt_up s2.sub e1⟩, q xs _ F2 H1 s2 (wlk_tup e1 r2) h1⟩
  · exact h1.elim⟩
def itR1 (ta : DA) : DIt := fun env P => ta env fun us => allD us fun xs => match xs with
  | [.int j] => (-1000000000 < j ∧ j < 1000000000) ∧ P (rngD 0 j.toNat)
  | _ => False
def itR2 (ta : DA) : DIt := fun env P => ta env fun us => allD us fun xs => match xs with
  | [.int i, .int j] => (-1000000000 < i ∧ i < 1000000000 ∧ -1000000000 < j ∧ j < 1000000000) ∧ P (rngD i (j - i).toNat)
  | _ => False
theorem di_r1 {a : Expr} (gl : Gl X "range") (gm : X.mg "range" = none) (ha : DPA X w [a] ta) (hs : starEach [a] X.env = [(false, eval a X.env)] := by rfl) : PI X tg (.Call (.Name "range" p) [a] [] pos) (lfI X.K w (itR1 ta)) :=
  pi_weak (pi_range1 gl gm ha hs) fun σ H R ⟨env, F, P, r, h, q⟩ => ⟨env, F, _, r, h, fun dvs vs F1 H1 s1 r1 h1 => by
    obtain ⟨xs, ra, h1⟩ := allD_ok r1 h1
    split at h1
    · next j =>
      cases ra with
      | cons a1 t =>
        cases t
        cases a1
        exact ⟨j, rfl, by omega, by omega, q _ _ F1 H1 s1 wlk_rng h1.2⟩
    · exact h1.elim⟩
def itEnum (ta : DA) : DIt := fun env P => ta env fun us => allD us fun xs => match xs with
  | [.list ys] => P (enumD ys)
  | _ => False
def itZip (ta : DA) : DIt := fun env P => ta env fun us => allD us fun xs => match xs with
  | [.list ys, .list zs] => P (zipD ys zs)
  | _ => False
end
/-! ### targets -/
section
variable {X : Cx} {w : Wn} {e : Expr} {te : DT} {pos : Pos}
theorem pg_weak {tg : Expr} {t u : TG} (h : PG X tg t) (i : ∀ v σ H Q, u v σ H Q → t v σ H Q) : PG X tg u := by
  obtain ⟨h1⟩ := h
  constructor
  intros
  first | exact h1 _ _ _ _ _ _ _ ‹_› ‹_› (i _ _ _ _ ‹_›) | exact h1 _ _ _ _ _ _ _ _ ‹_› ‹_› (i _ _ _ _ ‹_›)
def gnD (i : Nat) : DG := fun x env k => k (env.set i (.d x))
theorem dg_name {i : Nat} {x : Str} (hN : X.N.Nodup) (hi : X.N[i]? = some x) (hx : Loc X.env.scope x) (hf : X.fn x = true ∨ X.env.scope.names.lookup x = some .local := by first | exact .inl rfl | exact .inr rfl) : PG X (.Name x pos) (lfG X.K w (gnD i)) :=
  pg_weak (pg_name hN hi hx hf) fun v σ H Q ⟨env, F, x, k, r, rx, h, q⟩ => q _ _ F H (r.put i (z := .d x) ⟨v, rfl, rx⟩ (fun a m => by cases m)) sm0 h
abbrev DGs := List PyData → List Sl → (List Sl → Prop) → Prop
def gnilD : DGs := fun xs env k => xs = [] ∧ k env
def gconsD (g : DG) (gs : DGs) : DGs := fun xs env k => match xs with
  | x :: r => g x env fun e2 => gs r e2 k
  | [] => False
def lfGs (K : PySem.W.Frag) (w : Wn) (g : DGs) : TGs := fun vs σ H Q => ∃ env F xs k, RelW K w env σ F H ∧ RpA K F vs xs ∧ g xs env k ∧ ∀ env' σ' F' H', RelW K w env' σ' F' H' → Same F F' → k env' → Q σ' H'
theorem pgs_weak {tg : List Expr} {t u : TGs} (h : PGs X tg t) (i : ∀ v σ H Q, u v σ H Q → t v σ H Q) : PGs X tg u := by
  obtain ⟨h1⟩ := h
  constructor
  intros
  first | exact h1 _ _ _ _ _ _ _ ‹_› ‹_› (i _ _ _ _ ‹_›) | exact h1 _ _ _ _ _ _ _ _ ‹_› ‹_› (i _ _ _ _ ‹_›)
theorem dgs_nil : PGs X [] (lfGs X.K w gnilD) := pgs_weak pgs_nil fun v σ H Q ⟨env, F, xs, k, r, rx, h, q⟩ => by
  obtain ⟨rfl, h⟩ := h
  cases rx
  exact ⟨rfl, q _ _ F H r sm0 h⟩
theorem dgs_cons {a : Expr} {as : List Expr} {g : DG} {gs : DGs} (h1 : PG X a (lfG X.K w g)) (h2 : PGs X as (lfGs X.K w gs)) (hs : (assignEach (a :: as) X.env).map (fun x => x.snd) = assign a X.env :: (assignEach as X.env).map (fun x => x.snd) := by rfl) : PGs X (a :: as) (lfGs X.K w (gconsD g gs)) :=
  pgs_weak (pgs_cons h1 h2 hs) fun v σ H Q ⟨env, F, xs, k, r, rx, h, q⟩ => by
    cases rx with
    | nil => exact h.elim
    | cons a1 t => exact ⟨_, _, rfl, env, F, _, _, r, a1, h, fun e2 σ2 F2 H2 r2 s2 h2 => ⟨e2, F2, _, k, r2, t.up s2, h2, fun e3 σ3 F3 H3 r3 s3 h3 => q e3 σ3 F3 H3 r3 (s2.trans s3) h3⟩⟩
def gtD (n : Nat) (gs : DGs) : DG := fun x env k => match x with
  | .tuple xs => xs.length = n ∧ gs xs env k
  | _ => False
theorem dg_tup {es : List Expr} {k n : Nat} {gs : DGs} (hc : X.calm = true) (h : PGs X es (lfGs X.K w gs)) (hn : (assignEach es X.env).length = n := by rfl) (hst : (assignEach es X.env).findIdx? (fun x => x.fst) = none := by rfl) : PG X (.Tuple es k pos) (lfG X.K w (gtD n gs)) := by
  refine pg_weak (pg_tup hc h hn hst) fun v σ H Q ⟨env, F, x, k, r, rx, h, q⟩ => ?_
  cases x with
  | tuple xs =>
    cases rx with
    | tup e1 r1 => exact ⟨_, _, rfl, sqt_up r.st.sub e1, by rw [r1.len]; exact h.1, env, F, xs, k, r, r1, h.2, q⟩
  | _ => exact h.elim
/-- target = e -/
def tAsgD (te : DT) (g : DG) : DS := fun d env => te env fun dv => match frz dv with
  | .d x => g x env d.nx
  | _ => False
theorem ds_asg {tg : Expr} {g : DG} (he : DPE X w e te) (hg : PG X tg (lfG X.K w g)) (hs : swapsWithSole [tg] e pos.line X.env = pure false := by rfl) (hw : swappedStores [tg] e X.env = pure none := by rfl) (h1 : (assignEach [tg] X.env).map (fun x => x.snd) = [assign tg X.env] := by rfl) : DPS X w (.Assign [tg] e pos) (tAsgD te g) :=
  ps_weak (ps_asg he hg hs hw h1) fun D σ H ⟨env, F, d, r, h, fit⟩ => ⟨env, F, _, r, h, fun dv v F1 H1 s1 r1 h1 => by
    obtain ⟨F2, s2, a2⟩ := frz_ok s1 r1
    split at h1
    · next x ex =>
      rw [ex] at a2
      exact ⟨env, F2, x, _, r.step s2, a2, h1, fun e3 σ3 F3 H3 r3 s3 h3 => fit.nx e3 σ3 F3 H3 r3 (s2.ex.trans s3) h3⟩
    · exact h1.elim⟩
def tParD (i j : Nat) (ta : DA) : DS := fun d env => ta env fun us => allD us fun xs => match xs with
  | [x, y] => d.nx ((env.set i (.d x)).set j (.d y))
  | _ => False
theorem ds_par {i j : Nat} {x y : Str} {a c : Expr} {ta : DA} {px py pt : Pos} {kt k2 pt2} (hc : X.calm = true) (hN : X.N.Nodup) (hi : X.N[i]? = some x) (hj : X.N[j]? = some y) (hij : i ≠ j)
    (hx : X.env.scope.names.lookup x = some .local) (hy : X.env.scope.names.lookup y = some .local) (ha : DPA X w [a, c] ta)
    (base : PS X (.Assign [.Tuple [.Name x px, .Name y py] kt pt] (.Tuple [a, c] k2 pt2) pos) (tPar i j (lfA X.K w ta))) :
    DPS X w (.Assign [.Tuple [.Name x px, .Name y py] kt pt] (.Tuple [a, c] k2 pt2) pos) (tParD i j ta) :=
  ps_weak base fun D σ H ⟨env, F, d, r, h, fit⟩ => ⟨env, F, _, r, h, fun dvs vs F1 H1 s1 r1 h1 => by
    obtain ⟨xs, ra, h1⟩ := allD_ok r1 h1
    split at h1
    · next x y =>
      cases ra with
      | cons a1 t =>
        cases t with
        | cons a2 t =>
          cases t
          refine ⟨_, _, rfl, fit.nx _ _ F1 H1 ((((r.step s1).put i (z := .d x) ⟨_, rfl, a1⟩ ?_).put j (z := .d y) ⟨_, rfl, a2⟩ ?_)) s1.ex h1⟩
          · intro a m; cases m
          · intro a m; cases m
    · exact h1.elim⟩
def tAugI (i : Nat) (f : Int → Int → Int) (te : DT) : DS := fun d env => match env[i]? with
  | some (.d (.int x)) => te env fun dv => match dv with
    | .d (.int y) => d.nx (env.set i (.d (.int (f x y))))
    | _ => False
  | _ => False
end
/-! ### defs -/
def toSl : DV → Sl
  | .d x => .d x
  | .raw v => .raw v
  | .bag => .bag
  | _ => .un
def startD (N : List Str) (dvs : List DV) : List Sl := dvs.map toSl ++ List.replicate (N.length - dvs.length) .un
section
variable {K : PySem.W.Frag} {b : Bg} {F H : Hp}
theorem agr_get {i : Nat} {x : DV} : ∀ {dvs : List DV} {vs : List V} {i : Nat} {x : DV}, Paired (AgR K b F) dvs vs → dvs[i]? = some x → ∃ v, vs[i]? = some v ∧ AgR K b F x v
  | _, _, _, _, .nil, e => by simp at e
  | _, _, 0, _, .cons h _, e => by simp at e; subst e; exact ⟨_, rfl, h⟩
  | _, _, i + 1, x, .cons _ t, e => by
    obtain ⟨v, h1, h2⟩ := agr_get (i := i) (x := x) t (by simpa using e)
    exact ⟨v, by simpa using h1, h2⟩
theorem rel_start {N : List Str} {dvs : List DV} {vs : List V} (w : Wd K b F H) (r : Paired (AgR K b F) dvs vs) : Rel K b F H (startD N dvs) (start N vs) F H := by
  have hl : dvs.length = vs.length := Paired.length r
  refine ⟨by simp [L2.start, startD, hl], w.refl, fun i s e => ?_, fun i j s t a e1 _ m _ => ?_⟩
  · unfold startD at e
    unfold L2.start
    by_cases hi : i < dvs.length
    · rw [List.getElem?_append_left (by simpa using hi), List.getElem?_map] at e
      rw [List.getElem?_append_left (by simpa [← hl] using hi), List.getElem?_map]
      cases ed : dvs[i]? with
      | none => rw [ed] at e; cases e
      | some x =>
        rw [ed] at e
        obtain ⟨v, ev, a⟩ := agr_get (i := i) (x := x) r ed
        rw [ev]
        cases e
        cases x with
        | d x => exact ⟨v, rfl, a⟩
        | raw u => exact congrArg (fun z => some (some z)) a
        | bag => exact congrArg (fun z => some (some z)) a
        | fr xs => exact True.intro
        | ow l xs => exact True.intro
        | ft x => exact True.intro
        | tr p S x => exact True.intro
    · rw [List.getElem?_append_right (by simpa using hi), List.getElem?_replicate] at e
      split at e
      · cases e; exact True.intro
      · cases e
  · exfalso
    unfold startD at e1
    by_cases hi : i < dvs.length
    · rw [List.getElem?_append_left (by simpa using hi), List.getElem?_map] at e1
      cases ed : dvs[i]? with
      | none => rw [ed] at e1; cases e1
      | some x => rw [ed] at e1; cases x <;> cases e1 <;> cases m
    · rw [List.getElem?_append_right (by simpa using hi), List.getElem?_replicate] at e1
      split at e1 <;> cases e1
      cases m
end
section
variable {P : Program} {w : World} {K : PySem.W.Frag} {mg : Str → Option Value} {base : Heap} {CX : CXT} {k : Nat} {f : Addr} {fd : FuncData}
theorem guards_in {A : Around} (h : A.guards = some []) (env : Env) : (A.deeper env).guards = some [] := by
  first | exact h | (simp [Around.deeper, h]) | (unfold Around.deeper; exact h)
/-- THE RULE: a def's body, its reading, its promise -/
theorem d_def {ts : List Addr} {x qual : Str} {st : Stmt} {N ps : List Str} (Fn : L2.Fun K x qual st f fd) (S : FnScope N ps (defScope st))
    (hb : ∀ (kV doc pm : Value) (an : Option Addr) (cdv ct : Value) (us : List Value), us.length = ps.length → bindArgs (PySem.W.fnOf x qual (defArgs st) (defBody st) (defScope st) .none kV doc pm an cdv ct) { pos := us, kw := [] } = pure (ps.zip us))
    (sp : DSp) (t : DS)
    (hd : ∀ (cdv : Value) (A : Around) (outer : List Env) (s : Shared) (H : Hp) (E : XK) (wn : Wn), fd.code = cdv → wn.b.ts = ts → (A.deeper (envOfC qual (defScope st) s.heap.objs.size f cdv)).guards = some [] → Room k (A.deeper (envOfC qual (defScope st) s.heap.objs.size f cdv)) →
      DPSs (cxOf CX P w K mg base N qual (defScope st) f cdv A outer s H E).nox wn (defBody st) t)
    (hv : ∀ dvs Q, sp dvs Q → dvs.length = ps.length ∧ t { nx := fun _ => Q (.d .none), rt := Q } (startD N dvs)) : Fg P w K mg base CX (k + 1) f (Pm K ts sp) := by
  intro A outer s H us vs Q E ag room e0 rv want
  obtain ⟨b, F, dvs, R, ht, wd, ar, hsp, q⟩ := want
  obtain ⟨hlen, hread⟩ := hv dvs R hsp
  obtain ⟨oc, od, kV, doc, pm, an, cdv, ct, osl, rfl, lk, hcd⟩ := Fn.ex
  have hvl : vs.length = ps.length := (Paired.length ar).symm.trans hlen
  have hul : us.length = ps.length := rv.length.symm.trans hvl
  refine StX.run_bnd (N := N) (ps := ps) lk hcd S room e0 (G := fun xs H2 => xs = vs ∧ H2 = H) (fun A' Ex Q' h => ?_) fun s2 H2 xs g room2 => ?_
  · rw [hb kV doc pm an cdv ct us hul]
    exact wpAny_pure (h s H vs us e0 Un.refl rfl (fun _ _ z => z) rv hvl ⟨rfl, rfl⟩)
  · obtain ⟨rfl, rfl⟩ := g
    refine ⟨_, PSs.nox (hd cdv A outer s2 _ E ⟨b, F, _⟩ rfl ht (guards_in ag _) room2), startD N dvs, F, _, rel_start wd ar, hread, ?_⟩
    refine ⟨fun env σ F' H' r _ z => ?_, fun env σ F' H' r _ z => z, fun env σ F' H' r _ z => z, fun dv v F' H' st rs z => q dv v F' H' st rs z⟩
    exact q (.d .none) .non F' H' r.st Rp.non z
end
end Dl
namespace Dl
open PySem PySem.Spec PyProof.Rows L2
/-! ### list comprehensions -/
def lcD (g : PyData → List Sl → (List Sl → Prop) → Prop) (tt : DTT) (te : DT) (env : List Sl) : List PyData → List PyData → (DV → Prop) → Prop
  | [], acc, P => P (.fr acc)
  | x :: xs, acc, P => g x env fun e2 => tt e2 fun c => if c = true then te e2 fun dv => match frz dv with
      | .d y => acc.length < 100000 ∧ lcD g tt te env xs (acc ++ [y]) P
      | _ => False
    else lcD g tt te env xs acc P
/-- the target's names, as slots -/
def unS (env : List Sl) : List Nat → List Sl
  | [] => env
  | v :: vs => (unS env vs).set v .un
def tLcD (ti : DIt) (g : PyData → List Sl → (List Sl → Prop) → Prop) (tt : DTT) (te : DT) (vs : List Nat) : DT := fun env P => ti env fun xs => lcD g tt te (unS env vs) xs [] P
section
variable {K : PySem.W.Frag} {b : Bg} {F₀ H₀ F H F' H' : Hp} {env : List Sl} {σ : L2.St}
theorem Rel.forget (r : Rel K b F₀ H₀ env σ F H) (i : Nat) : Rel K b F₀ H₀ (env.set i .un) (σ.set i none) F H := by
  refine ⟨by rw [List.length_set, List.length_set]; exact r.len, r.st, fun j s e => ?_, own_set r.own fun a m => by cases m⟩
  rw [List.getElem?_set] at e ⊢
  by_cases h : i = j
  · rw [if_pos h] at e
    split at e
    · cases e; exact True.intro
    · cases e
  · rw [if_neg h] at e ⊢
    exact r.at' j s e
theorem Rel.forgets : ∀ (vs : List Nat) {env : List Sl} {σ : L2.St}, Rel K b F₀ H₀ env σ F H → Rel K b F₀ H₀ (unS env vs) (wipe σ vs) F H
  | [], _, _, r => r
  | v :: vs, _, _, r => (Rel.forgets vs r).forget v
end
/-- what the target does, and that it touches its own names alone -/
structure Tgt (K : PySem.W.Frag) (vs : List Nat) (g : PyData → List Sl → (List Sl → Prop) → Prop) (t : TG) : Prop where
  run : ∀ (b : Bg) (F₀ H₀ : Hp) (env : List Sl) (σ : L2.St) (F H : Hp) (v : V) (x : PyData) (k : List Sl → Prop) (Q : L2.St → Hp → Prop), Rel K b F₀ H₀ (unS env vs) (wipe σ vs) F H → Rp K F v x → g x (unS env vs) k →
    (∀ env' σ', Rel K b F₀ H₀ env' σ' F H → wipe σ' vs = wipe σ vs → k env' → Q σ' H) → t v (wipe σ vs) H Q
theorem tgt1 {K : PySem.W.Frag} (i : Nat) : Tgt K [i] (gnD i) (gName i) :=
  ⟨fun b F₀ H₀ env σ F H v x k Q r rx h q => q _ _ (r.put i (z := .d x) ⟨v, rfl, rx⟩ (fun a m => by cases m)) (by show ((σ.set i none).set i (some v)).set i none = σ.set i none; rw [List.set_set, List.set_set]) h⟩
theorem tgt2 {K : PySem.W.Frag} (i j : Nat) (hij : i ≠ j) : Tgt K [i, j] (gtD 2 (gconsD (gnD i) (gconsD (gnD j) gnilD))) (gTup K 2 (gCons (gName i) (gCons (gName j) gNil))) :=
  ⟨fun b F₀ H₀ env σ F H v x k Q r rx h q => by
    cases x with
    | tuple xs =>
      obtain ⟨hl, h⟩ := h
      match xs, hl, h with
      | [x, y], _, h =>
        cases rx with
        | tup e1 r1 =>
          cases r1 with
          | cons a1 t =>
            cases t with
            | cons a2 t =>
              cases t
              obtain ⟨_, h⟩ := h
              refine ⟨_, _, rfl, sqt_up r.st.sub e1, rfl, _, _, rfl, _, _, rfl, rfl, q _ _ ((r.put i (z := .d x) ⟨_, rfl, a1⟩ ?_).put j (z := .d y) ⟨_, rfl, a2⟩ ?_) ?_ h⟩
              · intro a m; cases m
              · intro a m; cases m
              · show ((((((σ.set j none).set i none).set i _).set j _).set j none).set i none) = (σ.set j none).set i none
                rw [List.set_set, List.set_set, List.set_comm _ _ hij, List.set_set, List.set_set]
    | _ => exact h.elim⟩
section
variable {X : Cx} {w : Wn}
theorem pts_nilD : PTs X [] (lfT X.K w fun _ P => P true) := ⟨fun pins s σ H Q I ⟨env, F, P, r, h, q⟩ => pts_nil.run pins s σ H Q I (q true F H r.wd.refl h)⟩
theorem pts_oneD {c : Expr} {tt : DTT} (h : DPT X w c tt) : PTs X [c] (lfT X.K w tt) := pts_one h
theorem lc_go {ti : DIt} {g : PyData → List Sl → (List Sl → Prop) → Prop} {t : TG} {tt : DTT} {te : DT} {vs : List Nat} (tg' : Tgt X.K vs g t) {σ : L2.St} {H : Hp} {Q : VK} (h : lf X.K w (tLcD ti g tt te vs) σ H Q) : tLc (lfI X.K w ti) t (lfT X.K w tt) (lf X.K w te) vs σ H Q := by
  obtain ⟨env, F, P, r, h, q⟩ := h
  exact ⟨env, F, _, r, h, fun xs J F1 H1 s1 wl h1 D hD => by
    obtain ⟨G, Y, wk, hG, hY⟩ := wl.ex
    obtain ⟨us, eb⟩ := s1.bag.lst
    have Db : D ≠ w.b.b := fun e => by rw [e, eb] at hD; cases hD
    have F1D : F1 D = none := by
      cases e : F1 D with
      | none => rfl
      | some o => rw [s1.sub _ _ e] at hD; cases hD
    have r1 := (r.step s1).forgets vs
    refine lc_it wk (fun i H2 => ∃ F2 acc us, Stp X.K w.b F1 H1 F2 H2 ∧ H2 D = some (.lst us) ∧ RpA X.K F2 us acc ∧ F2 D = none ∧ lcD g tt te (unS env vs) (xs.drop i) acc P) ⟨F1, [], [], s1.wd.laidM hD, upd_same, .nil, F1D, h1⟩ (fun i H2 _ ⟨F2, acc, us, st, _⟩ => hG F2 H2 st.ex st.wd) (fun i v H2 H3 hi ⟨F2, acc, us, st, eD, ra, fD, hl⟩ y => ?_) fun H2 ⟨F2, acc, us, st, eD, ra, fD, hl⟩ => ?_
    · obtain ⟨F3, x, s3, ex, rx⟩ := hY i F2 H2 v H3 st.ex st.wd y
      have e1 : xs.drop i = x :: xs.drop (i + 1) := by
        obtain ⟨hl, ex⟩ := List.getElem?_eq_some_iff.mp ex
        rw [List.drop_eq_getElem_cons hl, ex]
      rw [e1] at hl
      have st3 := st.trans s3
      have eD3 := s3.keep D (.lst us) Db (by intro _ z; cases z) eD
      have fD3 : F3 D = none := s3.new D fD (by rw [eD]; exact fun z => nomatch z)
      refine tg'.run w.b w.F w.H env σ F3 H3 v x _ _ (r1.step st3) rx hl fun env' σ' r' wi hl => ⟨wi, env', F3, _, r', hl, fun c F4 H4 s4 h4 => ?_⟩
      have eD4 := s4.keep D (.lst us) Db (by intro _ z; cases z) eD3
      have fD4 : F4 D = none := s4.new D fD3 (by rw [eD3]; exact fun z => nomatch z)
      cases c with
      | false => exact ⟨F4, acc, us, st3.trans s4, eD4, (ra.up s3.ex).up s4.ex, fD4, h4⟩
      | true =>
        refine ⟨env', F4, _, r'.step s4, h4, fun dv v5 F5 H5 s5 r5 h5 => ?_⟩
        obtain ⟨F6, s6, a6⟩ := frz_ok s5 r5
        split at h5
        · next y ey =>
          rw [ey] at a6
          have eD6 := s6.keep D (.lst us) Db (by intro _ z; cases z) eD4
          have fD6 : F6 D = none := s6.new D fD4 (by rw [eD4]; exact fun z => nomatch z)
          have ra6 := ((ra.up s3.ex).up s4.ex).up s6.ex
          have st6 := (st3.trans s4).trans s6
          refine ⟨us, eD6, by rw [ra6.len]; exact lim_lt h5.1, F6, acc ++ [y], us ++ [v5], ⟨fun a o ne nt ha => ?_, st6.bag.up (fun _ _ h => h) (upd_ne (Ne.symm Db)) (fun t _ h1 h2 => ⟨h1, by obtain ⟨ps, z, k⟩ := h2; exact ⟨ps, by rw [upd_ne (fun e => by rw [e, eD6] at z; cases z)]; exact z, k⟩⟩), st6.ex, fun a o ha => ?_, st6.fb, st6.new, fun a ps ne ha => by
            obtain ⟨qs, h1, k⟩ := st6.tab a ps ne ha
            exact ⟨qs, by rw [upd_ne (ne_of_none ha hD)]; exact h1, k⟩⟩, upd_same, ra6.app (.cons a6 .nil), fD6, h5.2⟩
          · rw [upd_ne (ne_of_none ha hD)]
            exact st6.keep a o ne nt ha
          · rw [upd_ne (ne_of_none ha fD6)]
            exact st6.sub a o ha
        · exact h5.elim
    · rw [List.drop_length] at hl
      exact q (.fr acc) _ F2 H2 (s1.trans st) ⟨D, us, rfl, s1.back Db hD, fD, Db, eD, ra⟩ hl⟩
theorem d_lc {elt tg iter : Expr} {ifs : List Expr} {scope : Scope} {own : List (Str × Nat)} {pos : Pos} {ti : DIt} {g : PyData → List Sl → (List Sl → Prop) → Prop} {t : TG} {tt : DTT} {te : DT} (hc : X.calm = true) (hN : X.N.Nodup) (hi : PI X tg iter (lfI X.K w ti)) (ok : BlkOk X.N X.env.scope scope own)
    (tg' : Tgt X.K (own.map (·.2)) g t)
    (hg : ∀ (s : Shared) (H : Hp) (C : Addr) (cl : List (Str × Addr)) (fp : List Addr), PG (X.blk s H scope (compEnvC scope cl C X.env) fp) tg t) (ht : ∀ (s : Shared) (H : Hp) (C : Addr) (cl : List (Str × Addr)) (fp : List Addr), PTs (X.blk s H scope (compEnvC scope cl C X.env) fp) ifs (lfT X.K w tt))
    (he : ∀ (s : Shared) (H : Hp) (C : Addr) (cl : List (Str × Addr)) (fp : List Addr), PE (X.blk s H scope (compEnvC scope cl C X.env) fp) elt (lf X.K w te)) (hs : ∀ x, foldedSetIterable iter X.env x = pure x := by intro _; rfl) :
    DPE X w (.ListComp elt [⟨tg, iter, ifs, 0⟩] scope pos) (tLcD ti g tt te (own.map (·.2))) :=
  pe_weak (pe_lc hc hN hi ok hg ht he hs) fun _ _ _ h => lc_go tg' h
/-- name = [..] -/
theorem ds_setLc {i : Nat} {e : Expr} {tg : Expr} {pos : Pos} {ti : DIt} {g : PyData → List Sl → (List Sl → Prop) → Prop} {t : TG} {tt : DTT} {te : DT} {vs : List Nat} (tg' : Tgt X.K vs g t)
    (base : PS X (.Assign [tg] e pos) (tAsg (tLc (lfI X.K w ti) t (lfT X.K w tt) (lf X.K w te) vs) (gName i))) : DPS X w (.Assign [tg] e pos) (tSetD i (tLcD ti g tt te vs)) :=
  ps_weak base fun D σ H ⟨env, F, d, r, h, fit⟩ => lc_go tg' ⟨env, F, _, r, h, fun dv v F1 H1 s1 r1 h1 => by
    obtain ⟨env', r2, k⟩ := st_ok r s1 r1 h1
    exact fit.nx env' _ F1 H1 r2 s1.ex k⟩
end
end Dl
namespace Dl
open PySem PySem.Spec PyProof.Rows L2
/-! ### a law's end: from the promise of its def -/
/-- cs: the codes of some defs, each with its table, still empty at the entry and no part of K -/
structure Tabs (K : PySem.W.Frag) (h : Heap) (cs : List (Addr × Addr)) : Prop where
  emp : ∀ p ∈ cs, h.get? p.2 = some (PySem.W.tabObj #[])
  head : ∀ p ∈ cs, PySem.W.CodeHd h p.1 p.2
  out : ∀ p ∈ cs, K.lookup p.2 = none
theorem tbl_ne_dict {es : Array DictEntry} {ep : Nat} {o : Obj} (h : o.data = .dict es ep) : o ≠ PySem.W.tabObj #[] := fun z => by rw [z] at h; cases h
theorem opening {P : Program} {w : World} {K : PySem.W.Frag} {mg mb : Str → Option Value} {a : Addr} {st : Shared} {vs : List Value} {ns : List Int} {cs : List (Addr × Addr)}
    (kin : K.In st.heap) (n1 : st.heap.Ns mainGlobals mg) (n2 : st.heap.Ns builtinsNs mb) (n3 : ∀ y : Str, y ≠ "__name__" → mb y = bootBuiltins y) (n4 : st.heap.NoLimit) (n5 : st.gens = #[])
    (hs : st.heap.get? a = some { cls := .type "list", data := .seq vs.toArray }) (iv : IntsAre vs ns) (sz : ns.length ≤ sizeLine)
    (T : Tabs K st.heap cs) (hbm : ∃ (bm : Addr) (ob : Obj), mg "__builtins__" = some (.ref bm) ∧ bm ≠ builtinsNs ∧ st.heap.get? bm = some ob ∧ ob.cls = .type "module" ∧ ob.dict = some builtinsNs ∧ ob.data = .plain) :
    ∃ (H : Hp) (base : Heap), SqL K H a (ns.map V.int) ∧ (∀ p ∈ cs, H p.2 = some (.tbl #[])) ∧ Env0 P w K mg base callerA [] st H ∧ K.In base ∧ base.Ns mainGlobals mg ∧ (∀ p ∈ cs, GxR.TabB base mg p.1 p.2) ∧
      ∀ (H' : Hp) (g : Heap), Un (frs []) [] H H' st.heap g → HOk P w H' g → OldK st.heap g := by
  have rel := vals_ints iv
  have cnt := iv.length
  -- tables aside, the script alone is tracked, if it is no object of the module
  have main : ∀ H : Hp, (∀ p ∈ cs, H p.2 = some (.tbl #[])) → SqL K H a (ns.map V.int) → HOk P w H st.heap → (∀ c u, H c = some u → (c = a ∧ K.lookup a = none ∧ ∃ ob xs, u = .frz ob (.lst xs)) ∨ (u = .tbl #[] ∧ ∃ p ∈ cs, p.2 = c)) →
      ∃ (H : Hp) (base : Heap), SqL K H a (ns.map V.int) ∧ (∀ p ∈ cs, H p.2 = some (.tbl #[])) ∧ Env0 P w K mg base callerA [] st H ∧ K.In base ∧ base.Ns mainGlobals mg ∧ (∀ p ∈ cs, GxR.TabB base mg p.1 p.2) ∧
      ∀ (H' : Hp) (g : Heap), Un (frs []) [] H H' st.heap g → HOk P w H' g → OldK st.heap g := by
    intro H tabs seq ok kind
    -- what is neither a list nor a table stays in the base
    have stay : ∀ {c : Addr} {o : Obj}, st.heap.get? c = some o → o.data ≠ .seq vs.toArray → o ≠ PySem.W.tabObj #[] → (hidT st.heap H).get? c = some o := fun {c o} e d1 d2 => hidT_get e (by
      cases q : H c with
      | none => rfl
      | some u =>
        rcases kind c u q with ⟨rfl, _⟩ | ⟨_, p, hp, rfl⟩
        · rw [hs] at e
          cases e
          exact (d1 rfl).elim
        · rw [T.emp p hp] at e
          cases e
          exact (d2 rfl).elim)
    have out : ∀ {c : Addr} {m : Str → Option Value}, st.heap.Ns c m → (hidT st.heap H).Ns c m := by
      rintro c m ⟨o, es, ep, e, d, rest⟩
      exact ⟨o, es, ep, stay e (fun z => by rw [d] at z; cases z) (tbl_ne_dict d), d, rest⟩
    have kb : K.In (hidT st.heap H) := by
      intro c o e
      refine hidT_get (kin c o e) ?_
      cases q : H c with
      | none => rfl
      | some u =>
        rcases kind c u q with ⟨rfl, no, _⟩ | ⟨_, p, hp, rfl⟩
        · rw [no] at e
          cases e
        · rw [T.out p hp] at e
          cases e
    obtain ⟨mc, c1, c2⟩ := n4
    have md : Mod K mg (hidT st.heap H) := ⟨kb, out n1, ⟨mb, out n2, n3⟩, ⟨mc, out c1, c2⟩⟩
    have isMain : ∀ {b : Addr} {o : Obj}, st.heap.get? b = some o → (∀ es ep, o.data ≠ .dict es ep) → b ≠ mainGlobals := fun {b o} e d z => by
      obtain ⟨o2, es, ep, e2, d2, _⟩ := n1
      rw [z, e2] at e
      cases e
      exact d es ep d2
    have tb : ∀ p ∈ cs, GxR.TabB (hidT st.heap H) mg p.1 p.2 := by
      intro p hp
      obtain ⟨o, us, file, tf, flags, tg, inF, text, tt, e1, e2, e3, rest⟩ := T.head p hp
      obtain ⟨bm, ob, b1, b2, b3, b4, b5, b6⟩ := hbm
      refine ⟨⟨o, us, file, tf, flags, tg, inF, text, tt, stay e1 (fun z => by rw [e3] at z; cases z) (fun z => by rw [z] at e2; cases e2), e2, e3, rest⟩, ⟨bm, ob, b1, b2, isMain b3 (fun es ep z => by rw [b6] at z; cases z), fun z => ?_, stay b3 (fun z => by rw [b6] at z; cases z) (fun z => by rw [z] at b4; cases b4), b4, b5, b6⟩, Ne.symm (isMain (T.emp p hp) fun es ep z => by cases z)⟩
      rw [z, T.emp p hp] at b3
      cases b3
      cases b4
    refine ⟨H, hidT st.heap H, seq, tabs, ⟨rfl, md, fun c o e => of_hidT e, Nat.le_of_eq (hidT_size _ _), True.intro, (fun c hc => by cases hc), ok, .of_eq n5⟩, kb, out n1, tb, fun H' g un ok' => ?_⟩
    have where' : ∀ c o, st.heap.get? c = some o → g.get? c = some o ∨ ∃ p ∈ cs, p.2 = c ∧ ∃ more : Array Value, g.get? c = some (PySem.W.tabObj more) := fun c o e => by
      cases q : H c with
      | none => exact .inl (un.keep c o e q (by intro z; cases z) (by intro z; cases z))
      | some u =>
        rcases kind c u q with ⟨rfl, _, ob, xs, rfl⟩ | ⟨rfl, p, hp, rfl⟩
        · obtain ⟨e1, _⟩ := ok _ _ q
          obtain ⟨e2, _⟩ := ok' _ _ (un.frzs _ ob _ q)
          rw [e] at e1
          cases e1
          exact .inl e2
        · obtain ⟨more, z⟩ := un.tbls p.2 #[] q
          exact .inr ⟨p, hp, rfl, _, ok' _ _ z⟩
    constructor
    · intro c o e
      rcases where' c o e with z | ⟨p, hp, rfl, more, z⟩
      · exact .inl z
      · rw [T.emp p hp] at e
        cases e
        exact .inr (.inl ⟨((T.head p hp).tab (T.emp p hp)).isCodeTable, rfl, #[], more, rfl, by rw [Array.empty_append]; exact z⟩)
    · intro c o e
      rcases where' c o e with z | ⟨_, _, _, _, z⟩
      · exact ⟨_, z⟩
      · exact ⟨_, z⟩
  have noA : ∀ p ∈ cs, p.2 ≠ a := fun p hp e => by
    have z := T.emp p hp
    rw [e, hs] at z
    have z2 : Data.seq vs.toArray _ = Data.fields #[] := congrArg Obj.data (Option.some.inj z)
    cases z2
  let H0 : Hp := fun c => if c ∈ cs.map Prod.snd then some (.tbl #[]) else none
  have h0 : ∀ p ∈ cs, H0 p.2 = some (.tbl #[]) := fun p hp => if_pos (List.mem_map_of_mem hp)
  have h1 : ∀ c u, H0 c = some u → u = .tbl #[] ∧ ∃ p ∈ cs, p.2 = c := fun c u z => by
    by_cases m : c ∈ cs.map Prod.snd
    · have e : H0 c = some (.tbl #[]) := if_pos m
      rw [e] at z
      exact ⟨(Option.some.inj z).symm, List.mem_map.mp m⟩
    · have e : H0 c = none := if_neg m
      rw [e] at z
      cases z
  have ok0 : ∀ c u, H0 c = some u → ObjOk P w H0 st.heap c u := fun c u z => by
    obtain ⟨rfl, p, hp, rfl⟩ := h1 c u z
    exact T.emp p hp
  cases look : K.lookup a with
  | some o =>
    have e := kin a o look
    rw [hs] at e
    cases e
    refine main H0 h0 (.inr ⟨_, vs.toArray, _, look, rfl, rfl, rfl, ?_, ?_⟩) ok0 fun c u z => .inr (h1 c u z)
    · rw [List.size_toArray, cnt]; exact sz
    · simpa using rel
  | none =>
    have at_a : upd H0 a (.frz { cls := .type "list", data := .seq vs.toArray } (.lst (ns.map V.int))) a = some (.frz { cls := .type "list", data := .seq vs.toArray } (.lst (ns.map V.int))) := upd_same
    refine main (upd H0 a (.frz { cls := .type "list", data := .seq vs.toArray } (.lst (ns.map V.int)))) (fun p hp => by rw [upd_ne (noA p hp)]; exact h0 p hp) (.inl (.inr ⟨_, at_a⟩)) (fun c u z => ?_) fun c u z => ?_
    · by_cases hc : c = a
      · rw [hc, upd_same] at z
        rw [hc]
        cases z
        exact ⟨hs, by rw [List.length_map]; exact sz, vs, _, rel, hs⟩
      · rw [upd_ne hc] at z
        obtain ⟨rfl, p, hp, rfl⟩ := h1 c u z
        exact T.emp p hp
    · by_cases hc : c = a
      · rw [hc, upd_same] at z
        cases z
        exact .inl ⟨hc, look, _, _, rfl⟩
      · rw [upd_ne hc] at z
        exact .inr (h1 c u z)
end Dl
namespace Dl
open PySem PySem.Spec PyProof.Rows L2
/-! ### and, or, not as values; is None; chains; slices; constants that are tuples -/
section
variable {X : Cx} {w : Wn} {a b c e : Expr} {ta tb tc te : DT} {pos : Pos} {rest : List Expr}
theorem passZ {P : Program} {wd : World} : Passes (L2.CX P wd) X E0 := fun _ _ _ _ _ _ _ h => by
  obtain ⟨_, _, _, _, _, _, _, _, _, _, _, _, z⟩ := h
  exact z.elim
def tAnV (ta tb : DT) : DT := fun env P => ta env fun u => rd u fun x => truOk x ∧ if truD x = true then tb env P else P u
def tOrV' (ta tb : DT) : DT := fun env P => ta env fun u => rd u fun x => truOk x ∧ if truD x = true then P u else tb env P
theorem d_and (ha : DPE X w a ta) (hb : DPE X w (.BoolOp .And (b :: rest) pos) tb) : DPE X w (.BoolOp .And (a :: b :: rest) pos) (tAnV ta tb) :=
  pe_weak (pe_andT ha hb) fun σ H Q ⟨env, F, P, r, h, q⟩ => ⟨env, F, _, r, h, fun dv v F1 H1 s1 r1 h1 => by
    obtain ⟨x, x1, ok, h1⟩ := rd_ok r1 h1
    refine ⟨truD x, tru_of s1.sub x1 ok, ?_⟩
    cases hx : truD x with
    | true =>
      rw [hx] at h1
      exact lf_early s1 r h1 q
    | false =>
      rw [hx] at h1
      exact q dv v F1 H1 s1 r1 h1⟩
theorem d_or (ha : DPE X w a ta) (hb : DPE X w (.BoolOp .Or (b :: rest) pos) tb) : DPE X w (.BoolOp .Or (a :: b :: rest) pos) (tOrV' ta tb) :=
  pe_weak (pe_orT ha hb) fun σ H Q ⟨env, F, P, r, h, q⟩ => ⟨env, F, _, r, h, fun dv v F1 H1 s1 r1 h1 => by
    obtain ⟨x, x1, ok, h1⟩ := rd_ok r1 h1
    refine ⟨truD x, tru_of s1.sub x1 ok, ?_⟩
    cases hx : truD x with
    | true =>
      rw [hx] at h1
      exact q dv v F1 H1 s1 r1 h1
    | false =>
      rw [hx] at h1
      exact lf_early s1 r h1 q⟩
def tNoV (ta : DT) : DT := fun env P => ta env fun u => rd u fun x => truOk x ∧ P (.d (.bool (!truD x)))
/-! is None -/
def nonB : DV → (Bool → Prop) → Prop
  | .d .none, k => k true
  | .d _, k => k false
  | .fr _, k => k false
  | .ow _ _, k => k false
  | .raw _, _ => False
  | .ft _, _ => False
  | .tr _ _ _, _ => False
  | .bag, k => k false
def tIsNV (f : Bool → Bool) (ta : DT) : DT := fun env P => ta env fun u => nonB u fun c => P (.d (.bool (f c)))
/-! chains -/
def tChD (g g' : G2) (ta tb tc : DT) : DT := fun env P => ta env fun u => rd u fun x => tb env fun z => rd z fun y => g x y fun c => isB c fun k => if k = true then tc env fun t => rd t fun y2 => g' y y2 P else P (.d (.bool false))
/-! slices -/
abbrev DO := List Sl → (Option Int → Prop) → Prop
def lfO (K : PySem.W.Frag) (w : Wn) (t : DO) : TO := fun σ H Q => ∃ env F P, RelW K w env σ F H ∧ t env P ∧ ∀ o F' H', Stp K w.b F H F' H' → P o → Q o H'
def oNone : DO := fun _ P => P none
def oSome (te : DT) : DO := fun env P => te env fun u => match u with
  | .d (.int i) => P (some i)
  | _ => False
theorem do_none : PO X none (lfO X.K w oNone) := ⟨fun pins s σ H Q I ⟨env, F, P, r, h, q⟩ => po_none.run pins s σ H Q I (q none F H r.wd.refl h)⟩
theorem do_some (he : DPE X w e te) : PO X (some e) (lfO X.K w (oSome te)) := ⟨fun pins s σ H Q I ⟨env, F, P, r, h, q⟩ => (po_some he).run pins s σ H Q I ⟨env, F, _, r, h, fun dv v F1 H1 s1 r1 h1 => by
  split at h1
  · next i => exact ⟨i, r1.intOf, q (some i) F1 H1 s1 h1⟩
  · exact h1.elim⟩⟩
def cutD (xs : List PyData) (lo hi : Option Int) : List PyData := (xs.drop (HT.sIx xs.length 0 lo)).take (HT.sIx xs.length xs.length hi - HT.sIx xs.length 0 lo)
theorem cut_rp {K : PySem.W.Frag} {F : Hp} {vs : List V} {xs : List PyData} (r : RpA K F vs xs) (lo hi : Option Int) : RpA K F (cutV vs lo hi) (cutD xs lo hi) := by
  unfold cutV cutD
  rw [r.len]
  exact (r.drop _).take _
def tSlL (te : DT) (lo hi : DO) : DT := fun env P => te env fun u => rd u fun x => lo env fun l => hi env fun h => match x with
  | .list xs => P (.fr (cutD xs l h))
  | _ => False
theorem d_slL {lo hi : Option Expr} {tl th : DO} {p2 : Pos} (he : DPE X w e te) (hl : PO X lo (lfO X.K w tl)) (hh : PO X hi (lfO X.K w th)) : DPE X w (.Subscript e (.Slice lo hi none p2) pos) (tSlL te tl th) :=
  pe_weak (pe_slice sl_list he hl hh) fun σ H Q ⟨env, F, P, r, h, q⟩ => ⟨env, F, _, r, h, fun dv v F1 H1 s1 r1 h1 => by
    obtain ⟨x, x1, h1⟩ := rd_ok r1 h1
    refine ⟨env, F1, _, r.step s1, h1, fun l F2 H2 s2 h2 => ⟨env, F2, _, (r.step s1).step s2, h2, fun u F3 H3 s3 h3 => ?_⟩⟩
    have s13 := (s1.trans s2).trans s3
    split at h3
    · next xs =>
      obtain ⟨m, vs, rfl, e, ra⟩ := ((x1.step s2).step s3).lst s3.sub
      exact ⟨m, vs, rfl, SqL.of e, res_new s3.wd (cut_rp ra l u) (fun dv v F4 H4 s4 r4 h4 => q dv v F4 H4 (s13.trans s4) (r4.early s13) h4) h3⟩
    · exact h3.elim⟩
end
/-! ### enumerate of a tuple -/
end Dl
namespace Dl
open PySem PySem.Spec PyProof.Rows L2
def itEnumT (ta : DA) : DIt := fun env P => ta env fun us => allD us fun xs => match xs with
  | [.tuple ys] => P (enumD ys)
  | _ => False
/-! ### a def that takes any number of arguments -/
end Dl
namespace Dl
open PySem PySem.Spec PyProof.Rows L2
/-! ### xs[i] as the first half of xs[i] += e -/
def rGetL : V → V → Hp → VK → Prop := fun o i H Q => ∃ l xs k v, o = .ref l ∧ i = .int (k : Nat) ∧ H l = some (.lst xs) ∧ xs[k]? = some v ∧ Q v H
theorem get_lst {X : Cx} : PGet X rGetL := by
  intro pins s σ H o i ov iv Q I ro ri want
  obtain ⟨l, xs, k, v, rfl, rfl, e, ev, q⟩ := want
  cases ro
  obtain ⟨t, rfl⟩ := ri
  obtain ⟨its, r, pl, hz⟩ := I.list (SqL.of e)
  obtain ⟨u, hu, ru⟩ := r.get ev
  obtain ⟨hl, _⟩ := List.getElem?_eq_some_iff.mp ev
  have hb := line63
  exact wpAny_getItem_list pl.isList (by omega) (by omega) (by simpa using hu) ⟨v, H, I, ru, q⟩
/-! ### defs by a reading over the heap -/
theorem r_def {P : Program} {w : World} {K : PySem.W.Frag} {mg : Str → Option Value} {base : Heap} {CX : CXT} {k : Nat} {f : Addr} {fd : FuncData} {x qual : Str} {st : Stmt} {N ps : List Str} (Fn : L2.Fun K x qual st f fd) (S : FnScope N ps (defScope st))
    (hb : ∀ (kV doc pm : Value) (an : Option Addr) (cdv ct : Value) (us : List Value), us.length = ps.length → bindArgs (PySem.W.fnOf x qual (defArgs st) (defBody st) (defScope st) .none kV doc pm an cdv ct) { pos := us, kw := [] } = pure (ps.zip us))
    (sp : Sp)
    (hd : ∀ (cdv : Value) (A : Around) (outer : List Env) (s : Shared) (H : Hp) (vs : List V) (Q : VK) (E : XK), (A.deeper (envOfC qual (defScope st) s.heap.objs.size f cdv)).guards = some [] → Room k (A.deeper (envOfC qual (defScope st) s.heap.objs.size f cdv)) → sp vs H Q E →
      vs.length = ps.length ∧ ∃ t, PSs (cxOf CX P w K mg base N qual (defScope st) f cdv A outer s H E).nox (defBody st) t ∧ t { nx := fun _ H' => Q .non H', rt := Q } (L2.start N vs) H) : Fg P w K mg base CX (k + 1) f sp := by
  intro A outer s H us vs Q E ag room e0 rv want
  obtain ⟨oc, od, kV, doc, pm, an, cdv, ct, osl, rfl, lk, hcd⟩ := Fn.ex
  have hvl : vs.length = ps.length := (hd cdv A outer s H vs Q E (guards_in ag _) (room.deeper _) want).1
  have hul : us.length = ps.length := rv.length.symm.trans hvl
  refine StX.run_bnd (N := N) (ps := ps) lk hcd S room e0 (G := fun xs H2 => xs = vs ∧ H2 = H) (fun A' Ex Q' h => ?_) fun s2 H2 xs g room2 => ?_
  · rw [hb kV doc pm an cdv ct us hul]
    exact wpAny_pure (h s H vs us e0 Un.refl rfl (fun _ _ z => z) rv hvl ⟨rfl, rfl⟩)
  · obtain ⟨rfl, rfl⟩ := g
    obtain ⟨_, t, ht, q⟩ := hd cdv A outer s2 _ _ Q E (guards_in ag _) room2 want
    exact ⟨t, PSs.nox ht, q⟩
/-! ### a draw -/
def spTake : DSp := fun us P => ∃ m : Int, us = [.bag, .d (.int m)] ∧ 0 < m ∧ m.natAbs.log2 < 9000 ∧ ∀ r : Int, 0 ≤ r → r < m → P (.d (.int r))
abbrev bIx (K : PySem.W.Frag) (k : Int) : TE := tOp (rIxL K) (tVar 0) (tC (.int k))
abbrev bLen (K : PySem.W.Frag) : List V → Hp → VK → Prop := fun xs H Q => ∃ p ys, xs = [.ref p] ∧ (SqL K H p ys ∨ SqT K H p ys) ∧ Q (.int ys.length) H
abbrev bMul : R2 := rI CMul fun i j => .int (i * j)
abbrev bMod : R2 := rI (fun _ j => 0 < j) fun i j => .int (i % j)
abbrev bAdd : R2 := rI0 fun i j => .int (i + j)
/-- the reading of _law_take's body; its slots: the bag, many, cell, value, first, second -/
def tkT (K : PySem.W.Frag) : TS :=
  tSeq (tIfS (tTest (tOp rEq (bIx K 0) (tC (.int 0))))
      (tSeq (tAsg (tC (.int 0)) (gName 2))
      (tSeq (tIfS (tTest (tOp (rI0 fun i j => .bl (decide (i < j))) (bIx K 2) (tCB (bLen K) (tCons (bIx K 3) tNil)))) (tAsg (tOp (rIxL K) (bIx K 3) (bIx K 2)) (gName 2)) tNext)
      (tSeq (tAugS (tVar 0) (tC (.int 2)) (tC (.int 1)) rGetL (ipI fun i j => i + j) rSetL)
      (tSeq (tIfS (tTest (tOp (rI0 fun i j => .bl (decide (j ≤ i))) (tVar 2) (tC (.int 1000000000000000000)))) (tAsg (tVar 2) (gSub (tVar 0) (tC (.int 0)) rSetL)) tNext)
        (tAsg (tOp bMod (tOp bAdd (tOp bAdd (tOp bMul (bIx K 1) (tC (.int 48271))) (tOp bMod (tVar 2) (tC (.int 2147483647)))) (tOp bMul (tC (.int 7919)) (bIx K 2))) (tC (.int 2147483647))) (gSub (tVar 0) (tC (.int 1)) rSetL))))))
      tNext)
  (tSeq (tIfS (tTest (tOp (rI0 fun i j => .bl (decide (j < i))) (bIx K 0) (tC (.int 0))))
      (tSeq (tAsg (tOp bMod (bIx K 0) (tVar 1)) (gName 3))
      (tSeq (tAsg (tOp (rI (fun _ j => j ≠ 0 ∧ j.natAbs.log2 < 9000) fun i j => .int (i.fdiv j)) (bIx K 0) (tVar 1)) (gSub (tVar 0) (tC (.int 0)) rSetL))
        (tRet (tVar 3))))
      tNext)
  (tSeq (tAsg (tOp bMod (tOp bMul (tOp bAdd (bIx K 1) (tC (.int 1))) (tC (.int 39373))) (tC (.int 1000000007))) (gName 4))
  (tSeq (tAsg (tOp bMod (tOp bMul (tOp bMod (tOp bMul (tVar 4) (tVar 4)) (tC (.int 998244353))) (tC (.int 30011))) (tC (.int 998244353))) (gName 5))
  (tSeq (tIfS (tTest (tOp (rI0 fun i j => .bl (decide (j < i))) (tVar 1) (tC (.int 1000000)))) (tRet (tOp bMod (tOp bAdd (tOp bMul (tVar 5) (tC (.int 1000000007))) (tVar 4)) (tVar 1))) tNext)
    (tRet (tOp bMod (tOp (rI CDiv fun i j => .int (i / j)) (tVar 5) (tC (.int 7))) (tVar 1)))))))
section
variable {K : PySem.W.Frag} {b : Bg} {F H : Hp}
/-- the bag holds x y z now -/
structure Bn (b : Bg) (F H H' : Hp) (x y z : Int) : Prop where
  at' : H' b.b = some (.lst [.int x, .int y, .int z, .ref b.c])
  else' : ∀ a, a ≠ b.b → H' a = H a
  x0 : 0 ≤ x
  y0 : 0 ≤ y
  z0 : 0 ≤ z
theorem Bn.put {H' : Hp} {x y z x2 y2 z2 : Int} (n : Bn b F H H' x y z) (h1 : 0 ≤ x2) (h2 : 0 ≤ y2) (h3 : 0 ≤ z2) : Bn b F H (upd H' b.b (.lst [.int x2, .int y2, .int z2, .ref b.c])) x2 y2 z2 :=
  ⟨upd_same, fun a ne => by rw [upd_ne ne]; exact n.else' a ne, h1, h2, h3⟩
theorem Bn.stp {H' : Hp} {x y z : Int} (w : Wd K b F H) (n : Bn b F H H' x y z) : Stp K b F H F H' :=
  ⟨fun a o ne _ h => by rw [n.else' a ne]; exact h, ⟨⟨x, y, z, n.at', n.x0, n.y0, n.z0⟩, w.bag.2.1, w.bag.2.2.1, fun t m => ⟨(w.bag.2.2.2 t m).1, by obtain ⟨ps, q, k⟩ := (w.bag.2.2.2 t m).2; exact ⟨ps, by rw [n.else' t (fun e => by obtain ⟨_, eb⟩ := w.bag.lst; rw [e, eb] at q; cases q)]; exact q, k⟩⟩⟩, fun _ _ h => h, fun a o h => by
    have ne : a ≠ b.b := fun q => by rw [q, w.fb] at h; cases h
    rw [n.else' a ne]; exact w.sub _ _ h, w.fb, fun _ h _ => h, fun a ps ne h => ⟨ps, by rw [n.else' a ne]; exact h, fun q => q⟩⟩
theorem bix0 {σ : L2.St} {H' : Hp} {x y z : Int} {Q : VK} (n : Bn b F H H' x y z) (h0 : σ[0]? = some (some (.ref b.b))) (q : Q (.int x) H') : bIx K 0 σ H' Q :=
  ⟨_, h0, _, _, _, _, rfl, rfl, SqL.of n.at', rfl, q⟩
theorem bix1 {σ : L2.St} {H' : Hp} {x y z : Int} {Q : VK} (n : Bn b F H H' x y z) (h0 : σ[0]? = some (some (.ref b.b))) (q : Q (.int y) H') : bIx K 1 σ H' Q :=
  ⟨_, h0, _, _, _, _, rfl, rfl, SqL.of n.at', rfl, q⟩
theorem bix2 {σ : L2.St} {H' : Hp} {x y z : Int} {Q : VK} (n : Bn b F H H' x y z) (h0 : σ[0]? = some (some (.ref b.b))) (q : Q (.int z) H') : bIx K 2 σ H' Q :=
  ⟨_, h0, _, _, _, _, rfl, rfl, SqL.of n.at', rfl, q⟩
theorem bix3 {σ : L2.St} {H' : Hp} {x y z : Int} {Q : VK} (n : Bn b F H H' x y z) (h0 : σ[0]? = some (some (.ref b.b))) (q : Q (.ref b.c) H') : bIx K 3 σ H' Q :=
  ⟨_, h0, _, _, _, _, rfl, rfl, SqL.of n.at', rfl, q⟩
theorem tk_tail {H' : Hp} {m y : Int} {x z : Int} {D : Ends} {s2 s3 s4 s5 : Option V} (w : Wd K b F H) (n : Bn b F H H' x y z) (hm : 0 < m) (hq : ∀ r : Int, 0 ≤ r → r < m → ∀ H2, Stp K b F H F H2 → D.rt (.int r) H2) :
    (tSeq (tAsg (tOp bMod (tOp bMul (tOp bAdd (bIx K 1) (tC (.int 1))) (tC (.int 39373))) (tC (.int 1000000007))) (gName 4))
  (tSeq (tAsg (tOp bMod (tOp bMul (tOp bMod (tOp bMul (tVar 4) (tVar 4)) (tC (.int 998244353))) (tC (.int 30011))) (tC (.int 998244353))) (gName 5))
  (tSeq (tIfS (tTest (tOp (rI0 fun i j => .bl (decide (j < i))) (tVar 1) (tC (.int 1000000)))) (tRet (tOp bMod (tOp bAdd (tOp bMul (tVar 5) (tC (.int 1000000007))) (tVar 4)) (tVar 1))) tNext)
    (tRet (tOp bMod (tOp (rI CDiv fun i j => .int (i / j)) (tVar 5) (tC (.int 7))) (tVar 1)))))) D [some (.ref b.b), some (.int m), s2, s3, s4, s5] H' := by
  refine bix1 n rfl ⟨_, _, rfl, rfl, _, _, rfl, rfl, .inr ⟨by decide, by decide⟩, _, _, rfl, rfl, (by show (0 : Int) < _; decide), ?_⟩
  have a0 : 0 ≤ (y + 1) * 39373 % 1000000007 := Int.emod_nonneg _ (by decide)
  have a1 : (y + 1) * 39373 % 1000000007 < 1000000007 := Int.emod_lt_of_pos _ (by decide)
  generalize (y + 1) * 39373 % 1000000007 = first at a0 a1
  refine ⟨_, rfl, _, rfl, _, _, rfl, rfl, .inl ⟨by omega, by omega⟩, _, _, rfl, rfl, (by show (0 : Int) < _; decide), ?_⟩
  have c0 : 0 ≤ first * first % 998244353 := Int.emod_nonneg _ (by decide)
  have c1 : first * first % 998244353 < 998244353 := Int.emod_lt_of_pos _ (by decide)
  generalize first * first % 998244353 = sq at c0 c1
  refine ⟨_, _, rfl, rfl, .inl ⟨by omega, by omega⟩, _, _, rfl, rfl, (by show (0 : Int) < _; decide), ?_⟩
  have d0 : 0 ≤ sq * 30011 % 998244353 := Int.emod_nonneg _ (by decide)
  have d1 : sq * 30011 % 998244353 < 998244353 := Int.emod_lt_of_pos _ (by decide)
  generalize sq * 30011 % 998244353 = second at d0 d1
  refine ⟨_, rfl, _, _, rfl, rfl, _, rfl, ite2 (fun _ => ?_) fun _ => ?_⟩
  · refine ⟨_, rfl, _, _, rfl, rfl, .inl ⟨by omega, by omega⟩, _, rfl, _, _, rfl, rfl, _, rfl, _, _, rfl, rfl, hm, ?_⟩
    exact hq _ (Int.emod_nonneg _ (by omega)) (Int.emod_lt_of_pos _ hm) H' (n.stp w)
  · refine ⟨_, rfl, _, _, rfl, rfl, ⟨by decide, by decide⟩, _, rfl, _, _, rfl, rfl, hm, ?_⟩
    exact hq _ (Int.emod_nonneg _ (by omega)) (Int.emod_lt_of_pos _ hm) H' (n.stp w)
theorem tk_mid {H' : Hp} {m y : Int} {x z : Int} {D : Ends} {s2 s3 s4 s5 : Option V} (w : Wd K b F H) (n : Bn b F H H' x y z) (hm : 0 < m) (hs : m.natAbs.log2 < 9000) (hq : ∀ r : Int, 0 ≤ r → r < m → ∀ H2, Stp K b F H F H2 → D.rt (.int r) H2) :
  (tSeq (tIfS (tTest (tOp (rI0 fun i j => .bl (decide (j < i))) (bIx K 0) (tC (.int 0))))
      (tSeq (tAsg (tOp bMod (bIx K 0) (tVar 1)) (gName 3))
      (tSeq (tAsg (tOp (rI (fun _ j => j ≠ 0 ∧ j.natAbs.log2 < 9000) fun i j => .int (i.fdiv j)) (bIx K 0) (tVar 1)) (gSub (tVar 0) (tC (.int 0)) rSetL))
        (tRet (tVar 3))))
      tNext)
  (tSeq (tAsg (tOp bMod (tOp bMul (tOp bAdd (bIx K 1) (tC (.int 1))) (tC (.int 39373))) (tC (.int 1000000007))) (gName 4))
  (tSeq (tAsg (tOp bMod (tOp bMul (tOp bMod (tOp bMul (tVar 4) (tVar 4)) (tC (.int 998244353))) (tC (.int 30011))) (tC (.int 998244353))) (gName 5))
  (tSeq (tIfS (tTest (tOp (rI0 fun i j => .bl (decide (j < i))) (tVar 1) (tC (.int 1000000)))) (tRet (tOp bMod (tOp bAdd (tOp bMul (tVar 5) (tC (.int 1000000007))) (tVar 4)) (tVar 1))) tNext)
    (tRet (tOp bMod (tOp (rI CDiv fun i j => .int (i / j)) (tVar 5) (tC (.int 7))) (tVar 1))))))) D [some (.ref b.b), some (.int m), s2, s3, s4, s5] H' := by
  refine bix0 n rfl ⟨_, _, rfl, rfl, _, rfl, ite2 (fun hx => ?_) fun _ => tk_tail w n hm hq⟩
  refine bix0 n rfl ⟨_, rfl, _, _, rfl, rfl, hm, ?_⟩
  refine bix0 n rfl ⟨_, rfl, _, _, rfl, rfl, ⟨by omega, hs⟩, ?_⟩
  have e : x.fdiv m = x / m := Int.fdiv_eq_ediv_of_nonneg x (by omega)
  refine ⟨_, rfl, b.b, _, 0, 0, rfl, rfl, n.at', rfl, ?_⟩
  refine ⟨_, rfl, hq _ (Int.emod_nonneg _ (by omega)) (Int.emod_lt_of_pos _ hm) _ (Bn.stp w (n.put ?_ n.y0 n.z0))⟩
  rw [e]
  exact Int.ediv_nonneg n.x0 (by omega)
theorem tk_go {m : Int} {D : Ends} {s2 s3 s4 s5 : Option V} (w : Wd K b F H) (hm : 0 < m) (hs : m.natAbs.log2 < 9000) (hq : ∀ r : Int, 0 ≤ r → r < m → ∀ H2, Stp K b F H F H2 → D.rt (.int r) H2) :
    tkT K D [some (.ref b.b), some (.int m), s2, s3, s4, s5] H := by
  obtain ⟨⟨x, y, z, eb, x0, y0, z0⟩, ec, ens, _⟩ := id w.bag
  have n : Bn b F H H x y z := ⟨eb, fun _ _ => rfl, x0, y0, z0⟩
  refine bix0 n rfl ⟨rfl, _, rfl, ite2 (fun hx => ?_) fun _ => tk_mid w n hm hs hq⟩
  -- the cell
  have fin : ∀ cell : Int, 0 ≤ cell → (tSeq (tAugS (tVar 0) (tC (.int 2)) (tC (.int 1)) rGetL (ipI fun i j => i + j) rSetL)
      (tSeq (tIfS (tTest (tOp (rI0 fun i j => .bl (decide (j ≤ i))) (tVar 2) (tC (.int 1000000000000000000)))) (tAsg (tVar 2) (gSub (tVar 0) (tC (.int 0)) rSetL)) tNext)
        (tAsg (tOp bMod (tOp bAdd (tOp bAdd (tOp bMul (bIx K 1) (tC (.int 48271))) (tOp bMod (tVar 2) (tC (.int 2147483647)))) (tOp bMul (tC (.int 7919)) (bIx K 2))) (tC (.int 2147483647))) (gSub (tVar 0) (tC (.int 1)) rSetL))))
      { D with nx := fun σ H => (tSeq (tIfS (tTest (tOp (rI0 fun i j => .bl (decide (j < i))) (bIx K 0) (tC (.int 0))))
      (tSeq (tAsg (tOp bMod (bIx K 0) (tVar 1)) (gName 3))
      (tSeq (tAsg (tOp (rI (fun _ j => j ≠ 0 ∧ j.natAbs.log2 < 9000) fun i j => .int (i.fdiv j)) (bIx K 0) (tVar 1)) (gSub (tVar 0) (tC (.int 0)) rSetL))
        (tRet (tVar 3))))
      tNext)
  (tSeq (tAsg (tOp bMod (tOp bMul (tOp bAdd (bIx K 1) (tC (.int 1))) (tC (.int 39373))) (tC (.int 1000000007))) (gName 4))
  (tSeq (tAsg (tOp bMod (tOp bMul (tOp bMod (tOp bMul (tVar 4) (tVar 4)) (tC (.int 998244353))) (tC (.int 30011))) (tC (.int 998244353))) (gName 5))
  (tSeq (tIfS (tTest (tOp (rI0 fun i j => .bl (decide (j < i))) (tVar 1) (tC (.int 1000000)))) (tRet (tOp bMod (tOp bAdd (tOp bMul (tVar 5) (tC (.int 1000000007))) (tVar 4)) (tVar 1))) tNext)
    (tRet (tOp bMod (tOp (rI CDiv fun i j => .int (i / j)) (tVar 5) (tC (.int 7))) (tVar 1))))))) D σ H } [some (.ref b.b), some (.int m), some (.int cell), s3, s4, s5] H := by
    intro cell c0
    refine ⟨_, rfl, b.b, _, 2, _, rfl, rfl, eb, rfl, _, _, rfl, rfl, b.b, _, 2, 2, rfl, rfl, eb, rfl, ?_⟩
    have n2 : Bn b F H (upd H b.b (.lst [.int x, .int y, .int (z + 1), .ref b.c])) x y (z + 1) := n.put x0 y0 (by omega)
    have last : ∀ (H3 : Hp) (x3 : Int), Bn b F H H3 x3 y (z + 1) → (tAsg (tOp bMod (tOp bAdd (tOp bAdd (tOp bMul (bIx K 1) (tC (.int 48271))) (tOp bMod (tVar 2) (tC (.int 2147483647)))) (tOp bMul (tC (.int 7919)) (bIx K 2))) (tC (.int 2147483647))) (gSub (tVar 0) (tC (.int 1)) rSetL))
      { D with nx := fun σ H => (tSeq (tIfS (tTest (tOp (rI0 fun i j => .bl (decide (j < i))) (bIx K 0) (tC (.int 0))))
      (tSeq (tAsg (tOp bMod (bIx K 0) (tVar 1)) (gName 3))
      (tSeq (tAsg (tOp (rI (fun _ j => j ≠ 0 ∧ j.natAbs.log2 < 9000) fun i j => .int (i.fdiv j)) (bIx K 0) (tVar 1)) (gSub (tVar 0) (tC (.int 0)) rSetL))
        (tRet (tVar 3))))
      tNext)
  (tSeq (tAsg (tOp bMod (tOp bMul (tOp bAdd (bIx K 1) (tC (.int 1))) (tC (.int 39373))) (tC (.int 1000000007))) (gName 4))
  (tSeq (tAsg (tOp bMod (tOp bMul (tOp bMod (tOp bMul (tVar 4) (tVar 4)) (tC (.int 998244353))) (tC (.int 30011))) (tC (.int 998244353))) (gName 5))
  (tSeq (tIfS (tTest (tOp (rI0 fun i j => .bl (decide (j < i))) (tVar 1) (tC (.int 1000000)))) (tRet (tOp bMod (tOp bAdd (tOp bMul (tVar 5) (tC (.int 1000000007))) (tVar 4)) (tVar 1))) tNext)
    (tRet (tOp bMod (tOp (rI CDiv fun i j => .int (i / j)) (tVar 5) (tC (.int 7))) (tVar 1))))))) D σ H } [some (.ref b.b), some (.int m), some (.int cell), s3, s4, s5] H3 := by
      intro H3 x3 n3
      refine bix1 n3 rfl ⟨_, _, rfl, rfl, .inr ⟨by decide, by decide⟩, _, rfl, _, _, rfl, rfl, (by show (0 : Int) < _; decide), _, _, rfl, rfl, ?_⟩
      refine bix2 n3 rfl ⟨_, _, rfl, rfl, .inl ⟨by decide, by decide⟩, _, _, rfl, rfl, _, _, rfl, rfl, (by show (0 : Int) < _; decide), ?_⟩
      refine ⟨_, rfl, b.b, _, 1, 1, rfl, rfl, n3.at', rfl, ?_⟩
      exact tk_mid w (n3.put n3.x0 (Int.emod_nonneg _ (by decide)) n3.z0) hm hs hq
    refine ⟨_, rfl, _, _, rfl, rfl, _, rfl, ite2 (fun _ => ?_) fun _ => last _ x n2⟩
    refine ⟨_, rfl, _, rfl, b.b, _, 0, 0, rfl, rfl, n2.at', rfl, ?_⟩
    exact last _ cell (n2.put c0 y0 (by omega))
  have hc : H b.c = some (.lst (b.ns.map V.int)) := w.sub _ _ ec
  refine bix2 n rfl (bix3 n rfl ⟨b.c, _, rfl, .inl (SqL.of hc), _, _, rfl, rfl, _, rfl, ite2 (fun hz => ?_) fun _ => fin 0 (Int.le_refl _)⟩)
  have hl : z < (b.ns.length : Int) := by
    have := of_decide_eq_true hz
    rwa [List.length_map] at this
  have hz2 : z.toNat < b.ns.length := by omega
  refine bix3 n rfl (bix2 n rfl ⟨b.c, _, z, .int b.ns[z.toNat], rfl, rfl, SqL.of hc, ?_, fin _ (ens _ (List.getElem_mem hz2))⟩)
  refine at_of (j := z.toNat) (by omega) ?_
  rw [List.getElem?_map, List.getElem?_eq_getElem hz2]
  rfl
end
end Dl
namespace Dl
open PySem PySem.Spec PyProof.Rows L2
/-! ### the bag is made -/
abbrev bAbs : List V → Hp → VK → Prop := fun xs H Q => ∃ i : Int, xs = [.int i] ∧ Q (.int (if i < 0 then -i else i)) H
def bgT (K : PySem.W.Frag) : TS := tRet (tLst (tCons (tC (.int 0)) (tCons (tC (.int 1234567891)) (tCons (tC (.int 0)) (tCons
  (tLc (iList K (tSl (rSlL K) (tVar 0) tNoPart (tPart (tC (.int 63))))) (gName 1) tYes (tCB bAbs (tCons (tVar 1) tNil)) [1]) tNil)))))
def spBag (K : PySem.W.Frag) : Sp := fun vs H Q _ => ∃ (a : Addr) (ns : List Int), vs = [.ref a] ∧ SqL K H a (ns.map V.int) ∧ ns.length ≤ 63 ∧
  ∀ (p c : Addr) (H' : Hp), H' p = some (.lst [.int 0, .int 1234567891, .int 0, .ref c]) → H' c = some (.lst ((ns.map fun n => (n.natAbs : Int)).map V.int)) → c ≠ p → (∀ t, GxR.TabG H t → GxR.TabG H' t) → Q (.ref p) H'
theorem cut63 (ns : List Int) (h : ns.length ≤ 63) : cutV (ns.map V.int) none (some 63) = ns.map V.int := by
  unfold cutV
  rw [HT.sIx_none, List.drop_zero, show HT.sIx (ns.map V.int).length (ns.map V.int).length (some 63) = min 63 (ns.map V.int).length from HT.sIx_nat _ _ 63]
  refine List.take_of_length_le ?_
  rw [List.length_map]
  omega
theorem bg_go {K : PySem.W.Frag} {D : Ends} {H : Hp} {a : Addr} {ns : List Int} {s1 : Option V} (seq : SqL K H a (ns.map V.int)) (hl : ns.length ≤ 63)
    (q : ∀ (p c : Addr) (H' : Hp), H' p = some (.lst [.int 0, .int 1234567891, .int 0, .ref c]) → H' c = some (.lst ((ns.map fun n => (n.natAbs : Int)).map V.int)) → c ≠ p → (∀ t, GxR.TabG H t → GxR.TabG H' t) → D.rt (.ref p) H') : bgT K D [some (.ref a), s1] H := by
  refine ⟨_, rfl, 63, rfl, a, _, rfl, seq, fun s hs => ?_⟩
  rw [cut63 ns hl]
  refine ⟨s, rfl, ⟨_, SqL.of upd_same⟩, fun C hC => ?_⟩
  have sC : s ≠ C := ne_of_none upd_same hC
  refine lc_list (K := K) (xs := ns.map V.int) (fun i H' => H' s = some (.lst (ns.map V.int)) ∧ H' C = some (.lst (((ns.take i).map fun n => (n.natAbs : Int)).map V.int)) ∧ ∀ t, GxR.TabG H t → GxR.TabG H' t) ⟨by rw [upd_ne sC, upd_same], by rw [upd_same]; rfl, fun t z => TabG.up (TabG.up z hs) hC⟩ (fun i H' _ h => SqL.of h.1) (fun i x H' hx h => ?_) fun H' h => ?_
  · have hi : i < ns.length := by
      have := (List.getElem?_eq_some_iff.mp hx).1
      rwa [List.length_map] at this
    rw [List.getElem?_map, List.getElem?_eq_getElem hi] at hx
    cases hx
    refine ⟨rfl, _, rfl, _, rfl, _, h.2.1, ?_, ?_, ?_, fun t z => ?_⟩
    · refine lim_lt ?_
      rw [List.length_map, List.length_map, List.length_take]
      omega
    · rw [upd_ne sC]; exact h.1
    · rw [upd_same, List.take_add_one, List.getElem?_eq_getElem hi, List.map_append, List.map_append]
      have e : (if ns[i] < 0 then -ns[i] else ns[i]) = (ns[i].natAbs : Int) := by split <;> omega
      rw [e]
      rfl
    · obtain ⟨ps, z1, z2⟩ := h.2.2 t z
      exact ⟨ps, by rw [upd_ne (fun e => by rw [e, h.2.1] at z1; cases z1)]; exact z1, z2⟩
  · rw [List.length_map, List.take_length] at h
    refine ⟨by show 4 ≤ sizeLine; decide, fun p hp => q p C _ upd_same ?_ (ne_of_none h.2.1 hp) fun t z => TabG.up (h.2.2 t z) hp⟩
    rw [upd_ne (ne_of_none h.2.1 hp)]
    exact h.2.1
/-! ### the law's own def -/
def lfE (K : PySem.W.Frag) (ts : List Addr) (t : DS) : TS := fun D σ H => ∃ w : Wn, w.b.ts = ts ∧ lfS K w t D σ H
theorem pss_any {X : Cx} {ts : List Addr} {sts : List Stmt} {t : DS} (h : ∀ w : Wn, w.b.ts = ts → DPSs X w sts t) : PSs X sts (lfE X.K ts t) := ⟨fun p s σ H D I ⟨w, e, q⟩ => (h w e).run p s σ H D I q⟩
/-- f(e, ..) over the heap -/
theorem g_call {X : Cx} {CX : CXT} {k : Nat} {f : Addr} {sp : Sp} {E : XK} {x : Str} {e : Expr} {es : List Expr} {p pos : Pos} {t : TA} (Fk : Fg X.prog X.w X.K X.mg X.base CX k f sp) (ag : X.A.guards = some []) (room : Room k X.A) (ps : Passes CX X E) (gl : Gl X x) (gm : X.mg x = some (.ref f)) (kp : PySem.W.keepIn X.K (.ref f) = true)
    (ha : PA X (e :: es) t) (db : (x == ("__debug__" : Str)) = false := by decide) (s1 : starEach (e :: es) X.env = (false, eval e X.env) :: starEach es X.env := by rfl) (s2 : (backTo pos (starEach es X.env)).any (·.1) = false := by rfl) :
    PE X (.Call (.Name x p) (e :: es) [] pos) (fun σ H Q => t σ H fun vs H1 => sp vs H1 Q E) := by
  refine ⟨fun pins s σ H Q I want => wpAny_Call_Name_kw (ld_glob I gl gm ?_ db)⟩
  refine PySem.W.callWith_K (h₀ := X.base) I.ok.mod.kin kp ?_ s1 s2
  exact thn (ha.run pos pins s σ H _ I want) fun us st ⟨vs, H1, I1, rv, q⟩ => ⟨I1.kIn, run_g Fk ag room ps I1 rv q⟩
abbrev lawT (K : PySem.W.Frag) (ts : List Addr) (t : DS) : TS := tSeq (tAsg (fun σ H Q => tCons (tVar 0) tNil σ H fun vs H1 => spBag K vs H1 Q E0) (gName 1)) (lfE K ts t)
def spLaw (K : PySem.W.Frag) (ts : List Addr) : Sp := fun vs H Q _ => (∀ t ∈ ts, GxR.TabG H t) ∧ ∃ (a : Addr) (ns : List Int), vs = [.ref a] ∧ SqL K H a (ns.map V.int) ∧ ns.length ≤ 63 ∧ ∀ H', Q (.bl true) H'
theorem law_ok {ts : List Addr} {P : Program} {w : World} {K : PySem.W.Frag} {mg : Str → Option Value} {base : Heap} {k : Nat} {f : Addr} {fd : FuncData} {x qual : Str} {st : Stmt} {N : List Str} {z0 z1 : Str} {n : Nat} (Fn : L2.Fun K x qual st f fd) (S : FnScope N [z0] (defScope st)) (hN : N.length = n + 2)
    (hb : ∀ (kV doc pm : Value) (an : Option Addr) (cdv ct : Value) (us : List Value), us.length = [z0].length → bindArgs (PySem.W.fnOf x qual (defArgs st) (defBody st) (defScope st) .none kV doc pm an cdv ct) { pos := us, kw := [] } = pure ([z0].zip us))
    (t : DS)
    (hd : ∀ (cdv : Value) (A : Around) (outer : List Env) (s : Shared) (H : Hp) (E : XK), (A.deeper (envOfC qual (defScope st) s.heap.objs.size f cdv)).guards = some [] → Room k (A.deeper (envOfC qual (defScope st) s.heap.objs.size f cdv)) →
      PSs (cxOf (L2.CX P w) P w K mg base N qual (defScope st) f cdv A outer s H E).nox (defBody st) (lawT K ts t))
    (hv : t { nx := fun _ => False, rt := fun dv => dv = .d (.bool true) } (.un :: .bag :: List.replicate n .un)) : Fg P w K mg base (L2.CX P w) (k + 1) f (spLaw K ts) := by
  refine r_def Fn S hb (spLaw K ts) fun cdv A outer s H vs Q E ag room want => ?_
  obtain ⟨htab, a, ns, rfl, seq, hl, q⟩ := want
  refine ⟨rfl, _, hd cdv A outer s H E ag room, ?_⟩
  have e0 : L2.start N [V.ref a] = some (V.ref a) :: none :: List.replicate n none := by
    unfold L2.start
    rw [hN]
    rfl
  rw [e0]
  refine ⟨_, rfl, a, ns, rfl, seq, hl, fun p c H' hp hc ne keep => ?_⟩
  have wd : Wd K ⟨p, c, ns.map fun n => (n.natAbs : Int), ts⟩ (upd (fun _ => none) c (.lst ((ns.map fun n => (n.natAbs : Int)).map V.int))) H' := by
    refine ⟨⟨⟨0, 1234567891, 0, hp, by decide, by decide, by decide⟩, upd_same, fun m hm => ?_, fun t m => ⟨?_, keep t (htab t m)⟩⟩, fun b o h => ?_, upd_ne (Ne.symm ne)⟩
    · obtain ⟨j, _, rfl⟩ := List.mem_map.mp hm
      exact Int.natCast_nonneg _
    · refine upd_ne fun e => ?_
      obtain ⟨ps, z, _⟩ := keep t (htab t m)
      rw [e, hc] at z
      cases z
    · by_cases hb : b = c
      · rw [hb, upd_same] at h; rw [hb, hc]; exact h
      · rw [upd_ne hb] at h; cases h
  refine ⟨⟨_, _, H'⟩, rfl, .un :: .bag :: List.replicate n .un, _, _, ⟨by simp, wd.refl, fun i z e => ?_, fun i j s t a h1 _ m _ => ?_⟩, hv, ⟨fun env σ F H _ _ z => z.elim, fun env σ F H _ _ z => z.elim, fun env σ F H _ _ z => z.elim, fun dv v F H2 _ rs z => ?_⟩⟩
  · match i, e with
    | 0, e => cases e; exact True.intro
    | 1, e => cases e; rfl
    | i + 2, e =>
      have e : (List.replicate n Sl.un)[i]? = some z := e
      rw [List.getElem?_replicate] at e
      split at e
      · cases e; exact True.intro
      · cases e
  · exfalso
    match i, h1 with
    | 0, h1 => cases h1; cases m
    | 1, h1 => cases h1; cases m
    | i + 2, h1 =>
      have h1 : (List.replicate n Sl.un)[i]? = some _ := h1
      rw [List.getElem?_replicate] at h1
      split at h1 <;> cases h1
      cases m
  · subst z
    obtain rfl := rs.blOf
    exact q H2
abbrev sp__law_take : DSp := spTake
end Dl
namespace Dl
open PySem PySem.Spec PyProof.Rows L2
/-! ### loops by what holds of what is left -/
theorem forD_ind {g : DG} {tb : DS} {d : DK} (I : List PyData → List Sl → Prop) (hn : ∀ env, I [] env → d.nx env)
    (hc : ∀ (x : PyData) (xs : List PyData) (env : List Sl) (R : List Sl → Prop), I (x :: xs) env → (∀ e, I xs e → R e) → g x env fun e2 => tb { nx := R, rt := d.rt, bk := d.nx, ct := R } e2) :
    ∀ (xs : List PyData) (env : List Sl), I xs env → forD g tb d xs env
  | [], env, h => hn env h
  | x :: xs, env, h => hc x xs env (forD g tb d xs) h fun e h' => forD_ind I hn hc xs e h'
theorem whD_ind {tc : DTT} {tb : DS} {d : DK} (I : List Sl → Prop) (μ : List Sl → Nat)
    (hs : ∀ (env : List Sl) (R : List Sl → Prop), I env → (∀ e, I e → μ e < μ env → R e) → tc env fun k => if k = true then tb { nx := R, rt := d.rt, bk := d.nx, ct := R } env else d.nx env) {env : List Sl} (h : I env) : tWhD tc tb d env := by
  have main : ∀ (n : Nat) (env : List Sl), μ env < n → I env → whD tc tb d n env := by
    intro n
    induction n with
    | zero => intro env h; omega
    | succ n ih => intro env hm hi; exact hs env (whD tc tb d n) hi fun e he hl => ih e (by omega) he
  exact ⟨μ env + 1, main _ env (Nat.lt_succ_self _) h⟩
theorem lcD_ind {g : DG} {tt : DTT} {te : DT} {env : List Sl} {P : DV → Prop} (I : List PyData → List PyData → Prop) (hn : ∀ acc, I [] acc → P (.fr acc))
    (hc : ∀ (x : PyData) (xs acc : List PyData) (R : List PyData → Prop), I (x :: xs) acc → (∀ a, I xs a → R a) → g x env fun e2 => tt e2 fun c => if c = true then te e2 fun dv => match frz dv with
      | .d y => acc.length < 100000 ∧ R (acc ++ [y])
      | _ => False
    else R acc) : ∀ (xs acc : List PyData), I xs acc → lcD g tt te env xs acc P
  | [], acc, h => hn acc h
  | x :: xs, acc, h => by
    have q := hc x xs acc (fun a => lcD g tt te env xs a P) h fun a h' => lcD_ind I hn hc xs a h'
    exact q
theorem atD {α : Type} {xs : List α} {z : Int} {j : Nat} {v : α} (e : z = (j : Int)) (h : xs[j]? = some v) : atI xs z = some v := by
  subst e
  exact atI_nat h
theorem pick {xs : List PyData} {r : Int} {P : DV → Prop} (h0 : 0 ≤ r) (h1 : r < xs.length) (h : ∀ z, z ∈ xs → P (.d z)) : gIx (.list xs) (.int r) P := by
  have hr : r.toNat < xs.length := by omega
  have ez : r = ((r.toNat : Nat) : Int) := by omega
  have e : atI xs r = some xs[r.toNat] := atD ez (List.getElem?_eq_getElem hr)
  show (match atI xs r with
    | some z => P (.d z)
    | none => False)
  rw [e]
  exact h _ (List.getElem_mem hr)
theorem at0 {α : Type} (x : α) (xs : List α) : atI (x :: xs) 0 = some x := atI_nat (j := 0) rfl
theorem at1 {α : Type} (x y : α) (xs : List α) : atI (x :: y :: xs) 1 = some y := atI_nat (j := 1) rfl
theorem at2 {α : Type} (x y z : α) (xs : List α) : atI (x :: y :: z :: xs) 2 = some z := atI_nat (j := 2) rfl
end Dl
namespace Dl
open PySem PySem.Spec PyProof.Rows L2
/-! ### whole numbers and fractions -/
theorem gcd_turn (a b : Int) (ha : 0 ≤ a) (hb : 0 < b) : Int.gcd b (a.fmod b) = Int.gcd a b ∧ 0 ≤ a.fmod b ∧ a.fmod b < b := by
  rw [Int.fmod_eq_emod_of_nonneg a (Int.le_of_lt hb)]
  refine ⟨?_, Int.emod_nonneg _ (by omega), Int.emod_lt_of_pos _ hb⟩
  obtain ⟨m, rfl⟩ := Int.eq_ofNat_of_zero_le ha
  obtain ⟨n, rfl⟩ := Int.eq_ofNat_of_zero_le (Int.le_of_lt hb)
  show Nat.gcd n (m % n) = Nat.gcd m n
  rw [Nat.gcd_comm, ← Nat.gcd_rec, Nat.gcd_comm]
theorem log_lt {n k : Nat} (hk : 0 < k) (h : n < 2 ^ k) : n.log2 < k := by
  rcases Nat.eq_zero_or_pos n with z | z
  · subst z; simpa using hk
  · exact (Nat.log2_lt (by omega)).mpr h
theorem lt_two {n k : Nat} (h : n.log2 < k) : n < 2 ^ k := by
  rcases Nat.eq_zero_or_pos n with z | z
  · subst z; exact Nat.two_pow_pos _
  · exact (Nat.log2_lt (by omega)).mp h
theorem log_le {n k : Nat} (h : n < 2 ^ k) (hk : 0 < k) (hm : k ≤ 9000) : n.log2 < 9000 := Nat.lt_of_lt_of_le (log_lt hk h) hm
theorem two_le {n k m : Nat} (h : n < 2 ^ k) (hk : k ≤ m) : n < 2 ^ m := Nat.lt_of_lt_of_le h (Nat.pow_le_pow_right (by decide) hk)
theorem gcd_pos {t b : Int} (hb : b ≠ 0) : 0 < Int.gcd t b := Int.gcd_pos_of_ne_zero_right _ hb
theorem gcd_le {t b : Int} (hb : b ≠ 0) : Int.gcd t b ≤ b.natAbs := Nat.le_of_dvd (by omega) (Nat.gcd_dvd_right _ _)
theorem mul_log {a b : Int} {m n : Nat} (ha : a.natAbs < 2 ^ m) (hb : b.natAbs < 2 ^ n) (hm : 0 < m) (hn : 0 < n) (h : m + n < 1000000) : a.natAbs.log2 + b.natAbs.log2 < 1000000 := by
  have h1 := log_lt hm ha
  have h2 := log_lt hn hb
  omega
theorem natAbs_mul_lt {a b : Int} {m n : Nat} (ha : a.natAbs < 2 ^ m) (hb : b.natAbs < 2 ^ n) : (a * b).natAbs < 2 ^ (m + n) := by
  rw [Int.natAbs_mul, Nat.pow_add]
  exact Nat.mul_lt_mul'' ha hb
/-- p / q in lowest terms -/
structure Frac (p q : Int) : Prop where
  pos : 0 < q
  low : Int.gcd p q = 1
/-- the parts of a fraction in lowest terms divide those of any that is as much -/
theorem Frac.le {p q t b : Int} (f : Frac p q) (hb : b ≠ 0) (h : t * q = b * p) : q.natAbs ≤ b.natAbs ∧ p.natAbs ≤ t.natAbs := by
  have hq := f.pos
  have n1 : t.natAbs * q.natAbs = b.natAbs * p.natAbs := by rw [← Int.natAbs_mul, ← Int.natAbs_mul, h]
  have d1 : q.natAbs ∣ b.natAbs := by
    have z : q.natAbs ∣ p.natAbs * b.natAbs := ⟨t.natAbs, by rw [Nat.mul_comm p.natAbs, ← n1, Nat.mul_comm]⟩
    exact Nat.Coprime.dvd_of_dvd_mul_left (by rw [Nat.Coprime, Nat.gcd_comm]; exact f.low) z
  refine ⟨Nat.le_of_dvd (by omega) d1, ?_⟩
  obtain ⟨k, hk⟩ := d1
  have e : t.natAbs = k * p.natAbs := by
    refine Nat.eq_of_mul_eq_mul_right (show 0 < q.natAbs by omega) ?_
    rw [n1, hk, Nat.mul_assoc, Nat.mul_comm]
  rw [e]
  refine Nat.le_mul_of_pos_left _ ?_
  rcases Nat.eq_zero_or_pos k with z | z
  · rw [z] at hk; omega
  · exact z
/-- what a top parted by a bottom is, in lowest terms -/
def loT (t b : Int) : Int := if b < 0 then -(t / Int.gcd t b) else t / Int.gcd t b
def loB (t b : Int) : Int := if b < 0 then -(b / Int.gcd t b) else b / Int.gcd t b
theorem lo_ok {t b : Int} (hb : b ≠ 0) : Frac (loT t b) (loB t b) ∧ t * loB t b = b * loT t b := by
  have hp : 0 < Int.gcd t b := gcd_pos hb
  obtain ⟨u, hu⟩ : ((Int.gcd t b : Nat) : Int) ∣ t := Int.gcd_dvd_left _ _
  obtain ⟨v, hv⟩ : ((Int.gcd t b : Nat) : Int) ∣ b := Int.gcd_dvd_right _ _
  have hp' : (0 : Int) < (Int.gcd t b : Nat) := by omega
  have e1 : t / (Int.gcd t b : Nat) = u := Int.ediv_eq_of_eq_mul_right (by omega) hu
  have e2 : b / (Int.gcd t b : Nat) = v := Int.ediv_eq_of_eq_mul_right (by omega) hv
  have co : Int.gcd u v = 1 := by
    have h1 := Nat.coprime_div_gcd_div_gcd (m := t.natAbs) (n := b.natAbs) hp
    have h2 : u.natAbs = t.natAbs / Int.gcd t b := by
      rw [← e1, Int.natAbs_ediv_of_dvd ⟨u, hu⟩, Int.natAbs_natCast]
    have h3 : v.natAbs = b.natAbs / Int.gcd t b := by
      rw [← e2, Int.natAbs_ediv_of_dvd ⟨v, hv⟩, Int.natAbs_natCast]
    show Nat.gcd u.natAbs v.natAbs = 1
    rw [h2, h3]
    exact h1
  have xy : t * v = b * u := by
    conv => lhs; rw [hu]
    conv => rhs; rw [hv]
    rw [Int.mul_assoc, Int.mul_assoc, Int.mul_comm u v]
  unfold loT loB
  rw [e1, e2]
  by_cases hn : b < 0
  · rw [if_pos hn, if_pos hn]
    refine ⟨⟨?_, by rw [Int.neg_gcd, Int.gcd_neg]; exact co⟩, by rw [Int.mul_neg, Int.mul_neg, xy]⟩
    have z : ¬ 0 ≤ v := fun h => by
      have := Int.mul_nonneg (Int.le_of_lt hp') h
      omega
    omega
  · rw [if_neg hn, if_neg hn]
    refine ⟨⟨?_, co⟩, xy⟩
    have z : ¬ v ≤ 0 := fun h => by
      have h2 := Int.mul_nonneg (Int.le_of_lt hp') (show 0 ≤ -v by omega)
      rw [Int.mul_neg] at h2
      omega
    omega
/-- a fraction, among any data -/
def isFr : PyData → Bool
  | .tuple [.int p, .int q] => decide (0 < q) && decide (Int.gcd p q = 1)
  | _ => false
theorem isFr_of {p q : Int} (f : Frac p q) : isFr (.tuple [.int p, .int q]) = true := by
  simp [isFr, f.pos, f.low]
end Dl
namespace Dl
open PySem PySem.Spec PyProof.Rows L2
/-! ### n.bit_length() -/
def tBitLen (te : DT) : DT := fun env P => te env fun u => rd u fun x => match x with
  | .int i => P (.d (.int (Builtin.Int.intBits i : Nat)))
  | _ => False
/-! ### an index that stands in the text -/
theorem gi0 (x : PyData) (xs : List PyData) (P : DV → Prop) : gIx (.tuple (x :: xs)) (.int 0) P = P (.d x) := by simp only [gIx, at0]
theorem gi1 (x y : PyData) (xs : List PyData) (P : DV → Prop) : gIx (.tuple (x :: y :: xs)) (.int 1) P = P (.d y) := by simp only [gIx, at1]
theorem gi2 (x y z : PyData) (xs : List PyData) (P : DV → Prop) : gIx (.tuple (x :: y :: z :: xs)) (.int 2) P = P (.d z) := by simp only [gIx, at2]
theorem li0 (x : PyData) (xs : List PyData) (P : DV → Prop) : gIx (.list (x :: xs)) (.int 0) P = P (.d x) := by simp only [gIx, at0]
theorem li1 (x y : PyData) (xs : List PyData) (P : DV → Prop) : gIx (.list (x :: y :: xs)) (.int 1) P = P (.d y) := by simp only [gIx, at1]
theorem li2 (x y z : PyData) (xs : List PyData) (P : DV → Prop) : gIx (.list (x :: y :: z :: xs)) (.int 2) P = P (.d z) := by simp only [gIx, at2]
/-- one statement, then the rest: not by reduction, for the kernel's sake -/
theorem sqD (t u : DS) (d : DK) (env : List Sl) : tSeqD t u d env = t { d with nx := u d } env := propext ⟨fun h => h, fun h => h⟩
section
variable (i : Nat) (g1 : G1) (g : G2) (gc : GC) (ta tb te : DT) (t u : DTT) (da : DA) (p q : DS) (d : DK) (env : List Sl) (P : DV → Prop) (B : Bool → Prop)
theorem stE : tSetD i te d env = te env fun dv => stD i dv env d.nx := propext ⟨fun h => h, fun h => h⟩
theorem biE : tBin g ta tb env P = ta env fun u => rd u fun x => tb env fun z => rd z fun y => g x y P := propext ⟨fun h => h, fun h => h⟩
theorem unE : tUnD g1 ta env P = ta env fun u => rd u fun x => g1 x P := propext ⟨fun h => h, fun h => h⟩
theorem caE : tCallD gc da env P = da env fun us => gc us P := propext ⟨fun h => h, fun h => h⟩
theorem tuE : tTupD da env P = da env fun us => allD us fun xs => xs.length ≤ 100000 ∧ P (.d (.tuple xs)) := propext ⟨fun h => h, fun h => h⟩
theorem liE : tLstD da env P = da env fun us => allD us fun xs => xs.length ≤ 100000 ∧ P (.fr xs) := propext ⟨fun h => h, fun h => h⟩
theorem ifE : tIfD t p q d env = t env fun k => if k = true then p d env else q d env := propext ⟨fun h => h, fun h => h⟩
theorem orE : tOrD t u env B = t env fun c => if c = true then B true else u env B := propext ⟨fun h => h, fun h => h⟩
theorem anE : tAndD t u env B = t env fun c => if c = true then u env B else B false := propext ⟨fun h => h, fun h => h⟩
theorem noE : tNotD t env B = t env fun c => B (!c) := propext ⟨fun h => h, fun h => h⟩
theorem tsE : tTst te env B = te env fun u => isB u B := propext ⟨fun h => h, fun h => h⟩
theorem trE : tTru te env B = te env fun u => rd u fun x => truOk x ∧ B (truD x) := propext ⟨fun h => h, fun h => h⟩
theorem itE : tIteD t ta tb env P = t env fun c => if c = true then ta env P else tb env P := propext ⟨fun h => h, fun h => h⟩
theorem cdE (x : PyData) : tCD x env P = P (.d x) := propext ⟨fun h => h, fun h => h⟩
theorem nlE (R : List DV → Prop) : tNilD env R = R [] := propext ⟨fun h => h, fun h => h⟩
theorem coE (tr : DA) (R : List DV → Prop) : tConsD te tr env R = te env fun u => tr env fun us => R (frz u :: us) := propext ⟨fun h => h, fun h => h⟩
theorem usE (sp : DSp) : tUse sp da env P = da env fun us => sp (us.map dat) fun r => okR us r ∧ P r := propext ⟨fun h => h, fun h => h⟩
theorem foE (gg : DG) (ti : DIt) : tForD gg ti p d env = ti env fun xs => forD gg p d xs env := propext ⟨fun h => h, fun h => h⟩
theorem rdE (x : PyData) (R : PyData → Prop) : rd (.d x) R = R x := propext ⟨fun h => h, fun h => h⟩
theorem sdE (x : PyData) (k : List Sl → Prop) : stD i (.d x) env k = k (env.set i (.d x)) := propext ⟨fun h => h, fun h => h⟩
end
theorem reE (te : DT) (d : DK) (env : List Sl) : tRetD te d env = te env fun dv => match dv with
  | .ow _ _ => False
  | .tr _ _ _ => False
  | x => d.rt x := propext ⟨fun h => h, fun h => h⟩
theorem vaE (i : Nat) (env : List Sl) (P : DV → Prop) : tVarD i env P = match env[i]? with
  | some (.d x) => P (.d x)
  | some (.ow l xs) => P (.ow l xs)
  | some (.tr p S x) => P (.tr p S x)
  | some (.tv _ S x) => P (.tr true S x)
  | some (.raw v) => P (.raw v)
  | some .bag => P .bag
  | _ => False := propext ⟨fun h => h, fun h => h⟩
end Dl
namespace Dl
open PySem PySem.Spec PyProof.Rows L2
/-! ### an empty dict, repr, str -/
section
variable {X : Cx} {w : Wn} {pos : Pos}
def tEmp : DT := fun _ P => P (.d (.dict []))
end
mutual
/-- data without objects of classes -/
def realD : PyData → Bool
  | .none => true
  | .bool _ => true
  | .int _ => true
  | .str _ => true
  | .list xs => realA xs
  | .tuple xs => realA xs
  | .dict kvs => realK kvs
def realA : List PyData → Bool
  | [] => true
  | x :: xs => realD x && realA xs
def realK : List (PyData × PyData) → Bool
  | [] => true
  | (k, x) :: r => (match k with | .int _ => true | .str _ => true | _ => false) && realD x && realK r
end
section
variable {X : Cx} {pins : List (Addr × Obj)} {σ : L2.St} {H : Hp} {s : Shared}
theorem keys_read {h : Heap} {P : Program} {w : World} {K : PySem.W.Frag} {F : Hp} {kvs : List (Key × V)} {vs : List (Key × Value)} (t : KV kvs vs) : ∀ {es : List DictEntry} {ks : List PyData}, Pairs (mixKind P w) es vs → RpA K F (kvs.map fun p => kV p.1) ks → ReadsAll h (es.map (·.key)) ks [] ∧ Vals (kvs.map Prod.snd) (es.map (·.val)) ∧
    ∀ (P : Program) (w : World), PyData.showableAll ks = true → (∀ t ∈ PyData.shownAll ks, t.length ≤ sizeLine) → ∃ bs, ReadAtMost h (PyData.depthAll ks) bs ∧ ReprAllK P w bs h (PyData.depthAll ks) (es.map (·.key)) (PyData.shownAll ks) := by
  induction t with
  | nil =>
    intro es ks p a
    cases p
    cases a
    refine ⟨.nil, .nil, fun P w _ _ => ⟨[], (fun _ m => nomatch m), ?_⟩⟩
    simp only [PyData.shownAll]
    exact .nil
  | @cons x y kvs vs c t ih =>
    intro es ks p a
    obtain ⟨k, v⟩ := x
    obtain ⟨ck, cv⟩ := c
    cases es with
    | nil => cases p
    | cons en es =>
      cases p with
      | cons p1 p2 p3 =>
        cases a with
        | cons a r =>
          obtain ⟨q1, q2, q3⟩ := ih p3 r
          rw [← ck] at p1
          rw [List.map_cons]
          have a : Rp K F (kV k) _ := a
          rcases keyIs_shape p1 with ⟨i, tk, e1, e2⟩ | ⟨z, tk, e1, e2⟩
          · have e1 : k = .inl i := e1
            subst e1
            cases a
            rw [e2]
            refine ⟨.cons (as := []) (Reads.int i tk) q1, .cons (show RelV v en.val by rw [p2]; exact cv) q2, fun P w c z => ?_⟩
            simp only [PyData.showableAll, Bool.and_eq_true] at c
            obtain ⟨bs, b1, b2⟩ := q3 P w c.2 (fun t ht => z t (by simp only [PyData.shownAll]; exact List.mem_cons_of_mem _ ht))
            refine ⟨bs, b1.mono (by simp only [PyData.depthAll]; omega), ?_⟩
            simp only [PyData.depthAll, PyData.shownAll]
            refine .cons ?_ (b2.more_le (fun _ m => m) (Nat.le_max_right _ _))
            simp only [PyData.shown]
            exact .of_is (ReprIs.int tk (by simpa [PyData.showable] using c.1)) _ _ _
          · have e1 : k = .inr z := e1
            subst e1
            cases a
            rw [e2]
            refine ⟨.cons (as := []) (Reads.str z tk) q1, .cons (show RelV v en.val by rw [p2]; exact cv) q2, fun P w c l => ?_⟩
            simp only [PyData.showableAll, Bool.and_eq_true] at c
            obtain ⟨bs, b1, b2⟩ := q3 P w c.2 (fun t ht => l t (by simp only [PyData.shownAll]; exact List.mem_cons_of_mem _ ht))
            refine ⟨bs, b1.mono (by simp only [PyData.depthAll]; omega), ?_⟩
            simp only [PyData.depthAll, PyData.shownAll]
            refine .cons ?_ (b2.more_le (fun _ m => m) (Nat.le_max_right _ _))
            have l0 := l _ (by simp only [PyData.shownAll]; exact List.mem_cons_self ..)
            simp only [PyData.shown] at l0 ⊢
            exact .of_is (ReprIs.str z tk l0) _ _ _
theorem zip_keys {α β : Type} : ∀ {ks : List α} {xs : List β}, ks.length = xs.length → (ks.zip xs).map (·.1) = ks ∧ (ks.zip xs).map (·.2) = xs
  | [], [], _ => ⟨rfl, rfl⟩
  | k :: ks, x :: xs, h => by
    obtain ⟨a, b⟩ := zip_keys (ks := ks) (xs := xs) (by simpa using h)
    exact ⟨by rw [List.zip_cons_cons, List.map_cons, a], by rw [List.zip_cons_cons, List.map_cons, b]⟩
theorem real_zip {ks : List PyData} : ∀ {xs : List PyData}, ks.length = xs.length → realK (ks.zip xs) = true → realA xs = true := by
  induction ks with
  | nil => intro xs h _; cases xs with | nil => rfl | cons => simp at h
  | cons k ks ih =>
    intro xs h e
    cases xs with
    | nil => simp at h
    | cons x xs =>
      simp only [List.zip_cons_cons, realK, Bool.and_eq_true] at e
      simp only [realA, Bool.and_eq_true]
      exact ⟨e.1.2, ih (by simpa using h) e.2⟩
/-! the text of data, from what is tracked -/
mutual
theorem rk_of (I : Inv X pins σ H s) : ∀ {v : V} {d : PyData} {u : Value}, Rp X.K H v d → realD d = true → RelV v u → d.showable = true → d.shown.length ≤ sizeLine →
    ∃ as bs, Reads s.heap u d as ∧ ReadAtMost s.heap d.depth bs ∧ ReprK X.prog X.w bs s.heap d.depth u d.shown
  | _, _, _, .non, _, r, _, _ => by
    cases r
    refine ⟨_, [], .none, (fun _ m => nomatch m), ?_⟩
    simp only [PyData.shown]
    exact .of_is ReprIs.none _ _ _
  | _, _, _, .bl b, _, r, _, _ => by
    cases r
    refine ⟨_, [], .bool b, (fun _ m => nomatch m), ?_⟩
    simp only [PyData.shown]
    exact .of_is (ReprIs.bool b) _ _ _
  | _, _, _, .int i, _, r, c, _ => by
    obtain ⟨t, rfl⟩ := r
    refine ⟨_, [], .int i t, (fun _ m => nomatch m), ?_⟩
    simp only [PyData.shown]
    exact .of_is (ReprIs.int t (by simpa [PyData.showable] using c)) _ _ _
  | _, _, _, .str i, _, r, _, z => by
    obtain ⟨t, rfl⟩ := r
    refine ⟨_, [], .str i t, (fun _ m => nomatch m), ?_⟩
    simp only [PyData.shown] at z ⊢
    exact .of_is (ReprIs.str i t z) _ _ _
  | _, _, _, .lst (a := a) (xs := xs) hs ha, f, r, c, z => by
    cases r
    obtain ⟨its, rv, ⟨o, n, ho, hc, _, hd⟩, _⟩ := I.list (SqL.of hs)
    simp only [PyData.shown] at z
    obtain ⟨as, bs, q1, q2, q3⟩ := rka_of I ha (by simpa only [realD] using f) rv (by simpa [PyData.showable] using c) (fun t ht => Nat.le_trans (listText_mem_le ht) z)
    have rd : Reads s.heap (.ref a) (.list xs) _ := .list ho hc hd q1
    have na : a ∉ bs := not_mem_of_deeper rd (by simp only [PyData.depth]; omega) q2
    refine ⟨_, a :: bs, rd, ReadAtMost.cons rd (by simp only [PyData.depth]; omega) q2, ?_⟩
    simp only [PyData.depth, PyData.shown]
    cases its with
    | nil =>
      cases q1
      simp only [PyData.shownAll, listText_nil]
      exact ReprK.listEmpty ho hc hd
    | cons x l => exact ReprK.list ho hc hd na (by simpa using q3.length_eq) fun i y e => q3.item i y (by simpa using e)
  | _, _, _, .tup (a := a) (xs := xs) hs ha, f, r, c, z => by
    cases r
    obtain ⟨its, rv, ⟨o, ho, hc, n, hd⟩, _⟩ := I.tuple hs
    simp only [PyData.shown] at z
    obtain ⟨as, bs, q1, q2, q3⟩ := rka_of I ha (by simpa only [realD] using f) rv (by simpa [PyData.showable] using c) (fun t ht => Nat.le_trans (tupleText_mem_le ht) z)
    have rd : Reads s.heap (.ref a) (.tuple xs) _ := .tuple ho hc hd q1
    have na : a ∉ bs := not_mem_of_deeper rd (by simp only [PyData.depth]; omega) q2
    refine ⟨_, a :: bs, rd, ReadAtMost.cons rd (by simp only [PyData.depth]; omega) q2, ?_⟩
    simp only [PyData.depth, PyData.shown]
    exact ReprK.tuple ho hc hd na q3
  | _, _, _, .dct (a := a) (kvs := kvs) (ks := ks) (xs := xs) h r1 q1, f, r, c, z => by
    obtain ⟨_, hs, vs, kv, o, es, ep, ho, hc, hd, _, hp, _⟩ := dk_of I.hok h
    cases r
    obtain ⟨k1, k2, k3⟩ := keys_read (h := s.heap) kv hp r1
    have le : ks.length = xs.length := by rw [← r1.len, ← q1.len, List.length_map, List.length_map]
    obtain ⟨z1, z2⟩ := zip_keys le
    simp only [PyData.shown] at z
    obtain ⟨c1, c2⟩ := PyData.showableKv_split (ks.zip xs) (by simpa [PyData.showable] using c)
    obtain ⟨as, b2, m1, m2, m3⟩ := rka_of I q1 (real_zip le (by simpa only [realD] using f)) k2 (by rw [z2] at c2; exact c2) (fun t ht => by
      obtain ⟨p, hp, hl⟩ := PyData.shownKv_val_le (ks.zip xs) t (by rw [z2]; exact ht)
      exact Nat.le_trans hl (Nat.le_trans (dictText_mem_le hp) z))
    obtain ⟨b1, n2, n3⟩ := k3 X.prog X.w (by rw [z1] at c1; exact c1) (fun t ht => by
      obtain ⟨p, hp, hl⟩ := PyData.shownKv_key_le (ks.zip xs) t (by rw [z1]; exact ht)
      exact Nat.le_trans hl (Nat.le_trans (dictText_mem_le hp) z))
    have rd : Reads s.heap (.ref a) (.dict (ks.zip xs)) _ := .dict ho hc.1 hd (by rw [z1]; exact k1) (by rw [z2]; exact m1)
    have e1 : PyData.depthAll ks ≤ PyData.depthKv (ks.zip xs) := by have := PyData.depthAll_keys_le (ks.zip xs); rw [z1] at this; exact this
    have e2 : PyData.depthAll xs ≤ PyData.depthKv (ks.zip xs) := by have := PyData.depthAll_vals_le (ks.zip xs); rw [z2] at this; exact this
    have hb : ReadAtMost s.heap (PyData.depthKv (ks.zip xs)) (b1 ++ b2) := (n2.mono e1).append (m2.mono e2)
    have na : a ∉ b1 ++ b2 := not_mem_of_deeper rd (by simp only [PyData.depth]; omega) hb
    refine ⟨_, a :: (b1 ++ b2), rd, ReadAtMost.cons rd (by simp only [PyData.depth]; omega) hb, ?_⟩
    simp only [PyData.depth, PyData.shown, PyData.shownKv_eq]
    rw [z1, z2]
    exact ReprK.dict ho hc.1 hd hs na (ReprEntriesK.of_two es.toList _ _ (n3.more_le (fun _ m => List.mem_append.mpr (.inl m)) e1) (m3.more_le (fun _ m => List.mem_append.mpr (.inr m)) e2))
  | _, _, _, .obj _ _ _ _ _, f, _, _, _ => by simp [obD, realD, realK] at f
theorem rka_of (I : Inv X pins σ H s) : ∀ {vs : List V} {ds : List PyData} {us : List Value}, RpA X.K H vs ds → realA ds = true → Vals vs us → PyData.showableAll ds = true → (∀ t ∈ PyData.shownAll ds, t.length ≤ sizeLine) →
    ∃ as bs, ReadsAll s.heap us ds as ∧ ReadAtMost s.heap (PyData.depthAll ds) bs ∧ ReprAllK X.prog X.w bs s.heap (PyData.depthAll ds) us (PyData.shownAll ds)
  | _, _, _, .nil, _, r, _, _ => by
    cases r
    refine ⟨_, [], .nil, (fun _ m => nomatch m), ?_⟩
    simp only [PyData.shownAll]
    exact .nil
  | _, _, _, .cons (x := d) (xs := ds) h t, f, r, c, z => by
    cases r with
    | cons r1 r2 =>
      rw [realA, Bool.and_eq_true] at f
      have c' : d.showable = true ∧ PyData.showableAll ds = true := by simpa [PyData.showableAll] using c
      obtain ⟨a1, b1, q1, q2, q3⟩ := rk_of I h f.1 r1 c'.1 (z _ (by simp only [PyData.shownAll]; exact List.mem_cons_self ..))
      obtain ⟨a2, b2, p1, p2, p3⟩ := rka_of I t f.2 r2 c'.2 (fun t ht => z t (by simp only [PyData.shownAll]; exact List.mem_cons_of_mem _ ht))
      refine ⟨_, b1 ++ b2, .cons q1 p1, ?_, ?_⟩
      · simp only [PyData.depthAll]
        exact (q2.mono (Nat.le_max_left _ _)).append (p2.mono (Nat.le_max_right _ _))
      · simp only [PyData.depthAll, PyData.shownAll]
        exact .cons ((q3.more fun _ m => List.mem_append.mpr (.inl m)).level_le (Nat.le_max_left _ _)) (p3.more_le (fun _ m => List.mem_append.mpr (.inr m)) (Nat.le_max_right _ _))
end
end
section
variable {X : Cx} {w : Wn} {pos : Pos}
/-- data whose text may be asked for -/
structure Sh (x : PyData) : Prop where
  real : realD x = true
  show_ : x.showable = true
  deep : x.depth ≤ 63
  len : x.shown.length ≤ 100000
def cRepr : GC := fun us P => one us fun u => rd u fun x => Sh x ∧ P (.d (.str x.shown))
theorem k_repr (ag : X.A.guards = some []) (hu : X.A.units + 64 < cLine) : CallR X (.builtin "repr") (lC X.K w.b cRepr) := by
  intro pins s σ H vs us Q I r h
  obtain ⟨F, dvs, P, wd, ar, g, q⟩ := h
  obtain ⟨u, v, rfl, a, g⟩ := one_ok ar g
  obtain ⟨x, hx, sh, g⟩ := arr_rr a g
  obtain ⟨t, rfl, hr⟩ := vals1 r
  have done : ∀ h' (tk tt : Tok), (∀ b o, s.heap.get? b = some o → h'.get? b = some o) → EP X pins σ Q (.str x.shown tt) { s with heap := h', toks := tk } := fun h' tk tt hk =>
    ⟨.str _, H, I.kept hk, ⟨_, rfl⟩, q _ _ F H wd.refl (res_d (.str _)) g⟩
  have hall := hx.all wd.sub
  have z := lim_le sh.len
  have dp := sh.deep
  have real := sh.real
  have show_ := sh.show_
  clear sh g q hx
  cases hall with
  | non => cases hr; exact PySem.P.repr_of_none (done s.heap _ _ fun _ _ e => e)
  | bl b => cases hr; exact PySem.P.repr_of_bool (done s.heap _ _ fun _ _ e => e)
  | int i => obtain ⟨tk, rfl⟩ := hr; exact PySem.P.repr_of_int (by simpa [PyData.showable] using show_) (done s.heap _ _ fun _ _ e => e)
  | str y => obtain ⟨tk, rfl⟩ := hr; exact PySem.P.repr_of_str (done s.heap _ _ fun _ _ e => e) z
  | @lst p vs xs hs ha =>
    cases hr
    obtain ⟨its, rv, ⟨o, n, ho, hc, _, hd⟩, _⟩ := I.list (SqL.of hs)
    simp only [PyData.shown] at z done
    simp only [PyData.depth] at dp
    obtain ⟨as, bs, q1, q2, q3⟩ := rka_of I ha (by simpa only [realD] using real) rv (by simpa [PyData.showable] using show_) (fun t ht => Nat.le_trans (listText_mem_le ht) z)
    have na : p ∉ bs := not_mem_of_deeper (.list ho hc hd q1) (by simp only [PyData.depth]; omega) q2
    refine call_repr_slot (by omega) ⟨o, ho, hc⟩ PySem.F.slot_list_repr.toG ?_
    cases its with
    | nil =>
      cases q1
      simp only [PyData.shownAll, listText_nil] at done
      exact call_list_repr_empty ⟨o, ho, hc⟩ ho hd ⟨_, _, rfl, done s.heap _ _ fun _ _ e => e⟩
    | cons y l =>
      exact call_list_reprK ho hc hd na (by simpa using q3.length_eq) (fun i y e => q3.item i y (by simpa using e)) ag (fun b _ => Clear.nil b) (by show X.A.units + 1 + _ < cLine; omega) (fun _ _ e => e) (fun h' u tk hk => ⟨_, _, rfl, done h' tk u hk⟩) z
  | @tup p vs xs hs ha =>
    cases hr
    obtain ⟨its, rv, ⟨o, ho, hc, n, hd⟩, _⟩ := I.tuple hs
    simp only [PyData.shown] at z done
    simp only [PyData.depth] at dp
    obtain ⟨as, bs, q1, q2, q3⟩ := rka_of I ha (by simpa only [realD] using real) rv (by simpa [PyData.showable] using show_) (fun t ht => Nat.le_trans (tupleText_mem_le ht) z)
    have na : p ∉ bs := not_mem_of_deeper (.tuple ho hc hd q1) (by simp only [PyData.depth]; omega) q2
    refine call_repr_slot (by omega) ⟨o, ho, hc⟩ PySem.F.slot_tuple_repr ?_
    exact call_tuple_reprK ho hc hd na q3 ag (fun b _ => Clear.nil b) (by show X.A.units + 1 + _ < cLine; omega) (fun _ _ e => e) (fun h' u tk hk => ⟨_, _, rfl, done h' tk u hk⟩) z
  | @dct p kvs ks xs h r1 q1 =>
    cases hr
    obtain ⟨_, hs, vs, kv, o, es, ep, ho, hc, hd, _, hp, _⟩ := dk_of I.hok h
    obtain ⟨k1, k2, k3⟩ := keys_read (h := s.heap) kv hp r1
    have le : ks.length = xs.length := by rw [← r1.len, ← q1.len, List.length_map, List.length_map]
    obtain ⟨z1, z2⟩ := zip_keys le
    simp only [PyData.shown] at z done
    simp only [PyData.depth] at dp
    obtain ⟨c1, c2⟩ := PyData.showableKv_split (ks.zip xs) (by simpa [PyData.showable] using show_)
    obtain ⟨as, b2, m1, m2, m3⟩ := rka_of I q1 (real_zip le (by simpa only [realD] using real)) k2 (by rw [z2] at c2; exact c2) (fun t ht => by
      obtain ⟨p, hp, hl⟩ := PyData.shownKv_val_le (ks.zip xs) t (by rw [z2]; exact ht)
      exact Nat.le_trans hl (Nat.le_trans (dictText_mem_le hp) z))
    obtain ⟨b1, n2, n3⟩ := k3 X.prog X.w (by rw [z1] at c1; exact c1) (fun t ht => by
      obtain ⟨p, hp, hl⟩ := PyData.shownKv_key_le (ks.zip xs) t (by rw [z1]; exact ht)
      exact Nat.le_trans hl (Nat.le_trans (dictText_mem_le hp) z))
    have rd : Reads s.heap (.ref p) (.dict (ks.zip xs)) _ := .dict ho hc.1 hd (by rw [z1]; exact k1) (by rw [z2]; exact m1)
    have e1 : PyData.depthAll ks ≤ PyData.depthKv (ks.zip xs) := by have := PyData.depthAll_keys_le (ks.zip xs); rw [z1] at this; exact this
    have e2 : PyData.depthAll xs ≤ PyData.depthKv (ks.zip xs) := by have := PyData.depthAll_vals_le (ks.zip xs); rw [z2] at this; exact this
    have hb : ReadAtMost s.heap (PyData.depthKv (ks.zip xs)) (b1 ++ b2) := (n2.mono e1).append (m2.mono e2)
    have na : p ∉ b1 ++ b2 := not_mem_of_deeper rd (by simp only [PyData.depth]; omega) hb
    simp only [PyData.shownKv_eq] at z done
    rw [z1, z2] at z done
    refine call_repr_slot (by omega) ⟨o, ho, hc.1⟩ PySem.F.slot_dict_repr ?_
    exact call_dict_reprK ho hc.1 hd hs na (ReprEntriesK.of_two es.toList _ _ (n3.more_le (fun _ m => List.mem_append.mpr (.inl m)) e1) (m3.more_le (fun _ m => List.mem_append.mpr (.inr m)) e2)) ag (fun b _ => Clear.nil b) (by show X.A.units + 1 + _ < cLine; omega) (fun _ _ e => e) (fun h' u tk hk => ⟨_, _, rfl, done h' tk u hk⟩) z
  | obj => simp [obD, realD, realK] at real
def cStr : GC := fun us P => one us fun u => rd u fun x => match x with
  | .int i => i.natAbs.log2 < 1920 ∧ P (.d (.str (toString i)))
  | .str z => P (.d (.str z))
  | _ => False
end
/-! ### data whose text is short -/
structure Sn (n k : Nat) (x : PyData) : Prop where
  real : realD x = true
  show_ : x.showable = true
  deep : x.depth ≤ n
  len : x.shown.length ≤ k
theorem Sn.sh {n k : Nat} {x : PyData} (h : Sn n k x) (hn : n ≤ 63 := by decide) (hk : k ≤ 100000 := by decide) : Sh x := ⟨h.real, h.show_, Nat.le_trans h.deep hn, Nat.le_trans h.len hk⟩
theorem Sn.up {n k m l : Nat} {x : PyData} (h : Sn n k x) (hn : n ≤ m := by decide) (hk : k ≤ l := by decide) : Sn m l x := ⟨h.real, h.show_, Nat.le_trans h.deep hn, Nat.le_trans h.len hk⟩
theorem sn_int {i : Int} {j : Nat} (h : i.natAbs < 2 ^ j) (hj : 0 < j := by decide) (hk : j < 1920 := by decide) : Sn 0 (j + 1) (.int i) := by
  have l := log_lt hj h
  refine ⟨by simp only [realD], by simp only [PyData.showable, decide_eq_true_eq]; omega, by simp [PyData.depth], ?_⟩
  show (Str.ofString (toString i)).length ≤ j + 1
  rw [PySem.ofString_length]; exact PySem.int_text_length_le hj l
theorem sn_bool (b : Bool) : Sn 0 5 (.bool b) := by cases b <;> exact ⟨by simp only [realD], by simp only [PyData.showable], by simp [PyData.depth], by decide⟩
theorem sn_none : Sn 0 4 .none := ⟨by simp only [realD], by simp only [PyData.showable], by simp [PyData.depth], by decide⟩
theorem sn_str {x : Str} {k : Nat} (h : (reprText x).length ≤ k) : Sn 0 k (.str x) := ⟨by simp only [realD], by simp only [PyData.showable], by simp [PyData.depth], h⟩
end Dl
namespace Dl
open PySem PySem.Spec PyProof.Rows L2
/-! ### what no run takes back: a relation of states that every single step keeps -/
end Dl
namespace Dl
open PySem PySem.Spec PyProof.Rows L2
/-! ### a generator expression whose element may call, walked by all() -/
end Dl
namespace Dl
open PySem PySem.Spec PyProof.Rows L2
/-! ### the frame of a generator expression -/
end Dl
namespace Dl
open PySem PySem.Spec PyProof.Rows L2
/-! ### a generator expression's loop, by the words of its frame -/
end Dl
namespace Dl
open PySem PySem.Spec PyProof.Rows L2
/-! ### all(element for target in source), the element may call -/
end Dl
namespace Dl
open PySem PySem.Spec PyProof.Rows L2 GxR
end Dl
namespace Dl
open PySem PySem.Spec PyProof.Rows L2
/-! ### fractions with bounds -/
/-- a fraction in lowest terms whose parts are below 2 ^ k -/
structure Fk (k : Nat) (p q : Int) : Prop where
  f : Frac p q
  t : p.natAbs < 2 ^ k
  b : q.natAbs < 2 ^ k
theorem Fk.up {k m : Nat} {p q : Int} (h : Fk k p q) (hk : k ≤ m := by decide) : Fk m p q := ⟨h.f, two_le h.t hk, two_le h.b hk⟩
theorem Fk.pos {k : Nat} {p q : Int} (h : Fk k p q) : 0 < q := h.f.pos
/-- data that is itself when asked by == -/
def selfEq : PyData → Prop
  | .int _ => True
  | .str _ => True
  | .bool _ => True
  | x => SeqAt.shaped x = true ∧ x.eqv x = true
theorem gEqv_self {x : PyData} {P : DV → Prop} (h : selfEq x) (q : P (.d (.bool true))) : gEqv id x x P := by
  cases x with
  | int i => simpa [gEqv] using q
  | str i => simpa [gEqv] using q
  | bool i => simpa [gEqv] using q
  | none => obtain ⟨a, b⟩ := h; exact ⟨a, a, by rw [b]; exact q⟩
  | list xs => obtain ⟨a, b⟩ := h; exact ⟨a, a, by rw [b]; exact q⟩
  | tuple xs => obtain ⟨a, b⟩ := h; exact ⟨a, a, by rw [b]; exact q⟩
  | dict xs => obtain ⟨a, b⟩ := h; exact ⟨a, a, by rw [b]; exact q⟩
/-! ### xs[::-1] of a list -/
section
variable {X : Cx} {w : Wn} {e : Expr} {te : DT}
def tRevD (te : DT) : DT := fun env P => te env fun u => rd u fun x => match x with
  | .list xs => P (.fr xs.reverse)
  | _ => False
theorem rvE (te : DT) (env : List Sl) (P : DV → Prop) : tRevD te env P = te env fun u => rd u fun x => match x with
  | .list xs => P (.fr xs.reverse)
  | _ => False := propext ⟨fun h => h, fun h => h⟩
end
end Dl
namespace Dl
open PySem PySem.Spec PyProof.Rows L2 GxR
/-! ### all(element for x in source) as a reading -/
def capSl : Option Sl → Sl
  | some (.d x) => .d x
  | some (.raw v) => .raw v
  | some .bag => .bag
  | _ => .un
def capD (env : List Sl) (caps : List Nat) : List Sl := caps.map fun j => capSl env[j]?
def tAll1 (it : DIt) (te : DT) (caps : List Nat) : DT := fun env P => it env fun xs => ∃ f : PyData → Bool, (∀ x ∈ xs, te (.d x :: capD env caps) fun dv => dv = .d (.bool (f x))) ∧ P (.d (.bool (xs.all f)))
theorem alE {it : DIt} {te : DT} {caps : List Nat} {env : List Sl} {P : DV → Prop} : tAll1 it te caps env P = it env fun xs => ∃ f : PyData → Bool, (∀ x ∈ xs, te (.d x :: capD env caps) fun dv => dv = .d (.bool (f x))) ∧ P (.d (.bool (xs.all f))) := propext ⟨fun h => h, fun h => h⟩
/-! ### the top's tables -/
end Dl
namespace Dl
open PySem PySem.Spec PyProof.Rows L2 GxR
/-! ### one statement by itself: what is behind it stays a name -/
theorem seqG {t u : DS} {d : DK} {env : List Sl} (h : ∀ R : List Sl → Prop, (∀ e, u d e → R e) → t { d with nx := R } env) : tSeqD t u d env := h (u d) fun _ z => z
/-! ### data that may be asked by == -/
structure Ly (n : Nat) (x : PyData) : Prop where
  lay : x.canLay0 = true
  deep : x.depth ≤ n
theorem Ly.up {n m : Nat} {x : PyData} (h : Ly n x) (hn : n ≤ m := by decide) : Ly m x := ⟨h.lay, Nat.le_trans h.deep hn⟩
theorem ly_int (i : Int) : Ly 0 (.int i) := ⟨by simp only [PyData.canLay0], by simp [PyData.depth]⟩
theorem ly_all {n : Nat} : ∀ {xs : List PyData}, (∀ x ∈ xs, Ly n x) → PyData.canLayAll0 xs = true ∧ PyData.depthAll xs ≤ n
  | [], _ => by simp [PyData.canLayAll0, PyData.depthAll]
  | x :: xs, h => by
    obtain ⟨a, b⟩ := ly_all (xs := xs) fun y hy => h y (List.mem_cons_of_mem _ hy)
    have z := h x (List.mem_cons_self ..)
    refine ⟨by rw [PyData.canLayAll0, z.lay, a]; rfl, ?_⟩
    have := z.deep
    simp only [PyData.depthAll]; omega
theorem ly_lst {n : Nat} {xs : List PyData} (h : ∀ x ∈ xs, Ly n x) : Ly (n + 1) (.list xs) := by
  obtain ⟨a, b⟩ := ly_all h
  exact ⟨by rw [PyData.canLay0, a], by simp only [PyData.depth]; omega⟩
theorem Ly.shaped {n : Nat} {x : PyData} (h : Ly n x) (hn : n ≤ 64 := by decide) : SeqAt.shaped x = true := by
  have := h.deep
  simp only [SeqAt.shaped, h.lay, Bool.true_and, decide_eq_true_eq]; omega
theorem Ly.self {n : Nat} {x : PyData} (h : Ly n x) : x.eqv x = true := SeqAt.eqv_refl x h.lay
theorem Ly.selfEq {n : Nat} {x : PyData} (h : Ly n x) (hn : n ≤ 64 := by decide) : selfEq x := by
  cases x <;> first | exact True.intro | exact ⟨h.shaped hn, h.self⟩
/-! ### x in ys, of flat things -/
def toV : PyData → V
  | .bool b => .bl b
  | .int i => .int i
  | .str x => .str x
  | _ => .non
def flP : PyData → Bool
  | .none => true
  | .bool _ => true
  | .int _ => true
  | .str _ => true
  | _ => false
def gMemF (f : Bool → Bool) : G2 := fun x y P => match y with
  | .list ys => flP x = true ∧ ys.all flP = true ∧ P (.d (.bool (f (inV (toV x) (ys.map toV)))))
  | .tuple ys => flP x = true ∧ ys.all flP = true ∧ P (.d (.bool (f (inV (toV x) (ys.map toV)))))
  | _ => False
abbrev gMem : G2 := gMemF id
section
variable {X : Cx} {w : Wn}
theorem flat_v {K : PySem.W.Frag} {F : Hp} {v : V} {x : PyData} (h : Rp K F v x) (f : flP x = true) : v = toV x ∧ flatV v = true := by
  cases h <;> first | exact ⟨rfl, rfl⟩ | (simp only [flP] at f; cases f)
theorem flat_vs {K : PySem.W.Frag} {F : Hp} : ∀ {vs : List V} {xs : List PyData}, RpA K F vs xs → xs.all flP = true → vs = xs.map toV ∧ vs.all flatV = true
  | _, _, .nil, _ => ⟨rfl, rfl⟩
  | _, _, .cons h t, f => by
    rw [List.all_cons, Bool.and_eq_true] at f
    obtain ⟨a, b⟩ := flat_v h f.1
    obtain ⟨c, d⟩ := flat_vs t f.2
    exact ⟨by rw [List.map_cons, ← a, ← c], by rw [List.all_cons, b, d]; rfl⟩
theorem Rr.flat {K : PySem.W.Frag} {b : Bg} {F H : Hp} {v : V} {x : PyData} (h : Rr K b F H v x) (f : flP x = true) : v = toV x ∧ flatV v = true := by
  cases h with
  | d h => exact flat_v h f
  | o => simp only [flP] at f; cases f
theorem o_in : OpR X (compareOp .In) (lR X.K w.b gMem) := by
  intro pins s σ H x y v u Q I rx ry h
  obtain ⟨F, dx, dy, P, wd, hx, hy, g, q⟩ := h
  unfold gMem gMemF at g
  split at g
  · obtain ⟨l, vs, rfl, e1, r1⟩ := hy.lst wd.sub
    obtain ⟨rfl, f1⟩ := hx.flat g.1
    obtain ⟨rfl, f2⟩ := flat_vs r1 g.2.1
    exact op_in_seq pins s σ H _ _ v u Q I rx ry ⟨l, _, rfl, .inl (SqL.of e1), f1, f2, q _ _ F H wd.refl (res_d (.bl _)) g.2.2⟩
  · obtain ⟨l, vs, rfl, e1, r1⟩ := hy.tup wd.sub
    obtain ⟨rfl, f1⟩ := hx.flat g.1
    obtain ⟨rfl, f2⟩ := flat_vs r1 g.2.1
    exact op_in_seq pins s σ H _ _ v u Q I rx ry ⟨l, _, rfl, .inr e1, f1, f2, q _ _ F H wd.refl (res_d (.bl _)) g.2.2⟩
  · exact g.elim
/-! ### tuple(xs) -/
def cTuple : GC := fun us P => one us fun u => rd u fun x => match x with
  | .list xs => P (.d (.tuple xs))
  | .tuple xs => P (.d (.tuple xs))
  | _ => False
end
/-! ### xs[i], i from either end -/
/-! ### slices -/
theorem cut_from (xs : List PyData) (j : Nat) : cutD xs (some (j : Int)) none = xs.drop j := by
  unfold cutD
  rw [HT.sIx_none, HT.sIx_nat]
  by_cases h : j ≤ xs.length
  · rw [Nat.min_eq_left h, List.take_of_length_le (by simp)]
  · rw [Nat.min_eq_right (by omega), List.drop_of_length_le (Nat.le_refl _), List.drop_of_length_le (by omega), List.take_nil]
theorem cut_to (xs : List PyData) (j : Nat) : cutD xs none (some (j : Int)) = xs.take j := by
  unfold cutD
  rw [HT.sIx_none, HT.sIx_nat, List.drop_zero, Nat.sub_zero]
  by_cases h : j ≤ xs.length
  · rw [Nat.min_eq_left h]
  · rw [Nat.min_eq_right (by omega), List.take_of_length_le (Nat.le_refl _), List.take_of_length_le (by omega)]
end Dl
namespace Dl
open PySem PySem.Spec PyProof.Rows L2
/-! ### fractions over one bottom -/
/-- p / q, in lowest terms, is n / D -/
structure Nu (D n p q : Int) : Prop where
  f : Frac p q
  e : n * q = D * p
theorem Nu.le {D n p q : Int} (hD : D ≠ 0) (a : Nu D n p q) : q.natAbs ≤ D.natAbs ∧ p.natAbs ≤ n.natAbs := a.f.le hD a.e
theorem Nu.of {D p q : Int} (f : Frac p q) (h : q ∣ D) : Nu D (p * (D / q)) p q := by
  refine ⟨f, ?_⟩
  obtain ⟨c, rfl⟩ := h
  rw [Int.mul_ediv_cancel_left _ (Int.ne_of_gt f.pos), Int.mul_right_comm, Int.mul_comm p q, Int.mul_right_comm]
/-- fractions, as data, by what they are over one bottom -/
inductive NuL (D : Int) : List Int → List PyData → Prop
  | nil : NuL D [] []
  | cons {n p q : Int} {ns : List Int} {xs : List PyData} (a : Nu D n p q) (t : NuL D ns xs) : NuL D (n :: ns) (.tuple [.int p, .int q] :: xs)
namespace NuL
variable {D : Int}
theorem len : ∀ {ns : List Int} {xs : List PyData}, NuL D ns xs → ns.length = xs.length
  | _, _, .nil => rfl
  | _, _, .cons _ t => congrArg (· + 1) (len t)
theorem take : ∀ (k : Nat) {ns : List Int} {xs : List PyData}, NuL D ns xs → NuL D (ns.take k) (xs.take k)
  | 0, _, _, _ => .nil
  | _ + 1, _, _, .nil => .nil
  | k + 1, _, _, .cons a t => .cons a (take k t)
theorem drop : ∀ (k : Nat) {ns : List Int} {xs : List PyData}, NuL D ns xs → NuL D (ns.drop k) (xs.drop k)
  | 0, _, _, h => h
  | _ + 1, _, _, .nil => .nil
  | k + 1, _, _, .cons _ t => drop k t
theorem app : ∀ {ns ms : List Int} {xs ys : List PyData}, NuL D ns xs → NuL D ms ys → NuL D (ns ++ ms) (xs ++ ys)
  | _, _, _, _, .nil, h => h
  | _, _, _, _, .cons a t, h => .cons a (app t h)
theorem fr : ∀ {ns : List Int} {xs : List PyData}, NuL D ns xs → ∀ x ∈ xs, isFr x = true
  | _, _, .nil, _, h => absurd h List.not_mem_nil
  | _, _, .cons a t, x, h => by
    rcases List.mem_cons.mp h with rfl | h
    · exact isFr_of a.f
    · exact fr t x h
end NuL
/-! ### what a fraction is over D, as data -/
def numD (D : Int) : PyData → Int
  | .tuple [.int p, .int q] => p * (D / q)
  | _ => 0
/-- a fraction whose bottom divides D, its top not too far -/
def FrD (k : Nat) (D : Int) (x : PyData) : Prop := ∃ p q : Int, x = .tuple [.int p, .int q] ∧ Frac p q ∧ q ∣ D ∧ p.natAbs < 2 ^ k
theorem FrD.num {k m : Nat} {D : Int} {x : PyData} (h : FrD k D x) (hD : D.natAbs < 2 ^ m) : (numD D x).natAbs < 2 ^ (k + m) := by
  obtain ⟨p, q, rfl, f, d, hp⟩ := h
  have hq := f.pos
  refine natAbs_mul_lt hp (Nat.lt_of_le_of_lt ?_ hD)
  obtain ⟨c, rfl⟩ := d
  rw [Int.mul_ediv_cancel_left _ (Int.ne_of_gt hq), Int.natAbs_mul]
  exact Nat.le_mul_of_pos_left _ (by omega)
theorem FrD.up {k m : Nat} {D E : Int} {x : PyData} (h : FrD k D x) (hk : k ≤ m) (hD : D ∣ E) : FrD m E x := by
  obtain ⟨p, q, e, f, d, hp⟩ := h
  exact ⟨p, q, e, f, Int.dvd_trans d hD, two_le hp hk⟩
end Dl
namespace Dl
open PySem PySem.Spec PyProof.Rows L2
/-! ### a constant of the module that is data -/
/-! ### an if by itself: what is in its branches stays a name -/
theorem ifG {t : DTT} {p q : DS} {d : DK} {env : List Sl} (h : ∀ A B : Prop, (p d env → A) → (q d env → B) → t env fun k => if k = true then A else B) : tIfD t p q d env := h _ _ (fun z => z) fun z => z
end Dl
namespace Dl
open PySem PySem.Spec PyProof.Rows L2
/-! ### more of fractions over one bottom -/
/-- a fraction, bounds of its top and its bottom -/
structure Fb (k m : Nat) (p q : Int) : Prop where
  f : Frac p q
  t : p.natAbs < 2 ^ k
  b : q.natAbs < 2 ^ m
theorem Fb.up {k m j i : Nat} {p q : Int} (h : Fb k m p q) (h1 : k ≤ j := by decide) (h2 : m ≤ i := by decide) : Fb j i p q := ⟨h.f, two_le h.t h1, two_le h.b h2⟩
end Dl
namespace Dl
open PySem PySem.Spec PyProof.Rows L2
/-! ### a, b, c = x, y, z -/
theorem hu65 {k : Nat} {A : Around} (r : Room k A) : A.units + 65 < cLine := by have := r.un; omega
section
variable {X : Cx} {w : Wn} {pos : Pos}
def tPar3D (i j l : Nat) (ta : DA) : DS := fun d env => ta env fun us => allD us fun xs => match xs with
  | [x, y, z] => d.nx (((env.set i (.d x)).set j (.d y)).set l (.d z))
  | _ => False
/-! ### xs.index(y) -/
mutual
theorem dp_of {K : PySem.W.Frag} {H : Hp} : ∀ (x : PyData) (v : V), flatD x = true → Rp K H v x → Dp K H v x
  | .none, _, _, h => by cases h; exact .non
  | .bool b, _, _, h => by cases h; exact .bl _
  | .int b, _, _, h => by cases h; exact .int _
  | .str b, _, _, h => by cases h; exact .str _
  | .list xs, _, f, h => by
    cases h with
    | lst e r => exact .lst (SqL.of e) (dpa_of xs _ (by simpa only [flatD] using f) r)
  | .tuple xs, _, f, h => by
    cases h with
    | tup e r => exact .tup e (dpa_of xs _ (by simpa only [flatD] using f) r)
  | .dict _, _, f, _ => by simp only [flatD] at f; cases f
theorem dpa_of {K : PySem.W.Frag} {H : Hp} : ∀ (xs : List PyData) (vs : List V), flatA xs = true → RpA K H vs xs → DpAll K H vs xs
  | [], _, _, h => by cases h; exact .nil
  | x :: xs, _, f, h => by
    cases h with
    | cons a t =>
      rw [flatA, Bool.and_eq_true] at f
      exact .cons (dp_of x _ f.1 a) (dpa_of xs _ f.2 t)
end
def tIdxD (te : DT) (ta : DA) : DT := fun env P => te env fun u => rd u fun x => match x with
  | .list xs => ta env fun us => one us fun z => rd z fun y => SeqAt.shaped (.list xs) = true ∧ SeqAt.shaped y = true ∧ ∃ (j : Nat) (z : PyData), xs[j]? = some z ∧ z.eqv y = true ∧ (∀ m z', m < j → xs[m]? = some z' → z'.eqv y = false) ∧ P (.d (.int (j : Nat)))
  | _ => False
/-! ### xs.insert(i, y) -/
def tInsD (i : Nat) (ta tb : DT) : DS := fun d env => match env[i]? with
  | some (.ow l xs) => xs.length < 100000 ∧ ta env fun u => match u with
    | .d (.int k) => (0 ≤ k ∧ k < 100000) ∧ tb env fun dv => match frz dv with
      | .d x => d.nx (env.set i (.ow l (xs.take k.toNat ++ [x] ++ xs.drop k.toNat)))
      | _ => False
    | _ => False
  | _ => False
theorem ixE (te : DT) (ta : DA) (env : List Sl) (P : DV → Prop) : tIdxD te ta env P = te env fun u => rd u fun x => match x with
  | .list xs => ta env fun us => one us fun z => rd z fun y => SeqAt.shaped (.list xs) = true ∧ SeqAt.shaped y = true ∧ ∃ (j : Nat) (z : PyData), xs[j]? = some z ∧ z.eqv y = true ∧ (∀ m z', m < j → xs[m]? = some z' → z'.eqv y = false) ∧ P (.d (.int (j : Nat)))
  | _ => False := propext ⟨fun h => h, fun h => h⟩
end
end Dl
namespace Dl
open PySem PySem.Spec PyProof.Rows L2
/-! ### a generator expression's captured names -/
section
variable {X : Cx} {w : Wn} {e : Expr} {te : DT} {pos : Pos}
/-! ### slices of tuples and of texts -/
def tSlT (te : DT) (lo hi : DO) : DT := fun env P => te env fun u => rd u fun x => lo env fun l => hi env fun h => match x with
  | .tuple xs => P (.d (.tuple (cutD xs l h)))
  | _ => False
theorem cut_all {xs : List PyData} {lo hi : Option Int} (h : HT.sIx xs.length 0 lo = 0 ∧ HT.sIx xs.length xs.length hi = xs.length) : cutD xs lo hi = xs := by
  unfold cutD
  rw [h.1, h.2, List.drop_zero, Nat.sub_zero, List.take_length]
theorem d_slT {lo hi : Option Expr} {tl th : DO} {p2 : Pos} (he : DPE X w e te) (hl : PO X lo (lfO X.K w tl)) (hh : PO X hi (lfO X.K w th)) : DPE X w (.Subscript e (.Slice lo hi none p2) pos) (tSlT te tl th) :=
  pe_weak (pe_slice sl_tupA he hl hh) fun σ H Q ⟨env, F, P, r, h, q⟩ => ⟨env, F, _, r, h, fun dv v F1 H1 s1 r1 h1 => by
    obtain ⟨x, x1, h1⟩ := rd_ok r1 h1
    refine ⟨env, F1, _, r.step s1, h1, fun l F2 H2 s2 h2 => ⟨env, F2, _, (r.step s1).step s2, h2, fun u F3 H3 s3 h3 => ?_⟩⟩
    have s13 := (s1.trans s2).trans s3
    split at h3
    · next xs =>
      have x3 := (x1.step s2).step s3
      obtain ⟨m, vs, rfl, e, ra⟩ := x3.tup s3.sub
      refine ⟨m, vs, rfl, e, fun hz => ?_, fun hz => res_newT s3.wd (cut_rp ra l u) (fun dv v F4 H4 s4 r4 h4 => q dv v F4 H4 (s13.trans s4) (r4.early s13) h4) h3⟩
      rw [ra.len] at hz
      rw [cut_all hz] at h3
      cases x3 with
      | d x3 => exact q (.d (.tuple xs)) _ F3 H3 s13 x3 h3
    · exact h3.elim⟩
def tSlS (te : DT) (lo hi : DO) : DT := fun env P => te env fun u => rd u fun x => lo env fun l => hi env fun h => match x with
  | .str z => z.length ≤ 100000 ∧ P (.d (.str (cutS z l h)))
  | _ => False
theorem d_slS {lo hi : Option Expr} {tl th : DO} {p2 : Pos} (he : DPE X w e te) (hl : PO X lo (lfO X.K w tl)) (hh : PO X hi (lfO X.K w th)) : DPE X w (.Subscript e (.Slice lo hi none p2) pos) (tSlS te tl th) :=
  pe_weak (pe_slice sl_str he hl hh) fun σ H Q ⟨env, F, P, r, h, q⟩ => ⟨env, F, _, r, h, fun dv v F1 H1 s1 r1 h1 => by
    obtain ⟨x, x1, h1⟩ := rd_ok r1 h1
    refine ⟨env, F1, _, r.step s1, h1, fun l F2 H2 s2 h2 => ⟨env, F2, _, (r.step s1).step s2, h2, fun u F3 H3 s3 h3 => ?_⟩⟩
    split at h3
    · next z =>
      cases x1.str
      exact ⟨z, rfl, lim_le h3.1, q (.d (.str _)) _ F3 H3 ((s1.trans s2).trans s3) (Rp.str _) h3.2⟩
    · exact h3.elim⟩
/-! ### sorted of numbers -/
def cSorted : GC := fun us P => one us fun u => rd u fun x => match x with
  | .list xs => ∃ ns : List Int, xs = ns.map PyData.int ∧ ∀ ms : List Int, ms.Perm ns → ms.Pairwise (· ≤ ·) → P (.fr (ms.map PyData.int))
  | _ => False
theorem k_sorted : CallR X (.builtin "sorted") (lC X.K w.b cSorted) := by
  intro pins s σ H vs us Q I r h
  obtain ⟨F, dvs, P, wd, ar, g, q⟩ := h
  obtain ⟨u, v, rfl, a, g⟩ := one_ok ar g
  obtain ⟨x, hx, g⟩ := arr_rr a g
  split at g
  · obtain ⟨ns, rfl, g⟩ := g
    obtain ⟨l, vs, rfl, e, r1⟩ := hx.lst wd.sub
    have ev := r1.ofInts
    subst ev
    exact cr_sortedI pins s σ H _ us Q I r ⟨l, ns, rfl, SqL.of e, fun ms p h1 h2 hp => res_new wd (RpA.ints ms) q (g ms h1 h2) p hp⟩
  · exact g.elim
/-! ### tuples of numbers by < -/
def gLtT : G2 := fun x y P => match x, y with
  | .tuple xs, .tuple ys => ∃ ns ms : List Int, xs = ns.map PyData.int ∧ ys = ms.map PyData.int ∧ P (.d (.bool (HT.lexLt ns ms)))
  | _, _ => False
/-! ### x in ys, of nested data -/
def gMemD : G2 := fun x y P => match y with
  | .list ys => SeqAt.shaped x = true ∧ SeqAt.shaped (.list ys) = true ∧ P (.d (.bool (ys.any fun z => z.eqv x)))
  | _ => False
theorem o_inD (hu : X.A.units + 65 < cLine) : OpR X (compareOp .In) (lR X.K w.b gMemD) := by
  intro pins s σ H x y v u Q I rx ry h
  obtain ⟨F, dx, dy, P, wd, hx, hy, g, q⟩ := h
  unfold gMemD at g
  split at g
  · obtain ⟨g1, g2, g3⟩ := g
    exact op_inD hu pins s σ H _ _ v u Q I rx ry ⟨_, _, dp_of _ _ (flat_of_can _ (SeqAt.canLay_of_shaped g1)) (hx.all wd.sub), dp_of _ _ (flat_of_can _ (SeqAt.canLay_of_shaped g2)) (hy.all wd.sub), g1, g2, q _ _ F H wd.refl (res_d (.bl _)) g3⟩
  · exact g.elim
end
end Dl
namespace Dl
open PySem PySem.Spec PyProof.Rows L2
section
variable {X : Cx} {w : Wn} {pos : Pos}
/-! ### {'a': 1} -/
def tDict1 (s : Str) (i : Int) : DT := fun _ P => P (.d (.dict [(.str s, .int i)]))
/-! ### sep.join(xs) -/
theorem RpA.ofStrs {K : PySem.W.Frag} {F : Hp} : ∀ {vs : List V} {ns : List Str}, RpA K F vs (ns.map PyData.str) → vs = ns.map V.str
  | _, [], .nil => rfl
  | _, n :: ns, .cons h t => by
    cases h
    rw [RpA.ofStrs t]
    rfl
def tJoin (to te : DT) : DT := fun env P => to env fun u => rd u fun x => match x with
  | .str a => te env fun v => rd v fun y => match y with
    | .list zs => ∃ ys : List Str, zs = ys.map PyData.str ∧ (ys.map (·.length)).sum + ys.length * a.length ≤ 100000 ∧ P (.d (.str (Txt.join a ys)))
    | _ => False
  | _ => False
theorem d_join {o e : Expr} {to te : DT} {apos : Pos} (ho : DPE X w o to) (he : DPE X w e te)
    (base : ∀ {t1 t2 : TE}, PE X o t1 → PE X e t2 → PE X (.Call (.Attribute o "join" apos) [e] [] pos) (tM1 (fun x xs H Q => ∃ a p, ∃ ys : List Str, x = .str a ∧ xs = [.ref p] ∧ (SqL X.K H p (ys.map V.str) ∨ SqT X.K H p (ys.map V.str)) ∧ (ys.map (·.length)).sum + ys.length * a.length ≤ 16777216 ∧ Q (.str (Txt.join a ys)) H) t1 t2)) :
    DPE X w (.Call (.Attribute o "join" apos) [e] [] pos) (tJoin to te) :=
  pe_weak (base ho he) fun σ H Q ⟨env, F, P, r, h, q⟩ => ⟨env, F, _, r, h, fun dv v F1 H1 s1 r1 h1 => by
    obtain ⟨x, x1, h1⟩ := rd_ok r1 h1
    split at h1
    · next a =>
      cases x1.str
      refine ⟨⟨a, rfl⟩, env, F1, _, r.step s1, h1, fun dv2 v2 F2 H2 s2 r2 h2 => ?_⟩
      obtain ⟨y, y1, h2⟩ := rd_ok r2 h2
      split at h2
      · next zs =>
        obtain ⟨ys, rfl, g1, g2⟩ := h2
        obtain ⟨l, vs, rfl, e1, ra⟩ := y1.lst s2.sub
        have ev := ra.ofStrs
        subst ev
        exact ⟨a, l, ys, rfl, rfl, .inl (SqL.of e1), by omega, q (.d (.str _)) _ F2 H2 (s1.trans s2) (Rp.str _) g2⟩
      · exact h2.elim
    · exact h1.elim⟩
theorem pickS {z : Str} {r : Int} {P : DV → Prop} (hz : z.length ≤ 100000) (h0 : 0 ≤ r) (h1 : r < z.cps.toList.length) (h : ∀ c, c ∈ z.cps.toList → P (.d (.str ⟨#[c]⟩))) : gIx (.str z) (.int r) P := by
  have hr : r.toNat < z.cps.toList.length := by omega
  have ez : r = ((r.toNat : Nat) : Int) := by omega
  have e : atI z.cps.toList r = some z.cps.toList[r.toNat] := atD ez (List.getElem?_eq_getElem hr)
  refine ⟨hz, ?_⟩
  rw [e]
  exact h _ (List.getElem_mem hr)
end
end Dl
namespace Dl
open PySem PySem.Spec PyProof.Rows L2
/-! ### refusals: a promise with two ends -/
/-- what is wished of an exception: its class by its name in the module, its one field's name and datum -/
abbrev XD := Str → Str → PyData → Prop
abbrev DSpX := List DV → (DV → Prop) → XD → Prop
/-- what leaves a def by an exception, in the data's words; one without a field is told by no name and None -/
structure XEnd (mg : Str → Option Value) (K : PySem.W.Frag) (b : Bg) (F H : Hp) (E : XK) (R : XD) : Prop where
  fl : ∀ c C n x v d F' H', mg c = some (.ref C) → Stp K b F H F' H' → H' d = some (.xd [(n, v)]) → Rp K F' v x → R c n x → E (.ref C) (some d) H'
  no : ∀ c C F' H', mg c = some (.ref C) → Stp K b F H F' H' → R c "" .none → E (.ref C) none H'
theorem XEnd.none {mg : Str → Option Value} {K : PySem.W.Frag} {b : Bg} {F H : Hp} {E : XK} : XEnd mg K b F H E fun _ _ _ => False := ⟨fun _ _ _ _ _ _ _ _ _ _ _ _ h => h.elim, fun _ _ _ _ _ _ h => h.elim⟩
def tUseX (sp : DSpX) (R : List Sl → XD) (t : DA) : DT := fun env P => t env fun us => anyOw us = [] ∧ sp (us.map dat) P (R env)
section
variable {X : Cx} {w : Wn} {CX : CXT} {k : Nat} {f : Addr} {E : L2.St → XK} {R : List Sl → XD} {ds : DSpX} {x : Str} {p pos : Pos} {e : Expr} {es : List Expr} {t : DA}
/-- raise C(e), C the class of name c in the module, of one field n -/
def tRaiseX (R : List Sl → XD) (c n : Str) (te : DT) : DS := fun _ env => te env fun u => match u with
  | .d x => R env c n x
  | _ => False
end
/-! ### a def that may refuse -/
end Dl
namespace Dl
open PySem PySem.Spec PyProof.Rows L2
/-! ### a refusal of one field made, and raised -/
end Dl
namespace Dl
open PySem PySem.Spec PyProof.Rows L2
/-! ### a def that takes any number of arguments and may refuse -/
end Dl
namespace Dl
open PySem PySem.Spec PyProof.Rows L2
/-! ### try .. except C as n -/
section
variable {K : PySem.W.Frag} {b : Bg} {F₀ H₀ F₁ H₁ F H : Hp} {env : List Sl} {σ : L2.St}
theorem Rel.unroot (s : Stp K b F₀ H₀ F₁ H₁) (r : Rel K b F₁ H₁ env σ F H) : Rel K b F₀ H₀ env σ F H := by
  refine ⟨r.len, s.trans r.st, fun i z h => ?_, r.own⟩
  have q := r.at' i z h
  cases z with
  | ow l xs =>
    obtain ⟨q1, q2, q3, q4, q5⟩ := q
    exact ⟨q1, s.back q4 q2, q3, q4, q5⟩
  | tr p S x =>
    obtain ⟨v, e, nd, k, mr, q⟩ := q
    exact ⟨v, e, nd, fun a m => ⟨s.back (k a m).2.2 (k a m).1, (k a m).2⟩, mr, q⟩
  | tv v S x =>
    obtain ⟨e, nd, k, mr, q⟩ := q
    exact ⟨e, nd, fun a m => ⟨s.back (k a m).2.2 (k a m).1, (k a m).2⟩, mr, q⟩
  | _ => exact q
end
theorem Fit.root {K : PySem.W.Frag} {w : Wn} {F₁ H₁ : Hp} {d : DK} {D : Ends} (st : Stp K w.b w.F w.H F₁ H₁) (f : Fit K w F₁ d D) : Fit K ⟨w.b, F₁, H₁⟩ F₁ d D :=
  ⟨fun env σ F H r z => f.nx env σ F H (Rel.unroot st r) z, fun env σ F H r z => f.bk env σ F H (Rel.unroot st r) z, fun env σ F H r z => f.ct env σ F H (Rel.unroot st r) z, fun dv v F H s r z => f.rt dv v F H (st.trans s) (Res.early st r) z⟩
/-- the ends behind a suite: the exception's name is forgotten -/
def forgotD (i : Nat) (d : DK) : DK := { nx := fun e => d.nx (e.set i .un), rt := d.rt, bk := fun e => d.bk (e.set i .un), ct := fun e => d.ct (e.set i .un) }
def forgotE (i : Nat) (D : Ends) : Ends := { nx := fun σ' H' => D.nx (σ'.set i none) H', rt := D.rt, bk := fun σ' H' => D.bk (σ'.set i none) H', ct := fun σ' H' => D.ct (σ'.set i none) H' }
theorem Fit.forget {K : PySem.W.Frag} {w : Wn} {F₁ : Hp} {d : DK} {D : Ends} (i : Nat) (f : Fit K w F₁ d D) : Fit K w F₁ (forgotD i d) (forgotE i D) :=
  ⟨fun env σ F H r z h => f.nx _ _ F H (r.forget i) z h, fun env σ F H r z h => f.bk _ _ F H (r.forget i) z h, fun env σ F H r z h => f.ct _ _ F H (r.forget i) z h, f.rt⟩
end Dl
namespace Dl
open PySem PySem.Spec PyProof.Rows L2
/-! ### in an except suite: e.f and isinstance(e, C) -/
section
variable {X : Cx} {w : Wn} {a C dd : Addr} {oe : Obj} {pn : List (Addr × Obj)} {n x : Str} {i : Nat} {y : PyData} {v : V} {p pos p2 : Pos} {e2 : Expr}
def tAtX (i : Nat) (a : Addr) (y : PyData) : DT := fun env P => env[i]? = some (.raw (.ref a)) ∧ P (.d y)
def tIsX (i : Nat) (a : Addr) (b : Bool) : DT := fun env P => env[i]? = some (.raw (.ref a)) ∧ P (.d (.bool b))
end
end Dl
namespace Dl
open PySem PySem.Spec PyProof.Rows L2
/-! ### readings of what may refuse, for the walk -/
section
variable {sp : DSpX} {R : List Sl → XD} {t : DA} {env : List Sl} {P : DV → Prop} {c n : Str} {te : DT} {d : DK}
theorem uxE : tUseX sp R t env P = t env fun us => anyOw us = [] ∧ sp (us.map dat) P (R env) := propext ⟨fun h => h, fun h => h⟩
def isDt : DV → (PyData → Prop) → Prop
  | .d x, k => k x
  | .fr _, _ => False
  | .ow _ _, _ => False
  | .raw _, _ => False
  | .bag, _ => False
  | .ft _, _ => False
  | .tr _ _ _, _ => False
theorem raE : tRaiseX R c n te d env = te env fun u => isDt u (R env c n) := by
  unfold tRaiseX
  congr 1
  funext u
  cases u <;> rfl
theorem isE (i : Nat) (a : Addr) (b : Bool) : tIsX i a b env P = (env[i]? = some (.raw (.ref a)) ∧ P (.d (.bool b))) := propext ⟨fun h => h, fun h => h⟩
theorem axE (i : Nat) (a : Addr) (y : PyData) : tAtX i a y env P = (env[i]? = some (.raw (.ref a)) ∧ P (.d y)) := propext ⟨fun h => h, fun h => h⟩
end
/-- a list taken apart into names -/
def gtLD (n : Nat) (gs : DGs) : DG := fun x env k => match x with
  | .list xs => xs.length = n ∧ gs xs env k
  | _ => False
/-- a list comprehension without a condition: what holds of each item -/
theorem lc_all {g : DG} {te : DT} {env : List Sl} {P : DV → Prop} (Pr : PyData → Prop) {xs : List PyData} (hl : xs.length ≤ 100000)
    (hend : ∀ ys : List PyData, ys.length = xs.length → (∀ y ∈ ys, Pr y) → P (.fr ys))
    (hstep : ∀ x ∈ xs, ∀ R : PyData → Prop, (∀ y, Pr y → R y) → g x env fun e2 => te e2 fun dv => match frz dv with
      | .d y => R y
      | _ => False) : lcD g (fun _ P => P true) te env xs [] P := by
  refine lcD_ind (fun zs acc => (∀ z ∈ zs, z ∈ xs) ∧ (∀ y ∈ acc, Pr y) ∧ acc.length + zs.length = xs.length) (fun acc hI => ?_) (fun x zs acc R hI hR => ?_) _ _ ⟨fun _ z => z, fun _ h => absurd h List.not_mem_nil, by simp⟩
  · obtain ⟨_, ha, e⟩ := hI
    exact hend acc (by simpa using e) ha
  · obtain ⟨hz, ha, e⟩ := hI
    rw [List.length_cons] at e
    refine hstep x (hz x (List.mem_cons_self ..)) (fun y => acc.length < 100000 ∧ R (acc ++ [y])) fun y hy => ⟨by omega, hR _ ⟨fun z hm => hz z (List.mem_cons_of_mem _ hm), fun z hm => ?_, by rw [List.length_append, List.length_singleton]; omega⟩⟩
    rcases List.mem_append.mp hm with hm | hm
    · exact ha z hm
    · rw [List.mem_singleton.mp hm]; exact hy
/-- .. where the items' values are known -/
theorem lc_map {g : DG} {te : DT} {env : List Sl} {P : DV → Prop} (f : PyData → PyData) {xs : List PyData} (hl : xs.length ≤ 100000)
    (hend : P (.fr (xs.map f)))
    (hstep : ∀ x ∈ xs, ∀ R : PyData → Prop, R (f x) → g x env fun e2 => te e2 fun dv => match frz dv with
      | .d y => R y
      | _ => False) : lcD g (fun _ P => P true) te env xs [] P := by
  refine lcD_ind (fun zs acc => (∀ z ∈ zs, z ∈ xs) ∧ acc ++ zs.map f = xs.map f) (fun acc hI => ?_) (fun x zs acc R hI hR => ?_) _ _ ⟨fun _ z => z, rfl⟩
  · obtain ⟨_, e⟩ := hI
    rw [List.map_nil, List.append_nil] at e
    rw [e]; exact hend
  · obtain ⟨hz, e⟩ := hI
    have e2 := congrArg List.length e
    simp only [List.length_append, List.length_map, List.length_cons] at e2
    refine hstep x (hz x (List.mem_cons_self ..)) (fun y => acc.length < 100000 ∧ R (acc ++ [y])) ⟨by omega, hR _ ⟨fun z hm => hz z (List.mem_cons_of_mem _ hm), ?_⟩⟩
    rw [← e, List.map_cons, List.append_assoc]
    rfl
end Dl
namespace Dl
open PySem PySem.Spec PyProof.Rows L2
/-! ### raise C() -/
section
variable {X : Cx} {w : Wn} {E : L2.St → XK} {R : List Sl → XD} {C : Addr} {bmB : List Value} {B newId initId : String} {x : Str} {p pos pos2 : Pos}
def tRaise0 (R : List Sl → XD) (c : Str) : DS := fun _ env => R env c "" .none
end
/-! ### objects of classes of the module -/
section
variable {X : Cx} {w : Wn} {e : Expr} {te : DT} {f : Str} {pos : Pos}
/-- e.f, e an object of one of the classes cs -/
def tFldD (cs : List Str) (f : Str) (te : DT) : DT := fun env P => te env fun u => ∃ c ds y, u = .d (obD c ds) ∧ c ∈ cs ∧ ds.lookup f = some y ∧ P (.d y)
/-- self.f = e in an __init__: f is new -/
def tOstD (cs : List Str) (i : Nat) (f : Str) (te : DT) : DS := fun d env => te env fun dv => match frz dv, env[i]? with
  | .d x, some (.tr false S y) => ∃ c ds, y = obD c ds ∧ c ∈ cs ∧ f ∉ ds.map Prod.fst ∧ ds.length < 900 ∧ d.nx (env.set i (.tr false S (obD c (ds ++ [(f, x)]))))
  | _, _ => False
theorem OtA.snoc {K : PySem.W.Frag} {F H : Hp} {v : V} {x : PyData} (h : Rp K F v x) : ∀ {T : List Addr} {vs : List V} {xs : List PyData}, OtA K F H false T vs xs → OtA K F H false T (vs ++ [v]) (xs ++ [x])
  | _, _, _, .nil => .cons (S := []) (T := []) (.leaf h fun z => nomatch z) .nil
  | _, _, _, .cons (S := S) (T := T) a t => .cons a (OtA.snoc h t)
end
/-! a def __init__, and C(..) -/
abbrev DSpI := List DV → (List (Str × PyData) → Prop) → XD → Prop
end Dl
namespace Dl
open PySem PySem.Spec PyProof.Rows L2
section
variable {X : Cx} {w : Wn} {k : Nat} {f C : Addr} {E : L2.St → XK} {R : List Sl → XD} {x m : Str} {p pos apos : Pos} {e o : Expr} {es : List Expr} {t : DA} {te : DT}
/-- C(..), C the class of name c in the module, with an __init__ of its own -/
def tMakeD (sp : DSpI) (c : Str) (R : List Sl → XD) (t : DA) : DT := fun env P => t env fun us => anyOw us = [] ∧ sp (us.map dat) (fun ds => P (.d (obD c ds))) (R env)
/-- o.m(..), o an object of the class of name c -/
def tMethX (c m : Str) (sp : DSpX) (R : List Sl → XD) (te : DT) (t : DA) : DT := fun env P => te env fun u => ∃ ds, u = .d (obD c ds) ∧ m ∉ ds.map Prod.fst ∧ t env fun us => anyOw us = [] ∧ sp (.d (obD c ds) :: us.map dat) P (R env)
/-- a promise without refusals, as one with them -/
def xOf (sp : DSp) : DSpX := fun us P _ => sp us P
/-- one of two classes -/
def tEith (t u : DT) : DT := fun env P => t env P ∨ u env P
/-- isinstance(o, D), o an object of one of the classes cs -/
def tIsC (cs : List Str) (d : Str) (te : DT) : DT := fun env P => te env fun u => ∃ c ds, u = .d (obD c ds) ∧ c ∈ cs ∧ P (.d (.bool (c == d)))
/-! constant dicts of the module, keys texts -/
structure KCon (K : PySem.W.Frag) (w : World) (d : Addr) (ds : List (Str × PyData)) : Prop where
  ex : ∃ (es : Array DictEntry) (n : Nat), KDict K w d es n
  look : ∀ z, match ds.lookup z with
    | some y => ∃ u v, PySem.W.nsIn K d z = some (some u) ∧ RelV v u ∧ ∀ F, Rp K F v y
    | none => PySem.W.nsIn K d z = some none
/-- e in D -/
def tInK (ks : List (Str × PyData)) (te : DT) : DT := fun env P => te env fun u => ∃ z, u = .d (.str z) ∧ P (.d (.bool (ks.lookup z).isSome))
/-- D[e] -/
def tItK (ks : List (Str × PyData)) (te : DT) : DT := fun env P => te env fun u => ∃ z y, u = .d (.str z) ∧ ks.lookup z = some y ∧ P (.d y)
theorem d_itK {ks : List (Str × PyData)} {d : Addr} {p2 : Pos} {x2 : Str} (D : KCon X.K X.w d ks) (hg : Gl X x2) (hm : X.mg x2 = some (.ref d)) (he : DPE X w o te) (hs : PlainIx o := by exact fun _ _ => rfl) (hdb : (x2 == ("__debug__" : Str)) = false := by decide) : DPE X w (.Subscript (.Name x2 p2) o pos) (tItK ks te) := by
  obtain ⟨⟨es, n, kd⟩, lk⟩ := D
  have hx : PE X (.Name x2 p2) (tC (.ref d)) := pe_glob (v := .ref d) hg hm rfl hdb
  refine pe_weak (pe_ix ix_kdict hx he hs) fun σ H Q ⟨env, F, P, r, h, q⟩ => ?_
  refine ⟨env, F, _, r, h, fun dv v F1 H1 st r1 ⟨z, y, e1, e2, h1⟩ => ?_⟩
  subst e1
  cases (show Rp X.K F1 v (.str z) from r1)
  have := lk z
  rw [e2] at this
  obtain ⟨u, v0, h3, h4, h5⟩ := this
  exact ⟨d, z, v0, rfl, rfl, ⟨es, n, u, kd.at_, kd.lit, h3, h4⟩, q (.d y) v0 F1 H1 st (h5 F1) h1⟩
end
end Dl
namespace Dl
open PySem PySem.Spec PyProof.Rows L2
/-! ### xs.count(k), whole numbers -/
section
variable {X : Cx} {w : Wn}
def tCntD (te : DT) (ta : DA) : DT := fun env P => te env fun u => rd u fun x => match x with
  | .list xs => ta env fun us => one us fun z => rd z fun y => ∃ (ns : List Int) (k : Int), xs = ns.map .int ∧ y = .int k ∧ P (.d (.int (ns.count k : Nat)))
  | _ => False
/-! ### a list times a number -/
def gMulL : G2 := fun x y P => match x, y with
  | .list xs, .int k => 0 ≤ k ∧ k < 1000 ∧ xs.length * k.toNat ≤ 100000 ∧ P (.fr (List.replicate k.toNat xs).flatten)
  | _, _ => False
end
end Dl
namespace Dl
open PySem PySem.Spec PyProof.Rows L2
/-! ### a law's end, the facts of the module told by names -/
theorem law_endX {l : PySem.W.OpenLaw} {k : Nat} {q : Program} {loose : List Str} {XP : (Str → Option Value) → Heap → Prop} {YP : World → Heap → Prop} {d : DefRec} {sp : PySem.W.Frag → List Addr → Sp}
    (hn : l.most = some 63) (hdf : d.params.defaults = []) (room : Room k callerA) (ag : callerA.guards = some [])
    (F : ∀ (w : World) (mg mb : Str → Option Value) (lo : List Str) (mean : ExcName → Option Value) (fa : Addr) (h : Heap), YP w h → PyProof.Rows.Top q lo mean mg mb h → mg d.name = some (.ref fa) →
      ∃ (K : PySem.W.Frag) (cs : List (Addr × Addr)), K.In h ∧ Tabs K h cs ∧ ∀ base : Heap, K.In base → base.Ns mainGlobals mg → (∀ p ∈ cs, GxR.TabB base mg p.1 p.2) → Fg l.prog w K mg base (L2.CX l.prog w) k fa (sp K (cs.map Prod.snd)))
    (hsp : ∀ (K : PySem.W.Frag) (H : Hp) (a : Addr) (ns : List Int) (ts : List Addr), ns.length ≤ 63 → (∀ t ∈ ts, GxR.TabG H t) → SqL K H a (ns.map V.int) → sp K ts [.ref a] H (fun v _ => v = .bl true) E0) :
    PySem.W.WalkO q loose XP YP l.row.toRowW d [] (fun f vs => PySem.call f vs) := by
  refine Att.attach_callB hn hdf fun w s0 st mg mb fa o pm cd doc a vs ns G Y ho hd hcd hmg hobj hints hlen hbits hg => ?_
  obtain ⟨K, cs, kin, T, fg⟩ := F w mg mb _ _ fa _ Y G.T hmg
  obtain ⟨H, base, seq, tabs, e0, kb, nb, tb, old⟩ := opening (P := l.prog) (w := w) kin G.T.g G.T.b G.T.builtins G.T.nolimit hg hobj hints (Nat.le_trans hlen (by decide)) T G.T.bmain
  have tg : ∀ t ∈ cs.map Prod.snd, GxR.TabG H t := fun t ht => by
    obtain ⟨p, hp, rfl⟩ := List.mem_map.mp ht
    exact ⟨#[], tabs p hp, by simp [TriplesOk]⟩
  refine codeAny_mono (fg base kb nb tb callerA [] st H [.ref a] [.ref a] _ _ ag room e0 (.cons rfl .nil) (hsp _ H a ns _ hlen tg seq)) fun r s2 got => ?_
  match r, got with
  | .error e, got =>
    obtain ⟨_, _, _, _, _, _, _, _, _, _, _, _, z⟩ := got
    exact z.elim
  | .ok (.ret u), got =>
    obtain ⟨v, H', os, bare, un, ok', rv, e⟩ := got
    subst e
    obtain rfl : u = Value.bool true := rv
    exact ⟨rfl, old H' _ un ok', os, bare⟩
section
variable {fa : List He.Fa} {fn : List He.DefD} {ts : List He.Tab} {tf : List He.Defn} {ex : PySem.W.Frag → Bool} {w : World} {h : Heap} {K : PySem.W.Frag}
theorem tabsX (X : K.In h) (c : He.SaysX fa fn ts tf ex w h K) : Tabs K h (tf.map (He.cT K)) := by
  refine ⟨fun p hp => ?_, fun p hp => ?_, fun p hp => ?_⟩ <;> obtain ⟨d, hd, rfl⟩ := List.mem_map.mp hp
  · exact c.empty d hd
  · exact PySem.W.codeHd_of_K X (c.hd d hd)
  · exact c.out d hd
theorem fun_ofD {x qual : Str} {st : Stmt} {f : Addr} {fd : FuncData} (F : FunD K x qual (defArgs st) (defBody st) (defScope st) [] [] f fd) : L2.Fun K x qual st f fd := by
  obtain ⟨oc, od, dV, kV, doc, pm, an, cdv, ct, osl, e, lk, cd, dv, _⟩ := F.ex
  rcases dv with ⟨_, rfl⟩ | ⟨z, _⟩
  · exact ⟨⟨oc, od, kV, doc, pm, an, cdv, ct, osl, e, lk, cd⟩, F.kp⟩
  · exact absurd rfl z
end
/-! ### a constant dict of the module, told by its keys and its values -/
inductive DatE (K : PySem.W.Frag) : List (Str × He.Dv) → List (Str × PyData) → Prop
  | nil : DatE K [] []
  | cons {x : Str} {v : He.Dv} {y : PyData} {kvs : List (Str × He.Dv)} {ds : List (Str × PyData)} (h : ∀ F, Rp K F (v.v K) y) (r : DatE K kvs ds) : DatE K ((x, v) :: kvs) ((x, y) :: ds)
section
variable {K : PySem.W.Frag} {w : World} {d : Addr}
theorem DatE.get {z : Str} : ∀ {kvs : List (Str × He.Dv)} {ds : List (Str × PyData)}, DatE K kvs ds → (match ds.lookup z with
    | some y => ∃ v, (z, v) ∈ kvs ∧ ∀ F, Rp K F (v.v K) y
    | none => z ∉ kvs.map Prod.fst)
  | _, _, .nil => by simp
  | (x, v) :: kvs, (_, y) :: ds, .cons h r => by
    have ih := DatE.get (z := z) r
    rw [List.lookup_cons]
    by_cases e : z = x
    · subst e
      simp only [beq_self_eq_true]
      exact ⟨v, List.mem_cons_self .., h⟩
    · have e1 : (z == x) = false := by simpa using e
      rw [e1]
      cases q : ds.lookup z with
      | some y' =>
        rw [q] at ih
        obtain ⟨v', m, r'⟩ := ih
        exact ⟨v', List.mem_cons_of_mem _ m, r'⟩
      | none =>
        rw [q] at ih
        simp only [List.map_cons, List.mem_cons, not_or]
        exact ⟨e, ih⟩
theorem keys_none {P : Params} {z : Str} : ∀ {es : List DictEntry} {ks : List Str}, es.map He.keyOf = He.keysIn P ks → z ∉ ks → es.find? (fun e => e.key.isStr z) = none ∧ es.any (·.refKey) = false
  | [], _, _, _ => ⟨rfl, rfl⟩
  | e :: r, [], h, _ => by cases h
  | e :: r, k :: ks, h, n => by
    have h1 : He.keyOf e :: r.map He.keyOf = some (k, PyData.keyHash P k) :: He.keysIn P ks := h
    injection h1 with h2 h3
    rw [List.mem_cons, not_or] at n
    obtain ⟨i1, i2⟩ := keys_none h3 n.2
    unfold He.keyOf at h2
    split at h2
    · next x t q =>
      obtain ⟨h5, _⟩ := Prod.mk.inj (Option.some.inj h2)
      subst h5
      have hr : e.refKey = false := by
        unfold DictEntry.refKey
        rw [q]
      have hs : e.key.isStr z = false := by
        rw [q]
        show (x == z) = false
        simpa using fun q : x = z => n.1 q.symm
      exact ⟨by rw [List.find?_cons, hs]; exact i1, by rw [List.any_cons, hr, i2]; rfl⟩
    · cases h2
theorem kcon_of {ks : List Str} {kvs : List (Str × He.Dv)} {ds : List (Str × PyData)} (h : He.dicW K d = some (He.keysIn w.params ks)) (hk : kvs.map Prod.fst = ks) (hv : He.valsB K d kvs = true) (hd : DatE K kvs ds) : KCon K w d ds := by
  obtain ⟨es, n, kd⟩ := He.dicW_ok h
  refine ⟨⟨es, n, kd⟩, fun z => ?_⟩
  have g := hd.get (z := z)
  cases e : ds.lookup z with
  | some y =>
    rw [e] at g
    obtain ⟨v, m, r⟩ := g
    obtain ⟨u, e1, e2⟩ := He.valsB_ok hv m
    exact ⟨u, _, e1, e2, r⟩
  | none =>
    rw [e] at g
    rw [hk] at g
    have e1 : es.toList.map He.keyOf = He.keysIn w.params ks := by
      unfold He.dicW at h
      rw [kd.at_] at h
      dsimp only at h
      split at h
      · exact Option.some.inj h
      · cases h
    obtain ⟨i1, i2⟩ := keys_none e1 g
    unfold PySem.W.nsIn
    rw [kd.at_]
    simp only [i1, i2]
    rfl
end
theorem tabW {fa : List He.Fa} {fn : List He.DefD} {ts : List He.Tab} {w : World} {K : PySem.W.Frag} (c : He.SaysT fa fn ts w K) (i : Nat) {t : He.Tab} (h : ts[i]? = some t := by rfl) : He.dicW K (t.1 K) = some (He.keysIn w.params t.2) := by
  have e : ts.map (fun t => He.dicW K (t.1 K)) = ts.map fun t => some (He.keysIn w.params t.2) := congrArg (fun z : He.AlT => z.2) c
  have e2 := congrArg (fun l => l[i]?) e
  simp only [List.getElem?_map, h, Option.map_some, Option.some.injEq] at e2
  exact e2
/-! ### a class of refusals -/
/-! ### the one class of a name -/
/-! ### a constant tuple of the module, told by its values -/
theorem exsAt {bs : List (PySem.W.Frag → Bool)} {K : PySem.W.Frag} (h : (bs.all fun b => b K) = true) (i : Nat) {b : PySem.W.Frag → Bool} (e : bs[i]? = some b := by rfl) : b K = true := List.all_eq_true.mp h b (List.mem_of_getElem? e)
/-! ### the readings unfolded -/
section
variable {te : DT} {da : DA} {env : List Sl} {P : DV → Prop} {d : DK} {c m f x : Str} {cs : List Str} {R : List Sl → XD}
theorem mkE (sp : DSpI) : tMakeD sp c R da env P = da env fun us => anyOw us = [] ∧ sp (us.map dat) (fun ds => P (.d (obD c ds))) (R env) := propext ⟨fun h => h, fun h => h⟩
theorem meE (sp : DSpX) : tMethX c m sp R te da env P = te env fun u => ∃ ds, u = .d (obD c ds) ∧ m ∉ ds.map Prod.fst ∧ da env fun us => anyOw us = [] ∧ sp (.d (obD c ds) :: us.map dat) P (R env) := propext ⟨fun h => h, fun h => h⟩
theorem flE : tFldD cs f te env P = te env fun u => ∃ c ds y, u = .d (obD c ds) ∧ c ∈ cs ∧ ds.lookup f = some y ∧ P (.d y) := propext ⟨fun h => h, fun h => h⟩
theorem icE : tIsC cs x te env P = te env fun u => ∃ c ds, u = .d (obD c ds) ∧ c ∈ cs ∧ P (.d (.bool (c == x))) := propext ⟨fun h => h, fun h => h⟩
theorem inE (ks : List (Str × PyData)) : tInK ks te env P = te env fun u => ∃ z, u = .d (.str z) ∧ P (.d (.bool (ks.lookup z).isSome)) := propext ⟨fun h => h, fun h => h⟩
theorem ikE (ks : List (Str × PyData)) : tItK ks te env P = te env fun u => ∃ z y, u = .d (.str z) ∧ ks.lookup z = some y ∧ P (.d y) := propext ⟨fun h => h, fun h => h⟩
theorem xoE (sp : DSp) (us : List DV) (R : XD) : xOf sp us P R = sp us P := propext ⟨fun h => h, fun h => h⟩
theorem r0E : tRaise0 R c d env = R env c "" .none := propext ⟨fun h => h, fun h => h⟩
theorem osE (i : Nat) : tOstD cs i f te d env = te env fun dv => match frz dv, env[i]? with
  | .d x, some (.tr false S y) => ∃ c ds, y = obD c ds ∧ c ∈ cs ∧ f ∉ ds.map Prod.fst ∧ ds.length < 900 ∧ d.nx (env.set i (.tr false S (obD c (ds ++ [(f, x)]))))
  | _, _ => False := propext ⟨fun h => h, fun h => h⟩
theorem cnE : tCntD te da env P = te env fun u => rd u fun x => match x with
  | .list xs => da env fun us => one us fun z => rd z fun y => ∃ (ns : List Int) (k : Int), xs = ns.map .int ∧ y = .int k ∧ P (.d (.int (ns.count k : Nat)))
  | _ => False := propext ⟨fun h => h, fun h => h⟩
theorem mulLE (xs : List PyData) (k : Int) : gMulL (.list xs) (.int k) P = (0 ≤ k ∧ k < 1000 ∧ xs.length * k.toNat ≤ 100000 ∧ P (.fr (List.replicate k.toNat xs).flatten)) := propext ⟨fun h => h, fun h => h⟩
end
end Dl
namespace Dl
open PySem PySem.Spec PyProof.Rows L2
/-! ### lists of whole numbers -/
abbrev IL (ns : List Int) : List PyData := ns.map PyData.int
theorem atN {α : Type} {xs : List α} (h : xs ≠ []) : atI xs (-1) = some (xs.getLast h) := by
  have l := List.length_pos_iff.mpr h
  unfold atI ixN
  rw [if_neg (by decide), if_pos (by omega)]
  show xs[((-1 : Int) + xs.length).toNat]? = _
  rw [show ((-1 : Int) + xs.length).toNat = xs.length - 1 by omega, ← List.getLast?_eq_getElem?, List.getLast?_eq_some_getLast h]
theorem ixNL {ns : List Int} {P : DV → Prop} (h : ns ≠ []) : gIx (.list (IL ns)) (.int (-1)) P = P (.d (.int (ns.getLast h))) := by
  have e := atN (xs := IL ns) (by simpa using h)
  simp only [gIx, e, List.getLast_map]
theorem il_len (ns : List Int) : (IL ns).length = ns.length := List.length_map ..
/-! comprehensions that keep some -/
section
variable {g : DG} {tt : DTT} {te : DT} {env : List Sl} {P : DV → Prop}
theorem lc_filter (f : PyData → Bool) {xs : List PyData} (hl : xs.length ≤ 100000) (hend : P (.fr (xs.filter f)))
    (hstep : ∀ x ∈ xs, ∀ (acc : List PyData) (R : List PyData → Prop), acc.length < 100000 → (f x = true → R (acc ++ [x])) → (f x = false → R acc) → g x env fun e2 => tt e2 fun c => if c = true then te e2 fun dv => match frz dv with
      | .d y => acc.length < 100000 ∧ R (acc ++ [y])
      | _ => False
    else R acc) : lcD g tt te env xs [] P := by
  refine lcD_ind (fun zs acc => (∀ z ∈ zs, z ∈ xs) ∧ acc ++ zs.filter f = xs.filter f ∧ acc.length + zs.length ≤ xs.length) (fun acc hI => ?_) (fun x zs acc R hI hR => ?_) _ _ ⟨fun _ z => z, rfl, by simp⟩
  · obtain ⟨_, e, _⟩ := hI
    rw [List.filter_nil, List.append_nil] at e
    rw [e]
    exact hend
  · obtain ⟨h1, e, h2⟩ := hI
    rw [List.length_cons] at h2
    refine hstep x (h1 x (List.mem_cons_self ..)) acc R (by omega) (fun q => hR _ ⟨fun z hz => h1 z (List.mem_cons_of_mem _ hz), ?_, ?_⟩) fun q => hR _ ⟨fun z hz => h1 z (List.mem_cons_of_mem _ hz), ?_, by omega⟩
    · rw [List.filter_cons_of_pos q] at e
      rw [List.append_assoc]
      exact e
    · rw [List.length_append, List.length_singleton]; omega
    · rw [List.filter_cons_of_neg (by simpa using q)] at e
      exact e
end
theorem ixN_last {n : Nat} (h : 0 < n) : ixN n (-1) = some (n - 1) := by
  unfold ixN
  rw [if_neg (by decide), if_pos (by omega)]
  congr 1
  omega
theorem il_set (ns : List Int) (j : Nat) (v : Int) : (IL ns).set j (.int v) = IL (ns.set j v) := List.map_set.symm
theorem il_app (ns : List Int) (v : Int) : IL ns ++ [.int v] = IL (ns ++ [v]) := (List.map_append (f := PyData.int) (l₁ := ns) (l₂ := [v])).symm
end Dl
/-! ### sorted of any data that can be compared; the least and the greatest of a list; dicts that a slot owns -/
namespace Dl
open PySem PySem.Spec PyProof.Rows L2 PySem.W
/-! sorted(xs) -/
def cSortG : GC := fun us P => one us fun u => rd u fun x => match x with
  | .list xs => flatA xs = true ∧ AllAlike xs ∧ Sortable xs ∧ xs.length ≤ 100000 ∧ (∀ x ∈ xs, x.depth ≤ 50) ∧ ∀ ys : List PyData, ys.Perm xs → ys.Pairwise (fun a b => dataLt b a = false) → P (.fr ys)
  | _ => False
/-! min(xs), max(xs) -/
def cMinL (le : Int → Int → Prop) : GC := fun us P => one us fun u => rd u fun x => match x with
  | .list xs => ∃ ns : List Int, xs = ns.map PyData.int ∧ 0 < ns.length ∧ ∀ m, m ∈ ns → (∀ y, y ∈ ns → le m y) → P (.d (.int m))
  | _ => False
/-! ### a dict that a slot owns: its keys numbers and texts, what it holds never changes itself -/
def kD : Key → PyData
  | .inl i => .int i
  | .inr z => .str z
abbrev dK (kvs : List (Key × PyData)) : PyData := .dict (kvs.map fun p => (kD p.1, p.2))
def lkD (kvs : List (Key × PyData)) (k : Key) : Option PyData := (kvs.find? fun p => decide (p.1 = k)).map (·.2)
def ptD (kvs : List (Key × PyData)) (k : Key) (x : PyData) : List (Key × PyData) :=
  if (kvs.any fun p => decide (p.1 = k)) = true then kvs.map (fun p => if p.1 = k then (p.1, x) else p) else kvs ++ [(k, x)]
def allN (kvs : List (Key × PyData)) : Bool := kvs.all fun p => noL p.2
/-- the same keys, and what they hold -/
def KVp (K : PySem.W.Frag) (F : Hp) : List (Key × V) → List (Key × PyData) → Prop := Paired fun p q => p.1 = q.1 ∧ Rp K F p.2 q.2
theorem KVp.get {K : PySem.W.Frag} {F : Hp} {us : List (Key × V)} {kvs : List (Key × PyData)} (h : KVp K F us kvs) (k : Key) : match lkD kvs k with
    | some x => ∃ v, valV us k = some v ∧ Rp K F v x
    | none => valV us k = none := by
  unfold KVp at h
  induction h with
  | nil => exact valV_nil
  | @cons p q ps qs h t ih =>
    obtain ⟨h1, h2⟩ := h
    unfold lkD
    rw [List.find?_cons]
    by_cases e : p.1 = k
    · rw [decide_eq_true (h1.symm.trans e)]
      exact ⟨p.2, valV_pos e, h2⟩
    · rw [decide_eq_false (fun z => e (h1.trans z)), valV_neg e]
      exact ih
theorem KVp.some {K : PySem.W.Frag} {F : Hp} {us : List (Key × V)} {kvs : List (Key × PyData)} (h : KVp K F us kvs) {k : Key} {x : PyData} (e : lkD kvs k = some x) : ∃ v, valV us k = some v ∧ Rp K F v x := by
  have q := h.get k
  rw [e] at q
  exact q
theorem KVp.is {K : PySem.W.Frag} {F : Hp} {us : List (Key × V)} {kvs : List (Key × PyData)} (h : KVp K F us kvs) (k : Key) : (valV us k).isSome = (lkD kvs k).isSome := by
  have q := h.get k
  split at q
  · next x e =>
    obtain ⟨v, e2, _⟩ := q
    rw [e, e2]
    rfl
  · next e =>
    rw [e, q]
    rfl
theorem KVp.put {K : PySem.W.Frag} {F : Hp} {us : List (Key × V)} {kvs : List (Key × PyData)} (h : KVp K F us kvs) (k : Key) {v : V} {x : PyData} (r : Rp K F v x) : KVp K F (putK us k v) (ptD kvs k x) := by
  have ea : (us.any fun p => decide (p.1 = k)) = (kvs.any fun p => decide (p.1 = k)) := by
    unfold KVp at h
    induction h with
    | nil => rfl
    | cons h t ih => rw [List.any_cons, List.any_cons, ih, h.1]
  unfold putK ptD
  rw [ea]
  by_cases e : (kvs.any fun p => decide (p.1 = k)) = true
  · rw [if_pos e, if_pos e]
    clear e ea
    unfold KVp at h ⊢
    induction h with
    | nil => exact .nil
    | @cons p q ps qs h t ih =>
      obtain ⟨h1, h2⟩ := h
      rw [List.map_cons, List.map_cons]
      refine .cons ?_ ih
      by_cases e : p.1 = k
      · rw [if_pos e, if_pos (h1.symm.trans e)]
        exact ⟨h1, r⟩
      · rw [if_neg e, if_neg (fun z => e (h1.trans z))]
        exact ⟨h1, h2⟩
  · rw [if_neg e, if_neg e]
    unfold KVp at h ⊢
    exact Paired.snoc h ⟨rfl, r⟩
theorem KVp.up {K : PySem.W.Frag} {F F' : Hp} (e : Same F F') {us : List (Key × V)} {kvs : List (Key × PyData)} (h : KVp K F us kvs) : KVp K F' us kvs := Paired.mapP h fun _ _ z => ⟨z.1, z.2.up e⟩
section
variable {X : Cx} {w : Wn} {pos : Pos} {o e ei ev : Expr} {te tv : DT} {i : Nat}
/-- {}, to be owned by a slot -/
def tEmpT : DT := fun _ P => P (.ft (dK []))
def keyD : DV → Option Key
  | .d (.int i) => some (.inl i)
  | .d (.str z) => some (.inr z)
  | .d .none => none
  | .d (.bool _) => none
  | .d (.list _) => none
  | .d (.tuple _) => none
  | .d (.dict _) => none
  | .fr _ => none
  | .ft _ => none
  | .ow _ _ => none
  | .tr _ _ _ => none
  | .raw _ => none
  | .bag => none
/-- the dict in a slot -/
def slD (env : List Sl) (i : Nat) (kvs : List (Key × PyData)) : Prop := ∃ S, env[i]? = some (.tr true S (dK kvs)) ∧ allN kvs = true
/-- e in d -/
def tInT (i : Nat) (te : DT) : DT := fun env P => te env fun u => ∃ k kvs, keyD u = some k ∧ slD env i kvs ∧ P (.d (.bool (lkD kvs k).isSome))
/-- d[e] -/
def tGetT (i : Nat) (te : DT) : DT := fun env P => ∃ kvs, slD env i kvs ∧ te env fun u => ∃ k x, keyD u = some k ∧ lkD kvs k = some x ∧ P (.d x)
/-- d[k] = e -/
def tPutT (i : Nat) (tk tv : DT) : DS := fun d env => ∃ kvs, slD env i kvs ∧ kvs.length < 100000 ∧ tv env fun u => tk env fun z => ∃ k, keyD z = some k ∧ match frz u with
  | .d x => noL x = true ∧ ∀ S, d.nx (env.set i (.tr true S (dK (ptD kvs k x))))
  | _ => False
end
/-! sorted(d.items()) -/
def prD (p : Key × PyData) : PyData := .tuple [kD p.1, p.2]
/-- sorted(d.items()), d a dict in a slot -/
def tSortIt (i : Nat) : DT := fun env P => ∃ kvs, slD env i kvs ∧ flatA (kvs.map prD) = true ∧ AllAlike (kvs.map prD) ∧ kvs.length ≤ 100000 ∧ (∀ x ∈ kvs.map prD, x.depth ≤ 50) ∧ ∀ ys : List PyData, ys.Perm (kvs.map prD) → ys.Pairwise (fun a b => dataLt b a = false) → P (.fr ys)
end Dl
/-! ### what points count at the marks of a scale, in parts of one bottom -/
namespace Dl
open PySem PySem.Spec PyProof.Rows L2 PySem.W
/-- what each number from 1 to n divides -/
def lcmTo : Nat → Nat
  | 0 => 1
  | n + 1 => Nat.lcm (lcmTo n) (n + 1)
def DD : Int := (lcmTo 1000 : Nat)
/-- the fraction of n parts -/
def frT (n : Int) : Int := loT n DD
def frB (n : Int) : Int := loB n DD
def frP (n : Int) : PyData := .tuple [.int (frT n), .int (frB n)]
/-- a rising list of points -/
abbrev Rise (ms : List Int) : Prop := ms.Pairwise (· < ·)
/-- what a point counts, mark by mark -/
def sh : List Int → Int → List (Int × Int)
  | [], _ => []
  | a :: t, p => if p = a then [(a, DD)] else match t with
    | [] => []
    | b :: _ => if a < p ∧ p < b then [(a, DD / (b - a) * (b - p)), (b, DD / (b - a) * (p - a))] else sh t p
/-! sums over the marks -/
/-! the mix of a spot, as it is told -/
def mixW (ms : List Int) (w : Int → Int) : List PyData := (ms.filter fun m => decide (0 < w m)).map fun m => .tuple [.int m, frP (w m)]
theorem rise_uniq : ∀ {ns ms : List Int}, Rise ns → Rise ms → (∀ x, x ∈ ns ↔ x ∈ ms) → ns = ms
  | [], [], _, _, _ => rfl
  | [], m :: ms, _, _, h => absurd ((h m).mpr (List.mem_cons_self ..)) List.not_mem_nil
  | n :: ns, [], _, _, h => absurd ((h n).mp (List.mem_cons_self ..)) List.not_mem_nil
  | n :: ns, m :: ms, rn, rm, h => by
    obtain ⟨n1, n2⟩ := List.pairwise_cons.mp rn
    obtain ⟨m1, m2⟩ := List.pairwise_cons.mp rm
    have e : n = m := by
      rcases List.mem_cons.mp ((h n).mp (List.mem_cons_self ..)) with z | z
      · exact z
      · rcases List.mem_cons.mp ((h m).mpr (List.mem_cons_self ..)) with y | y
        · exact y.symm
        · have := m1 n z; have := n1 m y; omega
    subst e
    rw [rise_uniq n2 m2 fun x => ⟨fun hx => ?_, fun hx => ?_⟩]
    · rcases List.mem_cons.mp ((h x).mp (List.mem_cons_of_mem _ hx)) with z | z
      · have := n1 x hx; omega
      · exact z
    · rcases List.mem_cons.mp ((h x).mpr (List.mem_cons_of_mem _ hx)) with z | z
      · have := m1 x hx; omega
      · exact z
/-! the dict of what was counted so far -/
structure Cnt (ms : List Int) (w : Int → Int) (kvs : List (Key × PyData)) : Prop where
  keys : ∀ p ∈ kvs, ∃ m n, p = (.inl m, frP n) ∧ m ∈ ms
  nd : (kvs.map Prod.fst).Nodup
  at' : ∀ m, lkD kvs (.inl m) = if w m = 0 then none else some (frP (w m))
theorem lk_put {kvs : List (Key × PyData)} {k j : Key} {x : PyData} : lkD (ptD kvs k x) j = if j = k then some x else lkD kvs j := by
  have any : ∀ l : List (Key × PyData), (l.any fun p => decide (p.1 = k)) = (lkD l k).isSome := by
    intro l
    induction l with
    | nil => rfl
    | cons p l ih =>
      rw [List.any_cons]
      unfold lkD
      rw [List.find?_cons]
      by_cases e : p.1 = k
      · rw [decide_eq_true e]; rfl
      · rw [decide_eq_false e, Bool.false_or]; exact ih
  have cons : ∀ (p : Key × PyData) (l : List (Key × PyData)) (j : Key), lkD (p :: l) j = if p.1 = j then some p.2 else lkD l j := by
    intro p l j
    unfold lkD
    rw [List.find?_cons]
    by_cases e : p.1 = j
    · rw [decide_eq_true e, if_pos e]; rfl
    · rw [decide_eq_false e, if_neg e]
  unfold ptD
  split
  · next a =>
    rw [any] at a
    have mp : ∀ l : List (Key × PyData), lkD (l.map fun p => if p.1 = k then (p.1, x) else p) j = (lkD l j).map fun y => if j = k then x else y := by
      intro l
      induction l with
      | nil => rfl
      | cons p l ih =>
        rw [List.map_cons, cons, cons]
        by_cases h : p.1 = k
        · rw [if_pos h]
          by_cases e : p.1 = j
          · rw [if_pos e, if_pos e, Option.map_some, if_pos (e.symm.trans h)]
          · rw [if_neg e, if_neg e, ih]
        · rw [if_neg h]
          by_cases e : p.1 = j
          · rw [if_pos e, if_pos e, Option.map_some, if_neg (fun z => h (e.trans z))]
          · rw [if_neg e, if_neg e, ih]
    rw [mp]
    by_cases e : j = k
    · rw [if_pos e]
      subst e
      obtain ⟨y, hy⟩ := Option.isSome_iff_exists.mp a
      rw [hy, Option.map_some, if_pos rfl]
    · rw [if_neg e]
      cases lkD kvs j with
      | none => rfl
      | some y => rw [Option.map_some, if_neg e]
  · next a =>
    rw [any] at a
    have ap : ∀ l : List (Key × PyData), lkD l k = none → lkD (l ++ [(k, x)]) j = if j = k then some x else lkD l j := by
      intro l
      induction l with
      | nil =>
        intro _
        rw [List.nil_append, cons]
        by_cases e : k = j
        · rw [if_pos e, if_pos e.symm]
        · rw [if_neg e, if_neg (fun z => e z.symm)]
      | cons p l ih =>
        intro hn
        rw [cons] at hn
        rw [List.cons_append, cons, cons]
        by_cases h : p.1 = k
        · rw [if_pos h] at hn; cases hn
        · rw [if_neg h] at hn
          by_cases e : p.1 = j
          · rw [if_pos e, if_pos e, if_neg (fun z => h (e.trans z))]
          · rw [if_neg e, if_neg e, ih hn]
    refine ap kvs ?_
    cases q : lkD kvs k with
    | none => rfl
    | some y => rw [q] at a; exact (a rfl).elim
theorem put_keys {kvs : List (Key × PyData)} {k : Key} {x : PyData} (nd : (kvs.map Prod.fst).Nodup) : ((ptD kvs k x).map Prod.fst).Nodup := by
  unfold ptD
  split
  · have e : (kvs.map fun p => if p.1 = k then (p.1, x) else p).map Prod.fst = kvs.map Prod.fst := by
      rw [List.map_map]
      refine List.map_congr_left fun p _ => ?_
      show (if p.1 = k then (p.1, x) else p).1 = p.1
      split <;> rfl
    rw [e]
    exact nd
  · next a =>
    rw [List.map_append]
    refine List.nodup_append.mpr ⟨nd, List.nodup_cons.mpr ⟨List.not_mem_nil, .nil⟩, fun y hy z hz => ?_⟩
    obtain ⟨p, hp, rfl⟩ := List.mem_map.mp hy
    have hz : z = k := by simpa using hz
    intro e
    exact a (List.any_eq_true.mpr ⟨p, hp, decide_eq_true (by rw [e, hz])⟩)
theorem put_mem {kvs : List (Key × PyData)} {k : Key} {x : PyData} {p : Key × PyData} (h : p ∈ ptD kvs k x) : p ∈ kvs ∨ p = (k, x) := by
  unfold ptD at h
  split at h
  · obtain ⟨q, hq, rfl⟩ := List.mem_map.mp h
    split
    · next e => exact .inr (by rw [e])
    · exact .inl hq
  · rcases List.mem_append.mp h with m | m
    · exact .inl m
    · exact .inr (List.mem_singleton.mp m)
theorem Cnt.put {ms : List Int} {w w' : Int → Int} {kvs : List (Key × PyData)} {k : Int} (h : Cnt ms w kvs) (hk : k ∈ ms) (e : ∀ m, m ≠ k → w' m = w m) (p : w' k ≠ 0) : Cnt ms w' (ptD kvs (.inl k) (frP (w' k))) := by
  refine ⟨fun q hq => ?_, put_keys h.nd, fun m => ?_⟩
  · rcases put_mem hq with z | z
    · exact h.keys q z
    · exact ⟨k, _, z, hk⟩
  · rw [lk_put]
    by_cases c : m = k
    · rw [if_pos (by rw [c]), c, if_neg p]
    · rw [if_neg (fun z => c (by injection z)), h.at', e m c]
theorem nodup_len {α : Type} [DecidableEq α] : ∀ {l m : List α}, l.Nodup → (∀ x ∈ l, x ∈ m) → l.length ≤ m.length
  | [], _, _, _ => Nat.zero_le _
  | a :: l, m, nd, h => by
    obtain ⟨n1, n2⟩ := List.nodup_cons.mp nd
    have ha := h a (List.mem_cons_self ..)
    have := nodup_len (m := m.erase a) n2 fun x hx => (List.mem_erase_of_ne (fun z => n1 (by rw [← z]; exact hx))).mpr (h x (List.mem_cons_of_mem _ hx))
    rw [List.length_erase_of_mem ha] at this
    have := List.length_pos_of_mem ha
    rw [List.length_cons]
    omega
theorem Cnt.len {ms : List Int} {w : Int → Int} {kvs : List (Key × PyData)} (h : Cnt ms w kvs) : kvs.length ≤ ms.length := by
  have nd := h.nd
  have sub : ∀ k ∈ kvs.map Prod.fst, k ∈ ms.map fun m => (Sum.inl m : Key) := fun k hk => by
    obtain ⟨p, hp, rfl⟩ := List.mem_map.mp hk
    obtain ⟨m, n, rfl, hm⟩ := h.keys p hp
    exact List.mem_map.mpr ⟨m, hm, rfl⟩
  have := nodup_len nd sub
  simpa using this
theorem dt_pairs (a b c d e f : Int) : alike (.tuple [.int a, .tuple [.int b, .int c]]) (.tuple [.int d, .tuple [.int e, .int f]]) = true := by simp [alike, alikeAll]
theorem lt_pairs {a b c d e f : Int} (h : a ≠ d) : dataLt (.tuple [.int a, .tuple [.int b, .int c]]) (.tuple [.int d, .tuple [.int e, .int f]]) = decide (a < d) := by
  rw [dataLt_pair (by simp [alike]) (by simp [alike, alikeAll])]
  have : (PyData.int a).eqv (.int d) = false := by simp [PyData.eqv, h]
  rw [this, dataLt_int]
  simp
/-- what sorted tells of the dict -/
theorem Cnt.told {ms : List Int} {w : Int → Int} {kvs : List (Key × PyData)} (h : Cnt ms w kvs) (r : Rise ms) (nn : ∀ m, 0 ≤ w m) (out : ∀ m, m ∉ ms → w m = 0) {ys : List PyData} (p : ys.Perm (kvs.map prD)) (so : ys.Pairwise fun a b => dataLt b a = false) : ys = mixW ms w := by
  obtain ⟨zs, pz, ez⟩ := perm_lift prD p kvs rfl
  have kz : ∀ z ∈ zs, ∃ m, z = (.inl m, frP (w m)) ∧ m ∈ ms ∧ 0 < w m := fun z hz => by
    have hz2 := pz.mem_iff.mp hz
    obtain ⟨m, n, rfl, hm⟩ := h.keys z hz2
    have hl : lkD kvs (.inl m) = some (frP n) := by
      have nd := h.nd
      clear h p so pz ez hz r nn out
      induction kvs with
      | nil => cases hz2
      | cons q l ih =>
        rw [List.map_cons] at nd
        obtain ⟨n1, n2⟩ := List.nodup_cons.mp nd
        unfold lkD
        rw [List.find?_cons]
        rcases List.mem_cons.mp hz2 with rfl | hz
        · rw [decide_eq_true rfl]; rfl
        · rw [decide_eq_false fun e => n1 (List.mem_map.mpr ⟨_, hz, e.symm⟩)]
          exact ih hz n2
    rw [h.at' m] at hl
    split at hl
    · cases hl
    · next ne =>
      have e := Option.some.inj hl
      have := nn m
      exact ⟨m, by rw [← e], hm, by omega⟩
  have ndz : (zs.map Prod.fst).Nodup := (pz.map Prod.fst).nodup_iff.mpr h.nd
  obtain ⟨ns, en⟩ : ∃ ns : List Int, zs = ns.map fun m => (Sum.inl m, frP (w m)) := by
    clear pz ez ndz so p
    induction zs with
    | nil => exact ⟨[], rfl⟩
    | cons z zs ih =>
      obtain ⟨m, e, _⟩ := kz z (List.mem_cons_self ..)
      obtain ⟨ns, e2⟩ := ih fun y hy => kz y (List.mem_cons_of_mem _ hy)
      exact ⟨m :: ns, by rw [e, e2]; rfl⟩
  subst en
  have ey : ys = ns.map fun m => PyData.tuple [.int m, frP (w m)] := by
    rw [← ez, List.map_map]
    rfl
  have rn : Rise ns := by
    rw [ey, List.pairwise_map] at so
    have nd2 : ns.Nodup := by
      rw [List.map_map] at ndz
      have : (ns.map fun m => (Sum.inl m : Key)).Nodup := ndz
      rw [List.Nodup, List.pairwise_map] at this
      exact this.imp fun h z => h (by rw [z])
    refine (so.and nd2).imp fun {a b} ⟨q, ne⟩ => ?_
    have q : dataLt (.tuple [.int b, .tuple [.int (frT (w b)), .int (frB (w b))]]) (.tuple [.int a, .tuple [.int (frT (w a)), .int (frB (w a))]]) = false := q
    rw [lt_pairs (Ne.symm ne)] at q
    have := of_decide_eq_false q
    omega
  have en : ns = ms.filter fun m => decide (0 < w m) := by
    refine rise_uniq rn (List.Pairwise.sublist List.filter_sublist r) fun x => ?_
    rw [List.mem_filter, decide_eq_true_eq]
    constructor
    · intro hx
      obtain ⟨m, e, hm, p⟩ := kz _ (List.mem_map.mpr ⟨x, hx, rfl⟩)
      have e := (Prod.mk.inj e).1
      injection e with e
      rw [e]
      exact ⟨hm, p⟩
    · rintro ⟨hx, p⟩
      have hl := h.at' x
      rw [if_neg (by omega)] at hl
      unfold lkD at hl
      cases q : kvs.find? fun p => decide (p.1 = .inl x) with
      | none => rw [q] at hl; cases hl
      | some z =>
        have hz := pz.mem_iff.mpr (List.mem_of_find?_eq_some q)
        have ez2 : z.1 = .inl x := of_decide_eq_true (p := z.1 = .inl x) (List.find?_some (p := fun p : Key × PyData => decide (p.1 = .inl x)) q)
        obtain ⟨m, hm, e⟩ := List.mem_map.mp hz
        rw [← e] at ez2
        injection ez2 with ez2
        rw [← ez2]
        exact hm
  rw [ey, en]
  rfl
theorem Cnt.flat {ms : List Int} {w : Int → Int} {kvs : List (Key × PyData)} (h : Cnt ms w kvs) : flatA (kvs.map prD) = true ∧ AllAlike (kvs.map prD) ∧ ∀ x ∈ kvs.map prD, x.depth ≤ 50 := by
  have k : ∀ x ∈ kvs.map prD, ∃ m a b, x = .tuple [.int m, .tuple [.int a, .int b]] := fun x hx => by
    obtain ⟨p, hp, rfl⟩ := List.mem_map.mp hx
    obtain ⟨m, n, rfl, _⟩ := h.keys p hp
    exact ⟨m, _, _, rfl⟩
  generalize kvs.map prD = xs at k
  refine ⟨?_, fun x hx y hy => ?_, fun x hx => ?_⟩
  · induction xs with
    | nil => rfl
    | cons x xs ih =>
      obtain ⟨m, a, b, rfl⟩ := k x (List.mem_cons_self ..)
      rw [flatA, ih fun y hy => k y (List.mem_cons_of_mem _ hy)]
      simp [flatD, flatA]
  · obtain ⟨m, a, b, rfl⟩ := k x hx
    obtain ⟨n, c, d, rfl⟩ := k y hy
    exact dt_pairs ..
  · obtain ⟨m, a, b, rfl⟩ := k x hx
    simp [PyData.depth, PyData.depthAll]
end Dl
/-! ### sorted(set(xs)) of a list of whole numbers -/
namespace Dl
open PySem PySem.Calls PySem.Spec PyProof.Rows L2
section
variable {X : Cx} {w : Wn} {pos p p2 cp : Pos} {e : Expr} {te : DT}
/-- sorted(set(e)), e a list of whole numbers -/
def tSortSet (te : DT) : DT := fun env P => te env fun u => rd u fun x => match x with
  | .list xs => ∃ ns : List Int, xs = IL ns ∧ ns.length < 64 ∧ ∀ ms : List Int, Rise ms → (∀ k, k ∈ ms ↔ k ∈ ns) → P (.fr (IL ms))
  | _ => False
end
end Dl
/-! ### constant dicts of the module: list(D), values that are tuples -/
namespace Dl
open PySem PySem.Spec PyProof.Rows L2 PySem.W
/-- .. by its keys, in their order -/
structure KLst (K : PySem.W.Frag) (w : World) (d : Addr) (ks : List Str) : Prop where
  ex : ∃ (es : Array DictEntry) (n : Nat), KDict K w d es n ∧ es.toList.map He.keyOf = He.keysIn w.params ks
  nd : ks.Nodup
  sm : ks.length ≤ 1000
theorem klst_of {K : PySem.W.Frag} {w : World} {d : Addr} {ks : List Str} (h : He.dicW K d = some (He.keysIn w.params ks)) (nd : ks.Nodup) (sm : ks.length ≤ 1000) : KLst K w d ks := by
  obtain ⟨es, n, kd⟩ := He.dicW_ok h
  refine ⟨⟨es, n, kd, ?_⟩, nd, sm⟩
  unfold He.dicW at h
  rw [kd.at_] at h
  dsimp only at h
  split at h
  · exact Option.some.inj h
  · cases h
section
variable {X : Cx} {w : Wn} {pos p p2 : Pos} {x2 : Str}
/-- list(D) -/
def tListK (ks : List Str) : DT := fun _ P => P (.fr (ks.map PyData.str))
end
theorem tupAt_ok {K : PySem.W.Frag} {a : Addr} {vs : List He.Dv} {xs : List PyData} (h : tupAt K a vs = true) (r : ∀ F, RpA K F (vs.map (He.Dv.v K)) xs) : ∀ F, Rp K F (.ref a) (.tuple xs) := fun F => by
  refine .tup ?_ (r F)
  unfold tupAt at h
  split at h
  · next c od its n sl q =>
    rw [Bool.and_eq_true, Bool.and_eq_true] at h
    obtain ⟨h1, h2, h3⟩ := h
    exact .inr ⟨_, its, n, q, congrArg Value.type (of_decide_eq_true h1), rfl, of_decide_eq_true h2, He.relAll_ok h3⟩
  · cases h
end Dl
/-! ### data that is good for ==, repr and copying; names, small fractions, papers -/
namespace Dl
open PySem PySem.Spec PyProof.Rows L2 PySem.W
mutual
/-- data whose lists are not too long -/
def okC : PyData → Bool
  | .list xs => decide (xs.length ≤ 5000) && okCs xs
  | .tuple xs => decide (xs.length ≤ 5000) && okCs xs
  | _ => true
def okCs : List PyData → Bool
  | [] => true
  | x :: xs => okC x && okCs xs
end
/-- good data: not deeper than n, its text not longer than k -/
structure Gd (n k : Nat) (x : PyData) : Prop where
  ly : Ly n x
  sn : Sn n k x
  cp : okC x = true
structure GdL (n k : Nat) (xs : List PyData) : Prop where
  ly : PyData.canLayAll0 xs = true
  real : realA xs = true
  show_ : PyData.showableAll xs = true
  deep : PyData.depthAll xs ≤ n
  len : ((PyData.shownAll xs).map (·.length)).sum + 2 * xs.length ≤ k
  num : (PyData.shownAll xs).length = xs.length
  cp : okCs xs = true
theorem Gd.up {n k m l : Nat} {x : PyData} (h : Gd n k x) (hn : n ≤ m := by decide) (hk : k ≤ l := by decide) : Gd m l x := ⟨h.ly.up hn, h.sn.up hn hk, h.cp⟩
theorem gdl_nil {n : Nat} : GdL n 0 [] := ⟨by simp [PyData.canLayAll0], by simp [realA], by simp [PyData.showableAll], by simp [PyData.depthAll], by simp [PyData.shownAll], by simp [PyData.shownAll], by simp [okCs]⟩
theorem gdl_cons {n k l : Nat} {x : PyData} {xs : List PyData} (h : Gd n k x) (t : GdL n l xs) : GdL n (k + 2 + l) (x :: xs) := by
  have d1 := h.ly.deep
  have d2 := t.deep
  have l1 := h.sn.len
  have l2 := t.len
  refine ⟨by rw [PyData.canLayAll0, h.ly.lay, t.ly]; rfl, by rw [realA, h.sn.real, t.real]; rfl, by rw [PyData.showableAll, h.sn.show_, t.show_]; rfl, by simp only [PyData.depthAll]; omega, ?_, ?_, by rw [okCs, h.cp, t.cp]; rfl⟩
  · simp only [PyData.shownAll, List.map_cons, List.sum_cons, List.length_cons]
    omega
  · simp only [PyData.shownAll, List.length_cons, t.num]
theorem gd_tupL {n k : Nat} {xs : List PyData} (h : GdL n k xs) (hl : xs.length ≤ 5000) : Gd (n + 1) (k + 3) (.tuple xs) := by
  have d := h.deep
  have q := tupleText_len_le (PyData.shownAll xs)
  have l := h.len
  have nm := h.num
  refine ⟨⟨by rw [PyData.canLay0, h.ly], by simp only [PyData.depth]; omega⟩, ⟨by rw [realD, h.real], by rw [PyData.showable, h.show_], by simp only [PyData.depth]; omega, ?_⟩, by rw [okC, h.cp, decide_eq_true hl]; rfl⟩
  show (tupleText (PyData.shownAll xs)).length ≤ _
  omega
theorem gd_lstL {n k : Nat} {xs : List PyData} (h : GdL n k xs) (hl : xs.length ≤ 5000) : Gd (n + 1) (k + 3) (.list xs) := by
  have d := h.deep
  have q := listText_len_le (PyData.shownAll xs)
  have l := h.len
  have nm := h.num
  refine ⟨⟨by rw [PyData.canLay0, h.ly], by simp only [PyData.depth]; omega⟩, ⟨by rw [realD, h.real], by rw [PyData.showable, h.show_], by simp only [PyData.depth]; omega, ?_⟩, by rw [okC, h.cp, decide_eq_true hl]; rfl⟩
  show (listText (PyData.shownAll xs)).length ≤ _
  omega
theorem gdl_all {n k : Nat} : ∀ {xs : List PyData}, (∀ x ∈ xs, Gd n k x) → GdL n (xs.length * (k + 2)) xs
  | [], _ => by rw [List.length_nil, Nat.zero_mul]; exact gdl_nil
  | x :: xs, h => by
    have a := gdl_cons (h x (List.mem_cons_self ..)) (gdl_all fun y hy => h y (List.mem_cons_of_mem _ hy))
    rw [List.length_cons, Nat.succ_mul, Nat.add_comm (xs.length * (k + 2))]
    exact a
theorem GdL.up {n k m l : Nat} {xs : List PyData} (h : GdL n k xs) (hn : n ≤ m := by decide) (hk : k ≤ l := by decide) : GdL m l xs := ⟨h.ly, h.real, h.show_, Nat.le_trans h.deep hn, Nat.le_trans h.len hk, h.num, h.cp⟩
theorem gd_int {i : Int} {j : Nat} (h : i.natAbs < 2 ^ j) (hj : 0 < j := by decide) (hk : j < 1920 := by decide) : Gd 0 (j + 1) (.int i) := ⟨ly_int i, sn_int h hj hk, by simp [okC]⟩
theorem gd_str {z : Str} {l : Nat} (h : ∀ c ∈ z.cps.toList, c < 0x110000) (hl : z.length ≤ l) : Gd 0 (10 * l + 2) (.str z) := by
  have h' : (z.cps.all fun c => decide (c < 0x110000)) = true := by
    rw [← Array.all_toList, List.all_eq_true]
    exact fun c hc => decide_eq_true (h c hc)
  refine ⟨⟨by first | exact h' | (simp only [PyData.canLay0]; done) | (simp only [PyData.canLay0]; exact h') | (unfold PyData.canLay0; exact h'), by simp [PyData.depth]⟩, sn_str (Nat.le_trans (StrLaws.reprText_len z fun c hc => Nat.lt_of_lt_of_le (h c hc) (by decide)) (by omega)), by simp [okC]⟩
theorem Gd.sh {n k : Nat} {x : PyData} (h : Gd n k x) (hn : n ≤ 60 := by decide) (hk : k ≤ 100000 := by decide) : Sh x := h.sn.sh (Nat.le_trans hn (by decide)) hk
theorem Gd.eq {n k : Nat} {x : PyData} (h : Gd n k x) (hn : n ≤ 60 := by decide) : selfEq x := h.ly.selfEq (Nat.le_trans hn (by decide))
/-- a name -/
def Nam (z : Str) : Prop := 1 ≤ z.length ∧ z.length ≤ 8 ∧ ∀ c ∈ z.cps.toList, 97 ≤ c ∧ c ≤ 122
theorem Nam.gd {z : Str} (h : Nam z) : Gd 0 82 (.str z) := gd_str (l := 8) (fun c hc => by have := h.2.2 c hc; omega) h.2.1
/-- a small fraction -/
structure Sml (p q : Int) : Prop where
  f : Frac p q
  t : p.natAbs ≤ 10 ^ 12
  b : q ≤ 1000
abbrev frc (p q : Int) : PyData := .tuple [.int p, .int q]
theorem Sml.gd {p q : Int} (h : Sml p q) : Gd 1 91 (frc p q) := by
  have hq := h.f.pos
  have := h.t
  have := h.b
  exact (gd_tupL (gdl_cons (gd_int (j := 41) (show p.natAbs < 2 ^ 41 by omega)) (gdl_cons (gd_int (j := 41) (show q.natAbs < 2 ^ 41 by omega)) gdl_nil)) (by simp)).up
theorem gd_il {ns : List Int} {m : Nat} (h : ∀ n ∈ ns, 0 ≤ n ∧ n ≤ 1000) (hl : ns.length ≤ m) (hm : m ≤ 5000) : Gd 1 (m * 13 + 3) (.list (IL ns)) := by
  have a := gdl_all (n := 0) (k := 11) (xs := IL ns) fun x hx => by
    obtain ⟨n, hn, rfl⟩ := List.mem_map.mp hx
    have := h n hn
    exact gd_int (j := 10) (show n.natAbs < 2 ^ 10 by omega)
  rw [il_len] at a
  exact (gd_lstL a (by rw [il_len]; omega)).up (Nat.le_refl _) (by have := Nat.mul_le_mul_right 13 hl; omega)
/-- a row of a told, a held, a made paper -/
def RowT (x : PyData) : Prop := ∃ m p q u v : Int, x = .tuple [.int m, frc p q, frc u v] ∧ 0 ≤ m ∧ m ≤ 1000 ∧ Sml p q ∧ Sml u v ∧ p * v ≤ u * q
def SpR (ps : List Int) : Prop := 1 ≤ ps.length ∧ ps.length ≤ 6 ∧ (∀ p ∈ ps, 0 ≤ p ∧ p ≤ 1000) ∧ ps.Pairwise (· ≤ ·)
def RowH (x : PyData) : Prop := ∃ (m : Int) (ps : List Int) (p q u v : Int), x = .tuple [.int m, .list (IL ps), frc p q, frc u v] ∧ 0 ≤ m ∧ m ≤ 1000 ∧ SpR ps ∧ Sml p q ∧ Sml u v ∧ 0 ≤ u
def RowM (x : PyData) : Prop := ∃ (m : Int) (z : Str) (k : Int), x = .tuple [.int m, .str z, .int k] ∧ 0 ≤ m ∧ m ≤ 1000 ∧ Nam z ∧ 0 ≤ k ∧ k ≤ 1000
theorem gd_mark {m : Int} (h0 : 0 ≤ m) (h1 : m ≤ 1000) : Gd 0 11 (.int m) := gd_int (j := 10) (show m.natAbs < 2 ^ 10 by omega)
theorem RowT.gd {x : PyData} : RowT x → Gd 2 300 x := fun ⟨m, p, q, u, v, e, h0, h1, a, b, _⟩ => by
  subst e
  exact (gd_tupL (gdl_cons ((gd_mark h0 h1).up (m := 1) (l := 11)) (gdl_cons a.gd (gdl_cons b.gd gdl_nil))) (by simp)).up
theorem RowH.gd {x : PyData} : RowH x → Gd 2 300 x := fun ⟨m, ps, p, q, u, v, e, h0, h1, s, a, b, _⟩ => by
  subst e
  exact (gd_tupL (gdl_cons ((gd_mark h0 h1).up (m := 1) (l := 11)) (gdl_cons (gd_il (m := 6) s.2.2.1 s.2.1 (by decide)) (gdl_cons a.gd (gdl_cons b.gd gdl_nil)))) (by simp)).up
theorem RowM.gd {x : PyData} : RowM x → Gd 2 300 x := fun ⟨m, z, k, e, h0, h1, a, h2, h3⟩ => by
  subst e
  exact (gd_tupL (gdl_cons ((gd_mark h0 h1).up (m := 1) (l := 11)) (gdl_cons (a.gd.up (m := 1) (l := 82)) (gdl_cons ((gd_mark h2 h3).up (m := 1) (l := 11)) gdl_nil))) (by simp)).up
/-- rows: one to eight, their marks rise -/
def rowMark : PyData → Int
  | .tuple (.int m :: _) => m
  | _ => 0
def RowsOk (R : PyData → Prop) (rows : List PyData) : Prop := 1 ≤ rows.length ∧ rows.length ≤ 8 ∧ (∀ x ∈ rows, R x) ∧ (rows.map rowMark).Pairwise (· < ·)
theorem rows_gd {R : PyData → Prop} (hR : ∀ x, R x → Gd 2 300 x) {rows : List PyData} (h : RowsOk R rows) : Gd 3 2500 (.list rows) := by
  have a := gdl_all (n := 2) (k := 300) (xs := rows) fun x hx => hR x (h.2.2.1 x hx)
  have b := Nat.mul_le_mul_right 302 h.2.1
  exact (gd_lstL a (by have := h.2.1; omega)).up (by decide) (by omega)
/-- what a paper has behind its name -/
inductive Prt : Str → List PyData → Prop
  | thing {so : Str} {lv p q : Int} {ms : List Int} (h : so = "scale" ∧ 2 ≤ ms.length ∨ so = "box" ∧ 1 ≤ ms.length) (l0 : 0 ≤ lv) (l1 : lv ≤ 5) (f : Sml p q) (f0 : 0 ≤ p) (ml : ms.length ≤ 8) (mi : ∀ m ∈ ms, 0 ≤ m ∧ m ≤ 1000) (mr : ms.Pairwise (· < ·)) : Prt "thing" [.str so, .int lv, frc p q, .list (IL ms)]
  | told {t : Int} {rows : List PyData} (t0 : 0 ≤ t) (t1 : t ≤ 10 ^ 6) (r : RowsOk RowT rows) : Prt "told" [.int t, .list rows]
  | held {z : Str} {t : Int} {rows : List PyData} (n : Nam z) (t0 : 0 ≤ t) (t1 : t ≤ 10 ^ 6) (r : RowsOk RowH rows) : Prt "held" [.str z, .int t, .list rows]
  | made {p q : Int} {rows : List PyData} (f : Sml p q) (f0 : 0 ≤ p) (r : RowsOk RowM rows) : Prt "made" [frc p q, .list rows]
  | read {ps : List Int} (s : SpR ps) : Prt "read" [.list (IL ps)]
  | plain {k : Str} (h : k = "off" ∨ k = "harmed" ∨ k = "mended") : Prt k []
/-- a paper -/
def Pap (x : PyData) : Prop := ∃ (c d : Int) (k z : Str) (r : List PyData), x = .tuple (.int c :: .int d :: .str k :: .str z :: r) ∧ 1 ≤ c ∧ c ≤ 10 ^ 9 ∧ 0 ≤ d ∧ d ≤ 10 ^ 6 ∧ Nam z ∧ Prt k r
theorem gd_day {d : Int} (h0 : 0 ≤ d) (h1 : d ≤ 10 ^ 9) : Gd 0 41 (.int d) := gd_int (j := 40) (show d.natAbs < 2 ^ 40 by omega)
theorem gd_lit {z : Str} (h : (z.cps.all fun c => decide (c < 0x110000)) = true) (hl : z.length ≤ 8) : Gd 0 82 (.str z) := gd_str (l := 8) (fun c hc => by
  rw [← Array.all_toList, List.all_eq_true] at h
  exact of_decide_eq_true (h c hc)) hl
theorem Prt.gd {k : Str} {r : List PyData} (h : Prt k r) : Gd 0 82 (.str k) ∧ GdL 3 2800 r ∧ r.length ≤ 4 := by
  cases h with
  | @thing so lv p q ms hs l0 l1 f f0 ml mi mr =>
    have so8 : Gd 0 82 (.str so) := by
      rcases hs with ⟨rfl, _⟩ | ⟨rfl, _⟩ <;> exact gd_lit (by decide +kernel) (by decide +kernel)
    exact ⟨gd_lit (by decide +kernel) (by decide +kernel), (gdl_cons (so8.up (m := 3) (l := 82)) (gdl_cons ((gd_mark l0 (by omega)).up (m := 3) (l := 11)) (gdl_cons (f.gd.up (m := 3) (l := 91)) (gdl_cons ((gd_il (m := 8) mi ml (by decide)).up (m := 3) (l := 107)) gdl_nil)))).up, by simp⟩
  | told t0 t1 r => exact ⟨gd_lit (by decide +kernel) (by decide +kernel), (gdl_cons ((gd_day t0 (by omega)).up (m := 3) (l := 41)) (gdl_cons (rows_gd (fun _ h => h.gd) r) gdl_nil)).up, by simp⟩
  | held n t0 t1 r => exact ⟨gd_lit (by decide +kernel) (by decide +kernel), (gdl_cons (n.gd.up (m := 3) (l := 82)) (gdl_cons ((gd_day t0 (by omega)).up (m := 3) (l := 41)) (gdl_cons (rows_gd (fun _ h => h.gd) r) gdl_nil))).up, by simp⟩
  | made f f0 r => exact ⟨gd_lit (by decide +kernel) (by decide +kernel), (gdl_cons (f.gd.up (m := 3) (l := 91)) (gdl_cons (rows_gd (fun _ h => h.gd) r) gdl_nil)).up, by simp⟩
  | read s => exact ⟨gd_lit (by decide +kernel) (by decide +kernel), (gdl_cons ((gd_il (m := 6) s.2.2.1 s.2.1 (by decide)).up (m := 3) (l := 81)) gdl_nil).up, by simp⟩
  | plain h =>
    refine ⟨?_, (gdl_nil (n := 3)).up (m := 3) (l := 2800), by simp⟩
    rcases h with rfl | rfl | rfl <;> exact gd_lit (by decide +kernel) (by decide +kernel)
theorem Pap.gd {x : PyData} : Pap x → Gd 4 3100 x := fun ⟨c, d, k, z, r, e, c0, c1, d0, d1, n, h⟩ => by
  subst e
  obtain ⟨a, b, l⟩ := h.gd
  exact (gd_tupL (gdl_cons ((gd_day (by omega) c1).up (m := 3) (l := 41)) (gdl_cons ((gd_day d0 (by omega)).up (m := 3) (l := 41)) (gdl_cons (a.up (m := 3) (l := 82)) (gdl_cons (n.gd.up (m := 3) (l := 82)) b)))) (by simp only [List.length_cons]; omega)).up
end Dl
/-! ### an expression over which an owned list stays as it is -/
namespace Dl
open PySem PySem.Spec PyProof.Rows L2 PySem.W
theorem own_known {K : PySem.W.Frag} {w : Wn} {env : List Sl} {σ : L2.St} {F H : Hp} {i : Nat} {l : Addr} {xs : List PyData} (r : RelW K w env σ F H) (e : env[i]? = some (.ow l xs)) : RelW K w (env.set i (.d (.list xs))) σ (opn [l] F H) H := by
  obtain ⟨e1, h0, hf, ne, vs, hl, q⟩ := r.at' i _ e
  have k : ∀ a ∈ [l], w.H a = none ∧ F a = none ∧ a ≠ w.b.b := fun a m => by
    cases List.mem_singleton.mp m
    exact ⟨h0, hf, ne⟩
  have th : ∀ a ∈ [l], ∃ o, H a = some o ∧ isM o = true := fun a m => by
    cases List.mem_singleton.mp m
    exact ⟨_, hl, rfl⟩
  have st := r.st.freezeT k th
  have up : Same F (opn [l] F H) := opn_same fun a m => (k a m).2.1
  refine ⟨by rw [List.length_set]; exact r.len, st, fun j s h => ?_, own_set r.own fun a m => by cases m⟩
  rw [List.getElem?_set] at h
  by_cases hj : i = j
  · subst hj
    rw [if_pos rfl] at h
    split at h
    · cases h
      exact ⟨_, e1, .lst (by unfold opn; rw [if_pos (List.mem_singleton.mpr rfl)]; exact hl) (q.up up)⟩
    · cases h
  · rw [if_neg hj] at h
    have old := r.at' j s h
    have away : l ∉ slA s := fun m => hj (r.own i j _ _ l e h (by simp [slA]) m)
    have out : ∀ a ∈ slA s, F a = none → opn [l] F H a = none := fun a m h0 => by
      unfold opn
      rw [if_neg fun m2 => away (by rw [← List.mem_singleton.mp m2]; exact m)]
      exact h0
    cases s with
    | un => exact old
    | d x => obtain ⟨v, a1, a2⟩ := old; exact ⟨v, a1, a2.up up⟩
    | raw v => exact old
    | bag => exact old
    | ow m zs =>
      obtain ⟨b1, b2, b3, b4, ws, b5, b6⟩ := old
      exact ⟨b1, b2, out m (by simp [slA]) b3, b4, ws, b5, b6.up up⟩
    | tr p T y =>
      obtain ⟨v, b1, nd, kk, mr, qq⟩ := old
      exact ⟨v, b1, nd, fun a m => ⟨(kk a m).1, out a m (kk a m).2.1, (kk a m).2.2⟩, mr, qq.up up fun _ _ _ z => z⟩
    | tv v T y =>
      obtain ⟨b1, nd, kk, mr, qq⟩ := old
      exact ⟨b1, nd, fun a m => ⟨(kk a m).1, out a m (kk a m).2.1, (kk a m).2.2⟩, mr, qq.up up fun _ _ _ z => z⟩
/-- what may be told of it afterwards -/
def okT : DV → Prop
  | .d x => noL x = true
  | .fr xs => noLs xs = true
  | .ft _ => False
  | .ow _ _ => False
  | .tr _ _ _ => False
  | .raw _ => False
  | .bag => False
def tTmp (i : Nat) (t : DT) : DT := fun env P => match env[i]? with
  | some (.ow _ xs) => t (env.set i (.d (.list xs))) fun r => okT r ∧ P r
  | _ => False
theorem d_tmp {X : Cx} {w : Wn} {e : Expr} {t : DT} (i : Nat) (h : DPE X w e t) : DPE X w e (tTmp i t) := pe_weak h fun σ H Q ⟨env, F, P, r, h, q⟩ => by
  unfold tTmp at h
  split at h
  · next l xs ei =>
    obtain ⟨e1, h0, hf, ne, vs, hl, q0⟩ := r.at' i _ ei
    have op : ∀ a ∈ [l], F a = none ∧ a ≠ w.b.b ∧ ∃ o, H a = some o ∧ isM o = true := fun a m => by
      cases List.mem_singleton.mp m
      exact ⟨hf, ne, _, hl, rfl⟩
    refine ⟨_, _, _, own_known r ei, h, fun dv v F1 H1 s1 r1 h1 => ?_⟩
    obtain ⟨ok, h1⟩ := h1
    obtain ⟨st, keep⟩ := shut_ok r.wd op s1
    refine q dv v _ H1 st ?_ h1
    cases dv with
    | d x => exact noL_up keep ok r1
    | fr ys =>
      obtain ⟨p, us, a1, a2, a3, a4, a5, a6⟩ := r1
      exact ⟨p, us, a1, a2, by unfold shut; split; rfl; exact a3, a4, a5, noLs_up keep ok a6⟩
    | ft x => exact ok.elim
    | ow l xs => exact ok.elim
    | tr p S x => exact ok.elim
    | raw u => exact ok.elim
    | bag => exact ok.elim
  · exact h.elim
end Dl
namespace Dl
open PySem PySem.Spec PyProof.Rows L2
/-! ### trees made by comprehensions, and changed within -/
section
variable {K : PySem.W.Frag} {F H : Hp} {dp : Bool}
theorem OtA.app {T : List Addr} {ws : List V} {ys : List PyData} (q : OtA K F H dp T ws ys) : ∀ {S : List Addr} {vs : List V} {xs : List PyData}, OtA K F H dp S vs xs → OtA K F H dp (S ++ T) (vs ++ ws) (xs ++ ys)
  | _, _, _, .nil => q
  | _, _, _, .cons h t => by
    rw [List.append_assoc]
    exact .cons h (OtA.app q t)
end
def tre : DV → Option PyData
  | .d x => if noL x = true then some x else none
  | .ft x => some x
  | _ => none
theorem tre_ok {K : PySem.W.Frag} {b : Bg} {Hz F H : Hp} {v : V} {dv : DV} {y : PyData} (r : Res K b Hz F H dv v) (e : tre dv = some y) : ∃ S, S.Nodup ∧ (∀ a ∈ S, Hz a = none ∧ F a = none ∧ a ≠ b.b) ∧ Ot K F H true S v y := by
  unfold tre at e
  split at e
  · next x =>
    split at e
    · next n =>
      cases e
      exact ⟨[], .nil, fun a m => absurd m List.not_mem_nil, .leaf r fun _ => n⟩
    · cases e
  · next x =>
    cases e
    exact r
  · cases e
def lcT (g : PyData → List Sl → (List Sl → Prop) → Prop) (te : DT) (env : List Sl) : List PyData → List PyData → (DV → Prop) → Prop
  | [], acc, P => P (.ft (.list acc))
  | x :: xs, acc, P => g x env fun e2 => te e2 fun dv => ∃ y, tre dv = some y ∧ acc.length < 100000 ∧ lcT g te env xs (acc ++ [y]) P
def tLcT (ti : DIt) (g : PyData → List Sl → (List Sl → Prop) → Prop) (te : DT) (vs : List Nat) : DT := fun env P => ti env fun xs => lcT g te (unS env vs) xs [] P
section
variable {X : Cx} {w : Wn}
theorem lcT_go {ti : DIt} {g : PyData → List Sl → (List Sl → Prop) → Prop} {t : TG} {te : DT} {vs : List Nat} (tg' : Tgt X.K vs g t) {σ : L2.St} {H : Hp} {Q : VK} (h : lf X.K w (tLcT ti g te vs) σ H Q) : tLc (lfI X.K w ti) t (lfT X.K w fun _ P => P true) (lf X.K w te) vs σ H Q := by
  obtain ⟨env, F, P, r, h, q⟩ := h
  exact ⟨env, F, _, r, h, fun xs J F1 H1 s1 wl h1 D hD => by
    obtain ⟨G, Y, wk, hG, hY⟩ := wl.ex
    obtain ⟨us, eb⟩ := s1.bag.lst
    have Db : D ≠ w.b.b := fun e => by rw [e, eb] at hD; cases hD
    have F1D : F1 D = none := by
      cases e : F1 D with
      | none => rfl
      | some o => rw [s1.sub _ _ e] at hD; cases hD
    have r1 := (r.step s1).forgets vs
    refine lc_it wk (fun i H2 => ∃ F2 acc us S, Stp X.K w.b F1 H1 F2 H2 ∧ H2 D = some (.lst us) ∧ OtA X.K F2 H2 true S us acc ∧ S.Nodup ∧ (∀ a ∈ S, H1 a = none ∧ F2 a = none ∧ a ≠ w.b.b ∧ a ≠ D) ∧ F2 D = none ∧ lcT g te (unS env vs) (xs.drop i) acc P) ⟨F1, [], [], [], s1.wd.laidM hD, upd_same, .nil, .nil, fun a m => absurd m List.not_mem_nil, F1D, h1⟩ (fun i H2 _ ⟨F2, acc, us, S, st, _⟩ => hG F2 H2 st.ex st.wd) (fun i v H2 H3 hi ⟨F2, acc, us, S, st, eD, ra, nd, k, fD, hl⟩ y => ?_) fun H2 ⟨F2, acc, us, S, st, eD, ra, nd, k, fD, hl⟩ => ?_
    · obtain ⟨F3, x, s3, ex, rx⟩ := hY i F2 H2 v H3 st.ex st.wd y
      have e1 : xs.drop i = x :: xs.drop (i + 1) := by
        obtain ⟨hl, ex⟩ := List.getElem?_eq_some_iff.mp ex
        rw [List.drop_eq_getElem_cons hl, ex]
      rw [e1] at hl
      have st3 := st.trans s3
      have eD3 := s3.keep D (.lst us) Db (by intro _ z; cases z) eD
      have fD3 : F3 D = none := s3.new D fD (by rw [eD]; exact fun z => nomatch z)
      refine tg'.run w.b w.F w.H env σ F3 H3 v x _ _ (r1.step st3) rx hl fun env' σ' r' wi hl => ⟨wi, env', F3, fun c => c = true ∧ te env' fun dv => ∃ y, tre dv = some y ∧ acc.length < 100000 ∧ lcT g te (unS env vs) (xs.drop (i + 1)) (acc ++ [y]) P, r', ⟨rfl, hl⟩, fun c F4 H4 s4 h4 => ?_⟩
      have eD4 := s4.keep D (.lst us) Db (by intro _ z; cases z) eD3
      have fD4 : F4 D = none := s4.new D fD3 (by rw [eD3]; exact fun z => nomatch z)
      obtain ⟨rfl, h4⟩ := h4
      refine ⟨env', F4, _, r'.step s4, h4, fun dv v5 F5 H5 s5 r5 h5 => ?_⟩
      obtain ⟨y, ey, hlen, h5⟩ := h5
      obtain ⟨S5, nd5, k5, o5⟩ := tre_ok r5 ey
      have s34 := s3.trans s4
      have s35 := s34.trans s5
      have eD5 := s5.keep D (.lst us) Db (by intro _ z; cases z) eD4
      have fD5 : F5 D = none := s5.new D fD4 (by rw [eD4]; exact fun z => nomatch z)
      have th := OtA.there ra
      have ra5 : OtA X.K F5 H5 true S us acc := OtA.up s35.ex (fun a m o ho => by
        obtain ⟨o', ho', mo⟩ := th a m
        rw [ho] at ho'
        cases ho'
        exact s35.keep a o (k a m).2.2.1 (isM_tbl mo) ho) ra
      have st5 := st.trans s35
      have pD : D ∉ S ++ S5 := fun m => by
        rcases List.mem_append.mp m with m | m
        · exact (k D m).2.2.2 rfl
        · have z := (k5 D m).1
          rw [eD4] at z
          cases z
      have up : ∀ a ∈ S ++ S5, ∀ o, H5 a = some o → upd H5 D (.lst (us ++ [v5])) a = some o := fun a m o ho => by
        rw [upd_ne (fun e => pD (by rw [← e]; exact m))]
        exact ho
      have cat : OtA X.K F5 (upd H5 D (.lst (us ++ [v5]))) true (S ++ S5) (us ++ [v5]) (acc ++ [y]) := by
        have q2 := OtA.app (OtA.cons o5 .nil) ra5
        rw [List.append_nil] at q2
        exact OtA.up (fun _ _ z => z) up q2
      refine ⟨us, eD5, by rw [ra5.len]; exact lim_lt hlen, F5, acc ++ [y], us ++ [v5], S ++ S5, ⟨fun a o ne nt ha => ?_, st5.bag.up (fun _ _ h => h) (upd_ne (Ne.symm Db)) (fun t _ h1 h2 => ⟨h1, by obtain ⟨ps, z, k⟩ := h2; exact ⟨ps, by rw [upd_ne (fun e => by rw [e, eD5] at z; cases z)]; exact z, k⟩⟩), st5.ex, fun a o ha => ?_, st5.fb, st5.new, fun a ps ne ha => by
        obtain ⟨qs, h1, k⟩ := st5.tab a ps ne ha
        exact ⟨qs, by rw [upd_ne (ne_of_none ha hD)]; exact h1, k⟩⟩, upd_same, cat, ?_, fun a m => ?_, fD5, h5⟩
      · rw [upd_ne (ne_of_none ha hD)]
        exact st5.keep a o ne nt ha
      · rw [upd_ne (ne_of_none ha fD5)]
        exact st5.sub a o ha
      · refine List.nodup_append.mpr ⟨nd, nd5, fun a m b m2 e => ?_⟩
        subst e
        obtain ⟨o, ho, mo⟩ := th a m
        have z := s34.there (k a m).2.2.1 (by rw [ho]; exact fun z => nomatch z)
        exact z (k5 a m2).1
      · rcases List.mem_append.mp m with m | m
        · refine ⟨(k a m).1, s35.new a (k a m).2.1 ?_, (k a m).2.2⟩
          obtain ⟨o, ho, mo⟩ := th a m
          rw [ho]
          exact fun z => nomatch z
        · obtain ⟨z1, z2, z3⟩ := k5 a m
          exact ⟨(st.trans s34).back z3 z1, z2, z3, fun e => pD (List.mem_append.mpr (.inr (by rw [← e]; exact m)))⟩
    · rw [List.drop_length] at hl
      refine q (.ft (.list acc)) _ F2 H2 (s1.trans st) ⟨D :: S, List.nodup_cons.mpr ⟨fun m => (k D m).2.2.2 rfl, nd⟩, fun a m => ?_, .lst eD ra⟩ hl
      rcases List.mem_cons.mp m with rfl | m
      · exact ⟨s1.back Db hD, fD, Db⟩
      · exact ⟨s1.back (k a m).2.2.1 (k a m).1, (k a m).2.1, (k a m).2.2.1⟩⟩
theorem d_lcT {elt tg iter : Expr} {scope : Scope} {own : List (Str × Nat)} {pos : Pos} {ti : DIt} {g : PyData → List Sl → (List Sl → Prop) → Prop} {t : TG} {te : DT} (hc : X.calm = true) (hN : X.N.Nodup) (hi : PI X tg iter (lfI X.K w ti)) (ok : BlkOk X.N X.env.scope scope own)
    (tg' : Tgt X.K (own.map (·.2)) g t)
    (hg : ∀ (s : Shared) (H : Hp) (C : Addr) (cl : List (Str × Addr)) (fp : List Addr), PG (X.blk s H scope (compEnvC scope cl C X.env) fp) tg t)
    (he : ∀ (s : Shared) (H : Hp) (C : Addr) (cl : List (Str × Addr)) (fp : List Addr), PE (X.blk s H scope (compEnvC scope cl C X.env) fp) elt (lf X.K w te)) (hs : ∀ x, foldedSetIterable iter X.env x = pure x := by intro _; rfl) :
    DPE X w (.ListComp elt [⟨tg, iter, [], 0⟩] scope pos) (tLcT ti g te (own.map (·.2))) :=
  pe_weak (pe_lc hc hN hi ok hg (fun _ _ _ _ _ => pts_nilD) he hs) fun _ _ _ h => lcT_go tg' h
end
/-! ### tuple(e), e a new tree -/
def tTupT (te : DT) : DT := fun env P => te env fun u => match u with
  | .ft (.list xs) => P (.ft (.tuple xs))
  | _ => False
section
variable {X : Cx} {w : Wn} {pos p : Pos} {e : Expr} {te : DT}
theorem ot_lst {K : PySem.W.Frag} {F H : Hp} {S : List Addr} {v : V} {xs : List PyData} (h : Ot K F H true S v (.list xs)) : ∃ a T vs, S = a :: T ∧ v = .ref a ∧ H a = some (.lst vs) ∧ OtA K F H true T vs xs := by
  cases h with
  | leaf r n => have n := n rfl; simp [noL] at n
  | lst h r => exact ⟨_, _, _, rfl, rfl, h, r⟩
theorem d_tupT (g1 : Gl X "tuple") (m1 : X.mg "tuple" = none) (he : DPE X w e te)
    (h1 : starEach [e] X.env = (false, eval e X.env) :: starEach [] X.env := by rfl) (h2 : (backTo pos (starEach [] X.env)).any (·.1) = false := by rfl) :
    DPE X w (.Call (.Name "tuple" p) [e] [] pos) (tTupT te) :=
  pe_weak (pe_callTy call_tuple_of g1 m1 (by decide +kernel) (pa_cons he pa_nil h1) (by decide) (by decide) h1 h2) fun σ H Q ⟨env, F, P, r, h, q⟩ => by
    refine ⟨env, F, _, r, h, fun dv v F1 H1 s1 r1 h1 => ?_⟩
    split at h1
    · obtain ⟨S, nd, k, o⟩ := r1
      obtain ⟨a, T, vs, rfl, rfl, ea, oa⟩ := ot_lst o
      refine ⟨a, vs, rfl, .inl ⟨SqL.of ea, fun l hl => ?_⟩⟩
      have s2 := s1.wd.laid (o := .tup vs) hl
      have ne : ∀ b ∈ T, b ≠ l := fun b m e => by
        obtain ⟨o, ho, _⟩ := oa.there b m
        rw [e, hl] at ho
        cases ho
      refine q (.ft _) _ _ _ (s1.trans s2) ⟨T, (List.nodup_cons.mp nd).2, fun b m => ?_, .tup (SqT.of upd_same) (OtA.up s2.ex (fun b m o ho => by rw [upd_ne (ne b m)]; exact ho) oa)⟩ h1
      obtain ⟨z1, z2, z3⟩ := k b (List.mem_cons_of_mem _ m)
      exact ⟨z1, by rw [upd_ne (ne b m)]; exact z2, z3⟩
    · exact h1.elim
end
/-! ### x[k].clear(), x[k].extend(e), x a tuple's tree -/
theorem OtA.item {K : PySem.W.Frag} {F H : Hp} {ys : List PyData} : ∀ {S : List Addr} {vs : List V} {xs : List PyData} {m : Nat}, OtA K F H true S vs xs → xs[m]? = some (.list ys) →
    ∃ (A : List Addr) (a : Addr) (T B : List Addr) (us : List V), S = A ++ (a :: T) ++ B ∧ vs[m]? = some (.ref a) ∧ H a = some (.lst us) ∧ OtA K F H true T us ys ∧
      ∀ (F2 H2 : Hp) (T2 : List Addr) (us2 : List V) (ys2 : List PyData), Same F F2 → H2 a = some (.lst us2) → OtA K F2 H2 true T2 us2 ys2 → (∀ b, b ∈ A ∨ b ∈ B → ∀ o, H b = some o → H2 b = some o) → OtA K F2 H2 true (A ++ (a :: T2) ++ B) vs (xs.set m (.list ys2))
  | _, _, _, _, .nil, e => by simp at e
  | _, _, _, 0, .cons (S := S) (T := T) h t, e => by
    simp at e
    subst e
    obtain ⟨a, T1, us, rfl, rfl, ea, oa⟩ := ot_lst h
    exact ⟨[], a, T1, T, us, rfl, rfl, ea, oa, fun F2 H2 T2 us2 ys2 sm e2 o2 kp => .cons (.lst e2 o2) (OtA.up sm (fun b m => kp b (.inr m)) t)⟩
  | _, _, _, m + 1, .cons (S := S) (T := T) h t, e => by
    obtain ⟨A, a, T1, B, us, rfl, e1, ea, oa, put⟩ := OtA.item (m := m) t (by simpa using e)
    refine ⟨S ++ A, a, T1, B, us, by simp [List.append_assoc], by simpa using e1, ea, oa, fun F2 H2 T2 us2 ys2 sm e2 o2 kp => ?_⟩
    have z := OtA.cons (Ot.up sm (fun b m => kp b (.inl (List.mem_append.mpr (.inl m)))) h) (put F2 H2 T2 us2 ys2 sm e2 o2 fun b hb => kp b (hb.imp (fun m => List.mem_append.mpr (.inr m)) id))
    simpa [List.append_assoc] using z
/-- x[k].clear(), x a tuple's tree -/
def tClrD (i : Nat) (ti : DT) : DS := fun d env => match env[i]? with
  | some (.tr true S (.tuple xs)) => ti env fun u => rd u fun y => match y with
    | .int k => ∃ m ys, ixN xs.length k = some m ∧ xs[m]? = some (.list ys) ∧ ∀ S2, d.nx (env.set i (.tr true S2 (.tuple (xs.set m (.list [])))))
    | _ => False
  | _ => False
/-- x[k].extend(e), x a tuple's tree, e a new tree -/
def tExtD (i : Nat) (ti te : DT) : DS := fun d env => match env[i]? with
  | some (.tr true S (.tuple xs)) => ti env fun u => rd u fun y => match y with
    | .int k => ∃ m ys, ixN xs.length k = some m ∧ xs[m]? = some (.list ys) ∧ te env fun dv => match dv with
      | .ft (.list zs) => ys.length + zs.length ≤ 100000 ∧ ∀ S2, d.nx (env.set i (.tr true S2 (.tuple (xs.set m (.list (ys ++ zs))))))
      | _ => False
    | _ => False
  | _ => False
theorem atI_of {α : Type} {xs : List α} {k : Int} {m : Nat} {z : α} (h : ixN xs.length k = some m) (e : xs[m]? = some z) : atI xs k = some z := by
  unfold atI
  rw [h]
  exact e
end Dl
namespace Dl
open PySem PySem.Spec PyProof.Rows L2
/-! ### {i: a, j: b} as data -/
def tDict2 (i j : Int) (ta tb : DT) : DT := fun env P => ta env fun u => tb env fun v => match frz u, frz v with
  | .d x, .d y => P (.d (.dict [(.int i, x), (.int j, y)]))
  | _, _ => False
end Dl
namespace PySem.SeqAt
open PySem PySem.Calls
end PySem.SeqAt
namespace Dl
open PySem PySem.Spec PyProof.Rows L2
/-! ### xs == [] -/
def gEqN : G2 := fun x y P => match x, y with
  | .list xs, .list [] => P (.d (.bool xs.isEmpty))
  | _, _ => False
end Dl
namespace Dl
open PySem PySem.Spec PyProof.Rows L2
/-! ### all(xs), xs a list of truth values -/
def cAll : GC := fun us P => one us fun u => rd u fun x => match x with
  | .list xs => ∃ bs : List Bool, xs = bs.map PyData.bool ∧ P (.d (.bool (bs.all id)))
  | _ => False
/-! a target of three names in a comprehension -/
end Dl
namespace Dl
open PySem PySem.Spec PyProof.Rows L2
/-! ### d[k], d a dict that is data -/
def tGetD (td te : DT) : DT := fun env P => td env fun u => te env fun z => ∃ kvs k x, u = .d (dK kvs) ∧ keyD z = some k ∧ lkD kvs k = some x ∧ P (.d x)
/-! ### {'a': x, 'b': y} as data -/
def tDict2S (i j : Str) (ta tb : DT) : DT := fun env P => ta env fun u => tb env fun v => match frz u, frz v with
  | .d x, .d y => P (.d (dK [(Sum.inr i, x), (Sum.inr j, y)]))
  | _, _ => False
end Dl
namespace Dl
open PySem PySem.Spec PyProof.Rows L2
/-! ### zip(a, b) of two tuples -/
theorem wlk_zipT {K : PySem.W.Frag} {b : Bg} {F : Hp} {a c : Addr} {vs us : List V} {xs ys : List PyData} (h : SqT K F a vs) (r : RpA K F vs xs) (h2 : SqT K F c us) (r2 : RpA K F us ys) : Wlk K b F (RZ.ItzT K a c) (zipD xs ys) :=
  ⟨⟨fun H => SqT K H a vs ∧ SqT K H c us, YPair (fun i => vs[i]?) (fun i => us[i]?), ⟨fun i H hi q => by
      have hl : i < vs.length ∧ i < us.length := by
        have : (zipD xs ys).length = min xs.length ys.length := by simp [zipD]
        rw [r.len, r2.len]
        omega
      exact ⟨vs, us, vs[i], us[i], q.1, q.2, List.getElem?_eq_getElem hl.1, List.getElem?_eq_getElem hl.2⟩, fun H q => ⟨vs, us, q.1, q.2, by
        have : (zipD xs ys).length = min xs.length ys.length := by simp [zipD]
        rw [r.len, r2.len]
        omega⟩, fun i H v H2 hi q y => by
      obtain ⟨T, x, z, e1, hT, e2, hx, hy⟩ := y
      exact ⟨T, x, z, e1, hT, e2, hx vs q.1, hy us q.2⟩⟩, fun F' H' s w => ⟨sqt_up w.sub (sqt_up s h), sqt_up w.sub (sqt_up s h2)⟩, fun i F' H' v H2 s w y => by
    obtain ⟨T, x, y, rfl, hT, rfl, e1, e2⟩ := y
    obtain ⟨z1, e3, r3⟩ := r.getV e1
    obtain ⟨z2, e4, r4⟩ := r2.getV e2
    obtain ⟨F2, st, rp⟩ := pair_new w hT (r3.up s) (r4.up s)
    refine ⟨F2, _, st, ?_, rp⟩
    unfold zipD
    have e5 : (xs.zip ys)[i]? = some (z1, z2) := List.getElem?_zip_eq_some.mpr ⟨e3, e4⟩
    rw [List.getElem?_map, e5]
    rfl⟩⟩
def itZipT (ta : DA) : DIt := fun env P => ta env fun us => allD us fun xs => match xs with
  | [.tuple ys, .tuple zs] => P (zipD ys zs)
  | _ => False
theorem di_zipT {X : Cx} {w : Wn} {ta : DA} {p pos tpos : Pos} {a c : Expr} {elts : List Expr} {kk : Nat} (gl : Gl X "zip") (gm : X.mg "zip" = none) (ha : DPA X w [a, c] ta) (hs : starEach [a, c] X.env = (false, eval a X.env) :: starEach [c] X.env := by rfl) (hpl : (backTo pos (starEach [c] X.env)).any (·.1) = false := by rfl) :
    PI X (.Tuple elts kk tpos) (.Call (.Name "zip" p) [a, c] [] pos) (lfI X.K w (itZipT ta)) :=
  pi_weak (RZ.pi_zipA gl gm ha hs hpl) fun σ H R ⟨env, F, P, r, h, q⟩ => ⟨env, F, _, r, h, fun dvs vs F1 H1 s1 r1 h1 => by
    obtain ⟨xs, ra, h1⟩ := allD_ok r1 h1
    split at h1
    · next ys zs =>
      cases ra with
      | cons a1 t =>
        cases t with
        | cons a2 t =>
          cases t
          cases a1 with
          | tup e1 r2 =>
            cases a2 with
            | tup e3 r4 => exact ⟨_, _, _, _, rfl, .inr ⟨sqt_up s1.sub e1, sqt_up s1.sub e3, q _ _ F1 H1 s1 (wlk_zipT e1 r2 e3 r4) h1⟩⟩
    · exact h1.elim⟩
end Dl
/-! sets of tuples whose items are keys of any one kind: how many stand in one -/
namespace Dl
open PySem PySem.Spec PyProof.Rows L2
section
variable {P : Program} {w : World} {κ : Type} [DecidableEq κ] (kd : KeyKind P w κ)
def ent (p : List κ × Addr) : Int × Value := (tupleKeyHash kd p.1, .ref p.2)
variable {kd}
variable {A : Around} {E : Value → Shared → Prop} {s : Shared}
/-! ### such a set -/
variable (kd) in
structure KSet (h : Heap) (a : Addr) (L : List (List κ × Addr)) (es : Array (Int × Value)) (ep : Nat) (t : SetTable) : Prop where
  here : ∃ o, h.get? a = some o ∧ o.ExactSet ∧ o.data = .set es ep t
  ents : es.toList = L.map (ent kd)
  tabk : TabOk t (L.map fun p => tupleKeyHash kd p.1)
  dist : (L.map Prod.fst).Nodup
  isk : ∀ p ∈ L, IsTupleKey kd h p.1 p.2
  follow : w.params.followText "set-order" = true ∨ t.led = true
  room : 5 * L.length < 3 * t.mask
  few : L.length < 64
variable {a : Addr} {L : List (List κ × Addr)} {es : Array (Int × Value)} {ep : Nat} {t : SetTable}
theorem ents_size (h : es.toList = L.map (ent kd)) : es.size = L.length := by
  rw [← Array.length_toList, h, List.length_map]
theorem tab_fits {hs : List Int} {n : Nat} (T : TabOk t hs) (hn : hs.length = n) (hm : n ≤ t.mask) : t.fits n = true := by
  have z : t.place.size = n := T.sz.trans hn
  unfold SetTable.fits SetTable.fill
  rw [T.dm, Bool.and_eq_true, beq_iff_eq, decide_eq_true_eq, z]
  exact ⟨rfl, hm⟩
theorem KSet.fits {h : Heap} (S : KSet kd h a L es ep t) : t.fits es.size = true := by
  have r := S.room
  rw [ents_size S.ents]
  exact tab_fits S.tabk (List.length_map ..) (by omega)
/-- the c-th step of the way of a hash -/
abbrev stp (m : Nat) (h : Int) (c : Nat) : SetTable.Probe := nth m (runAt m (SetTable.bits h % (m + 1)) (SetTable.bits h)) c
/-! ### one more in it -/
/-! ### set(xs) -/
theorem KSet.up {h h' : Heap} (S : KSet kd h a L es ep t) (ha : ∀ o, h.get? a = some o → h'.get? a = some o) (ht : ∀ p ∈ L, IsTupleKey kd h' p.1 p.2) : KSet kd h' a L es ep t := by
  obtain ⟨o, ho, r⟩ := S.here
  exact ⟨⟨o, ha o ho, r⟩, S.ents, S.tabk, S.dist, ht, S.follow, S.room, S.few⟩
abbrev newS (w : World) : Obj := { cls := .type "set", dict := none, data := .set #[] 0 (.fresh 0 0 (!w.params.followText "set-order")) }
theorem none_up {h : Heap} {b : Addr} (hb : h.objs.size ≤ b) : h.get? b = none := by
  cases e : h.get? b with
  | none => rfl
  | some o => exact absurd (Heap.lt_size e) (Nat.not_lt.mpr hb)
/-! ### len(set(xs)) of a list of tuples of keys -/
/-- how many there are, each once -/
def firsts : List (List κ) → List (List κ) → List (List κ)
  | acc, [] => acc
  | acc, k :: ks => firsts (if k ∈ acc then acc else acc ++ [k]) ks
end
section
variable {X : Cx} {w : Wn}
/-- a key as data -/
def kyD : Key → PyData
  | .inl i => .int i
  | .inr z => .str z
def tLenSeX (te : DT) : DT := fun env P => te env fun u => rd u fun x => match x with
  | .list xs => ∃ ks : List (List Key), xs = ks.map (fun k => .tuple (k.map kyD)) ∧ ks.length < 64 ∧ P (.d (.int ((firsts [] ks).length : Nat)))
  | _ => False
end
end Dl
/-! f-strings, two ways to go through a value, xs.extend(e), trees held still -/
namespace Dl
open PySem PySem.Spec PyProof.Rows L2 PySem.W
section
variable {X : Cx} {w : Wn}
/-- a value that is gone through as the one or the other -/
def itOr (a b : DIt) : DIt := fun env P => a env P ∨ b env P
/-! ### f-strings -/
def tFmtD (te : DT) : DT := fun env P => te env fun u => rd u fun x => match x with
  | .int i => i.natAbs.log2 < 1920 ∧ P (.d (.str (toString i)))
  | .str z => z.length ≤ 100000 ∧ P (.d (.str z))
  | _ => False
def tJsD : List DT → Str → List Sl → (Str → Prop) → Prop
  | [], acc, _, P => P acc
  | t :: ts, acc, env, P => t env fun u => match u with
    | .d (.str y) => (acc ++ y).length ≤ 100000 ∧ tJsD ts (acc ++ y) env P
    | _ => False
def tFstr (ts : List DT) : DT := fun env P => tJsD ts Str.empty env fun z => P (.d (.str z))
/-! ### xs.extend(e), xs an owned list -/
def tExtO (i : Nat) (te : DT) : DS := fun d env => match env[i]? with
  | some (.ow l xs) => te env fun dv => rd dv fun y => match y with
    | .list zs => xs.length + zs.length ≤ 100000 ∧ d.nx (env.set i (.ow l (xs ++ zs)))
    | _ => False
  | _ => False
/-! ### an expression over which a tree stays as it is -/
def tTmT (i : Nat) (t : DT) : DT := fun env P => match env[i]? with
  | some (.tr _ _ x) => t (env.set i (.d x)) fun r => okT r ∧ P r
  | _ => False
theorem tree_known {K : PySem.W.Frag} {env : List Sl} {σ : L2.St} {F H : Hp} {i : Nat} {p : Bool} {S : List Addr} {x : PyData} (r : RelW K w env σ F H) (e : env[i]? = some (.tr p S x)) : RelW K w (env.set i (.d x)) σ (opn S F H) H := by
  obtain ⟨v, e1, nd, k, mr, q⟩ := r.at' i _ e
  have st := r.st.freezeT k q.there
  have up : Same F (opn S F H) := opn_same fun a m => (k a m).2.1
  refine ⟨by rw [List.length_set]; exact r.len, st, fun j s h => ?_, own_set r.own fun a m => by cases m⟩
  rw [List.getElem?_set] at h
  by_cases hj : i = j
  · subst hj
    rw [if_pos rfl] at h
    split at h
    · cases h
      exact ⟨_, e1, q.open up fun _ m => m⟩
    · cases h
  · rw [if_neg hj] at h
    have old := r.at' j s h
    have out : ∀ a ∈ slA s, F a = none → opn S F H a = none := fun a m h0 => by
      unfold opn
      rw [if_neg fun (m2 : a ∈ S) => hj (r.own i j _ _ a e h m2 m)]
      exact h0
    cases s with
    | un => exact old
    | d y => obtain ⟨u, a1, a2⟩ := old; exact ⟨u, a1, a2.up up⟩
    | raw u => exact old
    | bag => exact old
    | ow m zs =>
      obtain ⟨b1, b2, b3, b4, ws, b5, b6⟩ := old
      exact ⟨b1, b2, out m (by simp [slA]) b3, b4, ws, b5, b6.up up⟩
    | tr p' T y =>
      obtain ⟨u, b1, nd', kk, mr', qq⟩ := old
      exact ⟨u, b1, nd', fun a m => ⟨(kk a m).1, out a m (kk a m).2.1, (kk a m).2.2⟩, mr', qq.up up fun _ _ _ z => z⟩
    | tv u T y =>
      obtain ⟨b1, nd', kk, mr', qq⟩ := old
      exact ⟨b1, nd', fun a m => ⟨(kk a m).1, out a m (kk a m).2.1, (kk a m).2.2⟩, mr', qq.up up fun _ _ _ z => z⟩
theorem d_tmT {e : Expr} {t : DT} (i : Nat) (h : DPE X w e t) : DPE X w e (tTmT i t) := pe_weak h fun σ H Q ⟨env, F, P, r, h, q⟩ => by
  unfold tTmT at h
  split at h
  · next p S x ei =>
    obtain ⟨v0, e1, nd, k, mr, q0⟩ := r.at' i _ ei
    have op : ∀ a ∈ S, F a = none ∧ a ≠ w.b.b ∧ ∃ o, H a = some o ∧ isM o = true := fun a m => ⟨(k a m).2.1, (k a m).2.2, q0.there a m⟩
    refine ⟨_, _, _, tree_known r ei, h, fun dv v F1 H1 s1 r1 h1 => ?_⟩
    obtain ⟨ok, h1⟩ := h1
    obtain ⟨st, keep⟩ := shut_ok r.wd op s1
    refine q dv v _ H1 st ?_ h1
    cases dv with
    | d x => exact noL_up keep ok r1
    | fr ys =>
      obtain ⟨p, us, a1, a2, a3, a4, a5, a6⟩ := r1
      exact ⟨p, us, a1, a2, by unfold shut; split; rfl; exact a3, a4, a5, noLs_up keep ok a6⟩
    | ft x => exact ok.elim
    | ow l xs => exact ok.elim
    | tr p S x => exact ok.elim
    | raw u => exact ok.elim
    | bag => exact ok.elim
  · exact h.elim
end
end Dl
/-! places within an owned tree: x[i][k].clear(), x[i][k].extend(e) -/
namespace Dl
open PySem PySem.Spec PyProof.Rows L2 PySem.W
section
variable {K : PySem.W.Frag} {F H : Hp}
theorem OtA.sub {y : PyData} : ∀ {S : List Addr} {vs : List V} {xs : List PyData} {m : Nat}, OtA K F H true S vs xs → xs[m]? = some y →
    ∃ (A T B : List Addr) (u : V), S = A ++ T ++ B ∧ vs[m]? = some u ∧ Ot K F H true T u y ∧
      ∀ (F2 H2 : Hp) (T2 : List Addr) (y2 : PyData), Same F F2 → Ot K F2 H2 true T2 u y2 → (∀ b, b ∈ A ∨ b ∈ B → ∀ o, H b = some o → H2 b = some o) → OtA K F2 H2 true (A ++ T2 ++ B) vs (xs.set m y2)
  | _, _, _, _, .nil, e => by simp at e
  | _, _, _, 0, .cons (S := S) (T := T) h t, e => by
    simp at e
    subst e
    exact ⟨[], S, T, _, rfl, rfl, h, fun F2 H2 T2 y2 sm o2 kp => .cons o2 (OtA.up sm (fun b m => kp b (.inr m)) t)⟩
  | _, _, _, m + 1, .cons (S := S) (T := T) h t, e => by
    obtain ⟨A, T1, B, u, rfl, e1, o1, put⟩ := OtA.sub (m := m) t (by simpa using e)
    refine ⟨S ++ A, T1, B, u, by simp [List.append_assoc], by simpa using e1, o1, fun F2 H2 T2 y2 sm o2 kp => ?_⟩
    have z := OtA.cons (Ot.up sm (fun b m => kp b (.inl (List.mem_append.mpr (.inl m)))) h) (put F2 H2 T2 y2 sm o2 fun b hb => kp b (hb.imp (fun m => List.mem_append.mpr (.inr m)) id))
    simpa [List.append_assoc] using z
/-- v, that holds y, stands within the tree of v0; with y2 in y's stead the tree holds g y2 -/
def HoleAt (K : PySem.W.Frag) (F H : Hp) (S : List Addr) (v0 v : V) (y : PyData) (g : PyData → PyData) : Prop := ∃ A T B, S = A ++ T ++ B ∧ Ot K F H true T v y ∧
  ∀ (F2 H2 : Hp) (T2 : List Addr) (y2 : PyData), Same F F2 → Ot K F2 H2 true T2 v y2 → (∀ b, b ∈ A ∨ b ∈ B → ∀ o, H b = some o → H2 b = some o) → Ot K F2 H2 true (A ++ T2 ++ B) v0 (g y2)
theorem HoleAt.up {F' H' : Hp} {S : List Addr} {v0 v : V} {y : PyData} {g : PyData → PyData} (h : HoleAt K F H S v0 v y g) (sm : Same F F') (kp : ∀ a ∈ S, ∀ o, H a = some o → H' a = some o) : HoleAt K F' H' S v0 v y g := by
  obtain ⟨A, T, B, rfl, o, put⟩ := h
  refine ⟨A, T, B, rfl, o.up sm fun a m => kp a (by simp [m]), fun F2 H2 T2 y2 s2 o2 k2 => put F2 H2 T2 y2 (sm.trans s2) o2 fun b hb o ho => k2 b hb o (kp b ?_ o ho)⟩
  rcases hb with m | m <;> simp [m]
theorem HoleAt.self {S : List Addr} {v : V} {x : PyData} (h : Ot K F H true S v x) : HoleAt K F H S v v x id :=
  ⟨[], S, [], by simp, h, fun F2 H2 T2 y2 _ o2 _ => by simpa using o2⟩
theorem HoleAt.lst {S : List Addr} {v0 v : V} {xs : List PyData} {z : PyData} {m : Nat} {g : PyData → PyData} (h : HoleAt K F H S v0 v (.list xs) g) (e : xs[m]? = some z) :
    ∃ r vs u, v = .ref r ∧ H r = some (.lst vs) ∧ vs.length = xs.length ∧ vs[m]? = some u ∧ HoleAt K F H S v0 u z fun y2 => g (.list (xs.set m y2)) := by
  obtain ⟨A, T, B, rfl, o, put⟩ := h
  obtain ⟨a, T1, vs, rfl, rfl, ea, oa⟩ := ot_lst o
  obtain ⟨A2, T2, B2, u, rfl, e1, o1, put1⟩ := oa.sub e
  refine ⟨a, vs, u, rfl, ea, oa.len, e1, A ++ a :: A2, T2, B2 ++ B, by simp [List.append_assoc], o1, fun F2 H2 T3 y2 sm o3 kp => ?_⟩
  have q := put F2 H2 (a :: (A2 ++ T3 ++ B2)) (.list (xs.set m y2)) sm (.lst (kp a (.inl (by simp)) _ ea) (put1 F2 H2 T3 y2 sm o3 fun b hb => kp b (hb.elim (fun m => .inl (by simp [m])) fun m => .inr (by simp [m])))) fun b hb => kp b (hb.elim (fun m => .inl (by simp [m])) fun m => .inr (by simp [m]))
  simpa [List.append_assoc] using q
theorem HoleAt.tup {S : List Addr} {v0 v : V} {xs : List PyData} {z : PyData} {m : Nat} {g : PyData → PyData} (h : HoleAt K F H S v0 v (.tuple xs) g) (e : xs[m]? = some z) :
    ∃ r vs u, v = .ref r ∧ SqT K F r vs ∧ vs.length = xs.length ∧ vs[m]? = some u ∧ (noL (.tuple xs) = false → HoleAt K F H S v0 u z fun y2 => g (.tuple (xs.set m y2))) := by
  obtain ⟨A, T, B, rfl, o, put⟩ := h
  cases o with
  | leaf r n =>
    have n := n rfl
    cases r with
    | tup h r =>
      obtain ⟨u, e1, _⟩ := r.get e
      exact ⟨_, _, u, rfl, h, r.len, e1, fun c => by rw [n] at c; cases c⟩
  | tup hv oa =>
    obtain ⟨A2, T2, B2, u, rfl, e1, o1, put1⟩ := oa.sub e
    refine ⟨_, _, u, rfl, hv, oa.len, e1, fun _ => ⟨A ++ A2, T2, B2 ++ B, by simp [List.append_assoc], o1, fun F2 H2 T3 y2 sm o3 kp => ?_⟩⟩
    have q := put F2 H2 (A2 ++ T3 ++ B2) (.tuple (xs.set m y2)) sm (.tup (sqt_up sm hv) (put1 F2 H2 T3 y2 sm o3 fun b hb => kp b (hb.elim (fun m => .inl (by simp [m])) fun m => .inr (by simp [m])))) fun b hb => kp b (hb.elim (fun m => .inl (by simp [m])) fun m => .inr (by simp [m]))
    simpa [List.append_assoc] using q
end
abbrev DPl := List Sl → PyData → (PyData → (PyData → PyData) → Prop) → Prop
def tPl0 : DPl := fun _ x P => P x id
def tPlL (tp : DPl) (ti : DT) : DPl := fun env x P => tp env x fun y g => match y with
  | .list xs => ti env fun u => rd u fun k => match k with
    | .int k => ∃ m z, ixN xs.length k = some m ∧ xs[m]? = some z ∧ P z fun y2 => g (.list (xs.set m y2))
    | _ => False
  | _ => False
def tPlT (tp : DPl) (ti : DT) : DPl := fun env x P => tp env x fun y g => match y with
  | .tuple xs => ti env fun u => rd u fun k => match k with
    | .int k => noL (.tuple xs) = false ∧ ∃ m z, ixN xs.length k = some m ∧ xs[m]? = some z ∧ P z fun y2 => g (.tuple (xs.set m y2))
    | _ => False
  | _ => False
/-- a place in the tree of slot i -/
def lfP (K : PySem.W.Frag) (w : Wn) (i : Nat) (tp : DPl) : TE := fun σ H Q => ∃ env F S x P, RelW K w env σ F H ∧ env[i]? = some (.tr true S x) ∧ tp env x P ∧
  ∀ y g v F' H', Stp K w.b F H F' H' → (∃ v0, σ[i]? = some (some v0) ∧ HoleAt K F' H' S v0 v y g) → P y g → Q v H'
section
variable {X : Cx} {w : Wn} {i : Nat} {tp : DPl} {ti : DT} {o ix : Expr} {pos : Pos}
theorem pl_var {e : Expr} (base : PE X e (tVar i)) : PE X e (lfP X.K w i tPl0) :=
  pe_weak base fun σ H Q ⟨env, F, S, x, P, r, ei, h, q⟩ => by
    obtain ⟨v, e1, nd, k, mr, o⟩ := r.at' i _ ei
    exact ⟨v, e1, q x id v F H r.wd.refl ⟨v, e1, .self o⟩ h⟩
theorem tree_keep {K : PySem.W.Frag} {env : List Sl} {σ : L2.St} {F H F' H' : Hp} {S : List Addr} {x : PyData} (r : RelW K w env σ F H) (ei : env[i]? = some (.tr true S x)) (s : Stp K w.b F H F' H') : ∀ a ∈ S, ∀ o, H a = some o → H' a = some o := fun a m o ho => by
  obtain ⟨v, e1, nd, k, mr, t⟩ := r.at' i _ ei
  obtain ⟨o', ho', mo⟩ := t.there a m
  rw [ho] at ho'
  cases ho'
  exact s.keep a o (k a m).2.2 (isM_tbl mo) ho
theorem pl_ixL (ho : PE X o (lfP X.K w i tp)) (hi : DPE X w ix ti) (hs : PlainIx ix := by exact fun _ _ => rfl) : PE X (.Subscript o ix pos) (lfP X.K w i (tPlL tp ti)) :=
  pe_weak (pe_ix ix_list ho hi hs) fun σ H Q ⟨env, F, S, x, P, r, ei, h, q⟩ => ⟨env, F, S, x, _, r, ei, h, fun y g v F1 H1 s1 ⟨v0, e0, hl⟩ h1 => by
    split at h1
    · next xs =>
      refine ⟨env, F1, _, r.step s1, h1, fun dv u F2 H2 s2 r2 h2 => ?_⟩
      obtain ⟨y, y1, h2⟩ := rd_ok r2 h2
      split at h2
      · next k =>
        cases y1.int
        obtain ⟨m, z, em, ez, h2⟩ := h2
        have hl2 := hl.up s2.ex (tree_keep (r.step s1) ei s2)
        obtain ⟨ro, vs, u, rfl, hv, ln, eu, hz⟩ := hl2.lst ez
        exact ⟨ro, vs, k, u, rfl, rfl, SqL.of hv, atI_of (by rw [ln]; exact em) eu, q z _ u F2 H2 (s1.trans s2) ⟨v0, e0, hz⟩ h2⟩
      · exact h2.elim
    · exact h1.elim⟩
theorem pl_ixT (ho : PE X o (lfP X.K w i tp)) (hi : DPE X w ix ti) (hs : PlainIx ix := by exact fun _ _ => rfl) : PE X (.Subscript o ix pos) (lfP X.K w i (tPlT tp ti)) :=
  pe_weak (pe_ix ix_tup ho hi hs) fun σ H Q ⟨env, F, S, x, P, r, ei, h, q⟩ => ⟨env, F, S, x, _, r, ei, h, fun y g v F1 H1 s1 ⟨v0, e0, hl⟩ h1 => by
    split at h1
    · next xs =>
      refine ⟨env, F1, _, r.step s1, h1, fun dv u F2 H2 s2 r2 h2 => ?_⟩
      obtain ⟨y, y1, h2⟩ := rd_ok r2 h2
      split at h2
      · next k =>
        cases y1.int
        obtain ⟨nl, m, z, em, ez, h2⟩ := h2
        have hl2 := hl.up s2.ex (tree_keep (r.step s1) ei s2)
        obtain ⟨ro, vs, u, rfl, hv, ln, eu, hz⟩ := hl2.tup ez
        exact ⟨ro, vs, k, u, rfl, rfl, sqt_up s2.sub hv, atI_of (by rw [ln]; exact em) eu, q z _ u F2 H2 (s1.trans s2) ⟨v0, e0, hz nl⟩ h2⟩
      · exact h2.elim
    · exact h1.elim⟩
/-- the place's list gets other items: what is known behind it -/
theorem hole_write {K : PySem.W.Frag} {env : List Sl} {σ : L2.St} {F H : Hp} {S : List Addr} {x : PyData} (r : RelW K w env σ F H) (ei : env[i]? = some (.tr true S x)) {v0 v : V} {ys : List PyData} {g : PyData → PyData} (e0 : σ[i]? = some (some v0)) (hl : HoleAt K F H S v0 v (.list ys) g) :
    ∃ a us T, v = .ref a ∧ H a = some (.lst us) ∧ us.length = ys.length ∧ OtA K F H true T us ys ∧ T.Nodup ∧ a ∉ T ∧ (∀ b ∈ a :: T, b ∈ S) ∧
      ∀ (T2 : List Addr) (us2 : List V) (ys2 : List PyData), T2.Nodup → a ∉ T2 → (∀ b ∈ T2, b ∈ T ∨ (b ∉ S ∧ w.H b = none ∧ F b = none ∧ b ≠ w.b.b ∧ ∀ (j : Nat) (t : Sl), env[j]? = some t → b ∉ slA t)) → OtA K F (upd H a (.lst us2)) true T2 us2 ys2 →
        ∃ S2, RelW K w (env.set i (.tr true S2 (g (.list ys2)))) σ F (upd H a (.lst us2)) := by
  obtain ⟨v', e1, nd, k, mr, t⟩ := r.at' i _ ei
  rw [e0] at e1
  cases e1
  obtain ⟨A, T0, B, rfl, o, put⟩ := hl
  obtain ⟨a, T, us, rfl, rfl, ea, oa⟩ := ot_lst o
  have hn := List.nodup_append.mp nd
  have hn1 := List.nodup_append.mp hn.1
  have hn2 := List.nodup_cons.mp hn1.2.1
  have aA : a ∉ A := fun z => hn1.2.2 a z a (List.mem_cons_self ..) rfl
  have aB : a ∉ B := fun z => hn.2.2 a (List.mem_append.mpr (.inr (List.mem_cons_self ..))) a z rfl
  have inS : ∀ b ∈ a :: T, b ∈ A ++ (a :: T) ++ B := fun b hb => List.mem_append.mpr (.inl (List.mem_append.mpr (.inr hb)))
  refine ⟨a, us, T, rfl, ea, oa.len, oa, hn2.2, hn2.1, inS, fun T2 us2 ys2 n2 a2 hT2 o2 => ⟨A ++ (a :: T2) ++ B, ?_⟩⟩
  have cases2 : ∀ b, b ∈ A ++ (a :: T2) ++ B → b ∈ A ++ (a :: T) ++ B ∨ (b ∉ A ++ (a :: T) ++ B ∧ w.H b = none ∧ F b = none ∧ b ≠ w.b.b ∧ ∀ (j : Nat) (t : Sl), env[j]? = some t → b ∉ slA t) := fun b hb => by
    simp only [List.mem_append, List.mem_cons] at hb
    rcases hb with (hb | hb | hb) | hb
    · exact .inl (by simp [hb])
    · exact .inl (by simp [hb])
    · rcases hT2 b hb with hb | hb
      · exact .inl (by simp [hb])
      · exact .inr hb
    · exact .inl (by simp [hb])
  have r4 := r.wrtS (H' := upd H a (.lst us2)) ei (s' := .un) (fun b o n hb => by
    rw [upd_ne (fun z => n (by rw [z]; exact inS a (List.mem_cons_self ..)))]
    exact hb) True.intro fun b z => absurd z List.not_mem_nil
  have r6 := r4.put i (z := .tr true (A ++ (a :: T2) ++ B) (g (.list ys2))) (v := v0) ⟨_, rfl, ?_, fun b z => ?_, fun _ => (by simp), put F _ (a :: T2) (.list ys2) sm0 (.lst upd_same o2) fun b hb o ho => ?_⟩ fun b z j t nj ej m2 => ?_
  · rw [List.set_set] at r6
    have es : σ.set i (some v0) = σ := by
      refine List.ext_getElem? fun j => ?_
      rw [List.getElem?_set]
      by_cases hj : i = j
      · subst hj
        rw [if_pos rfl, e0, if_pos (List.getElem?_eq_some_iff.mp e0).1]
      · rw [if_neg hj]
    rw [es] at r6
    exact r6
  · refine List.nodup_append.mpr ⟨List.nodup_append.mpr ⟨hn1.1, List.nodup_cons.mpr ⟨a2, n2⟩, fun x hx y hy e => ?_⟩, hn.2.1, fun x hx y hy e => ?_⟩
    · subst e
      rcases List.mem_cons.mp hy with rfl | hy
      · exact aA hx
      · rcases hT2 x hy with hy | hy
        · exact hn1.2.2 x hx x (List.mem_cons_of_mem _ hy) rfl
        · exact hy.1 (by simp [hx])
    · subst e
      rcases List.mem_append.mp hx with hx | hx
      · exact hn.2.2 x (List.mem_append.mpr (.inl hx)) x hy rfl
      · rcases List.mem_cons.mp hx with rfl | hx
        · exact aB hy
        · rcases hT2 x hx with hx | hx
          · exact hn.2.2 x (List.mem_append.mpr (.inr (List.mem_cons_of_mem _ hx))) x hy rfl
          · exact hx.1 (by simp [hy])
  · rcases cases2 b z with z | z
    · exact k b z
    · exact ⟨z.2.1, z.2.2.1, z.2.2.2.1⟩
  · rw [upd_ne (fun z => by subst z; exact hb.elim aA aB)]
    exact ho
  · rw [List.getElem?_set_ne (Ne.symm nj)] at ej
    rcases cases2 b z with z | z
    · exact nj (r.own j i _ _ b ej ei m2 z)
    · exact z.2.2.2.2 j t ej m2
/-! items of tuples, counted from the front -/
theorem at3 {α : Type} (a b c d : α) (r : List α) : atI (a :: b :: c :: d :: r) 3 = some d := atD (j := 3) rfl rfl
theorem gi3 (a b c d : PyData) (r : List PyData) (P : DV → Prop) : gIx (.tuple (a :: b :: c :: d :: r)) (.int 3) P = P (.d d) := by simp only [gIx, at3]
theorem at4 {α : Type} (a b c d e : α) (r : List α) : atI (a :: b :: c :: d :: e :: r) 4 = some e := atD (j := 4) rfl rfl
theorem gi4 (a b c d e : PyData) (r : List PyData) (P : DV → Prop) : gIx (.tuple (a :: b :: c :: d :: e :: r)) (.int 4) P = P (.d e) := by simp only [gIx, at4]
theorem at5 {α : Type} (a b c d e f : α) (r : List α) : atI (a :: b :: c :: d :: e :: f :: r) 5 = some f := atD (j := 5) rfl rfl
theorem gi5 (a b c d e f : PyData) (r : List PyData) (P : DV → Prop) : gIx (.tuple (a :: b :: c :: d :: e :: f :: r)) (.int 5) P = P (.d f) := by simp only [gIx, at5]
theorem at6 {α : Type} (a b c d e f g : α) (r : List α) : atI (a :: b :: c :: d :: e :: f :: g :: r) 6 = some g := atD (j := 6) rfl rfl
theorem gi6 (a b c d e f g : PyData) (r : List PyData) (P : DV → Prop) : gIx (.tuple (a :: b :: c :: d :: e :: f :: g :: r)) (.int 6) P = P (.d g) := by simp only [gIx, at6]
theorem at7 {α : Type} (a b c d e f g h : α) (r : List α) : atI (a :: b :: c :: d :: e :: f :: g :: h :: r) 7 = some h := atD (j := 7) rfl rfl
theorem gi7 (a b c d e f g h : PyData) (r : List PyData) (P : DV → Prop) : gIx (.tuple (a :: b :: c :: d :: e :: f :: g :: h :: r)) (.int 7) P = P (.d h) := by simp only [gIx, at7]
/-- x..[k].clear() -/
def tClrP (i : Nat) (tp : DPl) : DS := fun d env => ∃ S x, env[i]? = some (.tr true S x) ∧ tp env x fun y g => ∃ ys, y = .list ys ∧ ∀ S2, d.nx (env.set i (.tr true S2 (g (.list []))))
/-- the items of a new list, as owned ones -/
def lsT : DV → Option (List PyData)
  | .ft (.list zs) => some zs
  | .fr zs => if noLs zs = true then some zs else none
  | _ => none
def tExtP (i : Nat) (tp : DPl) (te : DT) : DS := fun d env => ∃ S x, env[i]? = some (.tr true S x) ∧ tp env x fun y g => ∃ ys, y = .list ys ∧ te env fun dv => ∃ zs, lsT dv = some zs ∧ ys.length + zs.length ≤ 100000 ∧ ∀ S2, d.nx (env.set i (.tr true S2 (g (.list (ys ++ zs)))))
end
end Dl
/-! anything beside a text: ==, !=, in -/
namespace PySem.SeqAt
open PySem PySem.Calls
end PySem.SeqAt
namespace Dl
open PySem PySem.Spec PyProof.Rows L2
/-- the text z -/
def isTx (z : Str) : PyData → Bool
  | .str y => decide (y = z)
  | _ => false
section
variable {X : Cx} {w : Wn} {pins : List (Addr × Obj)} {σ : L2.St} {H : Hp} {s : Shared}
/-! ### the operators -/
def gEqX : G2 := fun x y P => isOb x = false ∧ match y with
  | .str z => P (.d (.bool (isTx z x)))
  | _ => False
def gInX (f : Bool → Bool) : G2 := fun x y P => isOb x = false ∧ ∃ zs : List Str, (y = .tuple (zs.map .str) ∨ y = .list (zs.map .str)) ∧ P (.d (.bool (f (zs.any fun z => isTx z x))))
/-- a sign in a text -/
def gInS (f : Bool → Bool) : G2 := fun x y P => ∃ (c : Nat) (z : Str), x = .str ⟨#[c]⟩ ∧ y = .str z ∧ P (.d (.bool (f (decide (c ∈ z.cps.toList)))))
/-- xs != [] -/
def gNeN : G2 := fun x y P => match x, y with
  | .list xs, .list [] => P (.d (.bool (!xs.isEmpty)))
  | _, _ => False
end
end Dl
/-! a dict display of constants, d.get(k), isinstance of one of two types, bool + int -/
namespace Dl
open PySem PySem.Spec PyProof.Rows L2 PySem.W
/-! ### bool + int -/
def bI (b : Bool) : Int := if b = true then 1 else 0
def gAddX : G2 := fun x y P => match x, y with
  | .bool k, .int j => P (.d (.int (bI k + j)))
  | .int i, .int j => P (.d (.int (i + j)))
  | _, _ => False
section
variable {X : Cx} {w : Wn}
/-! ### isinstance(x, (a, b)) -/
def tIsT (n m : String) (te : DT) : DT := fun env P => te env fun u => rd u fun x => isOb x = false ∧ P (.d (.bool (isA n x || isA m x)))
/-! ### {'a': 1, 'b': 2, ..}, all constants -/
inductive DispC : List (Option Expr) → List Expr → List (Str × Int) → Prop
  | nil : DispC [] [] []
  | cons {ks vs kvs k i j1 p1 j2 p2} : DispC ks vs kvs → DispC (some (.Constant (.str k) j1 p1) :: ks) (.Constant (.int i) j2 p2 :: vs) ((k, i) :: kvs)
def kvD (kvs : List (Str × Int)) : List (Key × PyData) := kvs.map fun p => (Sum.inr p.1, PyData.int p.2)
theorem DispC.len : ∀ {ks vs kvs}, DispC ks vs kvs → ks.all (·.isSome) = true ∧ ks.length = vs.length ∧ ks.length = kvs.length
  | _, _, _, .nil => ⟨rfl, rfl, rfl⟩
  | _, _, _, .cons t => by
    obtain ⟨a, b, c⟩ := t.len
    exact ⟨by rw [List.all_cons, a]; rfl, by rw [List.length_cons, List.length_cons, b], by rw [List.length_cons, List.length_cons, c]⟩
def tDictC (kvs : List (Str × Int)) : DT := fun env P => P (.d (dK (kvD kvs)))
/-! ### d.get(k), d a dict that is data -/
def tGetO (td te : DT) : DT := fun env P => td env fun u => ∃ kvs, u = .d (dK kvs) ∧ te env fun z => ∃ k, keyD z = some k ∧ P (.d ((lkD kvs k).getD .none))
end
end Dl
/-! == of data with its own copy, where an empty dict may lie in it -/
namespace PySem.SeqAt
open PySem PySem.Calls
end PySem.SeqAt
namespace Dl
open PySem PySem.Spec PyProof.Rows L2
mutual
/-- data in which the only dicts are empty ones -/
def okE : PyData → Bool
  | .none => true
  | .bool _ => true
  | .int _ => true
  | .str _ => true
  | .list xs => okEs xs
  | .tuple xs => okEs xs
  | .dict kvs => kvs.isEmpty
def okEs : List PyData → Bool
  | [] => true
  | x :: xs => okE x && okEs xs
end
section
variable {X : Cx} {w : Wn} {pins : List (Addr × Obj)} {σ : L2.St} {H : Hp} {s : Shared}
/-- x == its own copy -/
def gEqS : G2 := fun x y P => x = y ∧ okE x = true ∧ x.depth ≤ 60 ∧ P (.d (.bool true))
end
end Dl
set_option maxHeartbeats 4000000
/-! t[::-1], t a tuple -/
namespace Dl
open PySem PySem.Spec PyProof.Rows L2
section
variable {X : Cx} {w : Wn} {pos : Pos}
def tRevT (te : DT) : DT := fun env P => te env fun u => rd u fun x => match x with
  | .tuple xs => P (.d (.tuple xs.reverse))
  | _ => False
end
end Dl
/-! one measure of data that spoiling keeps -/
namespace Dl
open PySem PySem.Spec PyProof.Rows L2 PySem.W
mutual
/-- whole numbers up to B, lists and tuples at most w long, texts of signs, no dict but {} -/
def gdB (B w : Nat) : PyData → Bool
  | .none => true
  | .bool _ => true
  | .int i => decide (i.natAbs ≤ B)
  | .str z => z.cps.toList.all fun c => decide (c < 0x110000)
  | .list xs => decide (xs.length ≤ w) && gdBs B w xs
  | .tuple xs => decide (xs.length ≤ w) && gdBs B w xs
  | .dict kvs => kvs.isEmpty
def gdBs (B w : Nat) : List PyData → Bool
  | [] => true
  | x :: xs => gdB B w x && gdBs B w xs
end
mutual
/-- no less than the length of the data's text -/
def sz : PyData → Nat
  | .none => 10
  | .bool _ => 10
  | .int _ => 90
  | .str z => 10 * z.length + 2
  | .list xs => szs xs + 3
  | .tuple xs => szs xs + 3
  | .dict _ => 10
def szs : List PyData → Nat
  | [] => 0
  | x :: xs => sz x + 2 + szs xs
end
theorem gdBs_mem {B w : Nat} : ∀ {xs : List PyData}, gdBs B w xs = true ↔ ∀ x ∈ xs, gdB B w x = true
  | [] => by simp [gdBs]
  | y :: ys => by
    rw [gdBs, Bool.and_eq_true, gdBs_mem]
    simp
theorem szs_mem : ∀ {xs : List PyData} {x : PyData}, x ∈ xs → sz x + 2 ≤ szs xs
  | y :: ys, x, h => by
    rw [szs]
    rcases List.mem_cons.mp h with rfl | h
    · omega
    · have := szs_mem h
      omega
theorem depthAll_mem {d : Nat} : ∀ {xs : List PyData}, PyData.depthAll xs ≤ d ↔ ∀ x ∈ xs, x.depth ≤ d
  | [] => by simp [PyData.depthAll]
  | y :: ys => by
    rw [PyData.depthAll]
    have ih := depthAll_mem (d := d) (xs := ys)
    constructor
    · intro h x hx
      rcases List.mem_cons.mp hx with rfl | hx
      · omega
      · exact ih.mp (by omega) x hx
    · intro h
      have a := h y List.mem_cons_self
      have b := ih.mpr fun x hx => h x (List.mem_cons_of_mem _ hx)
      omega
mutual
theorem gdB_up {B w C v : Nat} (hB : B ≤ C) (hw : w ≤ v) : ∀ x : PyData, gdB B w x = true → gdB C v x = true
  | .none, _ => rfl
  | .bool _, _ => rfl
  | .int i, h => by simp only [gdB, decide_eq_true_eq] at h ⊢; omega
  | .str z, h => h
  | .list xs, h => by
    simp only [gdB, Bool.and_eq_true, decide_eq_true_eq] at h ⊢
    exact ⟨by omega, gdBs_up hB hw xs h.2⟩
  | .tuple xs, h => by
    simp only [gdB, Bool.and_eq_true, decide_eq_true_eq] at h ⊢
    exact ⟨by omega, gdBs_up hB hw xs h.2⟩
  | .dict _, h => h
theorem gdBs_up {B w C v : Nat} (hB : B ≤ C) (hw : w ≤ v) : ∀ xs : List PyData, gdBs B w xs = true → gdBs C v xs = true
  | [], _ => rfl
  | x :: xs, h => by
    simp only [gdBs, Bool.and_eq_true] at h ⊢
    exact ⟨gdB_up hB hw x h.1, gdBs_up hB hw xs h.2⟩
end
mutual
theorem gdB_sn {B w : Nat} (hB : B < 2 ^ 80) : ∀ x : PyData, gdB B w x = true → realD x = true ∧ x.showable = true ∧ x.shown.length ≤ sz x
  | .none, _ => ⟨sn_none.real, sn_none.show_, Nat.le_trans sn_none.len (by simp [sz])⟩
  | .bool b, _ => ⟨(sn_bool b).real, (sn_bool b).show_, Nat.le_trans (sn_bool b).len (by simp [sz])⟩
  | .int i, h => by
    simp only [gdB, decide_eq_true_eq] at h
    have s := sn_int (i := i) (j := 81) (show i.natAbs < 2 ^ 81 by omega)
    exact ⟨s.real, s.show_, Nat.le_trans s.len (by simp [sz])⟩
  | .str z, h => by
    simp only [gdB, List.all_eq_true, decide_eq_true_eq] at h
    have g := (gd_str h (Nat.le_refl _)).sn
    exact ⟨g.real, g.show_, Nat.le_trans g.len (by simp [sz])⟩
  | .list xs, h => by
    simp only [gdB, Bool.and_eq_true] at h
    obtain ⟨a, b, c, d⟩ := gdBs_sn hB xs h.2
    have q := listText_len_le (PyData.shownAll xs)
    refine ⟨by rw [realD, a], by rw [PyData.showable, b], ?_⟩
    show (listText (PyData.shownAll xs)).length ≤ _
    rw [sz]
    omega
  | .tuple xs, h => by
    simp only [gdB, Bool.and_eq_true] at h
    obtain ⟨a, b, c, d⟩ := gdBs_sn hB xs h.2
    have q := tupleText_len_le (PyData.shownAll xs)
    refine ⟨by rw [realD, a], by rw [PyData.showable, b], ?_⟩
    show (tupleText (PyData.shownAll xs)).length ≤ _
    rw [sz]
    omega
  | .dict kvs, h => by
    have e : kvs = [] := by simpa only [gdB, List.isEmpty_iff] using h
    subst e
    exact ⟨by simp [realD, realK], by simp [PyData.showable, PyData.showableKv], by decide +kernel⟩
theorem gdBs_sn {B w : Nat} (hB : B < 2 ^ 80) : ∀ xs : List PyData, gdBs B w xs = true → realA xs = true ∧ PyData.showableAll xs = true ∧ ((PyData.shownAll xs).map (·.length)).sum + 2 * xs.length ≤ szs xs ∧ (PyData.shownAll xs).length = xs.length
  | [], _ => ⟨by simp [realA], by simp [PyData.showableAll], by simp [PyData.shownAll, szs], by simp [PyData.shownAll]⟩
  | x :: xs, h => by
    simp only [gdBs, Bool.and_eq_true] at h
    obtain ⟨a, b, c, d⟩ := gdBs_sn hB xs h.2
    obtain ⟨a1, b1, c1⟩ := gdB_sn hB x h.1
    refine ⟨by rw [realA, a, a1]; rfl, by rw [PyData.showableAll, b, b1]; rfl, ?_, ?_⟩
    · simp only [PyData.shownAll, List.map_cons, List.sum_cons, List.length_cons, szs]
      omega
    · simp only [PyData.shownAll, List.length_cons, d]
end
/-- spoilt data: B bounds its numbers, w its lists, k its text, n its depth -/
structure Spt (B w k n : Nat) (x : PyData) : Prop where
  g : gdB B w x = true
  s : sz x ≤ k
  d : x.depth ≤ n
theorem Spt.sh {B w k n : Nat} {x : PyData} (h : Spt B w k n x) (hB : B < 2 ^ 80) (hk : k ≤ 100000) (hn : n ≤ 63) : Sh x := by
  obtain ⟨a, b, c⟩ := gdB_sn hB x h.g
  exact ⟨a, b, Nat.le_trans h.d hn, by have := h.s; omega⟩
end Dl
/-! drawn papers by the one measure -/
namespace Dl
open PySem PySem.Spec PyProof.Rows L2 PySem.W
structure Sps (B w k n : Nat) (xs : List PyData) : Prop where
  g : gdBs B w xs = true
  s : szs xs ≤ k
  d : PyData.depthAll xs ≤ n
theorem Sps.tup {B w k n : Nat} {xs : List PyData} (h : Sps B w k n xs) (hl : xs.length ≤ w) : Spt B w (k + 3) (n + 1) (.tuple xs) := by
  have a := h.s
  have b := h.d
  exact ⟨by rw [gdB, h.g, decide_eq_true hl]; rfl, by rw [sz]; omega, by rw [PyData.depth]; omega⟩
theorem Sps.lst {B w k n : Nat} {xs : List PyData} (h : Sps B w k n xs) (hl : xs.length ≤ w) : Spt B w (k + 3) (n + 1) (.list xs) := by
  have a := h.s
  have b := h.d
  exact ⟨by rw [gdB, h.g, decide_eq_true hl]; rfl, by rw [sz]; omega, by rw [PyData.depth]; omega⟩
theorem Sps.up {B w k n C v l m : Nat} {xs : List PyData} (h : Sps B w k n xs) (hB : B ≤ C := by decide) (hw : w ≤ v := by decide) (hk : k ≤ l := by decide) (hn : n ≤ m := by decide) : Sps C v l m xs :=
  ⟨gdBs_up hB hw xs h.g, Nat.le_trans h.s hk, Nat.le_trans h.d hn⟩
theorem Spt.up {B w k n C v l m : Nat} {x : PyData} (h : Spt B w k n x) (hB : B ≤ C := by decide) (hw : w ≤ v := by decide) (hk : k ≤ l := by decide) (hn : n ≤ m := by decide) : Spt C v l m x :=
  ⟨gdB_up hB hw x h.g, Nat.le_trans h.s hk, Nat.le_trans h.d hn⟩
/-! ### data spoilt once -/
end Dl
/-! parts and texts put otherwise -/
namespace Dl
open PySem PySem.Spec PyProof.Rows L2 PySem.W
/-! ### texts -/
/-! ### what a def gives, put into a name -/
theorem Sps.all {B w k n : Nat} {xs : List PyData} (h : Sps B w k n xs) : ∀ x ∈ xs, Spt B w k n x := fun x hx =>
  ⟨gdBs_mem.mp h.g x hx, by have a := szs_mem hx; have := h.s; omega, Nat.le_trans (depthAll_mem.mp (Nat.le_refl _) x hx) h.d⟩
end Dl
/-! try .. except C as n .. except D -/
namespace Dl
open PySem PySem.Spec PyProof.Rows L2
section
variable {X : Cx} {pins : List (Addr × Obj)} {B h : Heap} {a : Addr} {cls : Value} {d : Option Addr} {σ : L2.St} {H : Hp} {sI s' : Shared}
/-- an exception that came to its try: h is the heap there, sI the state without it -/
structure Cgt (X : Cx) (pins : List (Addr × Obj)) (B : Heap) (a : Addr) (cls : Value) (d : Option Addr) (σ : L2.St) (H : Hp) (sI s' : Shared) (h : Heap) : Prop where
  inv : Inv X pins σ H sI
  ground : ∀ b o, sI.heap.get? b = some o → b ∉ frs X.stack → B.get? b = some o
  slots : sI.heap.UpToSlots h
  flies : HandSPX.FlyingZ B (X.env :: X.outer) a (Zc cls d) h
  new : H a = none
  same : s'.os = sI.os
  bare : AllBare s'.gens
theorem Cgt.here (g : Cgt X pins B a cls d σ H sI s' h) : Inv X pins σ H { s' with heap := h } := Inv.landed g.inv g.ground g.flies.1 g.slots g.same g.bare
theorem Cgt.obj (g : Cgt X pins B a cls d σ H sI s' h) (hf : X.env.frame = some X.env.locals) : ∃ oe vs, h.get? a = some oe ∧ Zc cls d oe ∧ oe.data = .fields vs ∧ a ≠ X.env.locals ∧ a ∉ X.fs := by
  obtain ⟨oe, vs, e, z, f⟩ := g.flies.there
  have no : a ∉ frs (X.env :: X.outer) := fun m => by
    obtain ⟨_, o2, e2, n2⟩ := g.flies.2.2.1.mem m
    rw [e] at e2
    cases e2
    exact n2 _ f
  refine ⟨oe, vs, e, z, f, fun q => no (List.mem_filterMap.mpr ⟨X.env, List.mem_cons_self, by rw [hf, q]⟩), fun m => ?_⟩
  obtain ⟨t, ht, q⟩ := List.mem_filterMap.mp m
  exact no (List.mem_filterMap.mpr ⟨t, List.mem_cons_of_mem _ ht, q⟩)
theorem Cgt.suite (g : Cgt X pins B a cls d σ H sI s' h) (hf : X.env.frame = some X.env.locals) : ∃ oe, Zc cls d oe ∧ (∃ vs, oe.data = .fields vs) ∧ h.get? a = some oe ∧ Inv (X.suite a ((a, oe) :: (X.pn ++ pins))) [] σ H { s' with heap := h } := by
  obtain ⟨oe, vs, e, z, f, n1, n2⟩ := g.obj hf
  exact ⟨oe, z, ⟨vs, f⟩, e, g.here.suite e f g.new n1 n2⟩
/-- no clause takes it -/
theorem Cgt.out {W : WX} {D : Ends} (g : Cgt X pins B a cls d σ H sI s' h) (hs : X.stack = X.env :: X.outer) (hf : X.env.frame = some X.env.locals) (tk : Takes X W) (w : W cls d σ H) :
    wpAny (model X.prog X.w) X.A (handleBy (.ref a) X.env []) (SP X pins D) X.xe { s' with heap := h } := by
  refine wpAny_handleBy_nil ?_
  have fl := g.flies
  obtain ⟨_, _, _, o1, vs, T, _, _, g1, _, g2, g3, _⟩ := id fl
  have last : wpAny (model X.prog X.w) X.A (setFlight (.ref a) X.env.frame) (fun _ s4 => wpAny (model X.prog X.w) X.A (throw (.ref a) : Sem Flow) (SP X pins D) X.xe s4) X.xe { s' with heap := h } := by
    rw [hf]
    refine HandSPX.setFlight_upZ fl fun h4 held up => wpAny_throw (tk _ _ ⟨a, B, sI, pins, σ, H, cls, d, rfl, g.inv, g.ground, g.slots.trans up, ?_, g.new, g.same, g.bare, w⟩)
    rw [hs]
    exact .inr (.inr held)
  unfold PySem.passOn
  refine wpAny_bind (wpAny_field g1 g2 g3 ?_)
  rw [if_neg (by simp)]
  first
    | exact wpAny_bind (wpAny_pure (wpAny_bind last))
    | exact wpAny_bind last
/-- the clause's class is looked up -/
theorem Cgt.name {x : Str} {c : Value} {np : Pos} {Q E : Value → Shared → Prop} (g : Cgt X pins B a cls d σ H sI s' h) (hf : X.env.frame = some X.env.locals) (hc : Names X x c) (q : Q c { s' with heap := h }) :
    wpAny (model X.prog X.w) (X.A.mark (some (.ref a))) (eval (.Name x np) X.env) Q E { s' with heap := h } := by
  obtain ⟨oe, _, _, _, S⟩ := g.suite hf
  obtain ⟨hg, hd, hm | ⟨hm, hv, hn⟩⟩ := hc
  · exact ld_glob (X := X.suite a ((a, oe) :: (X.pn ++ pins))) S hg hm q hd
  · exact ld_blt (X := X.suite a ((a, oe) :: (X.pn ++ pins))) S hg hm hv q hn hd
end
end Dl
/-! anything == a whole number -/
namespace PySem.SeqAt
open PySem PySem.Calls
end PySem.SeqAt
namespace Dl
open PySem PySem.Spec PyProof.Rows L2
/-- as much as the number k -/
def isN (k : Int) : PyData → Bool
  | .int i => i == k
  | .bool b => (if b then 1 else 0) == k
  | _ => false
section
variable {X : Cx} {w : Wn} {pins : List (Addr × Obj)} {σ : L2.St} {H : Hp} {s : Shared}
def gEqI : G2 := fun x y P => isOb x = false ∧ match y with
  | .int k => P (.d (.bool (isN k x)))
  | _ => False
end
end Dl
/-! texts taken apart: split, partition, startswith, removeprefix, int(text), text times number -/
namespace Dl
open PySem PySem.Spec PyProof.Rows L2
/-- a method of a text with one text -/
def tS1 (g : Str → Str → (DV → Prop) → Prop) (to te : DT) : DT := fun env P => to env fun u => rd u fun x => match x with
  | .str a => te env fun v => rd v fun y => match y with
    | .str b => g a b P
    | _ => False
  | _ => False
/-- its parts between the signs of b -/
def gSplit (a b : Str) (P : DV → Prop) : Prop := (b.length == 0) = false ∧ a.length ≤ 100000 ∧ P (.fr ((Txt.split a b).map .str))
def gPart (a b : Str) (P : DV → Prop) : Prop := (b.length == 0) = false ∧ a.length ≤ 100000 ∧ P (.d (.tuple [.str (Txt.partition a b).1, .str (Txt.partition a b).2.1, .str (Txt.partition a b).2.2]))
def gStarts (a b : Str) (P : DV → Prop) : Prop := P (.d (.bool (Txt.startswith a b)))
def gRmPre (a b : Str) (P : DV → Prop) : Prop := a.length ≤ 100000 ∧ P (.d (.str (Txt.removeprefix a b)))
section
variable {X : Cx} {w : Wn} {o e : Expr} {to te : DT} {apos pos : Pos} {name : Str}
/-- int of a text, or of a number -/
def cIntT : GC := fun us P => one us fun u => rd u fun x => match x with
  | .str a => a.length ≤ 640 ∧ ∃ n, intText? a = some n ∧ P (.d (.int n))
  | _ => False
/-- the sign z, n times -/
def repS (z : Str) (n : Nat) : Str := ⟨(List.replicate n z.cps).foldl (· ++ ·) #[]⟩
def gMulS : G2 := fun x y P => match x, y with
  | .str z, .int k => 0 ≤ k ∧ k ≤ 100000 ∧ z.length * k.toNat ≤ 100000 ∧ P (.d (.str (repS z k.toNat)))
  | _, _ => False
end
end Dl
/-! try .. except C as n, where the exceptions keep nothing -/
namespace Dl
open PySem PySem.Spec PyProof.Rows L2
end Dl
/-! words of figures and what they tell -/
namespace Dl
open PySem PySem.Spec PyProof.Rows L2
/-! ### one sign ahead -/
/-! ### the worths of words -/
end Dl
/-! zip of a tuple and a list -/
namespace Dl
open PySem PySem.Spec PyProof.Rows L2
def itZipM (ta : DA) : DIt := fun env P => ta env fun us => allD us fun xs => match xs with
  | [.tuple ys, .list zs] => P (zipD ys zs)
  | _ => False
end Dl
/-! range with a step -/
namespace Dl
open PySem PySem.Spec PyProof.Rows L2
def stpD (lo c : Int) (n : Nat) : List PyData := (List.range n).map fun i => .int (lo + (i : Nat) * c)
def itR3 (ta : DA) : DIt := fun env P => ta env fun us => allD us fun xs => match xs with
  | [.int i, .int j, .int k] => ∃ n : Nat, RgC i j k n ∧ P (stpD i k n)
  | _ => False
end Dl
/-! returns that hand a tree of a slot on -/
namespace Dl
open PySem PySem.Spec PyProof.Rows L2
section
variable {X : Cx} {w : Wn} {e : Expr} {te : DT} {pos p p1 p2 p3 p4 : Pos} {c1 : Nat} {x : Str} {i : Nat}
/-- return x -/
def tRetTV (i : Nat) : DS := fun d env => match env[i]? with
  | some (.ow _ xs) => d.rt (.fr xs)
  | some (.d x) => d.rt (.d x)
  | some (.raw v) => d.rt (.raw v)
  | some (.tr true _ x) => d.rt (.ft x)
  | _ => False
/-- what a slot hands on: a tree of its own, or plain data -/
def hand : Sl → Option PyData
  | .tr true _ x => some x
  | .d x => if noL x = true then some x else none
  | _ => none
/-- return (e, x) -/
def tRetPr (te : DT) (i : Nat) : DS := fun d env => te env fun u => ∃ a s y, frz u = .d a ∧ noL a = true ∧ env[i]? = some s ∧ hand s = some y ∧ d.rt (.ft (.tuple [a, y]))
/-- return tuple(e + [x]) -/
def tRetCat (te : DT) (i : Nat) : DS := fun d env => te env fun u => ∃ xs s y, u = .ft (.list xs) ∧ xs.length < 100000 ∧ env[i]? = some s ∧ hand s = some y ∧ d.rt (.ft (.tuple (xs ++ [y])))
/-- a test over which a tree stays as it is -/
def tTmW (i : Nat) (c : DTT) : DTT := fun env P => match env[i]? with
  | some (.tr _ _ x) => c (env.set i (.d x)) P
  | some (.d _) => c env P
  | _ => False
end
end Dl
/-! sets of flat items of any one kind (texts): sorted(set(xs)) -/
namespace Dl
open PySem PySem.Spec PyProof.Rows L2
section
variable {P : Program} {w : World} {κ : Type} [DecidableEq κ] (kd : PySem.KeyKind P w κ)
/-- what stands in a set, entry by entry, told by keys -/
inductive Ents : List (Int × Value) → List κ → Prop
  | nil : Ents [] []
  | cons {k : κ} {v : Value} {l : List (Int × Value)} {L : List κ} (h : kd.is k v = true) (c : v.scannable = true) (t : Ents l L) : Ents ((kd.hash k, v) :: l) (k :: L)
variable {kd}
theorem Ents.perm {l m : List (Int × Value)} (p : l.Perm m) : ∀ {L : List κ}, Ents kd l L → ∃ M, Ents kd m M ∧ M.Perm L := by
  induction p with
  | nil => exact fun h => ⟨_, h, .refl _⟩
  | cons x _ ih =>
    intro L h
    cases h with
    | cons h c t =>
      obtain ⟨M, e, p⟩ := ih t
      exact ⟨_, .cons h c e, p.cons _⟩
  | swap x y l =>
    intro L h
    cases h with
    | cons h c t =>
      cases t with
      | cons h2 c2 t => exact ⟨_, .cons h2 c2 (.cons h c t), .swap ..⟩
  | trans _ _ i1 i2 =>
    intro L h
    obtain ⟨M, e, p⟩ := i1 h
    obtain ⟨N, e2, p2⟩ := i2 e
    exact ⟨N, e2, p2.trans p⟩
theorem Ents.elems {l : List (Int × Value)} {L : List κ} (h : Ents kd l L) : ElemsOf kd l := by
  induction h with
  | nil => exact fun e he => absurd he List.not_mem_nil
  | cons h c t ih =>
    intro e he
    rcases List.mem_cons.mp he with rfl | he
    · exact ⟨⟨_, h, rfl⟩, c⟩
    · exact ih e he
theorem Ents.len {l : List (Int × Value)} {L : List κ} (h : Ents kd l L) : l.length = L.length := by
  induction h with
  | nil => rfl
  | cons h c t ih => rw [List.length_cons, List.length_cons, ih]
theorem Ents.met {l : List (Int × Value)} {L : List κ} (h : Ents kd l L) (k : κ) : (∃ e ∈ l, kd.is k e.2 = true) ↔ k ∈ L := by
  induction h with
  | nil => exact ⟨fun ⟨_, m, _⟩ => absurd m List.not_mem_nil, fun m => absurd m List.not_mem_nil⟩
  | @cons j v l L h c t ih =>
    rw [List.mem_cons, ← ih]
    constructor
    · rintro ⟨e, m, q⟩
      rcases List.mem_cons.mp m with rfl | m
      · exact .inl (kd.inj _ _ _ q h)
      · exact .inr ⟨e, m, q⟩
    · rintro (rfl | ⟨e, m, q⟩)
      · exact ⟨_, List.mem_cons_self, h⟩
      · exact ⟨e, List.mem_cons_of_mem _ m, q⟩
/-- a set whose table can be walked -/
def SetLike (w : World) (es : Array (Int × Value)) (t : SetTable) : Prop := t.fits es.size = true ∧ Ris t.place.toList ∧ (w.params.followText "set-order" = true ∨ t.led = true)
variable (kd) in
structure FSet (h : Heap) (a : Addr) (L : List κ) : Prop where
  ex : ∃ o es ep t, h.get? a = some o ∧ o.ExactSet ∧ o.data = .set es ep t ∧ Ents kd es.toList L ∧ SetLike w es t
  dist : L.Nodup
  few : L.length < 64
theorem FSet.up {h h' : Heap} {a : Addr} {L : List κ} (S : FSet kd h a L) (k : ∀ o, h.get? a = some o → h'.get? a = some o) : FSet kd h' a L := by
  obtain ⟨o, es, ep, t, ho, r⟩ := S.ex
  exact ⟨⟨o, es, ep, t, k o ho, r⟩, S.dist, S.few⟩
variable {A : Around} {E : Value → Shared → Prop} {s : Shared} {a : Addr} {L : List κ}
/-- what is met behind one more -/
def More (k : κ) (L L' : List κ) : Prop := (∀ j, j ∈ L' ↔ j = k ∨ j ∈ L) ∧ L'.length ≤ L.length + 1
theorem sizes_small {n : Nat} (h : n ≤ 64) : n < scanBound ∧ n ≤ sizeLine := by
  refine ⟨by unfold scanBound; omega, by rw [sizeLine_eq]; omega⟩
/-- the entries es1 are stored, and the table laid anew where it is too full -/
theorem flat_store {g : Bool → Sem Unit} (hg : ∀ (b : Bool) (z : Shared) (T : Unit → Shared → Prop), T () z → wpAny (model P w) A (g b) T E z) {o : Obj} {es es1 : Array (Int × Value)} {ep : Nat} {t t1 : SetTable} {M : List κ} {was : Bool} {T : Option Bool → Shared → Prop}
    (ho : s.heap.get? a = some o) (hx : o.ExactSet) (hd : o.data = .set es ep t) (en : Ents kd es1.toList M) (sl : SetLike w es1 t1) (dist : M.Nodup) (few : M.length < 64)
    (q : ∀ h' M', Heap.SameBut a s.heap h' → M'.Perm M → FSet kd h' a M' → T (some true) { s with heap := h' }) :
    wpAny (model P w) A (storeSet a es1 t1 >>= fun _ => if (!was && t1.tooFull) = true then (g (relayAll t1 es1 (SetTable.grown es1.size)).2.2 >>= fun _ => storeSet a (relayAll t1 es1 (SetTable.grown es1.size)).1 (relayAll t1 es1 (SetTable.grown es1.size)).2.1 >>= fun _ => pure (some true)) else pure (some true)) T E s := by
  obtain ⟨f1, r1, l1⟩ := sl
  have n1 : es1.size = M.length := by rw [← Array.length_toList]; exact en.len
  obtain ⟨_, b1⟩ := sizes_small (show es1.size ≤ 64 by omega)
  refine wpAny_bind (wpAny_storeSet_of ho hd ?_ b1)
  have sb := Heap.SameBut.update s.heap a (Obj.putSet es1 t1)
  have at1 := store_at (es' := es1) (t' := t1) ho hd
  by_cases full : (!was && t1.tooFull) = true
  · refine wp_if_pos full ?_
    obtain ⟨M2, e2, p2⟩ := en.perm (relayAll_perm t1 es1 (SetTable.grown es1.size)).symm
    have f2 := relayAll_fits t1 es1 (SetTable.grown es1.size)
    have r2 := relayAll_ris t1 es1 (SetTable.grown es1.size)
    have l2 := relayAll_led t1 es1 (SetTable.grown es1.size)
    generalize relayAll t1 es1 (SetTable.grown es1.size) = Z at e2 f2 r2 l2 ⊢
    have n2 : Z.1.size = M.length := by rw [← Array.length_toList, e2.len, p2.length_eq]
    obtain ⟨_, b2⟩ := sizes_small (show Z.1.size ≤ 64 by omega)
    refine wpAny_bind (hg _ _ _ (wpAny_bind (wpAny_storeSet_of at1 rfl ?_ b2)))
    have at2 := store_at (es' := Z.1) (t' := Z.2.1) at1 rfl
    exact wpAny_pure (q _ M2 (sb.trans (Heap.SameBut.update ..)) p2 ⟨⟨_, _, _, _, at2, ⟨hx.1, hx.2.1, hx.2.2⟩, rfl, e2, f2, r2, by rw [l2]; exact l1⟩, p2.nodup_iff.mpr dist, by rw [p2.length_eq]; exact few⟩)
  · exact wp_if_neg full (wpAny_pure (q _ M sb (.refl _) ⟨⟨_, _, _, _, at1, ⟨hx.1, hx.2.1, hx.2.2⟩, rfl, en, f1, r1, l1⟩, dist, few⟩))
theorem plain_off {t : SetTable} {es : Array (Int × Value)} (b : Bool) (h : SetLike w es t) : SetLike w es (if b = true then t else { t with plain := false }) := by
  cases b with
  | true => exact h
  | false => exact ⟨h.1, h.2⟩
theorem flat_add (S : FSet kd s.heap a L) {x : Value} {k : κ} (hx : kd.is k x = true) (sc : x.scannable = true) (more : L.length + 1 < 64) {Q : Bool → Shared → Prop}
    (q : ∀ b h' L', Heap.SameBut a s.heap h' → FSet kd h' a L' → More k L L' → Q b { s with heap := h' }) : wpAny (model P w) A (setAddHashed a x (kd.hash k)) Q E s := by
  obtain ⟨o, es, ep, t, ho, hex, hd, en, sl⟩ := S.ex
  have n0 : es.size = L.length := by rw [← Array.length_toList]; exact en.len
  obtain ⟨c0, _⟩ := sizes_small (show es.size ≤ 64 by omega)
  unfold setAddHashed
  refine wpAny_holding ?_
  rw [show (100000 : Nat) = 99999 + 1 from rfl, setAddHashedIn_succ]
  refine wpAny_bind (wpAny_setState_of ho hd sl.1 ?_)
  refine wp_if_pos (byScan_of sc c0 en.elems) ?_
  unfold setAddByScan
  refine wpAny_bind (wpAny_bind (wpAny_rule (wpAny_bind (wpAny_setScan_of hx ho hd sl.1 en.elems ?_))))
  cases hf : List.findIdx? (fun e => kd.is k e.2) es.toList with
  | some j =>
    obtain ⟨hj, pj, _⟩ := List.findIdx?_eq_some_iff_getElem.mp hf
    have m : k ∈ L := (en.met k).mp ⟨_, List.getElem_mem hj, pj⟩
    exact wpAny_pure (wpAny_pure (q false _ L (.refl a s.heap) S ⟨fun i => ⟨.inr, fun z => z.elim (fun e => e ▸ m) id⟩, Nat.le_succ _⟩))
  | none =>
    have nm : k ∉ L := fun m => by
      obtain ⟨e, he, z⟩ := (en.met k).mpr m
      have := List.findIdx?_eq_none_iff.mp hf e he
      rw [z] at this
      cases this
    dsimp only
    have pm := layNew_perm t es (kd.hash k) x
    have f1 := layNew_fits t es (kd.hash k) x
    have r1 := layNew_ris t es (kd.hash k) x sl.2.1
    have l1 := layNew_led t es (kd.hash k) x
    generalize layNew t es (kd.hash k) x = Z at pm f1 r1 l1 ⊢
    rw [Array.toList_push] at pm
    obtain ⟨M, eM, pM⟩ := (Ents.cons hx sc en).perm (pm.trans (List.perm_append_singleton _ _)).symm
    have sl1 : SetLike w Z.1 Z.2.1 := ⟨f1, r1, by rw [l1]; exact sl.2.2⟩
    have fin : ∀ h' M', Heap.SameBut a s.heap h' → M'.Perm M → FSet kd h' a M' → Q true { s with heap := h' } := fun h' M' sb p F => q true h' M' sb F ⟨fun j => by rw [(p.trans pM).mem_iff, List.mem_cons], by rw [(p.trans pM).length_eq]; exact Nat.le_refl _⟩
    have dM : M.Nodup := pM.nodup_iff.mpr (List.nodup_cons.mpr ⟨nm, S.dist⟩)
    have fM : M.length < 64 := by rw [pM.length_eq, List.length_cons]; exact more
    have hg : ∀ (b : Bool) (z : Shared) (T : Unit → Shared → Prop), T () z → wpAny (model P w) A (match b with | true => rule "set.scan.the-table-gave-way" | false => pure ()) T E z := fun b z T h => by
      cases b with
      | true => exact wpAny_rule h
      | false => exact wpAny_pure h
    refine wpAny_bind (hg _ _ _ ?_)
    by_cases pl : Z.2.1.plain = true
    · refine wp_if_pos pl (wpAny_bind ?_)
      rw [hashByValue_scannable 8 sc]
      exact wpAny_pure (flat_store hg ho hex hd eM (plain_off _ sl1) dM fM fun h' M' sb p F => wpAny_pure (fin h' M' sb p F))
    · exact wp_if_neg pl (wpAny_bind (wpAny_pure (flat_store hg ho hex hd eM (plain_off true sl1) dM fM fun h' M' sb p F => wpAny_pure (fin h' M' sb p F))))
/-! ### set(xs) -/
theorem more_on {ks L L' : List κ} {i : Nat} {k : κ} (g : (∀ j, j ∈ L ↔ j ∈ ks.take i) ∧ L.length ≤ i) (h : ks[i]? = some k) (m : More k L L') : (∀ j, j ∈ L' ↔ j ∈ ks.take (i + 1)) ∧ L'.length ≤ i + 1 := by
  have e : ks.take (i + 1) = ks.take i ++ [k] := by
    rw [List.take_succ, h]
    rfl
  refine ⟨fun j => ?_, Nat.le_trans m.2 (by omega)⟩
  rw [m.1, g.1, e, List.mem_append, List.mem_singleton]
  exact or_comm
theorem flat_fill {I : Addr} {fp wr : List Addr} {G : Array GenState → Array GenState → Prop} {n : Nat} {Pv : Nat → Value → Prop} {St : Nat → Shared → Prop} {R : Result → Shared → Prop} (W : WalksS P w A.in1 I fp wr G n Pv St) (S : Addr) (out : S ∉ fp)
    (ks : List κ) (hn : n = ks.length) (few : ks.length < 64) (val : ∀ i v, Pv i v → ∃ k, ks[i]? = some k ∧ kd.is k v = true ∧ v.scannable = true) (h0 : Heap) (hS : h0.get? S = none) (hw : ∀ b ∈ wr, h0.get? b = none) :
    ∀ (m i : Nat) (s : Shared), i + m = n → St i s → (∀ b o, h0.get? b = some o → s.heap.get? b = some o) → (∃ L, FSet kd s.heap S L ∧ (∀ j, j ∈ L ↔ j ∈ ks.take i) ∧ L.length ≤ i) →
      (∀ s' L, Moved (S :: wr) G s s' → FSet kd s'.heap S L → (∀ j, j ∈ L ↔ j ∈ ks) → (∀ b o, h0.get? b = some o → s'.heap.get? b = some o) → R (.ok (.ret .none)) s') →
      codeAny (model P w) A (.builtin "set.update.loop" ⟨[.ref S, .ref I], []⟩) R s := by
  have apart : S ∉ wr := fun h => out (W.sub _ h)
  have wide : ∀ b ∈ wr, b ∈ S :: wr := fun b hb => List.mem_cons_of_mem _ hb
  have still : ∀ {s s' : Shared}, Moved wr G s s' → (∀ b o, h0.get? b = some o → s.heap.get? b = some o) → ∀ b o, h0.get? b = some o → s'.heap.get? b = some o := fun mv k b o e =>
    mv.heap b o (fun hb => by rw [hw b hb] at e; cases e) (k b o e)
  intro m
  induction m with
  | zero =>
    rintro i s rfl hst k0 ⟨L, hL, g⟩ hR
    refine codeAny_builtin F.entry_set_update_loop ?_
    rw [Around.under_plainId F.plain_set_update_loop _]
    refine wpAny_bind (m := pyNext (.ref I)) (W.done s _ _ hst fun s' mv => wpAny_pure (hR s' L (mv.mono wide) (hL.up fun o e => mv.heap S o apart e) (fun j => ?_) (still mv k0)))
    rw [g.1, List.take_of_length_le (by omega)]
  | succ m ih =>
    rintro i s hi hst k0 ⟨L, hL, g⟩ hR
    refine codeAny_builtin F.entry_set_update_loop ?_
    rw [Around.under_plainId F.plain_set_update_loop _]
    refine wpAny_bind (m := pyNext (.ref I)) (W.item i s _ _ (by omega) hst fun v s' hP hst' mv => ?_)
    obtain ⟨k, hk, hx, sc⟩ := val i v hP
    have k1 := still mv k0
    have hL1 : FSet kd s'.heap S L := hL.up fun o e => mv.heap S o apart e
    refine wpAny_bind (m := holding [v] (setAdd S v)) (wpAny_holding ?_)
    unfold setAdd
    refine wpAny_holding (wpAny_bind (kd.pyHash hx ?_))
    have il := g.2
    refine flat_add (s := { s' with toks := s'.toks + 1 }) hL1 hx sc (by omega) fun b h' L' sb hL2 mo => ?_
    have k2 : ∀ b o, h0.get? b = some o → h'.get? b = some o := fun b o e => (sb.2 b (fun z => by rw [z, hS] at e; cases e)).trans (k1 b o e)
    refine wpAny_pure ⟨plainId_quiet F.plain_set_update_loop _, ih (i + 1) _ (by omega) (W.frame _ s' _ _ hst' (Nat.le_succ _) fun b hb o e => ?_) k2 ⟨L', hL2, more_on g hk mo⟩ fun s2 L2 mv2 hL3 g3 k3 => ?_⟩
    · exact (sb.2 b (fun z : b = S => out (z ▸ hb))).trans e
    · refine hR s2 L2 (Moved.trans W.gtrans ((mv.mono wide).then_heap (Nat.le_succ _) fun b o hb e => ?_) mv2) hL3 g3 k3
      exact (sb.2 b fun z : b = S => hb (by rw [z]; exact List.mem_cons_self)).trans e
theorem fset_new {h : Heap} (ho : h.get? a = some (newS w)) : FSet kd h a [] := by
  refine ⟨⟨_, #[], 0, _, ho, ⟨rfl, rfl, rfl⟩, rfl, .nil, rfl, List.Pairwise.nil, ?_⟩, List.nodup_nil, by show 0 < 64; decide⟩
  cases e : w.params.followText "set-order" with
  | true => exact .inl rfl
  | false => exact .inr rfl
set_option maxHeartbeats 4000000 in
theorem flat_call {l : Addr} {items : Array Value} (ks : List κ) {Q : Value → Shared → Prop} (hh : A.handled = none) (hl : s.heap.IsList l items) (v : ∀ (i : Nat) (u : Value), items[i]? = some u → ∃ k, ks[i]? = some k ∧ kd.is k u = true ∧ u.scannable = true) (isz : items.size = ks.length) (few : ks.length < 64)
    (q : ∀ (h' : Heap) (tk : Nat) L, FSet kd h' s.heap.objs.size L → (∀ j, j ∈ L ↔ j ∈ ks) → (∀ b o, s.heap.get? b = some o → h'.get? b = some o) → Q (.ref s.heap.objs.size) { s with heap := h', toks := tk }) :
    wpAny (model P w) A (call (.type "set") [.ref l]) Q E s := by
  obtain ⟨c, tl, f1⟩ := F.called_set.mro
  have f2 := F.called_set.made
  have f3 := F.called_set.sub
  have f4 := F.called_set.notType
  have f5 := F.called_set.canCreate
  have f6 := F.typeCall_set_1 (.ref l)
  refine wpAny_call (codeAny_of_tree (wpAny_pure ⟨Code.quiet_builtin _ (by decide +kernel), codeAny_builtin F.entry_type_call ?_⟩))
  rw [Around.under_plain (weight_type_call_type "set" [.ref l] []) rfl]
  repeat (any_goals (first | assumption | wp_step))
  refine codeAny_mono (code_set_led1 (.ref l) (E := E) (Q₁ := fun u s₁ => u = .ref s.heap.objs.size ∧ s₁ = { s with heap := s.heap.push (newS w) }) ⟨rfl, rfl⟩) fun r s₁ hr => ?_
  rcases r with e | fl
  · exact hr
  cases fl with
  | ret u =>
    obtain ⟨rfl, rfl⟩ := hr
    have at_ : (s.heap.push (newS w)).get? s.heap.objs.size = some (newS w) := Heap.get?_push_size _ rfl
    have ty : Shared.TypeIs { s with heap := s.heap.push (newS w) } (.ref s.heap.objs.size) "set" := ⟨_, at_, rfl⟩
    have g1 := F.called_set.init.lookup
    have g2 := F.called_set.init.bind (.ref s.heap.objs.size)
    repeat (any_goals (first | assumption | wp_step))
    refine codeAny_mono (codeAny_call_builtin (R := wants (fun r s₂ => r = .none ∧ ∃ h' tk L, s₂ = { s with heap := h', toks := tk } ∧ FSet kd h' s.heap.objs.size L ∧ (∀ j, j ∈ L ↔ j ∈ ks) ∧
        (∀ b o, s.heap.get? b = some o → h'.get? b = some o)) E) F.called_set.init.plain F.entry_set_init (check_set_init_1 ty ?_)) fun r₂ s₂ hr₂ => ?_
    · obtain ⟨⟨oc, od, odt, os⟩, hol, hcl, nl, hdl⟩ := hl
      dsimp only at hcl hdl
      subst hcl hdl
      have hol' : (s.heap.push (newS w)).get? l = some { cls := .type "list", dict := od, data := .seq items nl, slots := os } := Heap.get?_push_of_some _ hol
      have k1 := F.sub_list_set
      have k2 := F.sub_list_frozenset
      have k3 : (Value.type "list" == Value.type "dict") = false := by decide
      have hl1 : (s.heap.push (newS w)).IsList l items := ⟨_, hol', rfl, nl, rfl⟩
      unfold Builtin.«set.__init__» noKeywords Builtin.Frozenset.updateFrom
      generalize hPI : pyIter = PI
      wp_walk
      subst hPI
      refine wpAny_pyIter_list hl1 (wpAny_bind (wpAny_runValue ?_))
      have ls : l < s.heap.objs.size := Heap.lt_size hol
      have ps : (s.heap.push (newS w)).objs.size = s.heap.objs.size + 1 := Heap.size_push ..
      refine flat_fill (kd := kd) (Walks.list (by simp [hh]) _ l (by rw [ps]; exact Nat.ne_of_lt (Nat.lt_succ_of_lt ls)) items).toS s.heap.objs.size (by rw [ps, List.mem_cons, List.mem_singleton, not_or]; exact ⟨Nat.ne_of_lt (Nat.lt_succ_self _), Nat.ne_of_gt ls⟩) ks isz few v s.heap (none_up (Nat.le_refl _)) (fun b hb => none_up (by rw [List.mem_singleton.mp hb, ps]; exact Nat.le_succ _))
        items.size 0 _ (Nat.zero_add _) ⟨⟨_, Heap.get?_push_size _ rfl, rfl, rfl⟩, hl1.push _⟩ (fun b o e => Heap.get?_push_of_some _ (Heap.get?_push_of_some _ e)) ?_ fun s' L mv hS g k => ?_
      · exact ⟨[], fset_new (Heap.get?_push_of_some _ at_), fun j => by simp, Nat.le_refl _⟩
      · obtain ⟨h', g2, d', tk', os'⟩ := s'
        cases (show g2 = s.gens from mv.gens)
        cases (show d' = s.drawn from mv.drawn)
        cases (show os' = s.os from mv.os)
        exact wpAny_pure (wpAny_pure ⟨rfl, h', tk', L, rfl, hS, g, k⟩)
    · rcases r₂ with e | fl₂
      · exact hr₂
      cases fl₂ with
      | ret r =>
        obtain ⟨rfl, h', tk, L, rfl, hS, g, k⟩ := hr₂
        repeat (any_goals (first | assumption | wp_step))
        exact q _ _ _ hS g k
      | _ => exact hr₂.elim
  | _ => exact hr.elim
end
end Dl
/-! sorted(set(xs)) of a list of texts -/
namespace Dl
open PySem PySem.Spec PyProof.Rows L2
theorem texts_perm {us vs : List Value} (p : us.Perm vs) : ∀ {L : List Str}, StrsAre us L → ∃ M, StrsAre vs M ∧ M.Perm L := by
  induction p with
  | nil => exact fun h => ⟨_, h, .refl _⟩
  | cons x _ ih =>
    intro L h
    cases h with
    | cons n t hr =>
      obtain ⟨M, e, p⟩ := ih hr
      exact ⟨_, .cons n t e, p.cons _⟩
  | swap x y l =>
    intro L h
    cases h with
    | cons n t hr =>
      cases hr with
      | cons n2 t2 hr => exact ⟨_, .cons n2 t2 (.cons n t hr), .swap ..⟩
  | trans _ _ i1 i2 =>
    intro L h
    obtain ⟨M, e, p⟩ := i1 h
    obtain ⟨N, e2, p2⟩ := i2 e
    exact ⟨N, e2, p2.trans p⟩
section
variable {P : Program} {w : World} {A : Around} {E : Value → Shared → Prop} {s : Shared} {a : Addr} {L : List Str}
theorem Ents.texts {l : List (Int × Value)} (h : Ents (PySem.strKind P w) l L) : StrsAre (l.map Prod.snd) L := by
  induction h with
  | nil => exact .nil
  | cons h c t ih =>
    obtain ⟨tk, rfl⟩ := Value.isStrOf_shape h
    exact .cons _ tk ih
set_option maxHeartbeats 4000000 in
theorem sorted_texts (S : FSet (PySem.strKind P w) s.heap a L) (hh : A.handled = none) {Q : Value → Shared → Prop}
    (q : ∀ (z : Shared) (p : Addr) (out : Array Value) (c : Nat) (ys : List Str), (∀ b o, s.heap.get? b = some o → z.heap.get? b = some o) → z.gens = s.gens → z.os = s.os → s.heap.objs.size ≤ p → z.heap.get? p = some (seqObj "list" out c) → StrsAre out.toList ys → ys.Perm L → sortedS ys = true → Q (.ref p) z) :
    wpAny (model P w) A (call (.builtin "sorted") [.ref a]) Q E s := by
  obtain ⟨o, es, ep, t, ho, hex, hd, en, ft, rs, led⟩ := S.ex
  have few := S.few
  have n0 : es.size = L.length := by rw [← Array.length_toList]; exact en.len
  obtain ⟨c0, _⟩ := sizes_small (show es.size ≤ 64 by omega)
  apply Calls.call_function_entry kind_sorted plain_sorted entry_sorted (args_sorted1 _)
  unfold Builtin.«sorted»
  refine wpAny_bind (m := checkCount "sorted" 1 1 _) (wpAny_pure (wpAny_bind (collect_set (A := A.in1) hh ⟨o, ho, hex.1, hd⟩ ft c0 rs led fun s1 vs k1 hz g1 o1 pm => ?_)))
  obtain ⟨M, hM, pM⟩ := texts_perm pm.symm (show StrsAre (es.toList.map (·.2)) L from en.texts)
  have lv : vs.length = L.length := by rw [pm.length_eq, List.length_map, Array.length_toList, n0]
  have here : (s1.heap.push (seqObj "list" vs.toArray 0)).get? s1.heap.objs.size = some (seqObj "list" vs.toArray 0) := Heap.get?_push_size _ rfl
  refine wpAny_bind (wpAny_newList (wpAny_bind (wpAny_holding (wpAny_call_entry slot_list_sort ⟨_, here, rfl⟩ entry_list_sort ?_ (args_list_sort _)))) (by rw [lv, sizeLine_eq]; omega))
  refine list_sort_treeK strKind_oneLt here hM.keysOf (fun v₁ v₂ rest e => keyKind_strs (by rw [← e]; exact hM)) (by omega) fun st hp hs => ⟨_, rfl, ?_⟩
  obtain ⟨ys, y1, y2, y3⟩ := sorted_out_str hM hp hs
  generalize (arrOf st).map (·.2) = out at y1 ⊢
  obtain ⟨c, hc⟩ := sortedHeap_at (vs := vs) (out := out) here
  refine wpAny_pure ⟨_, rfl, q _ s1.heap.objs.size out c ys (fun b u e => ?_) g1 o1 hz hc y1 (y2.trans pM) y3⟩
  have e1 := k1 b u e
  have lt := Heap.lt_size e1
  exact (sortedHeap_old (Nat.ne_of_lt lt) (by rw [size_push']; exact Nat.lt_succ_of_lt lt)).trans (Heap.get?_push_of_some _ e1)
end
section
variable {X : Cx} {w : Wn}
def teSortSet (K : PySem.W.Frag) (ta : TE) : TE := fun σ H Q => ta σ H fun x H1 => ∃ (l : Addr) (ks : List Str), x = V.ref l ∧ SqL K H1 l (ks.map V.str) ∧ ks.length < 64 ∧
  ∀ (ys : List Str) (p : Addr), ys.Nodup → (∀ j, j ∈ ys ↔ j ∈ ks) → sortedS ys = true → H1 p = none → Q (.ref p) (upd H1 p (.lst (ys.map V.str)))
theorem str_vals : ∀ {ks : List Str} {us : List Value}, Vals (ks.map V.str) us → ∀ (i : Nat) (u : Value), us[i]? = some u → ∃ k, ks[i]? = some k ∧ Value.isStrOf k u = true ∧ u.scannable = true
  | [], _, .nil, i, u, h => by simp at h
  | k :: ks, _, .cons r t, i, u, h => by
    cases i with
    | zero =>
      obtain ⟨tk, rfl⟩ := r
      simp at h
      subst h
      exact ⟨k, rfl, by simp [Value.isStrOf], rfl⟩
    | succ i => exact str_vals t i u (by simpa using h)
theorem pe_sortSet {a : Expr} {ta : TE} {p p2 q pos : Pos} (hc : X.calm = true) (hg : Gl X "sorted") (hm : X.mg "sorted" = none) (hg2 : Gl X "set") (hm2 : X.mg "set" = none) (ha : PE X a ta)
    (na : starEach [a] X.env = (false, eval a X.env) :: starEach [] X.env) : PE X (.Call (.Name "sorted" p) [.Call (.Name "set" p2) [a] [] q] [] pos) (teSortSet X.K ta) := by
  refine ⟨fun pins s σ H Q I h => ?_⟩
  refine Call_ (ld_blt I hg hm boot_sorted (callWith_builtin1 (args_cons ?_ rfl) rfl rfl))
  refine Call_ (ld_blt I hg2 hm2 PyProof.Rows.boot_set ?_)
  refine callWith_type1 (args_cons (thn (ha.run pins s σ H _ I h) fun v s1 ⟨x, H1, I1, r1, l, ks, e, hl, few, k⟩ => args_nil ?_) na) na rfl
  subst e
  cases r1
  obtain ⟨its, r, pl, hz⟩ := I1.list hl
  have ln := r.length
  rw [List.length_map] at ln
  refine flat_call (kd := PySem.strKind X.prog X.w) ks (I1.ok.hd hc) pl.isList (fun i u e => str_vals r i u (by simpa using e)) (by simpa using ln.symm) few fun h' tk L S g up => args_nil ?_
  have I2 : Inv X pins σ H1 { s1 with heap := h', toks := tk } := I1.kept fun b o e => up b o e
  refine sorted_texts (s := { s1 with heap := h', toks := tk }) S (I2.ok.hd hc) fun z p out c ys old zg zo hp at_ st pm so => ?_
  have new : H1 p = none := I2.hok.fresh hp
  have small : (ys.map V.str).length ≤ sizeLine := by
    have := S.few
    rw [List.length_map, pm.length_eq, sizeLine_eq]
    omega
  have J : Inv X pins σ (upd H1 p (.lst (ys.map V.str))) z := by
    refine I2.call' (ch := []) zo (Un.laid old hp new) (I2.hok.laid old hp ⟨small, out.toList, c, vals_of_strs st, at_⟩) ?_ (fun _ z => nomatch z)
    rw [zg]
    exact I2.bare
  exact ⟨.ref p, _, J, rfl, k ys p (pm.nodup_iff.mpr S.dist) (fun j => pm.mem_iff.trans (g j)) so new⟩
/-- sorted(set(e)), e a list of texts -/
def tSortTx (te : DT) : DT := fun env P => te env fun u => rd u fun x => match x with
  | .list xs => ∃ ks : List Str, xs = ks.map .str ∧ ks.length < 64 ∧ ∀ ys : List Str, ys.Nodup → (∀ j, j ∈ ys ↔ j ∈ ks) → sortedS ys = true → P (.fr (ys.map .str))
  | _ => False
theorem rp_strs {K : PySem.W.Frag} {F : Hp} : ∀ {ks : List Str} {vs : List V}, RpA K F vs (ks.map PyData.str) → vs = ks.map V.str
  | [], _, .nil => rfl
  | k :: ks, _, .cons h t => by
    cases h
    rw [rp_strs t]
    rfl
theorem strs_rp {K : PySem.W.Frag} {F : Hp} : ∀ ks : List Str, RpA K F (ks.map V.str) (ks.map PyData.str)
  | [] => .nil
  | k :: ks => .cons (.str k) (strs_rp ks)
theorem d_sortTx {a : Expr} {ta : DT} {p p2 q pos : Pos} (hc : X.calm = true) (hg : Gl X "sorted") (hm : X.mg "sorted" = none) (hg2 : Gl X "set") (hm2 : X.mg "set" = none) (ha : DPE X w a ta)
    (na : starEach [a] X.env = (false, eval a X.env) :: starEach [] X.env := by rfl) : DPE X w (.Call (.Name "sorted" p) [.Call (.Name "set" p2) [a] [] q] [] pos) (tSortTx ta) := by
  refine pe_weak (pe_sortSet hc hg hm hg2 hm2 ha na) fun σ H Q ⟨env, F, P, r, h, q⟩ => ⟨env, F, _, r, h, fun dv v F1 H1 s1 r1 h1 => ?_⟩
  obtain ⟨x, x1, h1⟩ := rd_ok r1 h1
  split at h1
  · obtain ⟨ks, rfl, few, h1⟩ := h1
    obtain ⟨l, vs, rfl, e, ra⟩ := x1.lst s1.sub
    obtain rfl := rp_strs ra
    refine ⟨l, ks, rfl, SqL.of e, few, fun ys p nd mem so np => ?_⟩
    exact res_new s1.wd (strs_rp ys) (fun dv3 v3 F3 H3 s3 r3 h3 => q dv3 v3 F3 H3 (s1.trans s3) (r3.early s1) h3) (h1 ys nd mem so) p np
  · exact h1.elim
end
end Dl
/-! trees that a def changes within its argument -/
namespace Dl
open PySem PySem.Spec PyProof.Rows L2
/-- the tree of a slot -/
def treeOf : Sl → Option (List Addr × PyData)
  | .tr true S x => some (S, x)
  | .tv _ S x => some (S, x)
  | _ => none
/-- another tree in its stead -/
def reT : Sl → List Addr → PyData → Sl
  | .tv v _ _, S, x => .tv v S x
  | _, S, x => .tr true S x
/-- a slot's tree, seen as a plain one -/
def asT (i : Nat) (env : List Sl) : List Sl := match env[i]? with
  | some (.tv _ S x) => env.set i (.tr true S x)
  | _ => env
section
variable {K : PySem.W.Frag} {w : Wn} {env : List Sl} {σ : L2.St} {F H : Hp} {i : Nat} {s : Sl} {S : List Addr} {x : PyData}
theorem asT_at (e : env[i]? = some s) (t : treeOf s = some (S, x)) : (asT i env)[i]? = some (.tr true S x) := by
  have l := (List.getElem?_eq_some_iff.mp e).1
  unfold treeOf at t
  split at t
  · cases t
    unfold asT
    rw [e]
    exact e
  · cases t
    unfold asT
    rw [e]
    exact List.getElem?_set_self l
  · cases t
theorem asT_rel (r : RelW K w env σ F H) (e : env[i]? = some s) (t : treeOf s = some (S, x)) : RelW K w (asT i env) σ F H := by
  unfold treeOf at t
  split at t
  · unfold asT
    rw [e]
    exact r
  · cases t
    unfold asT
    rw [e]
    obtain ⟨e1, nd, k, mr, q⟩ := r.at' i _ e
    exact r.wrtS e (s' := .tr true S x) (fun _ _ _ h => h) ⟨_, e1, nd, k, mr, q⟩ fun a m => .inl m
  · cases t
theorem asT_set (e : env[i]? = some s) (t : treeOf s = some (S, x)) (z : Sl) : (asT i env).set i z = env.set i z := by
  unfold treeOf at t
  split at t
  · unfold asT
    rw [e]
  · unfold asT
    rw [e]
    exact List.set_set ..
  · cases t
/-- back again -/
theorem asT_back {S2 : List Addr} {y : PyData} {F2 H2 : Hp} {v0 : V} (e : env[i]? = some s) (t : treeOf s = some (S, x)) (r0 : RelW K w env σ F H) (e0 : σ[i]? = some (some v0)) (r : RelW K w ((asT i env).set i (.tr true S2 y)) σ F2 H2) : RelW K w (env.set i (reT s S2 y)) σ F2 H2 := by
  rw [asT_set e t] at r
  have l := (List.getElem?_eq_some_iff.mp e).1
  unfold treeOf at t
  split at t
  · exact r
  · next v S' x' =>
    cases t
    have ei : (env.set i (.tr true S2 y))[i]? = some (.tr true S2 y) := List.getElem?_set_self l
    obtain ⟨e1, _⟩ := r0.at' i _ e
    obtain ⟨v', e2, nd, k, mr, q⟩ := r.at' i _ ei
    rw [e1] at e2
    cases e2
    have := r.wrtS ei (s' := .tv v S2 y) (fun _ _ _ h => h) ⟨e1, nd, k, mr, q⟩ fun a m => .inl m
    rw [List.set_set] at this
    exact this
  · cases t
end
section
variable {X : Cx} {w : Wn} {i : Nat} {tp : DPl} {e : Expr} {pos : Pos}
theorem OtA.init {K : PySem.W.Frag} {F H : Hp} {z : PyData} : ∀ {T : List Addr} {us : List V} {ys : List PyData}, OtA K F H true T us (ys ++ [z]) → ∃ T1 us1 u T2, T = T1 ++ T2 ∧ us = us1 ++ [u] ∧ OtA K F H true T1 us1 ys
  | _, _, [], .cons (S := S) (T := T) h t => by
    cases t
    exact ⟨[], [], _, S, by simp, rfl, .nil⟩
  | _, _, y :: ys, .cons (S := S) (T := T) h t => by
    obtain ⟨T1, us1, u, T2, rfl, rfl, q⟩ := OtA.init t
    exact ⟨S ++ T1, _ :: us1, u, T2, by simp, rfl, .cons h q⟩
/-- x..[k].pop() -/
def tPopP (i : Nat) (tp : DPl) : DS := fun d env => ∃ s S x, env[i]? = some s ∧ treeOf s = some (S, x) ∧ tp (asT i env) x fun y g => ∃ ys z, y = .list (ys ++ [z]) ∧ ∀ S2, d.nx (env.set i (reT s S2 (g (.list ys))))
theorem ds_popP (base : PE X e (tBM0 X.K "list" rPop (lfP X.K w i tp))) (hs : swapsWith e none pos.line X.env = pure false := by rfl) : DPS X w (.Expr e pos) (tPopP i tp) :=
  ps_weak (ps_expr base hs) fun D σ H ⟨env, F, d, r, ⟨s, S, x, ei, ht, h⟩, fit⟩ => ⟨asT i env, F, S, x, _, asT_rel r ei ht, asT_at ei ht, h, fun y g v F1 H1 s1 ⟨v0, e0, hl⟩ ⟨ys, z, ey, h1⟩ => by
    subst ey
    obtain ⟨a, us, T, rfl, ea, ln, oa, nd, na, _, put⟩ := hole_write ((asT_rel r ei ht).step s1) (asT_at ei ht) e0 hl
    obtain ⟨T1, us1, u, T2, rfl, rfl, oi⟩ := oa.init
    have nd' := List.nodup_append.mp nd
    have up : OtA X.K F1 (upd H1 a (.lst us1)) true T1 us1 ys := oi.up (fun _ _ z => z) fun b m o ho => by
      rw [upd_ne (fun z => na (by rw [← z]; exact List.mem_append.mpr (.inl m)))]
      exact ho
    obtain ⟨S2, r2⟩ := put T1 us1 ys nd'.1 (fun m => na (List.mem_append.mpr (.inl m))) (fun b m => .inl (List.mem_append.mpr (.inl m))) up
    refine ⟨.inl ⟨rfl, _, SqL.of ea⟩, a, us1 ++ [u], u, rfl, rfl, ea, by simp, ?_⟩
    rw [List.dropLast_concat]
    exact fit.nx _ _ F1 _ (asT_back ei ht r e0 r2) s1.ex (h1 S2)⟩
/-- y = x..[k]; y.append(c); y[0] = b: c and b numbers -/
def tAl3 (i j : Nat) (tp : DPl) (c b : Int) (u : DS) : DS := fun d env => j < env.length ∧ ∃ s S x, env[i]? = some s ∧ treeOf s = some (S, x) ∧ tp (asT i env) x fun y g => ∃ y0 ys, y = .list (y0 :: ys) ∧ ys.length < 90000 ∧ ∀ S2 v, u d ((env.set i (reT s S2 (g (.list (.int b :: (ys ++ [.int c])))))).set j (.raw v))
theorem dss_al3 {j : Nat} {c b : Int} {u : DS} {s1 s2 s3 : Stmt} {rest : List Stmt} (h1 : PS X s1 (tAsg (lfP X.K w i tp) (gName j))) (h2 : PS X s2 (tDrop (tBM X.K "list" rAppend (tVar j) (tCons (tC (.int c)) tNil)))) (h3 : PS X s3 (tAsg (tC (.int b)) (gSub (tVar j) (tC (.int 0)) rSetL))) (h4 : DPSs X w rest u) :
    DPSs X w (s1 :: s2 :: s3 :: rest) (tAl3 i j tp c b u) :=
  pss_weak (pss_cons h1 (pss_cons h2 (pss_cons h3 h4))) fun D σ H ⟨env, F, d, r, ⟨jl, s, S, x, ei, ht, h⟩, fit⟩ => by
    refine ⟨asT i env, F, S, x, _, asT_rel r ei ht, asT_at ei ht, h, fun y g v F1 H1 st ⟨v0, e0, hl⟩ ⟨y0, ys, ey, l, k1⟩ => ?_⟩
    subst ey
    obtain ⟨a, us, T, rfl, ea, ln, oa, nd, na, _, put⟩ := hole_write ((asT_rel r ei ht).step st) (asT_at ei ht) e0 hl
    cases oa with
    | @cons S0 T0 u0 us _ _ o0 ot =>
    have ej : (σ.set j (some (V.ref a)))[j]? = some (some (.ref a)) := List.getElem?_set_self (by rw [r.len]; exact jl)
    have nd' := List.nodup_append.mp nd
    have l2 : us.length = ys.length := ot.len
    refine ⟨.ref a, ej, .inl ⟨rfl, _, SqL.of ea⟩, a, u0 :: us, .int c, rfl, rfl, ea, lim_lt (by rw [List.length_cons, l2]; omega), ?_⟩
    refine ⟨.ref a, ej, a, u0 :: us ++ [.int c], 0, 0, rfl, rfl, upd_same, ?_, ?_⟩
    · unfold ixN
      simp
      omega
    · rw [upd_upd]
      have o2 : OtA X.K F1 (upd H1 a (.lst (.int b :: (us ++ [.int c])))) true T0 (.int b :: (us ++ [.int c])) (.int b :: (ys ++ [.int c])) := by
        have q := OtA.cons (S := []) (Ot.leaf (K := X.K) (F := F1) (H := upd H1 a (.lst (.int b :: (us ++ [.int c])))) (dp := true) (.int b) fun _ => rfl) (OtA.app (OtA.cons (S := []) (T := []) (.leaf (.int c) fun _ => rfl) .nil) (ot.up (fun _ _ z => z) fun x m o ho => by
          rw [upd_ne (fun z => na (by rw [← z]; exact List.mem_append.mpr (.inr m)))]
          exact ho))
        simpa using q
      obtain ⟨S2, r2⟩ := put T0 (.int b :: (us ++ [.int c])) (.int b :: (ys ++ [.int c])) nd'.2.1 (fun m => na (List.mem_append.mpr (.inr m))) (fun x m => .inl (List.mem_append.mpr (.inr m))) o2
      have r3 := (asT_back ei ht r e0 r2).put j (z := .raw (.ref a)) (v := .ref a) rfl (fun a m => by cases m)
      exact ⟨_, F1, d, r3, k1 S2 (.ref a), fit.up st.ex⟩
end
/-! ### defs that change the tree of an argument -/
def cutT (S : List Addr) (H : Hp) : Hp := fun a => if a ∈ S then none else H a
section
variable {K : PySem.W.Frag} {b : Bg} {F H : Hp} {S : List Addr}
theorem cut_in {a : Addr} (h : a ∈ S) : cutT S H a = none := if_pos h
theorem cut_out {a : Addr} (h : a ∉ S) : cutT S H a = H a := if_neg h
theorem cut_some {a : Addr} {o : HO} (h : cutT S H a = some o) : a ∉ S ∧ H a = some o := by
  by_cases m : a ∈ S
  · rw [cut_in m] at h
    cases h
  · rw [cut_out m] at h
    exact ⟨m, h⟩
theorem cut_wd (wd : Wd K b F H) (k : ∀ a ∈ S, F a = none ∧ a ≠ b.b) (th : ∀ a ∈ S, ∃ o, H a = some o ∧ isM o = true) : Wd K b F (cutT S H) := by
  obtain ⟨⟨⟨x, y, z, eb, r⟩, ec, q, tb⟩, sub, fb⟩ := wd
  refine ⟨⟨⟨x, y, z, by rw [cut_out fun m => (k _ m).2 rfl]; exact eb, r⟩, ec, q, fun t m => ⟨(tb t m).1, ?_⟩⟩, fun a o h => ?_, fb⟩
  · obtain ⟨ps, h1, h2⟩ := (tb t m).2
    refine ⟨ps, ?_, h2⟩
    rw [cut_out fun m => ?_]
    · exact h1
    · obtain ⟨o, ho, mo⟩ := th t m
      rw [h1] at ho
      cases ho
      cases mo
  · rw [cut_out fun m => by rw [(k a m).1] at h; cases h]
    exact sub a o h
theorem cut_st (wd : Wd K b F (cutT S H)) (k : ∀ a ∈ S, F a = none ∧ a ≠ b.b) : Stp K b F (cutT S H) F H := by
  obtain ⟨⟨⟨x, y, z, eb, r⟩, ec, q, tb⟩, sub, fb⟩ := wd
  refine ⟨fun a o _ _ h => (cut_some h).2, ⟨⟨x, y, z, (cut_some eb).2, r⟩, ec, q, fun t m => ⟨(tb t m).1, ?_⟩⟩, fun _ _ h => h, fun a o h => (cut_some (sub a o h)).2, fb, fun a h _ => h, fun a ps _ h => ⟨ps, (cut_some h).2, id⟩⟩
  obtain ⟨ps, h1, h2⟩ := (tb t m).2
  exact ⟨ps, (cut_some h1).2, h2⟩
end
abbrev DSpM := List DV → PyData → (PyData → Prop) → Prop
/-- a promise: the tree of the j-th argument gets another content, nothing is told -/
def PmM (j : Nat) (K : PySem.W.Frag) (ts : List Addr) (sp : DSpM) : Sp := fun vs H Q _ => ∃ b F S x v dvs P, b.ts = ts ∧ Wd K b F (cutT S H) ∧ S.Nodup ∧ (∀ a ∈ S, F a = none ∧ a ≠ b.b) ∧ (mutR x = true → S ≠ []) ∧ Ot K F H true S v x ∧ vs[j]? = some v ∧ Paired (AgR K b F) dvs (vs.set j .non) ∧ sp dvs x P ∧
  ∀ S' y F' H', Stp K b F (cutT S H) F' H' → S'.Nodup → (∀ a ∈ S', cutT S H a = none ∧ F' a = none ∧ a ≠ b.b) → (mutR y = true → S' ≠ []) → Ot K F' H' true S' v y → P y → Q .non H'
section
variable {P : Program} {w : World} {K : PySem.W.Frag} {mg : Str → Option Value} {base : Heap} {CX : CXT} {k : Nat} {f : Addr} {fd : FuncData}
theorem start_back {N : List Str} {vs : List V} {j : Nat} {v : V} (h : vs[j]? = some v) : (L2.start N (vs.set j .non)).set j (some v) = L2.start N vs := by
  have l := (List.getElem?_eq_some_iff.mp h).1
  unfold L2.start
  refine List.ext_getElem? fun i => ?_
  rw [List.getElem?_set]
  by_cases e : j = i
  · subst e
    rw [if_pos rfl, if_pos (by simp; omega), List.getElem?_append_left (by simpa using l), List.getElem?_map, h]
    rfl
  · rw [if_neg e]
    by_cases c : i < vs.length
    · rw [List.getElem?_append_left (by simpa using c), List.getElem?_append_left (by simpa using c), List.getElem?_map, List.getElem?_map, List.getElem?_set_ne e]
    · rw [List.getElem?_append_right (by simp; omega), List.getElem?_append_right (by simp; omega)]
      simp
theorem d_defM {ts : List Addr} {x qual : Str} {st : Stmt} {N ps : List Str} {j : Nat} (Fn : L2.Fun K x qual st f fd) (S : FnScope N ps (defScope st))
    (hb : ∀ (kV doc pm : Value) (an : Option Addr) (cdv ct : Value) (us : List Value), us.length = ps.length → bindArgs (PySem.W.fnOf x qual (defArgs st) (defBody st) (defScope st) .none kV doc pm an cdv ct) { pos := us, kw := [] } = pure (ps.zip us))
    (sp : DSpM) (t : DS)
    (hd : ∀ (cdv : Value) (A : Around) (outer : List Env) (s : Shared) (H : Hp) (E : XK) (wn : Wn), fd.code = cdv → wn.b.ts = ts → (A.deeper (envOfC qual (defScope st) s.heap.objs.size f cdv)).guards = some [] → Room k (A.deeper (envOfC qual (defScope st) s.heap.objs.size f cdv)) →
      DPSs (cxOf CX P w K mg base N qual (defScope st) f cdv A outer s H E).nox wn (defBody st) t)
    (hv : ∀ dvs y T v R, sp dvs y R → dvs.length = ps.length ∧ t { nx := fun env => ∃ T' z, env[j]? = some (.tv v T' z) ∧ R z, rt := fun _ => False } ((startD N dvs).set j (.tv v T y))) : Fg P w K mg base CX (k + 1) f (PmM j K ts sp) := by
  intro A outer s H us vs Q E ag room e0 rv want
  obtain ⟨b, F, T, y, v, dvs, R, ht, wd, nd, kk, mr, o, ev, ar, hsp, q⟩ := want
  obtain ⟨hlen, hread⟩ := hv dvs y T v R hsp
  obtain ⟨oc, od, kV, doc, pm, an, cdv, ct, osl, rfl, lk, hcd⟩ := Fn.ex
  have hvl : vs.length = ps.length := by rw [← hlen, Paired.length ar, List.length_set]
  have hul : us.length = ps.length := rv.length.symm.trans hvl
  refine StX.run_bnd (N := N) (ps := ps) lk hcd S room e0 (G := fun xs H2 => xs = vs ∧ H2 = H) (fun A' Ex Q' h => ?_) fun s2 H2 xs g room2 => ?_
  · rw [hb kV doc pm an cdv ct us hul]
    exact wpAny_pure (h s H vs us e0 Un.refl rfl (fun _ _ z => z) rv hvl ⟨rfl, rfl⟩)
  · obtain ⟨rfl, rfl⟩ := g
    have st0 := cut_st wd kk
    have r0 := rel_start (N := N) st0.wd ar
    have r2 := (Rel.unroot st0 r0).put j (z := .tv v T y) (v := v) ⟨rfl, nd, fun a m => ⟨cut_in m, kk a m⟩, mr, o⟩ fun a m i t ni ei m2 => by
      obtain ⟨z, _⟩ := slA_ok (r0.at' i t ei) a m2
      obtain ⟨o', ho', _⟩ := o.there a m
      rw [z] at ho'
      cases ho'
    rw [start_back ev] at r2
    refine ⟨_, PSs.nox (hd cdv A outer s2 _ E ⟨b, F, cutT T _⟩ rfl ht (guards_in ag _) room2), _, F, _, r2, hread, ?_⟩
    refine ⟨fun env σ F' H' r _ ⟨T', z, e1, hz⟩ => ?_, fun env σ F' H' r _ z => z.elim, fun env σ F' H' r _ z => z.elim, fun dv v F' H' st rs z => z.elim⟩
    obtain ⟨e2, nd', k', mr', o'⟩ := r.at' j _ e1
    exact q T' z F' H' r.st nd' k' mr' o' hz
end
section
variable {X : Cx} {w : Wn} {CX : CXT} {k : Nat} {f : Addr} {ds : DSpM} {E : XK} {x y : Str} {e : Expr} {p p2 pos pos2 : Pos} {t0 : DT}
/-- f(e, x): a statement that changes the tree of x -/
def tMut (sp : DSpM) (t0 : DT) (i : Nat) : DS := fun d env => t0 env fun u => ∃ a s S x, frz u = .d a ∧ env[i]? = some s ∧ treeOf s = some (S, x) ∧ sp [.d a, .d .none] x fun z => ∀ S2, d.nx (env.set i (reT s S2 z))
theorem ds_mut {ts : List Addr} (i : Nat) (Fk : Fg X.prog X.w X.K X.mg X.base CX k f (PmM 1 X.K ts ds)) (ht : w.b.ts = ts) (ag : X.A.guards = some []) (room : Room k X.A) (ps : Passes CX X E) (gl : Gl X x) (gm : X.mg x = some (.ref f)) (kp : PySem.W.keepIn X.K (.ref f) = true)
    (h0 : DPE X w e t0) (hy : PE X (.Name y p2) (tVar i)) (db : (x == ("__debug__" : Str)) = false := by decide) (s1 : starEach [e, .Name y p2] X.env = (false, eval e X.env) :: starEach [.Name y p2] X.env := by rfl) (s2 : (backTo pos (starEach [.Name y p2] X.env)).any (·.1) = false := by rfl)
    (hs : swapsWith (.Call (.Name x p) [e, .Name y p2] [] pos) none pos2.line X.env = pure false := by rfl) :
    DPS X w (.Expr (.Call (.Name x p) [e, .Name y p2] [] pos) pos2) (tMut ds t0 i) := by
  have base : PE X (.Call (.Name x p) [e, .Name y p2] [] pos) (fun σ H Q => tCons (lf X.K w t0) (tCons (tVar i) tNil) σ H fun vs H1 => PmM 1 X.K ts ds vs H1 Q E) := by
    refine ⟨fun pins s σ H Q I want => wpAny_Call_Name_kw (ld_glob I gl gm ?_ db)⟩
    refine PySem.W.callWith_K (h₀ := X.base) I.ok.mod.kin kp ?_ s1 s2
    exact thn ((pa_cons h0 (pa_cons hy pa_nil) s1).run pos pins s σ H _ I want) fun us st ⟨vs, H1, I1, rv, q⟩ => ⟨I1.kIn, run_g Fk ag room ps I1 rv q⟩
  refine ps_weak (ps_expr base hs) fun D σ H ⟨env, F, d, r, h, fit⟩ => ⟨env, F, _, r, h, fun dv v0 F1 H1 st r1 ⟨a, s, S, z, ea, es, et, h1⟩ => ?_⟩
  obtain ⟨F2, s2', r2⟩ := frz_ok st r1
  rw [ea] at r2
  have rr := r.step s2'
  have rT := asT_rel rr es et
  obtain ⟨v1, e1, nd, kk, mr, o⟩ := rT.at' i _ (asT_at es et)
  refine ⟨v1, e1, w.b, F2, S, z, v1, [.d a, .d .none], _, ht, cut_wd rr.wd (fun a m => (kk a m).2) o.there, nd, fun a m => (kk a m).2, mr, o, rfl, .cons (show Rp X.K F2 v0 a from r2) (.cons .non .nil), h1, fun S' y' F' H' st2 nd' k' mr' o' hp => ?_⟩
  have rc := rT.wrtS (asT_at es et) (s' := .un) (H' := cutT S H1) (fun b o n hb => by rw [cut_out (show b ∉ S from n)]; exact hb) True.intro fun b m => absurd m List.not_mem_nil
  have r3 := (rc.step st2).put i (z := .tr true S' y') (v := v1) ⟨v1, rfl, nd', fun b m => ⟨rc.st.back (k' b m).2.2 (k' b m).1, (k' b m).2⟩, mr', o'⟩ fun b m j t nj ej m2 => by
    obtain ⟨_, _, _, u, hu, _⟩ := slA_ok (rc.at' j t ej) b m2
    rw [(k' b m).1] at hu
    cases hu
  rw [List.set_set] at r3
  have es2 : σ.set i (some v1) = σ := by
    refine List.ext_getElem? fun j => ?_
    rw [List.getElem?_set]
    by_cases hj : i = j
    · subst hj
      rw [if_pos rfl, e1, if_pos (List.getElem?_eq_some_iff.mp e1).1]
    · rw [if_neg hj]
  rw [es2] at r3
  exact fit.nx _ _ F' H' (asT_back es et rr e1 r3) (fun a o z => st2.ex a o (s2'.ex a o z)) (hp S')
end
end Dl
namespace Dl
open PySem PySem.Spec PyProof.Rows L2
section
variable {X : Cx} {w : Wn} {e : Expr} {pos : Pos}
/-- a test over which the tree of a slot stays as it is -/
def tTmV (i : Nat) (c : DTT) : DTT := fun env P => ∃ s S x, env[i]? = some s ∧ treeOf s = some (S, x) ∧ c (env.set i (.d x)) P
theorem dt_tmV {c : DTT} (i : Nat) (h : DPT X w e c) : DPT X w e (tTmV i c) := pt_weak h fun σ H Q ⟨env, F, P, r, ⟨s, S, x, es, et, h⟩, q⟩ => by
  have r1 := asT_rel r es et
  have ei := asT_at es et
  obtain ⟨v0, e1, nd, k, mr, q0⟩ := r1.at' i _ ei
  have op : ∀ a ∈ S, F a = none ∧ a ≠ w.b.b ∧ ∃ o, H a = some o ∧ isM o = true := fun a m => ⟨(k a m).2.1, (k a m).2.2, q0.there a m⟩
  refine ⟨_, _, _, tree_known r1 ei, by rw [asT_set es et]; exact h, fun c F1 H1 s1 h1 => ?_⟩
  obtain ⟨st, keep⟩ := shut_ok r.wd op s1
  exact q c _ H1 st h1
/-- x, y = e1, e2: e2 may be a new tree -/
def tParT (i j : Nat) (t1 t2 : DT) : DS := fun d env => t1 env fun u => ∃ a, frz u = .d a ∧ t2 env fun z => stD j z (env.set i (.d a)) d.nx
theorem ds_parT {i j : Nat} {x y : Str} {a c : Expr} {t1 t2 : DT} {px py pt : Pos} {kt k2 pt2}
    (base : PS X (.Assign [.Tuple [.Name x px, .Name y py] kt pt] (.Tuple [a, c] k2 pt2) pos) (tPar i j (tCons (lf X.K w t1) (tCons (lf X.K w t2) tNil)))) :
    DPS X w (.Assign [.Tuple [.Name x px, .Name y py] kt pt] (.Tuple [a, c] k2 pt2) pos) (tParT i j t1 t2) :=
  ps_weak base fun D σ H ⟨env, F, d, r, h, fit⟩ => ⟨env, F, _, r, h, fun dv v F1 H1 s1 r1 ⟨b, eb, h1⟩ => by
    obtain ⟨F2, s2, r2⟩ := frz_ok s1 r1
    rw [eb] at r2
    refine ⟨env, F2, _, r.step s2, h1, fun dv3 v3 F3 H3 s3 r3 h3 => ⟨_, _, rfl, ?_⟩⟩
    have ra := (r.step s2).put i (z := .d b) (v := v) ⟨_, rfl, (show Rp X.K F2 v b from r2)⟩ (fun a m => by cases m)
    obtain ⟨env', r4, k⟩ := st_ok ra s3 r3 h3
    exact fit.nx env' _ F3 H3 r4 (s2.ex.trans s3.ex) k⟩
end
end Dl
namespace Lk
open PySem PySem.Spec PyProof.Rows L2 Dl
local macro_rules | `(tactic| walk_at "dl") => `(tactic| simp only [↓sqD, ↓alE, ↓rvE, capD, capSl, ↓stE, ↓reE, tRetVD, ↓ifE, tDropD, tParD, tAsgD, tAppD, tInsD, tDict1, tJoin, tSlT, tSlS, cSorted, cTuple, gLtT, tPar3D, ↓ixE, tSetI, tAugI, ↓vaE, ↓cdE, tRaw, ↓biE, ↓rdE, rd, gAdd, gMinus, gMul, gFdiv, gMod, gPow, gIn, gEqv, id,
  isB, ↓tsE, ↓unE, gNeg, ↓anE, ↓orE, ↓noE, ↓uxE, ↓raE, ↓mkE, ↓meE, ↓flE, ↓icE, ↓inE, ↓ikE, ↓xoE, ↓r0E, ↓osE, ↓cnE, mulLE, tSortSet, tTmp, tLenSeX, tFmtD, tFstr, tJsD, tExtO, tTmT, tTmW, tTmV, asT, reT, tMut, tPopP, tParT, tSortTx, tRetTV, tRetPr, tRetCat, itOr, tPl0, tPlL, tPlT, tClrP, tExtP, lsT, tGetD, tDict2S, gEqX, gEqI, gInX, gInS, gNeN, gAddX, gEqS, tIsT, tDictC, tGetO, tRevT, tEith, cAll, gEqN, tDict2, tTupT, tClrD, tExtD, tListK, tInT, tGetT, tPutT, tSortIt, tEmpT, cMinL, cSortG, isDt, ↓isE, ↓axE, ↓trE, truOk, truD, ↓itE, tAnV, tOrV', tNoV, tIsNV, nonB, tChD, ↓nlE, ↓coE, frz, allD, ↓liE, ↓tuE, ↓caE, one, two, cLen, cAbs, cMin, cInt, cGcd, cList, cIsi, isA, cRepr, cStr, tEmp,
  ↓usE, dat, okR, anyOw, owA, ↓sdE, stD, unS, gnD, gtD, gtLD, gconsD, gnilD, itR1, itR2, itLst, itTup, itEnum, itEnumT, itZip, itZipT, itZipM, itR3, tS1, gSplit, gPart, gStarts, gRmPre, cIntT, gMulS, itStr, ↓foE, startD, toSl, frzS, tSlL, oNone, oSome, List.flatMap_cons, List.flatMap_nil, List.nil_append, List.append_nil, List.cons_append,
  List.map_cons, List.map_nil, List.length_cons, List.length_nil, List.replicate, Nat.reduceAdd, Nat.reduceSub, List.getElem?_cons_zero, List.getElem?_cons_succ, List.set_cons_zero, List.set_cons_succ, at0, at1, at2, at3, at4, at5, at6, at7, ↓gi0, ↓gi1, ↓gi2, ↓gi3, ↓gi4, ↓gi5, ↓gi6, ↓gi7, ↓li0, ↓li1, ↓li2, tBitLen, true_or, or_true, true_and, and_true, Bool.not_true, Bool.not_false, String.reduceBEq, Bool.or_true, Bool.true_or, Bool.or_false, Bool.false_or, Bool.and_true, Bool.true_and, Bool.and_false, Bool.false_and, Bool.false_eq_true, if_true, if_false, reduceCtorEq, ↓reduceIte])
def few (z : Str) : Nat := if z = "scale" then 2 else 1
abbrev sgS (c : Nat) : Str := ⟨#[c]⟩
theorem app_signs (a y : Str) : (a ++ y).cps.toList = a.cps.toList ++ y.cps.toList := by
  show (a.cps ++ y.cps).toList = _
  exact Array.toList_append
theorem join_cs : ∀ cs : List Nat, (Str.join ("" : Str) (cs.map sgS)).cps.toList = cs
  | [] => by simp [Str.join, Str.empty]
  | [c] => by simp [Str.join]
  | c :: d :: r => by
    have e : Str.join ("" : Str) ((c :: d :: r).map sgS) = sgS c ++ ("" : Str) ++ Str.join ("" : Str) ((d :: r).map sgS) := rfl
    rw [e, app_signs, app_signs, join_cs (d :: r)]
    rfl
theorem cs_join {xs : List PyData} (h : ∀ x ∈ xs, ∃ c : Nat, x = .str (sgS c) ∧ 97 ≤ c ∧ c ≤ 122) (h1 : 1 ≤ xs.length) (h8 : xs.length ≤ 8) : ∃ ys : List Str, xs = ys.map PyData.str ∧ (ys.map (·.length)).sum + ys.length * ("" : Str).length ≤ 100000 ∧ Nam (Txt.join ("" : Str) ys) := by
  obtain ⟨cs, rfl, hc⟩ : ∃ cs : List Nat, xs = cs.map (fun c => PyData.str (sgS c)) ∧ ∀ c ∈ cs, 97 ≤ c ∧ c ≤ 122 := by
    clear h1 h8
    induction xs with
    | nil => exact ⟨[], rfl, fun _ h => nomatch h⟩
    | cons x xs ih =>
      obtain ⟨c, rfl, hc⟩ := h x (List.mem_cons_self ..)
      obtain ⟨cs, rfl, hcs⟩ := ih fun y hy => h y (List.mem_cons_of_mem _ hy)
      exact ⟨c :: cs, rfl, fun d hd => by
        rcases List.mem_cons.mp hd with rfl | hd
        · exact hc
        · exact hcs d hd⟩
  rw [List.length_map] at h1 h8
  have e0 : ("" : Str).length = 0 := rfl
  have e : Txt.join ("" : Str) (cs.map sgS) = Str.join ("" : Str) (cs.map sgS) := StrLaws.glued_eq_join _ _
  have sm : ∀ cs : List Nat, ((cs.map sgS).map (·.length)).sum = cs.length := by
    intro cs
    induction cs with
    | nil => rfl
    | cons c cs ih =>
      rw [List.map_cons, List.map_cons, List.sum_cons, ih, List.length_cons]
      show 1 + _ = _
      omega
  refine ⟨cs.map sgS, by rw [List.map_map]; rfl, ?_, ?_⟩
  · rw [e0, sm]
    omega
  · rw [e]
    have l := join_cs cs
    have ll : (Str.join ("" : Str) (cs.map sgS)).length = cs.length := by
      rw [← congrArg List.length l]
      exact Array.length_toList.symm
    exact ⟨by omega, by omega, fun c hc2 => hc c (by rw [← l]; exact hc2)⟩
/-- marks as they grow -/
def GrowR (ns : List Int) : Prop := ∃ h : ns ≠ [], ns.Pairwise (· < ·) ∧ (∀ n ∈ ns, 0 ≤ n ∧ n ≤ ns.getLast h) ∧ ns.getLast h ≤ 299 + 99 * ((ns.length : Int) - 1)
theorem growR_one {r : Int} (h0 : 0 ≤ r) (h1 : r < 300) : GrowR [r] := ⟨List.cons_ne_nil _ _, .cons (fun _ h => nomatch h) .nil, fun n hn => by
  cases List.mem_singleton.mp hn
  exact ⟨h0, Int.le_refl _⟩, by show r ≤ 299 + 99 * ((1 : Int) - 1); omega⟩
theorem growR_app {ns : List Int} {r : Int} (g : GrowR ns) (hn : ns ≠ []) (h0 : 0 ≤ r) (h1 : r < 99) : GrowR (ns ++ [ns.getLast hn + 1 + r]) := by
  obtain ⟨h, p, b, c⟩ := g
  have e : (ns ++ [ns.getLast hn + 1 + r]).getLast (by simp) = ns.getLast hn + 1 + r := List.getLast_concat ..
  refine ⟨by simp, List.pairwise_append.mpr ⟨p, .cons (fun _ h => nomatch h) .nil, fun a ha y hy => ?_⟩, fun n hn2 => ?_, ?_⟩
  · cases List.mem_singleton.mp hy
    have := b a ha
    omega
  · rw [e]
    rcases List.mem_append.mp hn2 with m | m
    · have := b n m
      omega
    · cases List.mem_singleton.mp m
      have := b _ (List.getLast_mem hn)
      omega
  · rw [e, List.length_append, List.length_singleton]
    push_cast
    omega
theorem growR_set {ns : List Int} (g : GrowR ns) (h8 : ns.length ≤ 8) : (∀ m ∈ ns.set (ns.length - 1) 1000, 0 ≤ m ∧ m ≤ 1000) ∧ (ns.set (ns.length - 1) 1000).Pairwise (· < ·) := by
  obtain ⟨h, p, b, c⟩ := g
  have l := List.length_pos_iff.mpr h
  have e : ns.set (ns.length - 1) 1000 = ns.dropLast ++ [1000] := by
    have q := List.dropLast_concat_getLast h
    have q2 : (ns.dropLast ++ [ns.getLast h]).set (ns.length - 1) 1000 = ns.dropLast ++ [1000] := by
      rw [List.set_append_right _ _ (by rw [List.length_dropLast]; omega), List.length_dropLast, Nat.sub_self]
      rfl
    rw [q] at q2
    exact q2
  rw [e]
  have low : ∀ m ∈ ns.dropLast, m < ns.getLast h ∨ m ≤ ns.getLast h := fun m hm => .inr (b m ((List.dropLast_sublist ns).subset hm)).2
  refine ⟨fun m hm => ?_, List.pairwise_append.mpr ⟨List.Pairwise.sublist (List.dropLast_sublist ns) p, .cons (fun _ h => nomatch h) .nil, fun a ha y hy => ?_⟩⟩
  · rcases List.mem_append.mp hm with m1 | m1
    · have q := b m ((List.dropLast_sublist ns).subset m1)
      have : ns.getLast h ≤ 992 := by omega
      omega
    · cases List.mem_singleton.mp m1
      omega
  · cases List.mem_singleton.mp hy
    have := b a ((List.dropLast_sublist ns).subset ha)
    omega
theorem fr_trans {p q u v r s : Int} (q0 : 0 < q) (v0 : 0 < v) (s0 : 0 < s) (h1 : u * q < p * v) (h2 : p * s ≤ r * q) : u * s ≤ r * v := by
  have a : u * q * s ≤ p * v * s := Int.mul_le_mul_of_nonneg_right (Int.le_of_lt h1) (Int.le_of_lt s0)
  have b : p * s * v ≤ r * q * v := Int.mul_le_mul_of_nonneg_right h2 (Int.le_of_lt v0)
  have c : (u * s) * q ≤ (r * v) * q := by
    have e1 : (u * s) * q = u * q * s := by rw [Int.mul_right_comm]
    have e2 : p * v * s = p * s * v := by rw [Int.mul_right_comm]
    have e3 : r * q * v = (r * v) * q := by rw [Int.mul_right_comm]
    omega
  exact Int.le_of_mul_le_mul_right c q0
def LFr (l : List (Int × Int)) : List PyData := l.map fun r => frc r.1 r.2
theorem sml_lt {p q : Int} (h : Sml p q) : p.natAbs < 2 ^ 4000 ∧ q.natAbs < 2 ^ 4000 := by
  have a := h.t
  have b := h.b
  have c := h.f.pos
  exact ⟨two_le (show p.natAbs < 2 ^ 60 by omega) (by decide), two_le (show q.natAbs < 2 ^ 60 by omega) (by decide)⟩
theorem nam_cut {z : Str} (h1 : 1 ≤ z.length) (hc : ∀ c ∈ z.cps.toList, 97 ≤ c ∧ c ≤ 122) : Nam (cutS z none (some 8)) := by
  have e : (cutS z none (some 8)).cps.toList = z.cps.toList.take 8 := by
    unfold cutS
    have e1 : HT.sIx z.length 0 none = 0 := rfl
    have e2 : HT.sIx z.length z.length (some ((8 : Nat) : Int)) = min 8 z.length := HT.sIx_nat _ _ _
    rw [e1, show (some 8 : Option Int) = some ((8 : Nat) : Int) from rfl, e2, List.drop_zero, Nat.sub_zero]
    have l : z.cps.toList.length = z.length := Array.length_toList
    rw [List.toList_toArray]
    rcases Nat.le_total 8 z.length with c | c
    · rw [Nat.min_eq_left c]
    · rw [Nat.min_eq_right c, List.take_of_length_le (by omega), List.take_of_length_le (by omega)]
  have l : z.cps.toList.length = z.length := Array.length_toList
  have ll : (cutS z none (some 8)).length = min 8 z.length := by
    have : (cutS z none (some 8)).cps.toList.length = (cutS z none (some 8)).length := Array.length_toList
    rw [← this, e, List.length_take, l]
  exact ⟨by omega, by omega, fun c h => hc c (List.mem_of_mem_take (by rw [← e]; exact h))⟩
theorem nam_x {z : Str} (h : Nam z) : ∀ c ∈ (z ++ ("x" : Str)).cps.toList, 97 ≤ c ∧ c ≤ 122 := fun c hc => by
  rw [app_signs] at hc
  rcases List.mem_append.mp hc with hc | hc
  · exact h.2.2 c hc
  · have e : ("x" : Str).cps.toList = [120] := by decide +kernel
    rw [e] at hc
    cases List.mem_singleton.mp hc
    decide
theorem len_x (z : Str) : (z ++ ("x" : Str)).length = z.length + 1 := by
  have a : (z ++ ("x" : Str)).cps.toList.length = (z ++ ("x" : Str)).length := Array.length_toList
  have b : z.cps.toList.length = z.length := Array.length_toList
  have e : ("x" : Str).cps.toList = [120] := by decide +kernel
  rw [← a, app_signs, List.length_append, b, e]
  rfl
/-! what is told of anything, whole or spoilt -/
def pairOf : PyData → List Key
  | .tuple [_, .str z, .int k] => [.inr z, .inl k]
  | _ => []
def eldOf : PyData → PyData
  | .tuple (_ :: z :: _) => z
  | _ => .none
def eldIs (nm : Str) : PyData → Bool
  | .str z => decide (z = nm)
  | _ => false
def partsL : List (Str × List Str) := [("thing", ["name", "sort", "level", "rate", "marks"]), ("off", ["name"]), ("harmed", ["name"]), ("mended", ["name"]), ("made", ["name", "rate", "rows"]), ("told", ["name", "term", "rows"]), ("held", ["name", "finer", "term", "rows"]), ("read", ["name", "spot"])]
theorem ix_last {xs : List PyData} {x : PyData} {P : DV → Prop} (h : xs.getLast? = some x) (hP : P (.d x)) : gIx (.tuple xs) (.int (-1)) P := by
  have ne : xs ≠ [] := fun e => by rw [e] at h; cases h
  have e := atN ne
  rw [List.getLast?_eq_some_getLast ne] at h
  simp only [gIx, e, Option.some.inj h]
  exact hP
/-- no piece of an elder stands twice among the rows, and none above its row's mark -/
def RowsD (rows : List PyData) : Prop := (rows.map pairOf).Nodup ∧ ∀ x ∈ rows, ∃ (m : Int) (z : Str) (k : Int), x = .tuple [.int m, .str z, .int k] ∧ k ≤ m
theorem rowsD_nil : RowsD [] := ⟨List.nodup_nil, fun _ h => nomatch h⟩
theorem rowsD_add {rows : List PyData} {m k : Int} {z : Str} (h : RowsD rows) (hk : k ≤ m) (hn : ([.inr z, .inl k] : List Key) ∉ rows.map pairOf) : RowsD (rows ++ [.tuple [.int m, .str z, .int k]]) := by
  refine ⟨?_, fun x hx => ?_⟩
  · rw [List.map_append]
    refine List.nodup_append.mpr ⟨h.1, by simp, fun a ha b hb e => ?_⟩
    rw [List.mem_singleton.mp hb] at e
    exact hn (by rw [← show a = [.inr z, .inl k] from e]; exact ha)
  · rcases List.mem_append.mp hx with hx | hx
    · exact h.2 x hx
    · exact ⟨m, z, k, List.mem_singleton.mp hx, hk⟩
theorem rowsD_top {rows : List PyData} {m : Int} {z : Str} (h : RowsD rows) (low : ∀ x ∈ rows, rowMark x < m) : RowsD (rows ++ [.tuple [.int m, .str z, .int m]]) := by
  refine rowsD_add h (Int.le_refl _) fun hm => ?_
  obtain ⟨x, hx, e⟩ := List.mem_map.mp hm
  obtain ⟨m', z', k', rfl, hk⟩ := h.2 x hx
  have l := low _ hx
  have e2 : k' = m := by
    have : ([.inr z', .inl k'] : List Key) = [.inr z, .inl m] := e
    simpa using (List.cons.inj (List.cons.inj this).2).1
  have l : m' < m := l
  omega
theorem eqv_pair (a c : Str) (b d : Int) : PyData.eqv (.tuple [.str a, .int b]) (.tuple [.str c, .int d]) = (decide (a = c) && decide (b = d)) := by
  simp [PyData.eqv, PyData.eqvAll]
  rfl
theorem rowsD_new {rows : List PyData} {m k : Int} {z : Str} (h : RowsD rows) (hk : k ≤ m) (hn : ((rows.map fun x => PyData.tuple ((pairOf x).map kyD)).any fun y => y.eqv (.tuple [.str z, .int k])) = false) : RowsD (rows ++ [.tuple [.int m, .str z, .int k]]) := by
  refine rowsD_add h hk fun hm => ?_
  obtain ⟨x, hx, e⟩ := List.mem_map.mp hm
  rw [List.any_eq_false] at hn
  have q := hn _ (List.mem_map.mpr ⟨x, hx, rfl⟩)
  rw [e] at q
  exact q (by show PyData.eqv (.tuple [.str z, .int k]) _ = true; rw [eqv_pair]; simp)
theorem fmod_le {m : Int} (h : 0 ≤ m) : m.fmod 5 ≤ m := by
  rw [Int.fmod_eq_emod_of_nonneg m (by decide)]
  omega
/-- of a made paper: no piece twice, none of its own box -/
def MadR (z : Str) (r : List PyData) : Prop := ∀ f rows, r = [f, .list rows] → (rows.map pairOf).Nodup ∧ ∀ y ∈ rows, eldIs z (eldOf y) = false
def Mad (x : PyData) : Prop := ∀ c d z r, x = .tuple (c :: d :: .str "made" :: .str z :: r) → MadR z r
/-! _law_bag -/
abbrev N__law_bag : List Str := ["_law_script", "_law_cell"]
theorem sc__law_bag : FnScope N__law_bag ["_law_script"] (defScope s__law_bag) := ⟨rfl, rfl, rfl, by decide +kernel, rfl, by decide +kernel, by decide +kernel⟩
section
variable {ts : List Addr} {P : Program} {w : World} {K : PySem.W.Frag} {mg : Str → Option Value} {base : Heap}
theorem ok__law_bag {f : Addr} {fd : FuncData} (Fn : L2.Fun K "_law_bag" "_law_bag" s__law_bag f fd) (z_abs : mg "abs" = none) : Fg P w K mg base (L2.CX P w) 1 f (spBag K) := by
  refine r_def Fn sc__law_bag (fun _ _ _ _ _ _ us hl => match us, hl with | [_], _ => rfl) (spBag K) fun cdv A outer s H vs Q E ag hr want => ?_
  obtain ⟨a, ns, rfl, seq, hl, q⟩ := want
  have S := sc__law_bag
  refine ⟨rfl, bgT K, pss_one (ps_ret (pe_lst (pa_cons pe_int (pa_cons pe_int (pa_cons pe_int (pa_cons (pe_lc (own := [("_law_cell", 1)]) rfl S.nd (pi_list (pe_slice sl_list (pv 0) po_none (po_some pe_int))) (blkOk_by (N := N__law_bag) (sc := defScope s__law_bag) (by decide +kernel)) (fun _ _ _ _ _ => pg_name (i := 1) S.nd rfl (Or.inl rfl)) (fun _ _ _ _ _ => pts_nil) (fun _ _ _ _ _ => pe_callB call_abs (by rfl) z_abs (by decide +kernel) (pa_cons (pv 1) pa_nil))) pa_nil)))))), ?_⟩
  exact bg_go seq hl q
end
/-! _law_take -/
abbrev N__law_take : List Str := ["_law_bag_here", "_law_many", "_law_cell", "_law_value", "_law_first", "_law_second"]
theorem sc__law_take : FnScope N__law_take ["_law_bag_here", "_law_many"] (defScope s__law_take) := ⟨rfl, rfl, rfl, by decide +kernel, rfl, by decide +kernel, by decide +kernel⟩
section
variable {ts : List Addr} {P : Program} {w : World} {K : PySem.W.Frag} {mg : Str → Option Value} {base : Heap}
theorem ok__law_take {f : Addr} {fd : FuncData} (Fn : L2.Fun K "_law_take" "_law_take" s__law_take f fd) (z_len : mg "len" = none) : Fg P w K mg base (L2.CX P w) 1 f (Pm K ts sp__law_take) := by
  refine r_def Fn sc__law_take (fun _ _ _ _ _ _ us hl => match us, hl with | [_, _], _ => rfl) (Pm K ts sp__law_take) fun cdv A outer s H vs Q E ag hr want => ?_
  obtain ⟨b, F, dvs, R, _, wd, ar, ⟨m, rfl, hm, hs, hR⟩, q⟩ := want
  match vs, ar with
  | [_, _], .cons a1 (.cons a2 .nil) =>
  cases a1
  cases a2
  have S := sc__law_take
  refine ⟨rfl, tkT K, pss_cons (ps_if (pt_cmpR op_eq (pe_ix ix_list (pv 0) pe_int (fun _ _ => rfl)) pe_int (nomark _))
      (pss_cons (ps_set (i := 2) S.nd rfl (.inl rfl) pe_int)
      (pss_cons (ps_if (pt_cmpR op_lt (pe_ix ix_list (pv 0) pe_int (fun _ _ => rfl)) (pe_callB call_len_seq (by rfl) z_len PySem.boot_len (pa_cons (pe_ix ix_list (pv 0) pe_int (fun _ _ => rfl)) pa_nil)) (nomark _))
        (pss_one (ps_set (i := 2) S.nd rfl (.inl rfl) (pe_ix ix_list (pe_ix ix_list (pv 0) pe_int (fun _ _ => rfl)) (pe_ix ix_list (pv 0) pe_int (fun _ _ => rfl)) (fun _ _ => rfl)))) pss_nil)
      (pss_cons (ps_augS (pv 0) pe_int get_lst pe_int ip_add set_list)
      (pss_cons (ps_if (pt_cmpR op_ge (pv 2) pe_int (nomark _)) (pss_one (ps_asg (pv 2) (pg_sub (pv 0) pe_int set_list))) pss_nil)
      (pss_one (ps_asg (pe_op op_mod (pe_op op_add (pe_op op_add (pe_op op_mul (pe_ix ix_list (pv 0) pe_int (fun _ _ => rfl)) pe_int) (pe_op op_mod (pv 2) pe_int)) (pe_op op_mul pe_int (pe_ix ix_list (pv 0) pe_int (fun _ _ => rfl)))) pe_int) (pg_sub (pv 0) pe_int set_list))))))) pss_nil)
    (pss_cons (ps_if (pt_cmpR op_gt (pe_ix ix_list (pv 0) pe_int (fun _ _ => rfl)) pe_int (nomark _))
      (pss_cons (ps_set (i := 3) S.nd rfl (.inl rfl) (pe_op op_mod (pe_ix ix_list (pv 0) pe_int (fun _ _ => rfl)) (pv 1)))
      (pss_cons (ps_asg (pe_op op_fdivX (pe_ix ix_list (pv 0) pe_int (fun _ _ => rfl)) (pv 1)) (pg_sub (pv 0) pe_int set_list))
      (pss_one (ps_ret (pv 3))))) pss_nil)
    (pss_cons (ps_set (i := 4) S.nd rfl (.inl rfl) (pe_op op_mod (pe_op op_mul (pe_op op_add (pe_ix ix_list (pv 0) pe_int (fun _ _ => rfl)) pe_int) pe_int) pe_int))
    (pss_cons (ps_set (i := 5) S.nd rfl (.inl rfl) (pe_op op_mod (pe_op op_mul (pe_op op_mod (pe_op op_mul (pv 4) (pv 4)) pe_int) pe_int) pe_int))
    (pss_cons (ps_if (pt_cmpR op_gt (pv 1) pe_int (nomark _)) (pss_one (ps_ret (pe_op op_mod (pe_op op_add (pe_op op_mul (pv 5) pe_int) (pv 4)) (pv 1)))) pss_nil)
    (pss_one (ps_ret (pe_op op_mod (pe_op op_fdiv (pv 5) pe_int) (pv 1)))))))), ?_⟩
  exact tk_go wd hm hs fun r r0 r1 H2 st => q (.d (.int r)) _ F H2 st (.int r) (hR r r0 r1)
end
/-! _law_name -/
abbrev N__law_name : List Str := ["_law_bag_here", "_law_words", "_law_way", "_law_letters", "_law_k"]
theorem sc__law_name : FnScope N__law_name ["_law_bag_here"] (defScope s__law_name) := ⟨rfl, rfl, rfl, by decide +kernel, rfl, by decide +kernel, by decide +kernel⟩
def rd__law_name : DS := (tSeqD (tSetD 1 (tLstD (tConsD (tCD (.str "thing")) (tConsD (tCD (.str "held")) (tConsD (tCD (.str "read")) (tConsD (tCD (.str "off")) (tConsD (tCD (.str "scale")) (tConsD (tCD (.str "box")) (tConsD (tCD (.str "a")) (tConsD (tCD (.str "aa")) (tConsD (tCD (.str "ab")) (tConsD (tCD (.str "b")) tNilD))))))))))))
    (tSeqD (tSetD 2 (tUse sp__law_take (tConsD (tVarD 0) (tConsD (tCD (.int 4)) tNilD))))
    (tSeqD (tIfD (tTst (tBin (gEqv id) (tVarD 2) (tCD (.int 0)))) (tRetD (tBin gIx (tVarD 1) (tUse sp__law_take (tConsD (tVarD 0) (tConsD (tCD (.int 10)) tNilD))))) (fun d env => d.nx env))
    (tSeqD (tSetD 3 (tCD (.str "abcdefghijklmnopqrstuvwxyz")))
    (tRetD (tJoin (tCD (.str "")) (tLcD (itR1 (tConsD (tBin gAdd (tCD (.int 1)) (tUse sp__law_take (tConsD (tVarD 0) (tConsD (tBin gIx (tLstD (tConsD (tCD (.int 2)) (tConsD (tCD (.int 8)) (tConsD (tCD (.int 1)) tNilD)))) (tBin gMinus (tVarD 2) (tCD (.int 1)))) tNilD)))) tNilD)) (gnD 4) (fun _ P => P true) (tBin gIx (tVarD 3) (tUse sp__law_take (tConsD (tVarD 0) (tConsD (tCD (.int 26)) tNilD)))) [4])))))))
def sp__law_name : DSp := fun us P => us = [.bag] ∧ ∀ z : Str, Nam z → P (.d (.str z))
theorem vc__law_name : ∀ dvs Q, sp__law_name dvs Q → dvs.length = 1 ∧ rd__law_name { nx := fun _ => Q (.d .none), rt := Q } (startD N__law_name dvs) := by
  rintro dvs Q ⟨rfl, h⟩
  refine ⟨rfl, ?_⟩
  unfold rd__law_name
  refine seqG fun R hR => ?_
  walk_at "dl"
  refine ⟨by decide, fun l => hR _ (seqG fun R hR => ?_)⟩
  walk_at "dl"
  refine ⟨4, rfl, by decide, by decide, fun r r0 r1 => ?_⟩
  walk_at "dl"
  refine hR _ (seqG fun R hR => ?_)
  walk_at "dl"
  by_cases c : r = 0
  · simp only [c, decide_true, if_true]
    refine ⟨10, rfl, by decide, by decide, fun j j0 j1 => ?_⟩
    walk_at "dl"
    refine pick j0 j1 fun x hx => ?_
    have : ∃ z : Str, x = .str z ∧ Nam z := by
      simp only [List.mem_cons, List.not_mem_nil, or_false] at hx
      rcases hx with rfl | rfl | rfl | rfl | rfl | rfl | rfl | rfl | rfl | rfl <;> exact ⟨_, rfl, by decide +kernel, by decide +kernel, by decide +kernel⟩
    obtain ⟨z, rfl, hz⟩ := this
    exact h z hz
  · simp only [c, decide_false, Bool.false_eq_true, if_false]
    refine hR _ (seqG fun R hR => ?_)
    generalize hal : (Str.ofString "abcdefghijklmnopqrstuvwxyz") = al at hR ⊢
    walk_at "dl"
    refine hR _ ?_
    walk_at "dl"
    unfold tLcD
    walk_at "dl"
    refine ⟨by decide, ?_⟩
    refine pick (show 0 ≤ r - 1 by omega) (show r - 1 < ((3 : Nat) : Int) by omega) fun y hy => ?_
    obtain ⟨m, rfl, m0, m1⟩ : ∃ m : Int, y = .int m ∧ 1 ≤ m ∧ m ≤ 8 := by
      simp only [List.mem_cons, List.not_mem_nil, or_false] at hy
      rcases hy with rfl | rfl | rfl <;> exact ⟨_, rfl, by decide, by decide⟩
    walk_at "dl"
    refine ⟨m, rfl, by omega, log_le (show m.natAbs < 2 ^ 20 by omega) (by decide) (by decide), fun n n0 n1 => ?_⟩
    walk_at "dl"
    refine ⟨⟨by omega, by omega⟩, ?_⟩
    have hal2 : ∀ c ∈ al.cps.toList, 97 ≤ c ∧ c ≤ 122 := by rw [← hal]; decide +kernel
    have hal3 : al.cps.toList.length = 26 := by rw [← hal]; decide +kernel
    have hal4 : al.length ≤ 100000 := by rw [← hal]; decide +kernel
    refine lc_all (fun y => ∃ c : Nat, y = .str (sgS c) ∧ 97 ≤ c ∧ c ≤ 122) (by rw [rngD_len]; omega) (fun ys hl hy => ?_) fun x hx R4 hR4 => ?_
    · rw [rngD_len] at hl
      obtain ⟨zs, e1, e2, e3⟩ := cs_join hy (by omega) (by omega)
      walk_at "dl"
      exact ⟨zs, e1, e2, h _ e3⟩
    · walk_at "dl"
      refine ⟨26, rfl, by decide, by decide, fun j j0 j1 => ?_⟩
      walk_at "dl"
      refine pickS hal4 j0 (by rw [hal3]; exact j1) fun c hc => ?_
      exact hR4 _ ⟨c, rfl, hal2 c hc⟩
section
variable {ts : List Addr} {P : Program} {w : World} {K : PySem.W.Frag} {mg : Str → Option Value} {base : Heap}
theorem ok__law_name {f : Addr} {fd : FuncData} (Fn : L2.Fun K "_law_name" "_law_name" s__law_name f fd) {f__law_take : Addr} (g__law_take : Fg P w K mg base (L2.CX P w) 1 f__law_take (Pm K ts sp__law_take)) (m__law_take : mg "_law_take" = some (.ref f__law_take)) (p__law_take : PySem.W.keepIn K (.ref f__law_take) = true) (z_range : mg "range" = none) : Fg P w K mg base (L2.CX P w) 2 f (Pm K ts sp__law_name) := d_def Fn sc__law_name (fun _ _ _ _ _ _ us hl => match us, hl with | [_], _ => rfl) sp__law_name rd__law_name (fun cdv A outer s H E wn hcd ht ag hr => by
  have S := sc__law_name
  have hu := hr.units
  exact (dss_cons (ds_set (i := 1) S.nd rfl (by first | exact Or.inl rfl | exact Or.inr rfl) (d_lst (da_cons d_str (da_cons d_str (da_cons d_str (da_cons d_str (da_cons d_str (da_cons d_str (da_cons d_str (da_cons d_str (da_cons d_str (da_cons d_str da_nil))))))))))))
    (dss_cons (ds_set (i := 2) S.nd rfl (by first | exact Or.inl rfl | exact Or.inr rfl) (d_use g__law_take ht ag (hr.mono (by decide)) passZ (by rfl) m__law_take p__law_take (da_cons (d_var 0) (da_cons d_int da_nil))))
    (dss_cons (ds_if (dt_cmp (o_eq hu) (d_var 2) d_int) (dss_one (ds_ret (d_ix (d_var 1) (d_use g__law_take ht ag (hr.mono (by decide)) passZ (by rfl) m__law_take p__law_take (da_cons (d_var 0) (da_cons d_int da_nil)))))) dss_nil)
    (dss_cons (ds_set (i := 3) S.nd rfl (by first | exact Or.inl rfl | exact Or.inr rfl) d_str)
    (dss_one (ds_ret (d_join d_str (d_lc (own := [("_law_k", 4)]) rfl S.nd (di_r1 (by rfl) z_range (da_cons (d_bin o_add d_int (d_use g__law_take ht ag (hr.mono (by decide)) passZ (by rfl) m__law_take p__law_take (da_cons (d_var 0) (da_cons (d_ix (d_lst (da_cons d_int (da_cons d_int (da_cons d_int da_nil)))) (d_bin o_sub (d_var 2) d_int)) da_nil)))) da_nil)) (blkOk_by (N := N__law_name) (sc := defScope s__law_name) (by decide +kernel)) (tgt1 4) (fun _ _ _ _ _ => pg_name (i := 4) S.nd rfl (Or.inl rfl)) (fun _ _ _ _ _ => pts_nilD) (fun _ _ _ _ _ => (d_ix (d_var 3) (d_use g__law_take ht ag (hr.mono (by decide)) passZ (by rfl) m__law_take p__law_take (da_cons (d_var 0) (da_cons d_int da_nil)))))) (fun a b => pe_join a b))))))))) vc__law_name
end
/-! _law_rising -/
abbrev N__law_rising : List Str := ["_law_bag_here", "_law_many", "_law_step", "_law_last", "_law_found", "_law_k"]
theorem sc__law_rising : FnScope N__law_rising ["_law_bag_here", "_law_many"] (defScope s__law_rising) := ⟨rfl, rfl, rfl, by decide +kernel, rfl, by decide +kernel, by decide +kernel⟩
def rd__law_rising : DS := (tSeqD (tSetD 2 (tBin gIx (tLstD (tConsD (tCD (.int 1)) (tConsD (tCD (.int 3)) (tConsD (tCD (.int 99)) tNilD)))) (tUse sp__law_take (tConsD (tVarD 0) (tConsD (tCD (.int 3)) tNilD)))))
    (tSeqD (tSetD 3 (tUse sp__law_take (tConsD (tVarD 0) (tConsD (tCD (.int 6)) tNilD))))
    (tSeqD (tSetD 4 (tLstD (tConsD (tUse sp__law_take (tConsD (tVarD 0) (tConsD (tBin gIx (tLstD (tConsD (tCD (.int 4)) (tConsD (tCD (.int 300)) tNilD))) (tUse sp__law_take (tConsD (tVarD 0) (tConsD (tCD (.int 2)) tNilD)))) tNilD))) tNilD)))
    (tSeqD (tForD (gnD 5) (itR1 (tConsD (tBin gMinus (tVarD 1) (tCD (.int 1))) tNilD)) (tAppD 4 (tBin gAdd (tBin gAdd (tBin gIx (tVarD 4) (tUnD gNeg (tCD (.int 1)))) (tCD (.int 1))) (tUse sp__law_take (tConsD (tVarD 0) (tConsD (tVarD 2) tNilD))))))
    (tSeqD (tIfD (tTst (tBin (gEqv id) (tVarD 3) (tCD (.int 0)))) (tSetI 4 (tUnD gNeg (tCD (.int 1))) (tCD (.int 1000))) (fun d env => d.nx env))
    (tRetVD 4))))))
def sp__law_rising : DSp := fun us P => ∃ n : Int, us = [.bag, .d (.int n)] ∧ 1 ≤ n ∧ n ≤ 8 ∧ ∀ ms : List Int, (ms.length : Int) = n → (∀ m ∈ ms, 0 ≤ m ∧ m ≤ 1000) → ms.Pairwise (· < ·) → P (.fr (IL ms))
theorem vc__law_rising : ∀ dvs Q, sp__law_rising dvs Q → dvs.length = 2 ∧ rd__law_rising { nx := fun _ => Q (.d .none), rt := Q } (startD N__law_rising dvs) := by
  rintro dvs Q ⟨n, rfl, n1, n8, h⟩
  refine ⟨rfl, ?_⟩
  unfold rd__law_rising
  refine seqG fun R hR => ?_
  walk_at "dl"
  refine ⟨by decide, 3, rfl, by decide, by decide, fun w w0 w1 => ?_⟩
  walk_at "dl"
  refine pick w0 w1 fun y hy => ?_
  obtain ⟨s, rfl, s0, s1⟩ : ∃ s : Int, y = .int s ∧ 1 ≤ s ∧ s ≤ 99 := by
    simp only [List.mem_cons, List.not_mem_nil, or_false] at hy
    rcases hy with rfl | rfl | rfl <;> exact ⟨_, rfl, by decide, by decide⟩
  walk_at "dl"
  refine hR _ (seqG fun R hR => ?_)
  walk_at "dl"
  refine ⟨6, rfl, by decide, by decide, fun la l0 l1 => ?_⟩
  walk_at "dl"
  refine hR _ (seqG fun R hR => ?_)
  walk_at "dl"
  refine ⟨by decide, 2, rfl, by decide, by decide, fun v v0 v1 => ?_⟩
  walk_at "dl"
  refine pick v0 v1 fun y hy => ?_
  obtain ⟨u, rfl, u0, u1⟩ : ∃ u : Int, y = .int u ∧ 4 ≤ u ∧ u ≤ 300 := by
    simp only [List.mem_cons, List.not_mem_nil, or_false] at hy
    rcases hy with rfl | rfl <;> exact ⟨_, rfl, by decide, by decide⟩
  walk_at "dl"
  refine ⟨u, rfl, by omega, log_le (show u.natAbs < 2 ^ 20 by omega) (by decide) (by decide), fun fi i0 i1 => ?_⟩
  walk_at "dl"
  refine ⟨by decide, fun l => hR _ (seqG fun R hR => ?_)⟩
  walk_at "dl"
  refine ⟨⟨by omega, by omega⟩, ?_⟩
  refine forD_ind (fun zs env => ∃ ns s5, env = [.bag, .d (.int n), .d (.int s), .d (.int la), .ow l (IL ns), s5] ∧ GrowR ns ∧ (ns.length : Int) + zs.length = n) (fun env hI => ?_) (fun x zs env R2 hI hR2 => ?_) _ _ ⟨[fi], _, rfl, growR_one i0 (by omega), by rw [rngD_len]; simp only [List.length_singleton]; omega⟩
  · obtain ⟨ns, s5, rfl, g, e⟩ := hI
    rw [List.length_nil] at e
    obtain ⟨ne, g1, g2, g3⟩ := id g
    have el := il_len ns
    refine hR _ (seqG fun R hR => ?_)
    walk_at "dl"
    by_cases hl : la = 0
    · simp only [hl, decide_true, if_true]
      rw [ixN_last (by omega), el]
      show R _
      rw [il_set]
      refine hR _ ?_
      walk_at "dl"
      obtain ⟨a, b⟩ := growR_set g (by omega)
      exact h _ (by rw [List.length_set]; omega) a b
    · simp only [hl, decide_false, Bool.false_eq_true, if_false]
      refine hR _ ?_
      walk_at "dl"
      exact h _ (by omega) (fun m hm => by have := g2 m hm; omega) g1
  · obtain ⟨ns, s5, rfl, g, e⟩ := hI
    rw [List.length_cons] at e
    obtain ⟨gne, _⟩ := id g
    have el := il_len ns
    walk_at "dl"
    rw [ixNL gne]
    walk_at "dl"
    refine ⟨by omega, s, rfl, by omega, log_le (show s.natAbs < 2 ^ 7 by omega) (by decide) (by decide), fun r r0 r1 => ?_⟩
    walk_at "dl"
    rw [il_app]
    exact hR2 _ ⟨_, _, rfl, growR_app g gne r0 (by omega), by rw [List.length_append, List.length_singleton]; omega⟩
section
variable {ts : List Addr} {P : Program} {w : World} {K : PySem.W.Frag} {mg : Str → Option Value} {base : Heap}
theorem ok__law_rising {f : Addr} {fd : FuncData} (Fn : L2.Fun K "_law_rising" "_law_rising" s__law_rising f fd) {f__law_take : Addr} (g__law_take : Fg P w K mg base (L2.CX P w) 1 f__law_take (Pm K ts sp__law_take)) (m__law_take : mg "_law_take" = some (.ref f__law_take)) (p__law_take : PySem.W.keepIn K (.ref f__law_take) = true) (z_range : mg "range" = none) : Fg P w K mg base (L2.CX P w) 2 f (Pm K ts sp__law_rising) := d_def Fn sc__law_rising (fun _ _ _ _ _ _ us hl => match us, hl with | [_, _], _ => rfl) sp__law_rising rd__law_rising (fun cdv A outer s H E wn hcd ht ag hr => by
  have S := sc__law_rising
  have hu := hr.units
  exact (dss_cons (ds_set (i := 2) S.nd rfl (by first | exact Or.inl rfl | exact Or.inr rfl) (d_ix (d_lst (da_cons d_int (da_cons d_int (da_cons d_int da_nil)))) (d_use g__law_take ht ag (hr.mono (by decide)) passZ (by rfl) m__law_take p__law_take (da_cons (d_var 0) (da_cons d_int da_nil)))))
    (dss_cons (ds_set (i := 3) S.nd rfl (by first | exact Or.inl rfl | exact Or.inr rfl) (d_use g__law_take ht ag (hr.mono (by decide)) passZ (by rfl) m__law_take p__law_take (da_cons (d_var 0) (da_cons d_int da_nil))))
    (dss_cons (ds_set (i := 4) S.nd rfl (by first | exact Or.inl rfl | exact Or.inr rfl) (d_lst (da_cons (d_use g__law_take ht ag (hr.mono (by decide)) passZ (by rfl) m__law_take p__law_take (da_cons (d_var 0) (da_cons (d_ix (d_lst (da_cons d_int (da_cons d_int da_nil))) (d_use g__law_take ht ag (hr.mono (by decide)) passZ (by rfl) m__law_take p__law_take (da_cons (d_var 0) (da_cons d_int da_nil)))) da_nil))) da_nil)))
    (dss_cons (ds_for PassesOwn.never rfl (di_r1 (by rfl) z_range (da_cons (d_bin o_sub (d_var 1) d_int) da_nil)) (dg_name (i := 5) S.nd rfl (by first | exact Or.inl rfl | exact Or.inr rfl)) (dss_one (ds_app (i := 4) (pe_bm PySem.F.plainAttrs_list PySem.F.slot_list_append PySem.F.type_list_append mt_append (pv 4) (pa_cons (d_bin o_add (d_bin o_add (d_ix (d_var 4) (d_neg d_int)) d_int) (d_use g__law_take ht ag (hr.mono (by decide)) passZ (by rfl) m__law_take p__law_take (da_cons (d_var 0) (da_cons (d_var 2) da_nil)))) pa_nil)))))
    (dss_cons (ds_if (dt_cmp (o_eq hu) (d_var 3) d_int) (dss_one (ds_seti (i := 4) d_int (pv 4) (d_neg d_int) (pg_sub (pv 4) (d_neg d_int) set_list))) dss_nil)
    (dss_one (ds_retV 4)))))))) vc__law_rising
end
/-! _law_low -/
abbrev N__law_low : List Str := ["_law_top", "_law_bottom", "_law_one", "_law_other"]
theorem sc__law_low : FnScope N__law_low ["_law_top", "_law_bottom"] (defScope s__law_low) := ⟨rfl, rfl, rfl, by decide +kernel, rfl, by decide +kernel, by decide +kernel⟩
def rd__law_low : DS := (tSeqD (tParD 2 3 (tConsD (tCallD cAbs (tConsD (tVarD 0) tNilD)) (tConsD (tVarD 1) tNilD)))
    (tSeqD (tWhD (tTst (tBin (gIn (fun i j => decide (j < i)) fun i j => decide (j.cps.toList < i.cps.toList)) (tVarD 3) (tCD (.int 0)))) (tParD 2 3 (tConsD (tVarD 3) (tConsD (tBin gMod (tVarD 2) (tVarD 3)) tNilD))))
    (tRetD (tTupD (tConsD (tBin gFdiv (tVarD 0) (tVarD 2)) (tConsD (tBin gFdiv (tVarD 1) (tVarD 2)) tNilD))))))
def sp__law_low : DSp := fun us P => ∃ t b : Int, us = [.d (.int t), .d (.int b)] ∧ 0 < b ∧ b.natAbs.log2 < 9000 ∧ ∀ s r, Frac s r → t * r = b * s → P (.d (.tuple [.int s, .int r]))
theorem vc__law_low : ∀ dvs Q, sp__law_low dvs Q → dvs.length = 2 ∧ rd__law_low { nx := fun _ => Q (.d .none), rt := Q } (startD N__law_low dvs) := by
  rintro dvs Q ⟨t, b, rfl, b0, bs, h⟩
  refine ⟨rfl, ?_⟩
  have hb : b ≠ 0 := Int.ne_of_gt b0
  have hbn : ¬ b < 0 := Int.not_lt.mpr (Int.le_of_lt b0)
  have gp := gcd_pos (t := t) hb
  have gn : ((Int.gcd t b : Nat) : Int) ≠ 0 := Int.ne_of_gt (Int.natCast_pos.mpr gp)
  have gl : ((Int.gcd t b : Nat) : Int).natAbs.log2 < 9000 := by
    rw [Int.natAbs_natCast]
    exact log_lt (by decide) (Nat.lt_of_le_of_lt (gcd_le hb) (lt_two bs))
  obtain ⟨k1, k2⟩ := lo_ok (t := t) hb
  have h := h _ _ k1 k2
  rw [loT, loB, if_neg hbn, if_neg hbn] at h
  clear k1 k2
  unfold rd__law_low
  walk_at "dl"
  refine whD_ind (fun env => ∃ x y : Int, env = [.d (.int t), .d (.int b), .d (.int x), .d (.int y)] ∧ 0 ≤ x ∧ 0 ≤ y ∧ Int.gcd x y = Int.gcd t b) (fun env => match env with | [_, _, _, .d (.int y)] => y.toNat | _ => 0) (fun env R hI hR => ?_) ⟨_, _, rfl, by omega, by omega, by simp [Int.gcd]⟩
  obtain ⟨x, y, rfl, hx, hy, hg⟩ := hI
  walk_at "dl"
  by_cases hp : 0 < y
  · simp only [hp, decide_true, if_true]
    obtain ⟨g1, g2, g3⟩ := gcd_turn x y hx hp
    exact ⟨by omega, hR _ ⟨_, _, rfl, hy, g2, g1.trans hg⟩ (by show (x.fmod y).toNat < y.toNat; omega)⟩
  · have : y = 0 := by omega
    subst this
    simp only [Int.lt_irrefl, decide_false, Bool.false_eq_true, if_false]
    have e : x = (Int.gcd t b : Int) := by
      rw [← hg, Int.gcd_zero]; omega
    subst e
    refine ⟨gn, gl, gn, gl, by decide, ?_⟩
    rw [Int.fdiv_eq_ediv_of_dvd (Int.gcd_dvd_left _ _), Int.fdiv_eq_ediv_of_dvd (Int.gcd_dvd_right _ _)]
    exact h
section
variable {ts : List Addr} {P : Program} {w : World} {K : PySem.W.Frag} {mg : Str → Option Value} {base : Heap}
theorem ok__law_low {f : Addr} {fd : FuncData} (Fn : L2.Fun K "_law_low" "_law_low" s__law_low f fd) (z_abs : mg "abs" = none) : Fg P w K mg base (L2.CX P w) 1 f (Pm K ts sp__law_low) := d_def Fn sc__law_low (fun _ _ _ _ _ _ us hl => match us, hl with | [_, _], _ => rfl) sp__law_low rd__law_low (fun cdv A outer s H E wn hcd ht ag hr => by
  have S := sc__law_low
  have hu := hr.units
  exact (dss_cons (ds_par (i := 2) (j := 3) rfl S.nd rfl rfl (by decide) rfl rfl (da_cons (d_callB k_abs (by rfl) z_abs (by decide +kernel) (da_cons (d_var 0) da_nil)) (da_cons (d_var 1) da_nil)) (ps_par (i := 2) (j := 3) rfl S.nd rfl rfl (by decide) rfl rfl (da_cons (d_callB k_abs (by rfl) z_abs (by decide +kernel) (da_cons (d_var 0) da_nil)) (da_cons (d_var 1) da_nil)) (by rfl)))
    (dss_cons (ds_while PassesOwn.never (dt_cmp o_gt (d_var 3) d_int) (dss_one (ds_par (i := 2) (j := 3) rfl S.nd rfl rfl (by decide) rfl rfl (da_cons (d_var 3) (da_cons (d_bin o_mod (d_var 2) (d_var 3)) da_nil)) (ps_par (i := 2) (j := 3) rfl S.nd rfl rfl (by decide) rfl rfl (da_cons (d_var 3) (da_cons (d_bin o_mod (d_var 2) (d_var 3)) da_nil)) (by rfl)))))
    (dss_one (ds_ret (d_tup (da_cons (d_bin o_fdiv (d_var 0) (d_var 2)) (da_cons (d_bin o_fdiv (d_var 1) (d_var 2)) da_nil)))))))) vc__law_low
end
/-! _law_small -/
abbrev N__law_small : List Str := ["_law_bag_here", "_law_way", "_law_bottom", "_law_top"]
theorem sc__law_small : FnScope N__law_small ["_law_bag_here"] (defScope s__law_small) := ⟨rfl, rfl, rfl, by decide +kernel, rfl, by decide +kernel, by decide +kernel⟩
def rd__law_small : DS := (tSeqD (tSetD 1 (tUse sp__law_take (tConsD (tVarD 0) (tConsD (tCD (.int 5)) tNilD))))
    (tSeqD (tSetD 2 (tBin gIx (tLstD (tConsD (tCD (.int 1)) (tConsD (tCD (.int 2)) (tConsD (tCD (.int 1000)) (tConsD (tBin gAdd (tCD (.int 1)) (tUse sp__law_take (tConsD (tVarD 0) (tConsD (tCD (.int 1000)) tNilD)))) (tConsD (tCD (.int 7)) tNilD)))))) (tVarD 1)))
    (tSeqD (tSetD 3 (tBin gIx (tLstD (tConsD (tBin gMinus (tUse sp__law_take (tConsD (tVarD 0) (tConsD (tCD (.int 7)) tNilD))) (tCD (.int 3))) (tConsD (tBin gMinus (tUse sp__law_take (tConsD (tVarD 0) (tConsD (tCD (.int 2001)) tNilD))) (tCD (.int 1000))) (tConsD (tBin gMinus (tBin gPow (tCD (.int 10)) (tCD (.int 12))) (tUse sp__law_take (tConsD (tVarD 0) (tConsD (tCD (.int 3)) tNilD)))) tNilD)))) (tBin gMod (tVarD 1) (tCD (.int 3)))))
    (tSeqD (tIfD (tTst (tBin (gIn (fun i j => decide (j < i)) fun i j => decide (j.cps.toList < i.cps.toList)) (tVarD 1) (tCD (.int 2)))) (tSetD 3 (tBin gMinus (tUse sp__law_take (tConsD (tVarD 0) (tConsD (tBin gAdd (tBin gMul (tCD (.int 2)) (tBin gPow (tCD (.int 10)) (tCD (.int 12)))) (tCD (.int 1))) tNilD))) (tBin gPow (tCD (.int 10)) (tCD (.int 12))))) (fun d env => d.nx env))
    (tRetD (tUse sp__law_low (tConsD (tVarD 3) (tConsD (tVarD 2) tNilD))))))))
def sp__law_small : DSp := fun us P => us = [.bag] ∧ ∀ p q : Int, Sml p q → P (.d (frc p q))
theorem vc__law_small : ∀ dvs Q, sp__law_small dvs Q → dvs.length = 1 ∧ rd__law_small { nx := fun _ => Q (.d .none), rt := Q } (startD N__law_small dvs) := by
  rintro dvs Q ⟨rfl, h⟩
  refine ⟨rfl, ?_⟩
  unfold rd__law_small
  refine seqG fun R hR => ?_
  walk_at "dl"
  refine ⟨5, rfl, by decide, by decide, fun w w0 w1 => ?_⟩
  walk_at "dl"
  refine hR _ (seqG fun R hR => ?_)
  walk_at "dl"
  refine ⟨1000, rfl, by decide, by decide, fun b b0 b1 => ?_⟩
  walk_at "dl"
  refine ⟨by decide, ?_⟩
  refine pick w0 w1 fun y hy => ?_
  obtain ⟨q, rfl, q0, q1⟩ : ∃ q : Int, y = .int q ∧ 1 ≤ q ∧ q ≤ 1000 := by
    simp only [List.mem_cons, List.not_mem_nil, or_false] at hy
    rcases hy with rfl | rfl | rfl | rfl | rfl <;> exact ⟨_, rfl, by omega, by omega⟩
  walk_at "dl"
  refine hR _ (seqG fun R hR => ?_)
  have fin : ∀ t : Int, t.natAbs ≤ 10 ^ 12 → R [.bag, .d (.int w), .d (.int q), .d (.int t)] := by
    intro t ht
    refine hR _ (seqG fun R hR => ?_)
    have low : ∀ t : Int, t.natAbs ≤ 10 ^ 12 → R [.bag, .d (.int w), .d (.int q), .d (.int t)] := by
      intro t ht
      refine hR _ ?_
      walk_at "dl"
      refine ⟨t, q, rfl, by omega, log_le (show q.natAbs < 2 ^ 20 by omega) (by decide) (by decide), fun s r f e => ?_⟩
      walk_at "dl"
      obtain ⟨l1, l2⟩ := f.le (by omega) e
      have := f.pos
      exact h s r ⟨f, by omega, by omega⟩
    walk_at "dl"
    by_cases c : 2 < w
    · simp only [c, decide_true, if_true]
      refine ⟨by decide, by decide +kernel, 2 * 10 ^ Int.toNat 12 + 1, rfl, by decide, log_le (show (2 * 10 ^ Int.toNat 12 + 1 : Int).natAbs < 2 ^ 60 by decide) (by decide) (by decide), fun s s0 s1 => ?_⟩
      have e12 : (10 : Int) ^ Int.toNat 12 = 1000000000000 := by decide
      walk_at "dl"
      refine ⟨by decide, ?_⟩
      rw [e12] at s1 ⊢
      exact low _ (by omega)
    · simp only [c, decide_false, Bool.false_eq_true, if_false]
      exact low t ht
  walk_at "dl"
  refine ⟨7, rfl, by decide, by decide, fun a a0 a1 => ?_⟩
  walk_at "dl"
  refine ⟨2001, rfl, by decide, by decide, fun b2 c0 c1 => ?_⟩
  walk_at "dl"
  refine ⟨by decide, 3, rfl, by decide, by decide, fun d d0 d1 => ?_⟩
  walk_at "dl"
  refine ⟨by decide, by decide, ?_⟩
  have e12 : (10 : Int) ^ Int.toNat 12 = 1000000000000 := by decide
  have m0 := Int.fmod_nonneg_of_pos w (show (0 : Int) < 3 by decide)
  have m1 := Int.fmod_lt_of_pos w (show (0 : Int) < 3 by decide)
  refine pick m0 (show w.fmod 3 < ((3 : Nat) : Int) from m1) fun y hy => ?_
  rw [e12] at hy
  obtain ⟨t, rfl, ht⟩ : ∃ t : Int, y = .int t ∧ t.natAbs ≤ 10 ^ 12 := by
    simp only [List.mem_cons, List.not_mem_nil, or_false] at hy
    rcases hy with rfl | rfl | rfl <;> exact ⟨_, rfl, by omega⟩
  walk_at "dl"
  exact fin t ht
section
variable {ts : List Addr} {P : Program} {w : World} {K : PySem.W.Frag} {mg : Str → Option Value} {base : Heap}
theorem ok__law_small {f : Addr} {fd : FuncData} (Fn : L2.Fun K "_law_small" "_law_small" s__law_small f fd) {f__law_take : Addr} (g__law_take : Fg P w K mg base (L2.CX P w) 1 f__law_take (Pm K ts sp__law_take)) (m__law_take : mg "_law_take" = some (.ref f__law_take)) (p__law_take : PySem.W.keepIn K (.ref f__law_take) = true) {f__law_low : Addr} (g__law_low : Fg P w K mg base (L2.CX P w) 1 f__law_low (Pm K ts sp__law_low)) (m__law_low : mg "_law_low" = some (.ref f__law_low)) (p__law_low : PySem.W.keepIn K (.ref f__law_low) = true) : Fg P w K mg base (L2.CX P w) 2 f (Pm K ts sp__law_small) := d_def Fn sc__law_small (fun _ _ _ _ _ _ us hl => match us, hl with | [_], _ => rfl) sp__law_small rd__law_small (fun cdv A outer s H E wn hcd ht ag hr => by
  have S := sc__law_small
  have hu := hr.units
  exact (dss_cons (ds_set (i := 1) S.nd rfl (by first | exact Or.inl rfl | exact Or.inr rfl) (d_use g__law_take ht ag (hr.mono (by decide)) passZ (by rfl) m__law_take p__law_take (da_cons (d_var 0) (da_cons d_int da_nil))))
    (dss_cons (ds_set (i := 2) S.nd rfl (by first | exact Or.inl rfl | exact Or.inr rfl) (d_ix (d_lst (da_cons d_int (da_cons d_int (da_cons d_int (da_cons (d_bin o_add d_int (d_use g__law_take ht ag (hr.mono (by decide)) passZ (by rfl) m__law_take p__law_take (da_cons (d_var 0) (da_cons d_int da_nil)))) (da_cons d_int da_nil)))))) (d_var 1)))
    (dss_cons (ds_set (i := 3) S.nd rfl (by first | exact Or.inl rfl | exact Or.inr rfl) (d_ix (d_lst (da_cons (d_bin o_sub (d_use g__law_take ht ag (hr.mono (by decide)) passZ (by rfl) m__law_take p__law_take (da_cons (d_var 0) (da_cons d_int da_nil))) d_int) (da_cons (d_bin o_sub (d_use g__law_take ht ag (hr.mono (by decide)) passZ (by rfl) m__law_take p__law_take (da_cons (d_var 0) (da_cons d_int da_nil))) d_int) (da_cons (d_bin o_sub (d_bin o_pow d_int d_int) (d_use g__law_take ht ag (hr.mono (by decide)) passZ (by rfl) m__law_take p__law_take (da_cons (d_var 0) (da_cons d_int da_nil)))) da_nil)))) (d_bin o_mod (d_var 1) d_int)))
    (dss_cons (ds_if (dt_cmp o_gt (d_var 1) d_int) (dss_one (ds_set (i := 3) S.nd rfl (by first | exact Or.inl rfl | exact Or.inr rfl) (d_bin o_sub (d_use g__law_take ht ag (hr.mono (by decide)) passZ (by rfl) m__law_take p__law_take (da_cons (d_var 0) (da_cons (d_bin o_add (d_bin o_mul d_int (d_bin o_pow d_int d_int)) d_int) da_nil))) (d_bin o_pow d_int d_int)))) dss_nil)
    (dss_one (ds_ret (d_use g__law_low ht ag (hr.mono (by decide)) passZ (by rfl) m__law_low p__law_low (da_cons (d_var 3) (da_cons (d_var 2) da_nil)))))))))) vc__law_small
end
/-! _law_free -/
abbrev N__law_free : List Str := ["_law_bag_here", "_law_top", "_law_bottom"]
theorem sc__law_free : FnScope N__law_free ["_law_bag_here"] (defScope s__law_free) := ⟨rfl, rfl, rfl, by decide +kernel, rfl, by decide +kernel, by decide +kernel⟩
def rd__law_free : DS := (tSeqD (tAsgD (tUse sp__law_small (tConsD (tVarD 0) tNilD)) (gtD 2 (gconsD (gnD 1) (gconsD (gnD 2) gnilD))))
    (tRetD (tTupD (tConsD (tCallD cAbs (tConsD (tVarD 1) tNilD)) (tConsD (tVarD 2) tNilD)))))
def sp__law_free : DSp := fun us P => us = [.bag] ∧ ∀ p q : Int, Sml p q → 0 ≤ p → P (.d (frc p q))
theorem vc__law_free : ∀ dvs Q, sp__law_free dvs Q → dvs.length = 1 ∧ rd__law_free { nx := fun _ => Q (.d .none), rt := Q } (startD N__law_free dvs) := by
  rintro dvs Q ⟨rfl, h⟩
  refine ⟨rfl, ?_⟩
  unfold rd__law_free
  refine seqG fun R hR => ?_
  walk_at "dl"
  refine ⟨rfl, fun p q s => ?_⟩
  walk_at "dl"
  refine hR _ ?_
  walk_at "dl"
  refine ⟨by decide, ?_⟩
  have f := s.f
  have b := s.t
  by_cases c : p < 0
  · rw [show ((p.natAbs : Nat) : Int) = -p by omega]
    exact h (-p) q ⟨⟨f.pos, by rw [Int.neg_gcd]; exact f.low⟩, by omega, s.b⟩ (by omega)
  · rw [show ((p.natAbs : Nat) : Int) = p by omega]
    exact h p q s (by omega)
section
variable {ts : List Addr} {P : Program} {w : World} {K : PySem.W.Frag} {mg : Str → Option Value} {base : Heap}
theorem ok__law_free {f : Addr} {fd : FuncData} (Fn : L2.Fun K "_law_free" "_law_free" s__law_free f fd) {f__law_small : Addr} (g__law_small : Fg P w K mg base (L2.CX P w) 2 f__law_small (Pm K ts sp__law_small)) (m__law_small : mg "_law_small" = some (.ref f__law_small)) (p__law_small : PySem.W.keepIn K (.ref f__law_small) = true) (z_abs : mg "abs" = none) : Fg P w K mg base (L2.CX P w) 3 f (Pm K ts sp__law_free) := d_def Fn sc__law_free (fun _ _ _ _ _ _ us hl => match us, hl with | [_], _ => rfl) sp__law_free rd__law_free (fun cdv A outer s H E wn hcd ht ag hr => by
  have S := sc__law_free
  have hu := hr.units
  exact (dss_cons (ds_asg (d_use g__law_small ht ag (hr.mono (by decide)) passZ (by rfl) m__law_small p__law_small (da_cons (d_var 0) da_nil)) (dg_tup rfl (dgs_cons (dg_name (i := 1) S.nd rfl (by first | exact Or.inl rfl | exact Or.inr rfl)) (dgs_cons (dg_name (i := 2) S.nd rfl (by first | exact Or.inl rfl | exact Or.inr rfl)) dgs_nil))))
    (dss_one (ds_ret (d_tup (da_cons (d_callB k_abs (by rfl) z_abs (by decide +kernel) (da_cons (d_var 1) da_nil)) (da_cons (d_var 2) da_nil))))))) vc__law_free
end
/-! _law_under -/
abbrev N__law_under : List Str := ["_law_one", "_law_other"]
theorem sc__law_under : FnScope N__law_under ["_law_one", "_law_other"] (defScope s__law_under) := ⟨rfl, rfl, rfl, by decide +kernel, rfl, by decide +kernel, by decide +kernel⟩
def rd__law_under : DS := (tRetD (tBin gLt (tBin gMul (tBin gIx (tVarD 0) (tCD (.int 0))) (tBin gIx (tVarD 1) (tCD (.int 1)))) (tBin gMul (tBin gIx (tVarD 1) (tCD (.int 0))) (tBin gIx (tVarD 0) (tCD (.int 1))))))
def sp__law_under : DSp := fun us P => ∃ p q u v : Int, us = [.d (.tuple [.int p, .int q]), .d (.tuple [.int u, .int v])] ∧ p.natAbs < 2 ^ 4000 ∧ q.natAbs < 2 ^ 4000 ∧ u.natAbs < 2 ^ 4000 ∧ v.natAbs < 2 ^ 4000 ∧ P (.d (.bool (decide (p * v < u * q))))
theorem vc__law_under : ∀ dvs Q, sp__law_under dvs Q → dvs.length = 2 ∧ rd__law_under { nx := fun _ => Q (.d .none), rt := Q } (startD N__law_under dvs) := by
  rintro dvs Q ⟨p, q, u, v, rfl, p1, q1, u1, v1, h⟩
  refine ⟨rfl, ?_⟩
  have m1 := mul_log p1 v1 (by decide) (by decide) (by decide)
  have m2 := mul_log u1 q1 (by decide) (by decide) (by decide)
  unfold rd__law_under
  walk_at "dl"
  exact ⟨m1, m2, h⟩
section
variable {ts : List Addr} {P : Program} {w : World} {K : PySem.W.Frag} {mg : Str → Option Value} {base : Heap}
theorem ok__law_under {f : Addr} {fd : FuncData} (Fn : L2.Fun K "_law_under" "_law_under" s__law_under f fd)  : Fg P w K mg base (L2.CX P w) 1 f (Pm K ts sp__law_under) := d_def Fn sc__law_under (fun _ _ _ _ _ _ us hl => match us, hl with | [_, _], _ => rfl) sp__law_under rd__law_under (fun cdv A outer s H E wn hcd ht ag hr => by
  have S := sc__law_under
  have hu := hr.units
  exact (dss_one (ds_ret (d_cmp o_lt (d_bin o_mul (d_ix (d_var 0) d_int) (d_ix (d_var 1) d_int)) (d_bin o_mul (d_ix (d_var 1) d_int) (d_ix (d_var 0) d_int)))))) vc__law_under
end
/-! _law_most -/
abbrev N__law_most : List Str := ["_law_some", "_law_found", "_law_one"]
theorem sc__law_most : FnScope N__law_most ["_law_some"] (defScope s__law_most) := ⟨rfl, rfl, rfl, by decide +kernel, rfl, by decide +kernel, by decide +kernel⟩
def rd__law_most : DS := (tSeqD (tSetD 1 (tBin gIx (tVarD 0) (tCD (.int 0))))
    (tSeqD (tForD (gnD 2) (itLst (tVarD 0)) (tIfD (tTru (tUse sp__law_under (tConsD (tVarD 1) (tConsD (tVarD 2) tNilD)))) (tSetD 1 (tVarD 2)) (fun d env => d.nx env)))
    (tRetVD 1)))
def sp__law_most : DSp := fun us P => ∃ l : List (Int × Int), us = [.d (.list (LFr l))] ∧ l ≠ [] ∧ l.length ≤ 8 ∧ (∀ r ∈ l, Sml r.1 r.2) ∧ ∀ p q : Int, (p, q) ∈ l → P (.d (frc p q))
theorem vc__law_most : ∀ dvs Q, sp__law_most dvs Q → dvs.length = 1 ∧ rd__law_most { nx := fun _ => Q (.d .none), rt := Q } (startD N__law_most dvs) := by
  rintro dvs Q ⟨l, rfl, ne, l8, hs, h⟩
  refine ⟨rfl, ?_⟩
  have lt : ∀ {p q : Int}, Sml p q → p.natAbs < 2 ^ 4000 ∧ q.natAbs < 2 ^ 4000 := fun {p q} h => by
    have a := h.t
    have b := h.b
    have c := h.f.pos
    exact ⟨two_le (show p.natAbs < 2 ^ 60 by omega) (by decide), two_le (show q.natAbs < 2 ^ 60 by omega) (by decide)⟩
  unfold rd__law_most
  refine seqG fun R hR => ?_
  obtain ⟨a, t, rfl⟩ : ∃ a t, l = a :: t := by
    cases l with
    | nil => exact absurd rfl ne
    | cons a t => exact ⟨a, t, rfl⟩
  have e0 : LFr (a :: t) = frc a.1 a.2 :: LFr t := rfl
  rw [e0]
  walk_at "dl"
  rw [← e0]
  refine hR _ (seqG fun R hR => ?_)
  walk_at "dl"
  refine forD_ind (fun zs env => ∃ (rs : List (Int × Int)) (p q : Int) (s2 : Sl), (∀ r ∈ rs, r ∈ a :: t) ∧ zs = LFr rs ∧ env = [.d (.list (LFr (a :: t))), .d (frc p q), s2] ∧ (p, q) ∈ a :: t) (fun env hI => ?_) (fun x zs env R2 hI hR2 => ?_) _ _ ⟨a :: t, a.1, a.2, _, fun _ h => h, rfl, rfl, List.mem_cons_self ..⟩
  · obtain ⟨rs, p, q, s2, _, ez, rfl, hm⟩ := hI
    refine hR _ ?_
    walk_at "dl"
    exact h p q hm
  · obtain ⟨rs, p, q, s2, hr, ez, rfl, hm⟩ := hI
    cases rs with
    | nil => cases ez
    | cons b rs =>
      obtain ⟨u, v⟩ := b
      obtain ⟨e1, e2⟩ := List.cons.inj ez
      subst e1
      subst e2
      have hb : (u, v) ∈ a :: t := hr _ (List.mem_cons_self ..)
      obtain ⟨b1, b2⟩ := lt (hs _ hm)
      obtain ⟨b3, b4⟩ := lt (hs _ hb)
      have next : ∀ p' q' : Int, (p', q') ∈ a :: t → R2 [.d (.list (LFr (a :: t))), .d (frc p' q'), .d (frc u v)] := fun p' q' h1 => hR2 _ ⟨rs, p', q', _, fun r h => hr r (List.mem_cons_of_mem _ h), rfl, rfl, h1⟩
      walk_at "dl"
      refine ⟨p, q, u, v, rfl, b1, b2, b3, b4, ?_⟩
      walk_at "dl"
      by_cases c : p * v < u * q
      · simp only [c, decide_true, if_true]
        exact next u v hb
      · simp only [c, decide_false, Bool.false_eq_true, if_false]
        exact next p q hm
section
variable {ts : List Addr} {P : Program} {w : World} {K : PySem.W.Frag} {mg : Str → Option Value} {base : Heap}
theorem ok__law_most {f : Addr} {fd : FuncData} (Fn : L2.Fun K "_law_most" "_law_most" s__law_most f fd) {f__law_under : Addr} (g__law_under : Fg P w K mg base (L2.CX P w) 1 f__law_under (Pm K ts sp__law_under)) (m__law_under : mg "_law_under" = some (.ref f__law_under)) (p__law_under : PySem.W.keepIn K (.ref f__law_under) = true) : Fg P w K mg base (L2.CX P w) 2 f (Pm K ts sp__law_most) := d_def Fn sc__law_most (fun _ _ _ _ _ _ us hl => match us, hl with | [_], _ => rfl) sp__law_most rd__law_most (fun cdv A outer s H E wn hcd ht ag hr => by
  have S := sc__law_most
  have hu := hr.units
  exact (dss_cons (ds_set (i := 1) S.nd rfl (by first | exact Or.inl rfl | exact Or.inr rfl) (d_ix (d_var 0) d_int))
    (dss_cons (ds_for PassesOwn.never rfl (di_list (d_var 0)) (dg_name (i := 2) S.nd rfl (by first | exact Or.inl rfl | exact Or.inr rfl)) (dss_one (ds_if (dt_e (d_use g__law_under ht ag (hr.mono (by decide)) passZ (by rfl) m__law_under p__law_under (da_cons (d_var 1) (da_cons (d_var 2) da_nil)))) (dss_one (ds_set (i := 1) S.nd rfl (by first | exact Or.inl rfl | exact Or.inr rfl) (d_var 2))) dss_nil)))
    (dss_one (ds_retV 1))))) vc__law_most
end
/-! _law_least -/
abbrev N__law_least : List Str := ["_law_some", "_law_found", "_law_one"]
theorem sc__law_least : FnScope N__law_least ["_law_some"] (defScope s__law_least) := ⟨rfl, rfl, rfl, by decide +kernel, rfl, by decide +kernel, by decide +kernel⟩
def rd__law_least : DS := (tSeqD (tSetD 1 (tBin gIx (tVarD 0) (tCD (.int 0))))
    (tSeqD (tForD (gnD 2) (itLst (tVarD 0)) (tIfD (tTru (tUse sp__law_under (tConsD (tVarD 2) (tConsD (tVarD 1) tNilD)))) (tSetD 1 (tVarD 2)) (fun d env => d.nx env)))
    (tRetVD 1)))
def sp__law_least : DSp := fun us P => ∃ l : List (Int × Int), us = [.d (.list (LFr l))] ∧ l ≠ [] ∧ l.length ≤ 8 ∧ (∀ r ∈ l, Sml r.1 r.2) ∧ ∀ p q : Int, (p, q) ∈ l → (∀ r ∈ l, p * r.2 ≤ r.1 * q) → P (.d (frc p q))
theorem vc__law_least : ∀ dvs Q, sp__law_least dvs Q → dvs.length = 1 ∧ rd__law_least { nx := fun _ => Q (.d .none), rt := Q } (startD N__law_least dvs) := by
  rintro dvs Q ⟨l, rfl, ne, l8, hs, h⟩
  refine ⟨rfl, ?_⟩
  unfold rd__law_least
  refine seqG fun R hR => ?_
  obtain ⟨a, t, rfl⟩ : ∃ a t, l = a :: t := by
    cases l with
    | nil => exact absurd rfl ne
    | cons a t => exact ⟨a, t, rfl⟩
  have e0 : LFr (a :: t) = frc a.1 a.2 :: LFr t := rfl
  rw [e0]
  walk_at "dl"
  rw [← e0]
  refine hR _ (seqG fun R hR => ?_)
  walk_at "dl"
  refine forD_ind (fun zs env => ∃ (ds rs : List (Int × Int)) (p q : Int) (s2 : Sl), ds ++ rs = a :: t ∧ zs = LFr rs ∧ env = [.d (.list (LFr (a :: t))), .d (frc p q), s2] ∧ (p, q) ∈ a :: t ∧ ∀ r ∈ ds, p * r.2 ≤ r.1 * q) (fun env hI => ?_) (fun x zs env R2 hI hR2 => ?_) _ _ ⟨[], a :: t, a.1, a.2, _, rfl, rfl, rfl, List.mem_cons_self .., fun _ h => nomatch h⟩
  · obtain ⟨ds, rs, p, q, s2, ed, ez, rfl, hm, hk⟩ := hI
    have er : rs = [] := by cases rs with | nil => rfl | cons a t => cases ez
    rw [er, List.append_nil] at ed
    subst ed
    refine hR _ ?_
    walk_at "dl"
    exact h p q hm hk
  · obtain ⟨ds, rs, p, q, s2, ed, ez, rfl, hm, hk⟩ := hI
    cases rs with
    | nil => cases ez
    | cons b rs =>
      obtain ⟨u, v⟩ := b
      obtain ⟨e1, e2⟩ := List.cons.inj ez
      subst e1
      subst e2
      have hb : (u, v) ∈ a :: t := by rw [← ed]; exact List.mem_append.mpr (.inr (List.mem_cons_self ..))
      have s1 := hs _ hm
      have s3 := hs _ hb
      obtain ⟨b1, b2⟩ := sml_lt s1
      obtain ⟨b3, b4⟩ := sml_lt s3
      have next : ∀ p' q' : Int, (p', q') ∈ a :: t → (∀ r ∈ ds ++ [(u, v)], p' * r.2 ≤ r.1 * q') → R2 [.d (.list (LFr (a :: t))), .d (frc p' q'), .d (frc u v)] := fun p' q' h1 h2 => hR2 _ ⟨ds ++ [(u, v)], rs, p', q', _, by rw [List.append_assoc]; exact ed, rfl, rfl, h1, h2⟩
      have q0 := s1.f.pos
      have v0 := s3.f.pos
      walk_at "dl"
      refine ⟨u, v, p, q, rfl, b3, b4, b1, b2, ?_⟩
      walk_at "dl"
      by_cases c : u * q < p * v
      · simp only [c, decide_true, if_true]
        refine next u v hb fun r hr => ?_
        rcases List.mem_append.mp hr with hr | hr
        · exact fr_trans q0 v0 (hs r (by rw [← ed]; exact List.mem_append.mpr (.inl hr))).f.pos c (hk r hr)
        · cases List.mem_singleton.mp hr
          exact Int.le_refl _
      · simp only [c, decide_false, Bool.false_eq_true, if_false]
        refine next p q hm fun r hr => ?_
        rcases List.mem_append.mp hr with hr | hr
        · exact hk r hr
        · cases List.mem_singleton.mp hr
          show p * v ≤ u * q
          omega
section
variable {ts : List Addr} {P : Program} {w : World} {K : PySem.W.Frag} {mg : Str → Option Value} {base : Heap}
theorem ok__law_least {f : Addr} {fd : FuncData} (Fn : L2.Fun K "_law_least" "_law_least" s__law_least f fd) {f__law_under : Addr} (g__law_under : Fg P w K mg base (L2.CX P w) 1 f__law_under (Pm K ts sp__law_under)) (m__law_under : mg "_law_under" = some (.ref f__law_under)) (p__law_under : PySem.W.keepIn K (.ref f__law_under) = true) : Fg P w K mg base (L2.CX P w) 2 f (Pm K ts sp__law_least) := d_def Fn sc__law_least (fun _ _ _ _ _ _ us hl => match us, hl with | [_], _ => rfl) sp__law_least rd__law_least (fun cdv A outer s H E wn hcd ht ag hr => by
  have S := sc__law_least
  have hu := hr.units
  exact (dss_cons (ds_set (i := 1) S.nd rfl (by first | exact Or.inl rfl | exact Or.inr rfl) (d_ix (d_var 0) d_int))
    (dss_cons (ds_for PassesOwn.never rfl (di_list (d_var 0)) (dg_name (i := 2) S.nd rfl (by first | exact Or.inl rfl | exact Or.inr rfl)) (dss_one (ds_if (dt_e (d_use g__law_under ht ag (hr.mono (by decide)) passZ (by rfl) m__law_under p__law_under (da_cons (d_var 2) (da_cons (d_var 1) da_nil)))) (dss_one (ds_set (i := 1) S.nd rfl (by first | exact Or.inl rfl | exact Or.inr rfl) (d_var 2))) dss_nil)))
    (dss_one (ds_retV 1))))) vc__law_least
end
/-! _law_any_spot -/
abbrev N__law_any_spot : List Str := ["_law_bag_here", "_law_most_here", "_law_k"]
theorem sc__law_any_spot : FnScope N__law_any_spot ["_law_bag_here"] (defScope s__law_any_spot) := ⟨rfl, rfl, rfl, by decide +kernel, rfl, by decide +kernel, by decide +kernel⟩
def rd__law_any_spot : DS := (tSeqD (tSetD 1 (tBin gIx (tLstD (tConsD (tCD (.int 3)) (tConsD (tCD (.int 20)) (tConsD (tCD (.int 1001)) tNilD)))) (tUse sp__law_take (tConsD (tVarD 0) (tConsD (tCD (.int 3)) tNilD)))))
    (tRetD (tCallD cSorted (tConsD (tLcD (itR1 (tConsD (tBin gAdd (tCD (.int 1)) (tUse sp__law_take (tConsD (tVarD 0) (tConsD (tCD (.int 6)) tNilD)))) tNilD)) (gnD 2) (fun _ P => P true) (tUse sp__law_take (tConsD (tVarD 0) (tConsD (tVarD 1) tNilD))) [2]) tNilD))))
def sp__law_any_spot : DSp := fun us P => us = [.bag] ∧ ∀ ps : List Int, SpR ps → P (.fr (IL ps))
theorem vc__law_any_spot : ∀ dvs Q, sp__law_any_spot dvs Q → dvs.length = 1 ∧ rd__law_any_spot { nx := fun _ => Q (.d .none), rt := Q } (startD N__law_any_spot dvs) := by
  rintro dvs Q ⟨rfl, h⟩
  refine ⟨rfl, ?_⟩
  unfold rd__law_any_spot
  refine seqG fun R hR => ?_
  walk_at "dl"
  refine ⟨by decide, 3, rfl, by decide, by decide, fun w w0 w1 => ?_⟩
  walk_at "dl"
  refine pick w0 w1 fun y hy => ?_
  obtain ⟨k, rfl, k0, k1⟩ : ∃ k : Int, y = .int k ∧ 1 ≤ k ∧ k ≤ 1001 := by
    simp only [List.mem_cons, List.not_mem_nil, or_false] at hy
    rcases hy with rfl | rfl | rfl <;> exact ⟨_, rfl, by decide, by decide⟩
  walk_at "dl"
  refine hR _ ?_
  walk_at "dl"
  refine ⟨6, rfl, by decide, by decide, fun n n0 n1 => ?_⟩
  walk_at "dl"
  refine ⟨⟨by omega, by omega⟩, ?_⟩
  refine lc_all (fun y => ∃ c : Int, y = .int c ∧ 0 ≤ c ∧ c ≤ 1000) (by rw [rngD_len]; omega) (fun ys hl hy => ?_) fun x hx R4 hR4 => ?_
  · rw [rngD_len] at hl
    obtain ⟨ns, rfl, hns⟩ : ∃ ns : List Int, ys = IL ns ∧ ∀ c ∈ ns, 0 ≤ c ∧ c ≤ 1000 := by
      clear hl
      induction ys with
      | nil => exact ⟨[], rfl, fun _ h => nomatch h⟩
      | cons y ys ih =>
        obtain ⟨c, rfl, hc⟩ := hy y (List.mem_cons_self ..)
        obtain ⟨ns, rfl, hns⟩ := ih fun z hz => hy z (List.mem_cons_of_mem _ hz)
        exact ⟨c :: ns, rfl, fun d hd => by
          rcases List.mem_cons.mp hd with rfl | hd
          · exact hc
          · exact hns d hd⟩
    rw [il_len] at hl
    walk_at "dl"
    refine ⟨ns, rfl, fun ms pm so => h ms ⟨by rw [pm.length_eq]; omega, by rw [pm.length_eq]; omega, fun c hc => hns c (pm.mem_iff.mp hc), so⟩⟩
  · walk_at "dl"
    refine ⟨k, rfl, by omega, log_le (show k.natAbs < 2 ^ 20 by omega) (by decide) (by decide), fun c c0 c1 => ?_⟩
    walk_at "dl"
    exact hR4 _ ⟨c, rfl, c0, by omega⟩
section
variable {ts : List Addr} {P : Program} {w : World} {K : PySem.W.Frag} {mg : Str → Option Value} {base : Heap}
theorem ok__law_any_spot {f : Addr} {fd : FuncData} (Fn : L2.Fun K "_law_any_spot" "_law_any_spot" s__law_any_spot f fd) {f__law_take : Addr} (g__law_take : Fg P w K mg base (L2.CX P w) 1 f__law_take (Pm K ts sp__law_take)) (m__law_take : mg "_law_take" = some (.ref f__law_take)) (p__law_take : PySem.W.keepIn K (.ref f__law_take) = true) (z_sorted : mg "sorted" = none) (z_range : mg "range" = none) : Fg P w K mg base (L2.CX P w) 2 f (Pm K ts sp__law_any_spot) := d_def Fn sc__law_any_spot (fun _ _ _ _ _ _ us hl => match us, hl with | [_], _ => rfl) sp__law_any_spot rd__law_any_spot (fun cdv A outer s H E wn hcd ht ag hr => by
  have S := sc__law_any_spot
  have hu := hr.units
  exact (dss_cons (ds_set (i := 1) S.nd rfl (by first | exact Or.inl rfl | exact Or.inr rfl) (d_ix (d_lst (da_cons d_int (da_cons d_int (da_cons d_int da_nil)))) (d_use g__law_take ht ag (hr.mono (by decide)) passZ (by rfl) m__law_take p__law_take (da_cons (d_var 0) (da_cons d_int da_nil)))))
    (dss_one (ds_ret (d_callB k_sorted (by rfl) z_sorted (by decide +kernel) (da_cons (d_lc (own := [("_law_k", 2)]) rfl S.nd (di_r1 (by rfl) z_range (da_cons (d_bin o_add d_int (d_use g__law_take ht ag (hr.mono (by decide)) passZ (by rfl) m__law_take p__law_take (da_cons (d_var 0) (da_cons d_int da_nil)))) da_nil)) (blkOk_by (N := N__law_any_spot) (sc := defScope s__law_any_spot) (by decide +kernel)) (tgt1 2) (fun _ _ _ _ _ => pg_name (i := 2) S.nd rfl (Or.inl rfl)) (fun _ _ _ _ _ => pts_nilD) (fun _ _ _ _ _ => (d_use g__law_take ht ag (hr.mono (by decide)) passZ (by rfl) m__law_take p__law_take (da_cons (d_var 0) (da_cons (d_var 1) da_nil))))) da_nil)))))) vc__law_any_spot
end
/-! _law_any_rows -/
abbrev N__law_any_rows : List Str := ["_law_bag_here", "_law_kind", "_law_rows", "_law_mark", "_law_both", "_law_elder", "_law_row"]
theorem sc__law_any_rows : FnScope N__law_any_rows ["_law_bag_here", "_law_kind"] (defScope s__law_any_rows) := ⟨rfl, rfl, rfl, by decide +kernel, rfl, by decide +kernel, by decide +kernel⟩
def rd__law_any_rows : DS := (tSeqD (tSetD 2 (tLstD tNilD))
    (tSeqD (tForD (gnD 3) (itLst (tUse sp__law_rising (tConsD (tVarD 0) (tConsD (tBin gIx (tLstD (tConsD (tCD (.int 1)) (tConsD (tBin gAdd (tCD (.int 1)) (tUse sp__law_take (tConsD (tVarD 0) (tConsD (tCD (.int 3)) tNilD)))) (tConsD (tBin gAdd (tCD (.int 1)) (tUse sp__law_take (tConsD (tVarD 0) (tConsD (tCD (.int 8)) tNilD)))) (tConsD (tCD (.int 8)) tNilD))))) (tUse sp__law_take (tConsD (tVarD 0) (tConsD (tCD (.int 4)) tNilD)))) tNilD)))) (tIfD (tTst (tBin (gEqv id) (tVarD 1) (tCD (.str "told")))) (tSeqD (tSetD 4 (tLstD (tConsD (tUse sp__law_small (tConsD (tVarD 0) tNilD)) (tConsD (tUse sp__law_small (tConsD (tVarD 0) tNilD)) tNilD))))
            (tSeqD (tIfD (tTst (tBin (gEqv id) (tUse sp__law_take (tConsD (tVarD 0) (tConsD (tCD (.int 5)) tNilD))) (tCD (.int 0)))) (tSetD 4 (tSlL (tVarD 4) oNone (oSome (tCD (.int 1))))) (fun d env => d.nx env))
            (tAppD 2 (tTupD (tConsD (tVarD 3) (tConsD (tUse sp__law_least (tConsD (tVarD 4) tNilD)) (tConsD (tUse sp__law_most (tConsD (tVarD 4) tNilD)) tNilD))))))) (tIfD (tTst (tBin (gEqv id) (tVarD 1) (tCD (.str "held")))) (tAppD 2 (tTupD (tConsD (tVarD 3) (tConsD (tUse sp__law_any_spot (tConsD (tVarD 0) tNilD)) (tConsD (tUse sp__law_small (tConsD (tVarD 0) tNilD)) (tConsD (tUse sp__law_free (tConsD (tVarD 0) tNilD)) tNilD)))))) (tSeqD (tSetD 5 (tSlS (tBin gIx (tLstD (tConsD (tCD (.str "x")) (tConsD (tBin gAdd (tUse sp__law_name (tConsD (tVarD 0) tNilD)) (tCD (.str "x"))) tNilD))) (tUse sp__law_take (tConsD (tVarD 0) (tConsD (tCD (.int 2)) tNilD)))) oNone (oSome (tCD (.int 8)))))
                (tIfD (tTst (tBin gMemD (tTupD (tConsD (tVarD 5) (tConsD (tBin gMod (tVarD 3) (tCD (.int 5))) tNilD))) (tTmp 2 (tLcD (itLst (tVarD 2)) (gnD 6) (fun _ P => P true) (tSlT (tVarD 6) (oSome (tCD (.int 1))) oNone) [6])))) (tAppD 2 (tTupD (tConsD (tVarD 3) (tConsD (tVarD 5) (tConsD (tVarD 3) tNilD))))) (tAppD 2 (tTupD (tConsD (tVarD 3) (tConsD (tVarD 5) (tConsD (tBin gMod (tVarD 3) (tCD (.int 5))) tNilD))))))))))
    (tRetVD 2)))
def RwK (z : Str) : PyData → Prop := if z = "told" then RowT else if z = "held" then RowH else RowM
def sp__law_any_rows : DSp := fun us P => ∃ z : Str, us = [.bag, .d (.str z)] ∧ (z = "told" ∨ z = "held" ∨ z = "made") ∧ ∀ rows : List PyData, RowsOk (RwK z) rows → (z = "made" → RowsD rows) → P (.fr rows)
theorem vc__law_any_rows : ∀ dvs Q, sp__law_any_rows dvs Q → dvs.length = 2 ∧ rd__law_any_rows { nx := fun _ => Q (.d .none), rt := Q } (startD N__law_any_rows dvs) := by
  rintro dvs Q ⟨z, rfl, hz, h⟩
  refine ⟨rfl, ?_⟩
  unfold rd__law_any_rows
  refine seqG fun R hR => ?_
  walk_at "dl"
  refine ⟨by decide, fun l => hR _ (seqG fun R hR => ?_)⟩
  walk_at "dl"
  refine ⟨3, rfl, by decide, by decide, fun a a0 a1 => ?_⟩
  walk_at "dl"
  refine ⟨8, rfl, by decide, by decide, fun b b0 b1 => ?_⟩
  walk_at "dl"
  refine ⟨by decide, 4, rfl, by decide, by decide, fun c c0 c1 => ?_⟩
  walk_at "dl"
  refine pick c0 c1 fun y hy => ?_
  obtain ⟨n, rfl, n0, n1⟩ : ∃ n : Int, y = .int n ∧ 1 ≤ n ∧ n ≤ 8 := by
    simp only [List.mem_cons, List.not_mem_nil, or_false] at hy
    rcases hy with rfl | rfl | rfl | rfl <;> exact ⟨_, rfl, by omega, by omega⟩
  walk_at "dl"
  refine ⟨n, rfl, n0, n1, fun ms ml mi mr => ?_⟩
  walk_at "dl"
  refine forD_ind (fun zs env => ∃ (ds rs : List Int) (rows : List PyData) (s3 s4 s5 s6 : Sl), ds ++ rs = ms ∧ zs = IL rs ∧ env = [.bag, .d (.str z), .ow l rows, s3, s4, s5, s6] ∧ rows.map rowMark = ds ∧ (∀ x ∈ rows, RwK z x) ∧ (z = "made" → RowsD rows)) (fun env hI => ?_) (fun x zs env R2 hI hR2 => ?_) _ _ ⟨[], ms, [], _, _, _, _, rfl, rfl, rfl, rfl, fun _ h => absurd h List.not_mem_nil, fun _ => rowsD_nil⟩
  · obtain ⟨ds, rs, rows, s3, s4, s5, s6, ed, ez, rfl, em, hk, hd⟩ := hI
    have er : rs = [] := by cases rs with | nil => rfl | cons a t => cases ez
    rw [er, List.append_nil] at ed
    subst ed
    refine hR _ ?_
    walk_at "dl"
    have ll : rows.length = ds.length := by rw [← em, List.length_map]
    exact h rows ⟨by omega, by omega, hk, by rw [em]; exact mr⟩ hd
  · obtain ⟨ds, rs, rows, s3, s4, s5, s6, ed, ez, rfl, em, hk, hd⟩ := hI
    cases rs with
    | nil => cases ez
    | cons m rs =>
      obtain ⟨e1, e2⟩ := List.cons.inj ez
      subst e1
      subst e2
      have hm := mi m (by rw [← ed]; exact List.mem_append.mpr (.inr (List.mem_cons_self ..)))
      have ll : rows.length < 100000 := by
        have a := congrArg List.length ed
        rw [List.length_append, List.length_cons, ← em, List.length_map] at a
        omega
      have add : ∀ (x : PyData) (s4 s5 s6 : Sl), rowMark x = m → RwK z x → (z = "made" → RowsD (rows ++ [x])) → R2 [.bag, .d (.str z), .ow l (rows ++ [x]), .d (.int m), s4, s5, s6] := fun x s4 s5 s6 h1 h2 h3 => hR2 _ ⟨ds ++ [m], rs, _, _, _, _, _, by rw [List.append_assoc]; exact ed, rfl, rfl, by rw [List.map_append, em, List.map_cons, h1]; rfl, fun y hy => by
        rcases List.mem_append.mp hy with hy | hy
        · exact hk y hy
        · rw [List.mem_singleton.mp hy]; exact h2, h3⟩
      have low : ∀ x ∈ rows, rowMark x < m := fun x hx => by
        have p := mr
        rw [← ed, List.pairwise_append] at p
        exact p.2.2 (rowMark x) (by rw [← em]; exact List.mem_map_of_mem hx) m List.mem_cons_self
      walk_at "dl"
      have kT : z = "told" → RwK z = RowT := fun e => if_pos e
      have kH : z = "held" → RwK z = RowH := fun e => by subst e; exact if_neg (by decide +kernel)
      have kM : z = "made" → RwK z = RowM := fun e => by subst e; unfold RwK; rw [if_neg (by decide +kernel), if_neg (by decide +kernel)]
      by_cases ct : z = "told"
      · rw [if_pos (decide_eq_true ct)]
        rw [kT ct] at add
        refine ⟨rfl, fun p q s1 => ?_⟩
        walk_at "dl"
        refine ⟨rfl, fun u v s2 => ?_⟩
        walk_at "dl"
        have fin : ∀ (L : List (Int × Int)) (l2 : Addr), L ≠ [] → L.length ≤ 8 → (∀ r ∈ L, Sml r.1 r.2) → ∀ P : Prop, P → P := fun _ _ _ _ _ _ h => h
        refine ⟨by decide, fun l2 => ?_⟩
        refine ⟨5, rfl, by decide, by decide, fun w w0 w1 => ?_⟩
        walk_at "dl"
        by_cases cw : w = 0
        · simp only [cw, decide_true, if_true]
          refine fun l3 => ⟨ll, ?_⟩
          rw [show Dl.cutD [PyData.tuple [.int p, .int q], .tuple [.int u, .int v]] none (some 1) = LFr [(p, q)] from rfl]
          refine ⟨[(p, q)], rfl, List.cons_ne_nil _ _, by simp, fun r hr => by cases List.mem_singleton.mp hr; exact s1, fun p1 q1 h1 h2 => ?_⟩
          cases List.mem_singleton.mp h1
          walk_at "dl"
          refine ⟨.inr rfl, [(p, q)], rfl, List.cons_ne_nil _ _, by simp, fun r hr => by cases List.mem_singleton.mp hr; exact s1, fun p1 q1 h1 => ?_⟩
          cases List.mem_singleton.mp h1
          walk_at "dl"
          refine ⟨.inr rfl, by decide, ?_⟩
          exact add _ _ _ _ rfl ⟨m, p, q, p, q, rfl, hm.1, hm.2, s1, s1, Int.le_refl _⟩ fun e => by rw [ct] at e; exact absurd e (by decide +kernel)
        · simp only [cw, decide_false, Bool.false_eq_true, if_false]
          refine ⟨ll, ?_⟩
          have two : ∀ r ∈ [(p, q), (u, v)], Sml r.1 r.2 := fun r hr => by
            simp only [List.mem_cons, List.not_mem_nil, or_false] at hr
            rcases hr with rfl | rfl
            · exact s1
            · exact s2
          refine ⟨[(p, q), (u, v)], rfl, List.cons_ne_nil _ _, by simp, two, fun p1 q1 h1 h2 => ?_⟩
          walk_at "dl"
          refine ⟨.inr rfl, [(p, q), (u, v)], rfl, List.cons_ne_nil _ _, by simp, two, fun p2 q2 h3 => ?_⟩
          walk_at "dl"
          refine ⟨.inr rfl, by decide, ?_⟩
          exact add _ _ _ _ rfl ⟨m, p1, q1, p2, q2, rfl, hm.1, hm.2, two _ h1, two _ h3, h2 _ h3⟩ fun e => by rw [ct] at e; exact absurd e (by decide +kernel)
      · rw [if_neg (by rw [decide_eq_false ct]; decide)]
        by_cases ch : z = "held"
        · rw [if_pos (decide_eq_true ch)]
          rw [kH ch] at add
          refine ⟨ll, rfl, fun ps hp => ?_⟩
          walk_at "dl"
          refine ⟨rfl, fun p q s1 => ?_⟩
          walk_at "dl"
          refine ⟨rfl, fun u v s2 u0 => ?_⟩
          walk_at "dl"
          refine ⟨by decide, ?_⟩
          exact add _ _ _ _ rfl ⟨m, ps, p, q, u, v, rfl, hm.1, hm.2, hp, s1, s2, u0⟩ fun e => absurd e (by rw [ch]; decide +kernel)
        · have cm : z = "made" := by
            rcases hz with e | e | e
            · exact absurd e ct
            · exact absurd e ch
            · exact e
          rw [if_neg (by rw [decide_eq_false ch]; decide)]
          rw [kM cm] at add hk
          refine ⟨rfl, fun nm hn => ?_⟩
          walk_at "dl"
          have x1 : ("x" : Str).length = 1 := by decide +kernel
          have n8 := hn.2.1
          refine ⟨by rw [x1]; omega, by decide, 2, rfl, by decide, by decide, fun w w0 w1 => ?_⟩
          walk_at "dl"
          refine pick w0 w1 fun y hy => ?_
          obtain ⟨e, rfl, e1, e2, e3⟩ : ∃ e : Str, y = .str e ∧ 1 ≤ e.length ∧ e.length ≤ 9 ∧ ∀ c ∈ e.cps.toList, 97 ≤ c ∧ c ≤ 122 := by
            simp only [List.mem_cons, List.not_mem_nil, or_false] at hy
            rcases hy with rfl | rfl
            · exact ⟨_, rfl, by decide +kernel, by decide +kernel, by decide +kernel⟩
            · exact ⟨_, rfl, by rw [len_x]; omega, by rw [len_x]; omega, nam_x hn⟩
          walk_at "dl"
          have ne := nam_cut e1 e3
          have f0 := Int.fmod_nonneg_of_pos m (show (0 : Int) < 5 by decide)
          have f1 := Int.fmod_lt_of_pos m (show (0 : Int) < 5 by decide)
          refine ⟨by omega, by decide, by decide, ?_⟩
          unfold tLcD
          walk_at "dl"
          refine lc_map (fun x => .tuple ((pairOf x).map kyD)) (Nat.le_of_lt ll) ?_ fun x hx R4 hR4 => ?_
          · have hd := hd cm
            have nls : ∀ {ys : List PyData}, (∀ x ∈ ys, RowM x) → noLs (ys.map fun x => PyData.tuple ((pairOf x).map kyD)) = true ∧ ∀ y ∈ ys.map (fun x => PyData.tuple ((pairOf x).map kyD)), Ly 2 y := by
              intro ys
              induction ys with
              | nil => exact fun _ => ⟨rfl, fun _ h => nomatch h⟩
              | cons y ys ih =>
                intro hy
                obtain ⟨m', z', k', rfl, g0, g1, g2, g3, g4⟩ := hy y (List.mem_cons_self ..)
                obtain ⟨i1, i2⟩ := ih fun z hz => hy z (List.mem_cons_of_mem _ hz)
                have ly : Ly 2 (.tuple [.str z', .int k']) := (gd_tupL (gdl_cons (g2.gd) (gdl_cons ((gd_mark g3 g4).up (m := 0) (l := 11)) gdl_nil)) (by simp)).ly.up
                refine ⟨?_, fun y hy2 => ?_⟩
                · rw [List.map_cons, noLs, i1]
                  rfl
                · rcases List.mem_cons.mp hy2 with rfl | hy2
                  · exact ly
                  · exact i2 y hy2
            obtain ⟨n1, n2⟩ := nls hk
            refine ⟨n1, ?_⟩
            walk_at "dl"
            have ly1 : Ly 2 (.tuple [.str (cutS e none (some 8)), .int (m.fmod 5)]) := (gd_tupL (gdl_cons (ne.gd) (gdl_cons ((gd_mark f0 (by omega)).up (m := 0) (l := 11)) gdl_nil)) (by simp)).ly.up
            refine ⟨ly1.shaped, (ly_lst fun y hy2 => n2 y hy2).shaped, ?_⟩
            cases ca : (rows.map fun x => PyData.tuple ((pairOf x).map kyD)).any fun z => z.eqv (.tuple [.str (cutS e none (some 8)), .int (m.fmod 5)]) with
            | true =>
              walk_at "dl"
              refine ⟨ll, by decide, ?_⟩
              exact add _ _ _ _ rfl ⟨m, _, m, rfl, hm.1, hm.2, ne, hm.1, hm.2⟩ fun _ => rowsD_top hd low
            | false =>
              walk_at "dl"
              refine ⟨ll, by decide, by decide, ?_⟩
              exact add _ _ _ _ rfl ⟨m, _, _, rfl, hm.1, hm.2, ne, f0, by omega⟩ fun _ => rowsD_new hd (fmod_le hm.1) ca
          · obtain ⟨m', z', k', rfl, g0, g1, g2, g3, g4⟩ := hk x hx
            walk_at "dl"
            exact hR4
section
variable {ts : List Addr} {P : Program} {w : World} {K : PySem.W.Frag} {mg : Str → Option Value} {base : Heap}
theorem ok__law_any_rows {f : Addr} {fd : FuncData} (Fn : L2.Fun K "_law_any_rows" "_law_any_rows" s__law_any_rows f fd) {f__law_rising : Addr} (g__law_rising : Fg P w K mg base (L2.CX P w) 2 f__law_rising (Pm K ts sp__law_rising)) (m__law_rising : mg "_law_rising" = some (.ref f__law_rising)) (p__law_rising : PySem.W.keepIn K (.ref f__law_rising) = true) {f__law_take : Addr} (g__law_take : Fg P w K mg base (L2.CX P w) 1 f__law_take (Pm K ts sp__law_take)) (m__law_take : mg "_law_take" = some (.ref f__law_take)) (p__law_take : PySem.W.keepIn K (.ref f__law_take) = true) {f__law_small : Addr} (g__law_small : Fg P w K mg base (L2.CX P w) 2 f__law_small (Pm K ts sp__law_small)) (m__law_small : mg "_law_small" = some (.ref f__law_small)) (p__law_small : PySem.W.keepIn K (.ref f__law_small) = true) {f__law_most : Addr} (g__law_most : Fg P w K mg base (L2.CX P w) 2 f__law_most (Pm K ts sp__law_most)) (m__law_most : mg "_law_most" = some (.ref f__law_most)) (p__law_most : PySem.W.keepIn K (.ref f__law_most) = true) {f__law_least : Addr} (g__law_least : Fg P w K mg base (L2.CX P w) 2 f__law_least (Pm K ts sp__law_least)) (m__law_least : mg "_law_least" = some (.ref f__law_least)) (p__law_least : PySem.W.keepIn K (.ref f__law_least) = true) {f__law_free : Addr} (g__law_free : Fg P w K mg base (L2.CX P w) 3 f__law_free (Pm K ts sp__law_free)) (m__law_free : mg "_law_free" = some (.ref f__law_free)) (p__law_free : PySem.W.keepIn K (.ref f__law_free) = true) {f__law_any_spot : Addr} (g__law_any_spot : Fg P w K mg base (L2.CX P w) 2 f__law_any_spot (Pm K ts sp__law_any_spot)) (m__law_any_spot : mg "_law_any_spot" = some (.ref f__law_any_spot)) (p__law_any_spot : PySem.W.keepIn K (.ref f__law_any_spot) = true) {f__law_name : Addr} (g__law_name : Fg P w K mg base (L2.CX P w) 2 f__law_name (Pm K ts sp__law_name)) (m__law_name : mg "_law_name" = some (.ref f__law_name)) (p__law_name : PySem.W.keepIn K (.ref f__law_name) = true) : Fg P w K mg base (L2.CX P w) 4 f (Pm K ts sp__law_any_rows) := d_def Fn sc__law_any_rows (fun _ _ _ _ _ _ us hl => match us, hl with | [_, _], _ => rfl) sp__law_any_rows rd__law_any_rows (fun cdv A outer s H E wn hcd ht ag hr => by
  have S := sc__law_any_rows
  have hu := hr.units
  exact (dss_cons (ds_set (i := 2) S.nd rfl (by first | exact Or.inl rfl | exact Or.inr rfl) (d_lst da_nil))
    (dss_cons (ds_for PassesOwn.never rfl (di_list (d_use g__law_rising ht ag (hr.mono (by decide)) passZ (by rfl) m__law_rising p__law_rising (da_cons (d_var 0) (da_cons (d_ix (d_lst (da_cons d_int (da_cons (d_bin o_add d_int (d_use g__law_take ht ag (hr.mono (by decide)) passZ (by rfl) m__law_take p__law_take (da_cons (d_var 0) (da_cons d_int da_nil)))) (da_cons (d_bin o_add d_int (d_use g__law_take ht ag (hr.mono (by decide)) passZ (by rfl) m__law_take p__law_take (da_cons (d_var 0) (da_cons d_int da_nil)))) (da_cons d_int da_nil))))) (d_use g__law_take ht ag (hr.mono (by decide)) passZ (by rfl) m__law_take p__law_take (da_cons (d_var 0) (da_cons d_int da_nil)))) da_nil)))) (dg_name (i := 3) S.nd rfl (by first | exact Or.inl rfl | exact Or.inr rfl)) (dss_one (ds_if (dt_cmp (o_eq hu) (d_var 1) d_str) (dss_cons (ds_set (i := 4) S.nd rfl (by first | exact Or.inl rfl | exact Or.inr rfl) (d_lst (da_cons (d_use g__law_small ht ag (hr.mono (by decide)) passZ (by rfl) m__law_small p__law_small (da_cons (d_var 0) da_nil)) (da_cons (d_use g__law_small ht ag (hr.mono (by decide)) passZ (by rfl) m__law_small p__law_small (da_cons (d_var 0) da_nil)) da_nil))))
            (dss_cons (ds_if (dt_cmp (o_eq hu) (d_use g__law_take ht ag (hr.mono (by decide)) passZ (by rfl) m__law_take p__law_take (da_cons (d_var 0) (da_cons d_int da_nil))) d_int) (dss_one (ds_set (i := 4) S.nd rfl (by first | exact Or.inl rfl | exact Or.inr rfl) (d_slL (d_var 4) do_none (do_some d_int)))) dss_nil)
            (dss_one (ds_app (i := 2) (pe_bm PySem.F.plainAttrs_list PySem.F.slot_list_append PySem.F.type_list_append mt_append (pv 2) (pa_cons (d_tup (da_cons (d_var 3) (da_cons (d_use g__law_least ht ag (hr.mono (by decide)) passZ (by rfl) m__law_least p__law_least (da_cons (d_var 4) da_nil)) (da_cons (d_use g__law_most ht ag (hr.mono (by decide)) passZ (by rfl) m__law_most p__law_most (da_cons (d_var 4) da_nil)) da_nil)))) pa_nil)))))) (dss_one (ds_if (dt_cmp (o_eq hu) (d_var 1) d_str) (dss_one (ds_app (i := 2) (pe_bm PySem.F.plainAttrs_list PySem.F.slot_list_append PySem.F.type_list_append mt_append (pv 2) (pa_cons (d_tup (da_cons (d_var 3) (da_cons (d_use g__law_any_spot ht ag (hr.mono (by decide)) passZ (by rfl) m__law_any_spot p__law_any_spot (da_cons (d_var 0) da_nil)) (da_cons (d_use g__law_small ht ag (hr.mono (by decide)) passZ (by rfl) m__law_small p__law_small (da_cons (d_var 0) da_nil)) (da_cons (d_use g__law_free ht ag (hr.mono (by decide)) passZ (by rfl) m__law_free p__law_free (da_cons (d_var 0) da_nil)) da_nil))))) pa_nil)))) (dss_cons (ds_set (i := 5) S.nd rfl (by first | exact Or.inl rfl | exact Or.inr rfl) (d_slS (d_ix (d_lst (da_cons d_str (da_cons (d_bin o_add (d_use g__law_name ht ag (hr.mono (by decide)) passZ (by rfl) m__law_name p__law_name (da_cons (d_var 0) da_nil)) d_str) da_nil))) (d_use g__law_take ht ag (hr.mono (by decide)) passZ (by rfl) m__law_take p__law_take (da_cons (d_var 0) (da_cons d_int da_nil)))) do_none (do_some d_int)))
                (dss_one (ds_if (dt_cmp (o_inD (hu65 hr)) (d_tup (da_cons (d_var 5) (da_cons (d_bin o_mod (d_var 3) d_int) da_nil))) (d_tmp 2 (d_lc (own := [("_law_row", 6)]) rfl S.nd (di_list (d_var 2)) (blkOk_by (N := N__law_any_rows) (sc := defScope s__law_any_rows) (by decide +kernel)) (tgt1 6) (fun _ _ _ _ _ => pg_name (i := 6) S.nd rfl (Or.inl rfl)) (fun _ _ _ _ _ => pts_nilD) (fun _ _ _ _ _ => (d_slT (d_var 6) (do_some d_int) do_none))))) (dss_one (ds_app (i := 2) (pe_bm PySem.F.plainAttrs_list PySem.F.slot_list_append PySem.F.type_list_append mt_append (pv 2) (pa_cons (d_tup (da_cons (d_var 3) (da_cons (d_var 5) (da_cons (d_var 3) da_nil)))) pa_nil)))) (dss_one (ds_app (i := 2) (pe_bm PySem.F.plainAttrs_list PySem.F.slot_list_append PySem.F.type_list_append mt_append (pv 2) (pa_cons (d_tup (da_cons (d_var 3) (da_cons (d_var 5) (da_cons (d_bin o_mod (d_var 3) d_int) da_nil)))) pa_nil))))))))))))
    (dss_one (ds_retV 2))))) vc__law_any_rows
end
/-! _law_any_paper -/
abbrev N__law_any_paper : List Str := ["_law_bag_here", "_law_kind", "_law_code", "_law_day", "_law_term", "_law_name_here", "_law_sort", "_law_marks", "_law_rows", "_law_row"]
theorem sc__law_any_paper : FnScope N__law_any_paper ["_law_bag_here"] (defScope s__law_any_paper) := ⟨rfl, rfl, rfl, by decide +kernel, rfl, by decide +kernel, by decide +kernel⟩
def rd__law_any_paper : DS := (tSeqD (tSetD 1 (tBin gIx (tLstD (tConsD (tCD (.str "thing")) (tConsD (tCD (.str "told")) (tConsD (tCD (.str "held")) (tConsD (tCD (.str "made")) (tConsD (tCD (.str "read")) (tConsD (tCD (.str "off")) (tConsD (tCD (.str "harmed")) (tConsD (tCD (.str "mended")) tNilD))))))))) (tUse sp__law_take (tConsD (tVarD 0) (tConsD (tCD (.int 8)) tNilD)))))
    (tSeqD (tSetD 2 (tBin gIx (tLstD (tConsD (tBin gAdd (tCD (.int 1)) (tUse sp__law_take (tConsD (tVarD 0) (tConsD (tBin gPow (tCD (.int 10)) (tCD (.int 9))) tNilD)))) (tConsD (tBin gAdd (tCD (.int 1)) (tUse sp__law_take (tConsD (tVarD 0) (tConsD (tCD (.int 30)) tNilD)))) (tConsD (tCD (.int 1)) (tConsD (tBin gPow (tCD (.int 10)) (tCD (.int 9))) tNilD))))) (tUse sp__law_take (tConsD (tVarD 0) (tConsD (tCD (.int 4)) tNilD)))))
    (tSeqD (tSetD 3 (tBin gIx (tLstD (tConsD (tUse sp__law_take (tConsD (tVarD 0) (tConsD (tBin gAdd (tBin gPow (tCD (.int 10)) (tCD (.int 6))) (tCD (.int 1))) tNilD))) (tConsD (tUse sp__law_take (tConsD (tVarD 0) (tConsD (tCD (.int 30)) tNilD))) (tConsD (tCD (.int 0)) (tConsD (tBin gPow (tCD (.int 10)) (tCD (.int 6))) tNilD))))) (tUse sp__law_take (tConsD (tVarD 0) (tConsD (tCD (.int 4)) tNilD)))))
    (tSeqD (tSetD 4 (tBin gIx (tLstD (tConsD (tUse sp__law_take (tConsD (tVarD 0) (tConsD (tBin gAdd (tBin gPow (tCD (.int 10)) (tCD (.int 6))) (tCD (.int 1))) tNilD))) (tConsD (tUse sp__law_take (tConsD (tVarD 0) (tConsD (tCD (.int 30)) tNilD))) (tConsD (tCD (.int 0)) (tConsD (tBin gPow (tCD (.int 10)) (tCD (.int 6))) tNilD))))) (tUse sp__law_take (tConsD (tVarD 0) (tConsD (tCD (.int 4)) tNilD)))))
    (tSeqD (tSetD 5 (tUse sp__law_name (tConsD (tVarD 0) tNilD)))
    (tSeqD (tIfD (tTst (tBin (gEqv id) (tVarD 1) (tCD (.str "thing")))) (tSeqD (tSetD 6 (tBin gIx (tLstD (tConsD (tCD (.str "scale")) (tConsD (tCD (.str "box")) tNilD))) (tUse sp__law_take (tConsD (tVarD 0) (tConsD (tCD (.int 2)) tNilD)))))
        (tSeqD (tSetD 7 (tUse sp__law_rising (tConsD (tVarD 0) (tConsD (tBin gIx (tLstD (tConsD (tBin gAdd (tCD (.int 2)) (tUse sp__law_take (tConsD (tVarD 0) (tConsD (tCD (.int 7)) tNilD)))) (tConsD (tBin gAdd (tCD (.int 1)) (tUse sp__law_take (tConsD (tVarD 0) (tConsD (tCD (.int 8)) tNilD)))) tNilD))) (tCallD cInt (tConsD (tBin (gEqv id) (tVarD 6) (tCD (.str "box"))) tNilD))) tNilD))))
        (fun d env => (tRetD (tTupD (tConsD (tVarD 2) (tConsD (tVarD 3) (tConsD (tVarD 1) (tConsD (tVarD 5) (tConsD (tVarD 6) (tConsD (tUse sp__law_take (tConsD (tVarD 0) (tConsD (tCD (.int 6)) tNilD))) (tConsD (tUse sp__law_free (tConsD (tVarD 0) tNilD)) (tConsD (tVarD 7) tNilD)))))))))) d (frzS 7 env)))) (fun d env => d.nx env))
    (tSeqD (tIfD (tTst (tBin (gEqv id) (tVarD 1) (tCD (.str "told")))) (tRetD (tTupD (tConsD (tVarD 2) (tConsD (tVarD 3) (tConsD (tVarD 1) (tConsD (tVarD 5) (tConsD (tVarD 4) (tConsD (tUse sp__law_any_rows (tConsD (tVarD 0) (tConsD (tVarD 1) tNilD))) tNilD)))))))) (fun d env => d.nx env))
    (tSeqD (tIfD (tTst (tBin (gEqv id) (tVarD 1) (tCD (.str "held")))) (tRetD (tTupD (tConsD (tVarD 2) (tConsD (tVarD 3) (tConsD (tVarD 1) (tConsD (tVarD 5) (tConsD (tUse sp__law_name (tConsD (tVarD 0) tNilD)) (tConsD (tVarD 4) (tConsD (tUse sp__law_any_rows (tConsD (tVarD 0) (tConsD (tVarD 1) tNilD))) tNilD))))))))) (fun d env => d.nx env))
    (tSeqD (tIfD (tTst (tBin (gEqv id) (tVarD 1) (tCD (.str "made")))) (tSeqD (tSetD 8 (tLcD (itLst (tUse sp__law_any_rows (tConsD (tVarD 0) (tConsD (tVarD 1) tNilD)))) (gnD 9) (tTst (tBin (gEqv not) (tBin gIx (tVarD 9) (tCD (.int 1))) (tVarD 5))) (tVarD 9) [9]))
        (fun d env => (tRetD (tTupD (tConsD (tVarD 2) (tConsD (tVarD 3) (tConsD (tVarD 1) (tConsD (tVarD 5) (tConsD (tUse sp__law_free (tConsD (tVarD 0) tNilD)) (tConsD (tOrV' (tVarD 8) (tLstD (tConsD (tTupD (tConsD (tCD (.int 0)) (tConsD (tBin gIx (tLstD (tConsD (tCD (.str "yy")) (tConsD (tCD (.str "yz")) tNilD))) (tCallD cInt (tConsD (tBin (gEqv id) (tVarD 5) (tCD (.str "yy"))) tNilD))) (tConsD (tCD (.int 0)) tNilD)))) tNilD))) tNilD)))))))) d (frzS 8 env))) (fun d env => d.nx env))
    (tSeqD (tIfD (tTst (tBin (gEqv id) (tVarD 1) (tCD (.str "read")))) (tRetD (tTupD (tConsD (tVarD 2) (tConsD (tVarD 3) (tConsD (tVarD 1) (tConsD (tVarD 5) (tConsD (tUse sp__law_any_spot (tConsD (tVarD 0) tNilD)) tNilD))))))) (fun d env => d.nx env))
    (tRetD (tTupD (tConsD (tVarD 2) (tConsD (tVarD 3) (tConsD (tVarD 1) (tConsD (tVarD 5) tNilD))))))))))))))))
def sp__law_any_paper : DSp := fun us P => us = [.bag] ∧ ∀ x : PyData, Pap x → Mad x → P (.d x)
theorem vc__law_any_paper : ∀ dvs Q, sp__law_any_paper dvs Q → dvs.length = 1 ∧ rd__law_any_paper { nx := fun _ => Q (.d .none), rt := Q } (startD N__law_any_paper dvs) := by
  rintro dvs Q ⟨rfl, h⟩
  refine ⟨rfl, ?_⟩
  have lg : ∀ {z : Int}, z.natAbs < 2 ^ 60 → z.natAbs.log2 < 9000 := fun h => log_le h (by decide) (by decide)
  unfold rd__law_any_paper
  refine seqG fun R hR => ?_
  walk_at "dl"
  refine ⟨by decide, 8, rfl, by decide, by decide, fun a a0 a1 => ?_⟩
  walk_at "dl"
  refine pick a0 a1 fun y hy => ?_
  obtain ⟨k, rfl, hk⟩ : ∃ k : Str, y = .str k ∧ (k = "thing" ∨ k = "told" ∨ k = "held" ∨ k = "made" ∨ k = "read" ∨ k = "off" ∨ k = "harmed" ∨ k = "mended") := by
    simp only [List.mem_cons, List.not_mem_nil, or_false] at hy
    rcases hy with rfl | rfl | rfl | rfl | rfl | rfl | rfl | rfl <;> exact ⟨_, rfl, by simp⟩
  walk_at "dl"
  refine hR _ (seqG fun R hR => ?_)
  walk_at "dl"
  have e9 : (10 : Int) ^ Int.toNat 9 = 1000000000 := by decide
  have e6 : (10 : Int) ^ Int.toNat 6 = 1000000 := by decide
  rw [e9]
  refine ⟨by decide, _, rfl, by decide, lg (by decide), fun c1 c10 c11 => ?_⟩
  walk_at "dl"
  refine ⟨30, rfl, by decide, by decide, fun c2 c20 c21 => ?_⟩
  walk_at "dl"
  refine ⟨by decide, by decide, 4, rfl, by decide, by decide, fun c3 c30 c31 => ?_⟩
  walk_at "dl"
  refine pick c30 c31 fun y hy => ?_
  obtain ⟨c, rfl, c0, c1⟩ : ∃ c : Int, y = .int c ∧ 1 ≤ c ∧ c ≤ 10 ^ 9 := by
    simp only [List.mem_cons, List.not_mem_nil, or_false] at hy
    rcases hy with rfl | rfl | rfl | rfl <;> exact ⟨_, rfl, by omega, by omega⟩
  walk_at "dl"
  refine hR _ (seqG fun R hR => ?_)
  walk_at "dl"
  rw [e6]
  refine ⟨by decide, _, rfl, by decide, lg (by decide), fun d1 d10 d11 => ?_⟩
  walk_at "dl"
  refine ⟨30, rfl, by decide, by decide, fun d2 d20 d21 => ?_⟩
  walk_at "dl"
  refine ⟨by decide, by decide, 4, rfl, by decide, by decide, fun d3 d30 d31 => ?_⟩
  walk_at "dl"
  refine pick d30 d31 fun y hy => ?_
  obtain ⟨d, rfl, d0, d1⟩ : ∃ d : Int, y = .int d ∧ 0 ≤ d ∧ d ≤ 10 ^ 6 := by
    simp only [List.mem_cons, List.not_mem_nil, or_false] at hy
    rcases hy with rfl | rfl | rfl | rfl <;> exact ⟨_, rfl, by omega, by omega⟩
  walk_at "dl"
  refine hR _ (seqG fun R hR => ?_)
  walk_at "dl"
  rw [e6]
  refine ⟨by decide, _, rfl, by decide, lg (by decide), fun t1 t10 t11 => ?_⟩
  walk_at "dl"
  refine ⟨30, rfl, by decide, by decide, fun t2 t20 t21 => ?_⟩
  walk_at "dl"
  refine ⟨by decide, by decide, 4, rfl, by decide, by decide, fun t3 t30 t31 => ?_⟩
  walk_at "dl"
  refine pick t30 t31 fun y hy => ?_
  obtain ⟨t, rfl, t0, t1⟩ : ∃ t : Int, y = .int t ∧ 0 ≤ t ∧ t ≤ 10 ^ 6 := by
    simp only [List.mem_cons, List.not_mem_nil, or_false] at hy
    rcases hy with rfl | rfl | rfl | rfl <;> exact ⟨_, rfl, by omega, by omega⟩
  walk_at "dl"
  refine hR _ (seqG fun R hR => ?_)
  walk_at "dl"
  refine ⟨rfl, fun z hz => ?_⟩
  walk_at "dl"
  refine hR _ (seqG fun R hR => ?_)
  have pap : ∀ r, Prt k r → (k = "made" → MadR z r) → Q (.d (.tuple (.int c :: .int d :: .str k :: .str z :: r))) := fun r hr hm => h _ ⟨c, d, k, z, r, rfl, c0, c1, d0, d1, hz, hr⟩ fun c' d' z' r' e => by
    cases e
    exact hm rfl
  refine ifG fun A B hA hB => ?_
  walk_at "dl"
  by_cases k1 : k = "thing"
  · rw [if_pos (decide_eq_true k1)]
    subst k1
    refine hA (seqG fun R hR => ?_)
    walk_at "dl"
    refine ⟨by decide, 2, rfl, by decide, by decide, fun w w0 w1 => ?_⟩
    walk_at "dl"
    refine pick w0 w1 fun y hy => ?_
    obtain ⟨so, rfl, hso⟩ : ∃ so : Str, y = .str so ∧ (so = "scale" ∨ so = "box") := by
      simp only [List.mem_cons, List.not_mem_nil, or_false] at hy
      rcases hy with rfl | rfl
      · exact ⟨_, rfl, .inl rfl⟩
      · exact ⟨_, rfl, .inr rfl⟩
    walk_at "dl"
    refine hR _ (seqG fun R hR => ?_)
    walk_at "dl"
    refine ⟨7, rfl, by decide, by decide, fun m1 m10 m11 => ?_⟩
    walk_at "dl"
    refine ⟨8, rfl, by decide, by decide, fun m2 m20 m21 => ?_⟩
    walk_at "dl"
    refine ⟨by decide, ?_⟩
    rcases hso with rfl | rfl
    · rw [if_neg (by decide +kernel)]
      walk_at "dl"
      refine ⟨_, rfl, by omega, by omega, fun ms ml mi mr => ?_⟩
      walk_at "dl"
      refine fun l5 => hR _ ?_
      walk_at "dl"
      refine ⟨6, rfl, by decide, by decide, fun lv l0 l1 => ?_⟩
      walk_at "dl"
      refine ⟨rfl, fun p q s p0 => ?_⟩
      walk_at "dl"
      refine ⟨by decide, ?_⟩
      exact pap _ (.thing (.inl ⟨rfl, by omega⟩) l0 (by omega) s p0 (by omega) mi mr) fun e => absurd e (by decide +kernel)
    · rw [if_pos (by decide +kernel)]
      walk_at "dl"
      refine ⟨_, rfl, by omega, by omega, fun ms ml mi mr => ?_⟩
      walk_at "dl"
      refine fun l5 => hR _ ?_
      walk_at "dl"
      refine ⟨6, rfl, by decide, by decide, fun lv l0 l1 => ?_⟩
      walk_at "dl"
      refine ⟨rfl, fun p q s p0 => ?_⟩
      walk_at "dl"
      refine ⟨by decide, ?_⟩
      exact pap _ (.thing (.inr ⟨rfl, by omega⟩) l0 (by omega) s p0 (by omega) mi mr) fun e => absurd e (by decide +kernel)
  rw [if_neg (by rw [decide_eq_false k1]; decide)]
  refine hB (hR _ (seqG fun R hR => ?_))
  walk_at "dl"
  by_cases k2 : k = "told"
  · rw [if_pos (decide_eq_true k2)]
    subst k2
    refine ⟨"told", rfl, .inl rfl, fun rows hr _ => ?_⟩
    walk_at "dl"
    refine ⟨by decide, ?_⟩
    exact pap _ (.told t0 t1 hr) fun e => absurd e (by decide +kernel)
  rw [if_neg (by rw [decide_eq_false k2]; decide)]
  refine hR _ (seqG fun R hR => ?_)
  walk_at "dl"
  by_cases k3 : k = "held"
  · rw [if_pos (decide_eq_true k3)]
    subst k3
    refine ⟨rfl, fun z2 hz2 => ?_⟩
    walk_at "dl"
    refine ⟨"held", rfl, .inr (.inl rfl), fun rows hr _ => ?_⟩
    walk_at "dl"
    refine ⟨by decide, ?_⟩
    exact pap _ (.held hz2 t0 t1 hr) fun e => absurd e (by decide +kernel)
  rw [if_neg (by rw [decide_eq_false k3]; decide)]
  refine hR _ (seqG fun R hR => ?_)
  refine ifG fun A B hA hB => ?_
  walk_at "dl"
  by_cases k4 : k = "made"
  · rw [if_pos (decide_eq_true k4)]
    subst k4
    refine hA (seqG fun R hR => ?_)
    walk_at "dl"
    unfold tLcD
    walk_at "dl"
    refine ⟨"made", rfl, .inr (.inr rfl), fun rows hr hrd => ?_⟩
    have hrd := hrd rfl
    walk_at "dl"
    refine lc_filter (fun x => !eldIs z (eldOf x)) (by have := hr.2.1; omega) ?_ fun x hx acc R2 ha h1 h2 => ?_
    · have sub := List.filter_sublist (p := fun x => !eldIs z (eldOf x)) (l := rows)
      have not : ∀ y ∈ rows.filter (fun x => !eldIs z (eldOf x)), eldIs z (eldOf y) = false := fun y hy => by
        have := (List.mem_filter.mp hy).2
        simpa using this
      generalize rows.filter (fun x => !eldIs z (eldOf x)) = ys at sub not ⊢
      walk_at "dl"
      refine fun l8 => hR _ ?_
      walk_at "dl"
      refine ⟨rfl, fun p q s p0 => ?_⟩
      walk_at "dl"
      cases ye : ys with
      | nil =>
        rw [if_neg (by decide)]
        refine ⟨by decide, ?_⟩
        have one : ∀ n : Str, Nam n → z ≠ n → Q (.d (.tuple [.int c, .int d, .str "made", .str z, frc p q, .list [.tuple [.int 0, .str n, .int 0]]])) := fun n hn ne => by
          refine pap _ (.made s p0 ⟨by simp, by simp, fun x hx => ?_, .cons (fun _ h => nomatch h) .nil⟩) fun _ f' r' e => ?_
          · cases List.mem_singleton.mp hx
            exact ⟨0, n, 0, rfl, by decide, by decide, hn, by decide, by decide⟩
          · cases e
            refine ⟨by simp, fun y hy => ?_⟩
            cases List.mem_singleton.mp hy
            exact decide_eq_false fun e => ne e.symm
        by_cases cy : z = "yy"
        · subst cy
          simp only [decide_true, if_true]
          rw [li1]
          walk_at "dl"
          refine ⟨by decide, by decide, by decide, ?_⟩
          exact one _ ⟨by decide +kernel, by decide +kernel, by decide +kernel⟩ (by decide +kernel)
        · have cy' : decide (z = Str.ofString "yy") = false := decide_eq_false cy
          rw [cy']
          simp only [Bool.false_eq_true, if_false]
          rw [li0]
          walk_at "dl"
          refine ⟨by decide, by decide, by decide, ?_⟩
          exact one _ ⟨by decide +kernel, by decide +kernel, by decide +kernel⟩ cy
      | cons y0 yr =>
        rw [← ye]
        rw [if_pos (by rw [ye]; rfl)]
        refine ⟨by decide, ?_⟩
        refine pap _ (.made s p0 ⟨by rw [ye]; simp, Nat.le_trans sub.length_le hr.2.1, fun x hx => hr.2.2.1 x (sub.subset hx), List.Pairwise.sublist (sub.map _) hr.2.2.2⟩) fun _ f' r' e => ?_
        cases e
        exact ⟨List.Nodup.sublist (sub.map _) hrd.1, not⟩
    · obtain ⟨m', z', k', rfl, g0, g1, g2, g3, g4⟩ := hr.2.2.1 x hx
      walk_at "dl"
      by_cases cz : z' = z
      · rw [decide_eq_true cz]
        exact h2 (by show (!decide (z' = z)) = false; rw [decide_eq_true cz]; rfl)
      · rw [decide_eq_false cz]
        exact ⟨ha, h1 (by show (!decide (z' = z)) = true; rw [decide_eq_false cz]; rfl)⟩
  rw [if_neg (by rw [decide_eq_false k4]; decide)]
  refine hB (hR _ (seqG fun R hR => ?_))
  walk_at "dl"
  by_cases k5 : k = "read"
  · rw [if_pos (decide_eq_true k5)]
    subst k5
    refine ⟨rfl, fun ps hp => ?_⟩
    walk_at "dl"
    refine ⟨by decide, ?_⟩
    exact pap _ (.read hp) fun e => absurd e (by decide +kernel)
  rw [if_neg (by rw [decide_eq_false k5]; decide)]
  refine hR _ ?_
  walk_at "dl"
  refine ⟨by decide, ?_⟩
  refine pap _ (.plain ?_) fun e => absurd e k4
  rcases hk with e | e | e | e | e | e | e | e
  · exact absurd e k1
  · exact absurd e k2
  · exact absurd e k3
  · exact absurd e k4
  · exact absurd e k5
  · exact .inl e
  · exact .inr (.inl e)
  · exact .inr (.inr e)
section
variable {ts : List Addr} {P : Program} {w : World} {K : PySem.W.Frag} {mg : Str → Option Value} {base : Heap}
theorem ok__law_any_paper {f : Addr} {fd : FuncData} (Fn : L2.Fun K "_law_any_paper" "_law_any_paper" s__law_any_paper f fd) {f__law_take : Addr} (g__law_take : Fg P w K mg base (L2.CX P w) 1 f__law_take (Pm K ts sp__law_take)) (m__law_take : mg "_law_take" = some (.ref f__law_take)) (p__law_take : PySem.W.keepIn K (.ref f__law_take) = true) {f__law_name : Addr} (g__law_name : Fg P w K mg base (L2.CX P w) 2 f__law_name (Pm K ts sp__law_name)) (m__law_name : mg "_law_name" = some (.ref f__law_name)) (p__law_name : PySem.W.keepIn K (.ref f__law_name) = true) {f__law_rising : Addr} (g__law_rising : Fg P w K mg base (L2.CX P w) 2 f__law_rising (Pm K ts sp__law_rising)) (m__law_rising : mg "_law_rising" = some (.ref f__law_rising)) (p__law_rising : PySem.W.keepIn K (.ref f__law_rising) = true) {f__law_free : Addr} (g__law_free : Fg P w K mg base (L2.CX P w) 3 f__law_free (Pm K ts sp__law_free)) (m__law_free : mg "_law_free" = some (.ref f__law_free)) (p__law_free : PySem.W.keepIn K (.ref f__law_free) = true) {f__law_any_rows : Addr} (g__law_any_rows : Fg P w K mg base (L2.CX P w) 4 f__law_any_rows (Pm K ts sp__law_any_rows)) (m__law_any_rows : mg "_law_any_rows" = some (.ref f__law_any_rows)) (p__law_any_rows : PySem.W.keepIn K (.ref f__law_any_rows) = true) {f__law_any_spot : Addr} (g__law_any_spot : Fg P w K mg base (L2.CX P w) 2 f__law_any_spot (Pm K ts sp__law_any_spot)) (m__law_any_spot : mg "_law_any_spot" = some (.ref f__law_any_spot)) (p__law_any_spot : PySem.W.keepIn K (.ref f__law_any_spot) = true) (z_int : mg "int" = none) : Fg P w K mg base (L2.CX P w) 5 f (Pm K ts sp__law_any_paper) := d_def Fn sc__law_any_paper (fun _ _ _ _ _ _ us hl => match us, hl with | [_], _ => rfl) sp__law_any_paper rd__law_any_paper (fun cdv A outer s H E wn hcd ht ag hr => by
  have S := sc__law_any_paper
  have hu := hr.units
  exact (dss_cons (ds_set (i := 1) S.nd rfl (by first | exact Or.inl rfl | exact Or.inr rfl) (d_ix (d_lst (da_cons d_str (da_cons d_str (da_cons d_str (da_cons d_str (da_cons d_str (da_cons d_str (da_cons d_str (da_cons d_str da_nil))))))))) (d_use g__law_take ht ag (hr.mono (by decide)) passZ (by rfl) m__law_take p__law_take (da_cons (d_var 0) (da_cons d_int da_nil)))))
    (dss_cons (ds_set (i := 2) S.nd rfl (by first | exact Or.inl rfl | exact Or.inr rfl) (d_ix (d_lst (da_cons (d_bin o_add d_int (d_use g__law_take ht ag (hr.mono (by decide)) passZ (by rfl) m__law_take p__law_take (da_cons (d_var 0) (da_cons (d_bin o_pow d_int d_int) da_nil)))) (da_cons (d_bin o_add d_int (d_use g__law_take ht ag (hr.mono (by decide)) passZ (by rfl) m__law_take p__law_take (da_cons (d_var 0) (da_cons d_int da_nil)))) (da_cons d_int (da_cons (d_bin o_pow d_int d_int) da_nil))))) (d_use g__law_take ht ag (hr.mono (by decide)) passZ (by rfl) m__law_take p__law_take (da_cons (d_var 0) (da_cons d_int da_nil)))))
    (dss_cons (ds_set (i := 3) S.nd rfl (by first | exact Or.inl rfl | exact Or.inr rfl) (d_ix (d_lst (da_cons (d_use g__law_take ht ag (hr.mono (by decide)) passZ (by rfl) m__law_take p__law_take (da_cons (d_var 0) (da_cons (d_bin o_add (d_bin o_pow d_int d_int) d_int) da_nil))) (da_cons (d_use g__law_take ht ag (hr.mono (by decide)) passZ (by rfl) m__law_take p__law_take (da_cons (d_var 0) (da_cons d_int da_nil))) (da_cons d_int (da_cons (d_bin o_pow d_int d_int) da_nil))))) (d_use g__law_take ht ag (hr.mono (by decide)) passZ (by rfl) m__law_take p__law_take (da_cons (d_var 0) (da_cons d_int da_nil)))))
    (dss_cons (ds_set (i := 4) S.nd rfl (by first | exact Or.inl rfl | exact Or.inr rfl) (d_ix (d_lst (da_cons (d_use g__law_take ht ag (hr.mono (by decide)) passZ (by rfl) m__law_take p__law_take (da_cons (d_var 0) (da_cons (d_bin o_add (d_bin o_pow d_int d_int) d_int) da_nil))) (da_cons (d_use g__law_take ht ag (hr.mono (by decide)) passZ (by rfl) m__law_take p__law_take (da_cons (d_var 0) (da_cons d_int da_nil))) (da_cons d_int (da_cons (d_bin o_pow d_int d_int) da_nil))))) (d_use g__law_take ht ag (hr.mono (by decide)) passZ (by rfl) m__law_take p__law_take (da_cons (d_var 0) (da_cons d_int da_nil)))))
    (dss_cons (ds_set (i := 5) S.nd rfl (by first | exact Or.inl rfl | exact Or.inr rfl) (d_use g__law_name ht ag (hr.mono (by decide)) passZ (by rfl) m__law_name p__law_name (da_cons (d_var 0) da_nil)))
    (dss_cons (ds_if (dt_cmp (o_eq hu) (d_var 1) d_str) (dss_cons (ds_set (i := 6) S.nd rfl (by first | exact Or.inl rfl | exact Or.inr rfl) (d_ix (d_lst (da_cons d_str (da_cons d_str da_nil))) (d_use g__law_take ht ag (hr.mono (by decide)) passZ (by rfl) m__law_take p__law_take (da_cons (d_var 0) (da_cons d_int da_nil)))))
        (dss_cons (ds_set (i := 7) S.nd rfl (by first | exact Or.inl rfl | exact Or.inr rfl) (d_use g__law_rising ht ag (hr.mono (by decide)) passZ (by rfl) m__law_rising p__law_rising (da_cons (d_var 0) (da_cons (d_ix (d_lst (da_cons (d_bin o_add d_int (d_use g__law_take ht ag (hr.mono (by decide)) passZ (by rfl) m__law_take p__law_take (da_cons (d_var 0) (da_cons d_int da_nil)))) (da_cons (d_bin o_add d_int (d_use g__law_take ht ag (hr.mono (by decide)) passZ (by rfl) m__law_take p__law_take (da_cons (d_var 0) (da_cons d_int da_nil)))) da_nil))) (d_callTy k_int (by rfl) z_int (by decide +kernel) (da_cons (d_cmp (o_eq hu) (d_var 6) d_str) da_nil))) da_nil))))
        (dss_one (ds_frz 7 (ds_ret (d_tup (da_cons (d_var 2) (da_cons (d_var 3) (da_cons (d_var 1) (da_cons (d_var 5) (da_cons (d_var 6) (da_cons (d_use g__law_take ht ag (hr.mono (by decide)) passZ (by rfl) m__law_take p__law_take (da_cons (d_var 0) (da_cons d_int da_nil))) (da_cons (d_use g__law_free ht ag (hr.mono (by decide)) passZ (by rfl) m__law_free p__law_free (da_cons (d_var 0) da_nil)) (da_cons (d_var 7) da_nil)))))))))))))) dss_nil)
    (dss_cons (ds_if (dt_cmp (o_eq hu) (d_var 1) d_str) (dss_one (ds_ret (d_tup (da_cons (d_var 2) (da_cons (d_var 3) (da_cons (d_var 1) (da_cons (d_var 5) (da_cons (d_var 4) (da_cons (d_use g__law_any_rows ht ag (hr.mono (by decide)) passZ (by rfl) m__law_any_rows p__law_any_rows (da_cons (d_var 0) (da_cons (d_var 1) da_nil))) da_nil))))))))) dss_nil)
    (dss_cons (ds_if (dt_cmp (o_eq hu) (d_var 1) d_str) (dss_one (ds_ret (d_tup (da_cons (d_var 2) (da_cons (d_var 3) (da_cons (d_var 1) (da_cons (d_var 5) (da_cons (d_use g__law_name ht ag (hr.mono (by decide)) passZ (by rfl) m__law_name p__law_name (da_cons (d_var 0) da_nil)) (da_cons (d_var 4) (da_cons (d_use g__law_any_rows ht ag (hr.mono (by decide)) passZ (by rfl) m__law_any_rows p__law_any_rows (da_cons (d_var 0) (da_cons (d_var 1) da_nil))) da_nil)))))))))) dss_nil)
    (dss_cons (ds_if (dt_cmp (o_eq hu) (d_var 1) d_str) (dss_cons (ds_setLc (i := 8) (vs := [9]) (tgt1 9) (ps_setLc (i := 8) (own := [("_law_row", 9)]) rfl S.nd rfl rfl (sw_true rfl rfl rfl (by decide +kernel)) (di_list (d_use g__law_any_rows ht ag (hr.mono (by decide)) passZ (by rfl) m__law_any_rows p__law_any_rows (da_cons (d_var 0) (da_cons (d_var 1) da_nil)))) (blkOk_by (N := N__law_any_paper) (sc := defScope s__law_any_paper) (by decide +kernel)) (fun _ _ _ _ _ => pg_name (i := 9) S.nd rfl (Or.inl rfl)) (fun _ _ _ _ _ => pts_oneD (dt_cmp (o_ne hu) (d_ix (d_var 9) d_int) (d_var 5))) (fun _ _ _ _ _ => (d_var 9))))
        (dss_one (ds_frz 8 (ds_ret (d_tup (da_cons (d_var 2) (da_cons (d_var 3) (da_cons (d_var 1) (da_cons (d_var 5) (da_cons (d_use g__law_free ht ag (hr.mono (by decide)) passZ (by rfl) m__law_free p__law_free (da_cons (d_var 0) da_nil)) (da_cons (d_or (d_var 8) (d_one (d_lst (da_cons (d_tup (da_cons d_int (da_cons (d_ix (d_lst (da_cons d_str (da_cons d_str da_nil))) (d_callTy k_int (by rfl) z_int (by decide +kernel) (da_cons (d_cmp (o_eq hu) (d_var 5) d_str) da_nil))) (da_cons d_int da_nil)))) da_nil)))) da_nil))))))))))) dss_nil)
    (dss_cons (ds_if (dt_cmp (o_eq hu) (d_var 1) d_str) (dss_one (ds_ret (d_tup (da_cons (d_var 2) (da_cons (d_var 3) (da_cons (d_var 1) (da_cons (d_var 5) (da_cons (d_use g__law_any_spot ht ag (hr.mono (by decide)) passZ (by rfl) m__law_any_spot p__law_any_spot (da_cons (d_var 0) da_nil)) da_nil)))))))) dss_nil)
    (dss_one (ds_ret (d_tup (da_cons (d_var 2) (da_cons (d_var 3) (da_cons (d_var 1) (da_cons (d_var 5) da_nil)))))))))))))))))) vc__law_any_paper
end
/-! _law_names_due -/
abbrev N__law_names_due : List Str := ["_law_paper", "_law_found", "_law_row"]
theorem sc__law_names_due : FnScope N__law_names_due ["_law_paper"] (defScope s__law_names_due) := ⟨rfl, rfl, rfl, by decide +kernel, rfl, by decide +kernel, by decide +kernel⟩
def rd__law_names_due : DS := (tSeqD (tSetD 1 (tLstD (tConsD (tBin gIx (tVarD 0) (tCD (.int 3))) tNilD)))
    (tSeqD (tIfD (tTst (tBin (gEqv id) (tBin gIx (tVarD 0) (tCD (.int 2))) (tCD (.str "held")))) (tAppD 1 (tBin gIx (tVarD 0) (tCD (.int 4)))) (fun d env => d.nx env))
    (tSeqD (tIfD (tTst (tBin (gEqv id) (tBin gIx (tVarD 0) (tCD (.int 2))) (tCD (.str "made")))) (tSetD 1 (tBin gAdd (tVarD 1) (tLcD (itLst (tBin gIx (tVarD 0) (tCD (.int 5)))) (gnD 2) (fun _ P => P true) (tBin gIx (tVarD 2) (tCD (.int 1))) [2]))) (fun d env => d.nx env))
    (tRetD (tSortTx (tVarD 1))))))
/-- the elder of a row -/
def rowNm : PyData → Str
  | .tuple (_ :: .str z :: _) => z
  | _ => ("" : Str)
/-- what a paper names behind its own name -/
def nms (k : Str) (r : List PyData) : List Str :=
  if k = "held" then (match r with
    | .str f :: _ => [f]
    | _ => [])
  else if k = "made" then (match r with
    | [_, .list rows] => rows.map rowNm
    | _ => [])
  else []
theorem made_col {rows : List PyData} (h : ∀ x ∈ rows, RowM x) : rows.map (fun x => PyData.str (rowNm x)) = (rows.map rowNm).map .str := by rw [List.map_map]; rfl
def sp__law_names_due : DSp := fun us P => ∃ (c d : Int) (k z : Str) (r : List PyData), us = [.d (.tuple (.int c :: .int d :: .str k :: .str z :: r))] ∧ Prt k r ∧ ∀ ys : List Str, ys.Nodup → (∀ j, j ∈ ys ↔ j ∈ z :: nms k r) → sortedS ys = true → P (.fr (ys.map .str))
theorem vc__law_names_due : ∀ dvs Q, sp__law_names_due dvs Q → dvs.length = 1 ∧ rd__law_names_due { nx := fun _ => Q (.d .none), rt := Q } (startD N__law_names_due dvs) := by
  rintro dvs Q ⟨c, d, k, z, r, rfl, hr, h⟩
  refine ⟨rfl, ?_⟩
  unfold rd__law_names_due
  refine seqG fun R hR => ?_
  walk_at "dl"
  refine ⟨by decide, fun l => hR _ (seqG fun R hR => ?_)⟩
  refine ifG fun P1 P2 hP hN => ?_
  walk_at "dl"
  have last : ∀ (l : Addr) (s : Sl) (ns : List Str) (R3 : List Sl → Prop), ns.length < 64 → ns = z :: nms k r → (∀ e, tRetD (tSortTx (tVarD 1)) { nx := fun _ => Q (.d .none), rt := Q } e → R3 e) → R3 [.d (.tuple (.int c :: .int d :: .str k :: .str z :: r)), .ow l (ns.map .str), s] := fun l s ns R3 l64 en hR => hR _ (by
    walk_at "dl"
    exact ⟨ns, rfl, l64, fun ys nd mem so => h ys nd (by rw [← en]; exact mem) so⟩)
  by_cases ch : k = "held"
  · rw [if_pos (decide_eq_true ch)]
    subst ch
    cases hr with
    | @held f t rows n t0 t1 rk =>
      refine hP ?_
      walk_at "dl"
      refine ⟨by decide, hR _ (seqG fun R hR => ?_)⟩
      refine ifG fun P1 P2 hP hN => ?_
      walk_at "dl"
      rw [if_neg (by decide +kernel)]
      refine hN ?_
      exact last l _ [z, f] R (by simp) (by unfold nms; rw [if_pos rfl]) hR
    | plain hk => rcases hk with hk | hk | hk <;> exact absurd hk (by decide +kernel)
  rw [if_neg (by rw [decide_eq_false ch]; decide)]
  refine hN (hR _ (seqG fun R hR => ?_))
  refine ifG fun P1 P2 hP hN => ?_
  walk_at "dl"
  by_cases cm : k = "made"
  · rw [if_pos (decide_eq_true cm)]
    subst cm
    cases hr with
    | @made p q rows f f0 rk =>
      refine hP ?_
      walk_at "dl"
      unfold tLcD
      walk_at "dl"
      refine lc_map (fun x => .str (rowNm x)) (by have := rk.2.1; omega) ?_ fun x hx S hS => ?_
      · walk_at "dl"
        rw [made_col rk.2.2.1]
        have lr := rk.2.1
        refine ⟨by rw [List.length_map, List.length_map]; omega, fun l2 => ?_⟩
        exact last l2 _ (z :: rows.map rowNm) R (by rw [List.length_cons, List.length_map]; omega) (by unfold nms; rw [if_neg (by decide +kernel), if_pos rfl]) hR
      · obtain ⟨m, nm, j, rfl, _⟩ := rk.2.2.1 x hx
        walk_at "dl"
        exact hS
    | plain hk => rcases hk with hk | hk | hk <;> exact absurd hk (by decide +kernel)
  · rw [if_neg (by rw [decide_eq_false cm]; decide)]
    refine hN ?_
    exact last l _ [z] R (by simp) (by unfold nms; rw [if_neg ch, if_neg cm]) hR
section
variable {ts : List Addr} {P : Program} {w : World} {K : PySem.W.Frag} {mg : Str → Option Value} {base : Heap}
theorem ok__law_names_due {f : Addr} {fd : FuncData} (Fn : L2.Fun K "_law_names_due" "_law_names_due" s__law_names_due f fd) (z_sorted : mg "sorted" = none) (z_set : mg "set" = none) : Fg P w K mg base (L2.CX P w) 1 f (Pm K ts sp__law_names_due) := d_def Fn sc__law_names_due (fun _ _ _ _ _ _ us hl => match us, hl with | [_], _ => rfl) sp__law_names_due rd__law_names_due (fun cdv A outer s H E wn hcd ht ag hr => by
  have S := sc__law_names_due
  have hu := hr.units
  exact (dss_cons (ds_set (i := 1) S.nd rfl (by first | exact Or.inl rfl | exact Or.inr rfl) (d_lst (da_cons (d_ix (d_var 0) d_int) da_nil)))
    (dss_cons (ds_if (dt_cmp (o_eq hu) (d_ix (d_var 0) d_int) d_str) (dss_one (ds_app (i := 1) (pe_bm PySem.F.plainAttrs_list PySem.F.slot_list_append PySem.F.type_list_append mt_append (pv 1) (pa_cons (d_ix (d_var 0) d_int) pa_nil)))) dss_nil)
    (dss_cons (ds_if (dt_cmp (o_eq hu) (d_ix (d_var 0) d_int) d_str) (dss_one (ds_set (i := 1) S.nd rfl (by first | exact Or.inl rfl | exact Or.inr rfl) (d_bin o_add (d_var 1) (d_lc (own := [("_law_row", 2)]) rfl S.nd (di_list (d_ix (d_var 0) d_int)) (blkOk_by (N := N__law_names_due) (sc := defScope s__law_names_due) (by decide +kernel)) (tgt1 2) (fun _ _ _ _ _ => pg_name (i := 2) S.nd rfl (Or.inl rfl)) (fun _ _ _ _ _ => pts_nilD) (fun _ _ _ _ _ => (d_ix (d_var 2) d_int)))))) dss_nil)
    (dss_one (ds_ret (d_sortTx rfl (by rfl) z_sorted (by rfl) z_set (d_var 1)))))))) vc__law_names_due
end
/-! _law_copy -/
abbrev N__law_copy : List Str := ["_law_thing", "_law_one"]
theorem sc__law_copy : FnScope N__law_copy ["_law_thing"] (defScope s__law_copy) := ⟨rfl, rfl, rfl, by decide +kernel, rfl, by decide +kernel, by decide +kernel⟩
def cpT : PyData → DV
  | .list xs => .ft (.list xs)
  | .tuple xs => .ft (.tuple xs)
  | x => .d x
theorem tre_cp {x : PyData} (h : x.canLay0 = true) : tre (cpT x) = some x := by
  cases x with
  | dict kvs => simp [PyData.canLay0] at h
  | _ => first | rfl | simp [cpT, tre, noL]
def sp__law_copy : Nat → DSp
  | 0 => fun _ _ => False
  | m + 1 => fun us P => ∃ x, us = [.d x] ∧ x.depth ≤ m ∧ okC x = true ∧ x.canLay0 = true ∧ P (cpT x)
def rd__law_copy (m : Nat) : DS := (tSeqD (tIfD (tTru (tCallD (cIsi "list") (tConsD (tVarD 0) (tConsD (tRaw (.ty "list")) tNilD)))) (tRetD (tLcT (itLst (tVarD 0)) (gnD 1) (tUse (sp__law_copy m) (tConsD (tVarD 1) tNilD)) [1])) (fun d env => d.nx env))
    (tSeqD (tIfD (tTru (tCallD (cIsi "tuple") (tConsD (tVarD 0) (tConsD (tRaw (.ty "tuple")) tNilD)))) (tRetD (tTupT (tLcT (itTup (tVarD 0)) (gnD 1) (tUse (sp__law_copy m) (tConsD (tVarD 1) tNilD)) [1]))) (fun d env => d.nx env))
    (tRetVD 0)))
theorem okC_mem : ∀ {xs : List PyData} {x : PyData}, okCs xs = true → x ∈ xs → okC x = true
  | [], _, _, h => absurd h List.not_mem_nil
  | y :: ys, x, h, hx => by
    simp only [okCs, Bool.and_eq_true] at h
    rcases List.mem_cons.mp hx with rfl | hx
    · exact h.1
    · exact okC_mem h.2 hx
theorem lay_mem : ∀ {xs : List PyData} {x : PyData}, PyData.canLayAll0 xs = true → x ∈ xs → x.canLay0 = true
  | [], _, _, h => absurd h List.not_mem_nil
  | y :: ys, x, h, hx => by
    rw [PyData.canLayAll0, Bool.and_eq_true] at h
    rcases List.mem_cons.mp hx with rfl | hx
    · exact h.1
    · exact lay_mem h.2 hx
theorem depth_mem : ∀ {xs : List PyData} {x : PyData}, x ∈ xs → x.depth ≤ PyData.depthAll xs
  | [], _, h => absurd h List.not_mem_nil
  | y :: ys, x, hx => by
    simp only [PyData.depthAll]
    rcases List.mem_cons.mp hx with rfl | hx
    · omega
    · have := depth_mem hx
      omega
theorem copy_allT (m : Nat) : ∀ {xs acc : List PyData} {env : List Sl} {P : DV → Prop}, (∀ z ∈ xs, z.depth + 1 ≤ m ∧ okC z = true ∧ z.canLay0 = true) → acc.length + xs.length ≤ 5000 → (∃ s0 s1, env = [s0, s1]) → P (.ft (.list (acc ++ xs))) →
    lcT (gnD 1) (tUse (sp__law_copy m) (tConsD (tVarD 1) tNilD)) env xs acc P
  | [], acc, env, P, _, _, _, h => by
    rw [List.append_nil] at h
    exact h
  | x :: xs, acc, env, P, hx, hl, ⟨s0, s1, he⟩, h => by
    subst he
    obtain ⟨h1, h2, h3⟩ := hx x (List.mem_cons_self ..)
    obtain ⟨k, rfl⟩ : ∃ k, m = k + 1 := ⟨m - 1, by omega⟩
    unfold lcT
    walk_at "dl"
    refine ⟨x, rfl, by omega, h2, h3, ?_⟩
    have rest := copy_allT (k + 1) (xs := xs) (acc := acc ++ [x]) (env := [s0, s1]) (P := P) (fun z hz => hx z (List.mem_cons_of_mem _ hz)) (by rw [List.length_append, List.length_singleton]; rw [List.length_cons] at hl; omega) ⟨_, _, rfl⟩ (by rw [List.append_assoc]; exact h)
    rw [List.length_cons] at hl
    exact ⟨x, tre_cp h3, by omega, rest⟩
theorem vc__law_copy (m : Nat) : ∀ dvs Q, sp__law_copy (m + 1) dvs Q → dvs.length = 1 ∧ rd__law_copy m { nx := fun _ => Q (.d .none), rt := Q } (startD N__law_copy dvs) := by
  rintro dvs Q ⟨x, rfl, hd, hc, hy, h⟩
  refine ⟨rfl, ?_⟩
  unfold rd__law_copy
  cases x with
  | list xs =>
    simp only [okC, Bool.and_eq_true, decide_eq_true_eq] at hc
    simp only [PyData.depth] at hd
    rw [PyData.canLay0] at hy
    walk_at "dl"
    unfold tLcT
    walk_at "dl"
    exact copy_allT m (fun z hz => ⟨by have := depth_mem hz; omega, okC_mem hc.2 hz, lay_mem hy hz⟩) (by simpa using hc.1) ⟨_, _, rfl⟩ h
  | tuple xs =>
    simp only [okC, Bool.and_eq_true, decide_eq_true_eq] at hc
    simp only [PyData.depth] at hd
    rw [PyData.canLay0] at hy
    walk_at "dl"
    unfold tLcT
    walk_at "dl"
    exact copy_allT m (fun z hz => ⟨by have := depth_mem hz; omega, okC_mem hc.2 hz, lay_mem hy hz⟩) (by simpa using hc.1) ⟨_, _, rfl⟩ h
  | _ => walk_at "dl"; exact h
section
variable {ts : List Addr} {P : Program} {w : World} {K : PySem.W.Frag} {mg : Str → Option Value} {base : Heap}
theorem ok__law_copy {f : Addr} {fd : FuncData} (Fn : L2.Fun K "_law_copy" "_law_copy" s__law_copy f fd) (m__law_copy : mg "_law_copy" = some (.ref f)) (p__law_copy : PySem.W.keepIn K (.ref f) = true) (z_isinstance : mg "isinstance" = none) (z_list : mg "list" = none) (z_tuple : mg "tuple" = none) : ∀ m : Nat, Fg P w K mg base (L2.CX P w) (1 + m) f (Pm K ts (sp__law_copy m)) := by
  intro m
  induction m with
  | zero => exact fun A outer s H us vs Q E _ _ _ _ ⟨_, _, _, _, _, _, _, h, _⟩ => h.elim
  | succ m g__law_copy => exact show Fg P w K mg base (L2.CX P w) (1 + m + 1) f _ from d_def Fn sc__law_copy (fun _ _ _ _ _ _ us hl => match us, hl with | [_], _ => rfl) (sp__law_copy (m + 1)) (rd__law_copy m) (fun cdv A outer s H E wn hcd ht ag hr => by
  have S := sc__law_copy
  have hu := hr.units
  exact (dss_cons (ds_if (dt_e (d_callB (k_isi (n := "list") (by simp)) (by rfl) z_isinstance (by decide +kernel) (da_cons (d_var 0) (da_cons (d_ty (by rfl) z_list (by decide +kernel)) da_nil)))) (dss_one (ds_ret (d_lcT (own := [("_law_one", 1)]) rfl S.nd (di_list (d_var 0)) (blkOk_by (N := N__law_copy) (sc := defScope s__law_copy) (by decide +kernel)) (tgt1 1) (fun _ _ _ _ _ => pg_name (i := 1) S.nd rfl (Or.inl rfl)) (fun _ _ _ _ _ => (d_use g__law_copy ht ag (hr.mono (by omega)) passZ (by rfl) m__law_copy p__law_copy (da_cons (d_var 1) da_nil)))))) dss_nil)
    (dss_cons (ds_if (dt_e (d_callB (k_isi (n := "tuple") (by simp)) (by rfl) z_isinstance (by decide +kernel) (da_cons (d_var 0) (da_cons (d_ty (by rfl) z_tuple (by decide +kernel)) da_nil)))) (dss_one (ds_ret (d_tupT (by rfl) z_tuple (d_lcT (own := [("_law_one", 1)]) rfl S.nd (di_tup (d_var 0)) (blkOk_by (N := N__law_copy) (sc := defScope s__law_copy) (by decide +kernel)) (tgt1 1) (fun _ _ _ _ _ => pg_name (i := 1) S.nd rfl (Or.inl rfl)) (fun _ _ _ _ _ => (d_use g__law_copy ht ag (hr.mono (by omega)) passZ (by rfl) m__law_copy p__law_copy (da_cons (d_var 1) da_nil))))))) dss_nil)
    (dss_one (ds_retV 0))))) (vc__law_copy m)
end
/-! parts_of -/
abbrev N_parts_of : List Str := ["paper"]
theorem sc_parts_of : FnScope N_parts_of ["paper"] (defScope s_parts_of) := ⟨rfl, rfl, rfl, by decide +kernel, rfl, by decide +kernel, by decide +kernel⟩
def rd_parts_of : DS := (tRetD (tBin gAdd (tTupD (tConsD (tCD (.str "key")) (tConsD (tCD (.str "day")) (tConsD (tCD (.str "kind")) tNilD)))) (tItK [("thing", (.tuple [(.str "name"), (.str "sort"), (.str "level"), (.str "rate"), (.str "marks")])), ("off", (.tuple [(.str "name")])), ("harmed", (.tuple [(.str "name")])), ("mended", (.tuple [(.str "name")])), ("made", (.tuple [(.str "name"), (.str "rate"), (.str "rows")])), ("told", (.tuple [(.str "name"), (.str "term"), (.str "rows")])), ("held", (.tuple [(.str "name"), (.str "finer"), (.str "term"), (.str "rows")])), ("read", (.tuple [(.str "name"), (.str "spot")]))] (tBin gIx (tVarD 0) (tCD (.int 2))))))
def sp_parts_of : DSp := fun us P => ∃ (c d : PyData) (k : Str) (r : List PyData) (ps : List Str), us = [.d (.tuple (c :: d :: .str k :: r))] ∧ (k, ps) ∈ partsL ∧ P (.d (.tuple (((["key", "day", "kind"] : List Str) ++ ps).map PyData.str)))
theorem vc_parts_of : ∀ dvs Q, sp_parts_of dvs Q → dvs.length = 1 ∧ rd_parts_of { nx := fun _ => Q (.d .none), rt := Q } (startD N_parts_of dvs) := by
  rintro dvs Q ⟨c, d, k, r, ps, rfl, hk, h⟩
  refine ⟨rfl, ?_⟩
  unfold rd_parts_of
  walk_at "dl"
  refine ⟨by decide, k, .tuple (ps.map PyData.str), rfl, ?_, ?_⟩
  · have g : ∀ k ps, (k, ps) ∈ partsL → List.lookup k (partsL.map fun p => (p.1, PyData.tuple (p.2.map PyData.str))) = some (.tuple (ps.map PyData.str)) := by
      intro k ps hk
      simp only [partsL, List.mem_cons, List.not_mem_nil, or_false, Prod.mk.injEq] at hk
      rcases hk with ⟨rfl, rfl⟩ | ⟨rfl, rfl⟩ | ⟨rfl, rfl⟩ | ⟨rfl, rfl⟩ | ⟨rfl, rfl⟩ | ⟨rfl, rfl⟩ | ⟨rfl, rfl⟩ | ⟨rfl, rfl⟩ <;> rfl
    exact g k ps hk
  · have l : ps.length ≤ 10 := by
      simp only [partsL, List.mem_cons, List.not_mem_nil, or_false, Prod.mk.injEq] at hk
      rcases hk with ⟨rfl, rfl⟩ | ⟨rfl, rfl⟩ | ⟨rfl, rfl⟩ | ⟨rfl, rfl⟩ | ⟨rfl, rfl⟩ | ⟨rfl, rfl⟩ | ⟨rfl, rfl⟩ | ⟨rfl, rfl⟩ <;> decide
    refine ⟨List.cons_ne_nil _ _, ?_, ?_⟩
    · rw [List.length_map]
      show 3 + _ ≤ _
      omega
    · rw [List.map_append] at h
      exact h
section
variable {ts : List Addr} {P : Program} {w : World} {K : PySem.W.Frag} {mg : Str → Option Value} {base : Heap}
theorem ok_parts_of {f : Addr} {fd : FuncData} (Fn : L2.Fun K "parts_of" "parts_of" s_parts_of f fd) {d_PARTS : Addr} (c_PARTS : mg "PARTS" = some (.ref d_PARTS)) (kd_PARTS : KCon K w d_PARTS [("thing", (.tuple [(.str "name"), (.str "sort"), (.str "level"), (.str "rate"), (.str "marks")])), ("off", (.tuple [(.str "name")])), ("harmed", (.tuple [(.str "name")])), ("mended", (.tuple [(.str "name")])), ("made", (.tuple [(.str "name"), (.str "rate"), (.str "rows")])), ("told", (.tuple [(.str "name"), (.str "term"), (.str "rows")])), ("held", (.tuple [(.str "name"), (.str "finer"), (.str "term"), (.str "rows")])), ("read", (.tuple [(.str "name"), (.str "spot")]))]) (kl_PARTS : KLst K w d_PARTS ["thing", "off", "harmed", "mended", "made", "told", "held", "read"]) {t_KIND_AT : Tok} (c_KIND_AT : mg "KIND_AT" = some (.int 2 t_KIND_AT)) : Fg P w K mg base (L2.CX P w) 1 f (Pm K ts sp_parts_of) := d_def Fn sc_parts_of (fun _ _ _ _ _ _ us hl => match us, hl with | [_], _ => rfl) sp_parts_of rd_parts_of (fun cdv A outer s H E wn hcd ht ag hr => by
  have S := sc_parts_of
  have hu := hr.units
  exact (dss_one (ds_ret (d_bin o_add (d_tup (da_cons d_str (da_cons d_str (da_cons d_str da_nil)))) (d_itK kd_PARTS (by rfl) c_PARTS (d_ix (d_var 0) (d_globI (by rfl) c_KIND_AT))))))) vc_parts_of
end
/-! elders_in -/
abbrev N_elders_in : List Str := ["paper", "row"]
theorem sc_elders_in : FnScope N_elders_in ["paper"] (defScope s_elders_in) := ⟨rfl, rfl, rfl, by decide +kernel, rfl, by decide +kernel, by decide +kernel⟩
def rd_elders_in : DS := (tSeqD (tIfD (tTst (tBin (gEqv not) (tBin gIx (tVarD 0) (tCD (.int 2))) (tCD (.str "made")))) (tRetD (tLstD tNilD)) (fun d env => d.nx env))
    (tRetD (tLcD (itLst (tBin gIx (tVarD 0) (tCD (.int (-1))))) (gnD 1) (fun _ P => P true) (tBin gIx (tVarD 1) (tCD (.int 1))) [1])))
def sp_elders_in : DSp := fun us P => ∃ (c d : PyData) (k z : Str) (r : List PyData), us = [.d (.tuple (c :: d :: .str k :: .str z :: r))] ∧ Prt k r ∧ (k ≠ "made" → P (.fr [])) ∧ (k = "made" → P (.fr ((nms "made" r).map .str)))
theorem nms_made {p : PyData} {rows : List PyData} : nms "made" [p, .list rows] = rows.map rowNm := by
  unfold nms
  rw [if_neg (by decide +kernel), if_pos rfl]
theorem vc_elders_in : ∀ dvs Q, sp_elders_in dvs Q → dvs.length = 1 ∧ rd_elders_in { nx := fun _ => Q (.d .none), rt := Q } (startD N_elders_in dvs) := by
  rintro dvs Q ⟨c, d, k, z, r, rfl, hr, h1, h2⟩
  refine ⟨rfl, ?_⟩
  unfold rd_elders_in
  refine seqG fun R hR => ?_
  refine ifG fun P1 P2 hP hN => ?_
  walk_at "dl"
  by_cases ck : k = "made"
  · rw [if_neg (by rw [decide_eq_true ck]; decide)]
    subst ck
    have h2 := h2 rfl
    cases hr with
    | @made p q rows f f0 rk =>
      refine hN (hR _ ?_)
      walk_at "dl"
      unfold tLcD
      walk_at "dl"
      refine ix_last (xs := [_, _, _, _, _, .list rows]) rfl ?_
      walk_at "dl"
      refine lc_map (fun x => .str (rowNm x)) (by have := rk.2.1; omega) ?_ fun x hx S hS => ?_
      · walk_at "dl"
        rw [made_col rk.2.2.1, ← nms_made (p := .tuple [.int p, .int q])]
        exact h2
      · obtain ⟨m, nm, j, rfl, _⟩ := rk.2.2.1 x hx
        walk_at "dl"
        exact hS
    | plain hk => rcases hk with hk | hk | hk <;> exact absurd hk (by decide +kernel)
  · rw [if_pos (by rw [decide_eq_false ck]; rfl)]
    refine hP ?_
    walk_at "dl"
    exact ⟨by decide, h1 ck⟩
section
variable {ts : List Addr} {P : Program} {w : World} {K : PySem.W.Frag} {mg : Str → Option Value} {base : Heap}
theorem ok_elders_in {f : Addr} {fd : FuncData} (Fn : L2.Fun K "elders_in" "elders_in" s_elders_in f fd) {t_KIND_AT : Tok} (c_KIND_AT : mg "KIND_AT" = some (.int 2 t_KIND_AT)) {t_ROWS_AT : Tok} (c_ROWS_AT : mg "ROWS_AT" = some (.int (-1) t_ROWS_AT)) : Fg P w K mg base (L2.CX P w) 1 f (Pm K ts sp_elders_in) := d_def Fn sc_elders_in (fun _ _ _ _ _ _ us hl => match us, hl with | [_], _ => rfl) sp_elders_in rd_elders_in (fun cdv A outer s H E wn hcd ht ag hr => by
  have S := sc_elders_in
  have hu := hr.units
  exact (dss_cons (ds_if (dt_cmp (o_ne hu) (d_ix (d_var 0) (d_globI (by rfl) c_KIND_AT)) d_str) (dss_one (ds_ret (d_lst da_nil))) dss_nil)
    (dss_one (ds_ret (d_lc (own := [("row", 1)]) rfl S.nd (di_list (d_ix (d_var 0) (d_globI (by rfl) c_ROWS_AT))) (blkOk_by (N := N_elders_in) (sc := defScope s_elders_in) (by decide +kernel)) (tgt1 1) (fun _ _ _ _ _ => pg_name (i := 1) S.nd rfl (Or.inl rfl)) (fun _ _ _ _ _ => pts_nilD) (fun _ _ _ _ _ => (d_ix (d_var 1) d_int))))))) vc_elders_in
end
/-! names_in -/
abbrev N_names_in : List Str := ["paper", "names", "part", "worth"]
theorem sc_names_in : FnScope N_names_in ["paper"] (defScope s_names_in) := ⟨rfl, rfl, rfl, by decide +kernel, rfl, by decide +kernel, by decide +kernel⟩
def rd_names_in : DS := (tSeqD (tSetD 1 (tLcD (itZipT (tConsD (tUse sp_parts_of (tConsD (tVarD 0) tNilD)) (tConsD (tVarD 0) tNilD))) (gtD 2 (gconsD (gnD 2) (gconsD (gnD 3) gnilD))) (tTst (tBin gMem (tVarD 2) (tTupD (tConsD (tCD (.str "name")) (tConsD (tCD (.str "finer")) tNilD))))) (tVarD 3) [2, 3]))
    (tRetD (tSortTx (tBin gAdd (tVarD 1) (tUse sp_elders_in (tConsD (tVarD 0) tNilD))))))
/-- the named worths of a paper -/
def pick : List Str → List PyData → List PyData
  | p :: ps, x :: xs => if p = "name" ∨ p = "finer" then x :: pick ps xs else pick ps xs
  | _, _ => []
theorem nm_in {w : Str} : inV (toV (.str w)) ([PyData.str "name", .str "finer"].map toV) = decide (w = "name" ∨ w = "finer") := by
  show ((("name" : Str) == w) || ((("finer" : Str) == w) || false)) = _
  rw [Bool.or_false, Bool.decide_or]
  congr 1 <;> exact decide_eq_decide.mpr eq_comm
theorem pick_lc {s0 s1 : Sl} : ∀ {ps : List Str} {xs acc : List PyData} {P : DV → Prop}, acc.length + ps.length ≤ 1000 → P (.fr (acc ++ pick ps xs)) →
    lcD (gtD 2 (gconsD (gnD 2) (gconsD (gnD 3) gnilD))) (tTst (tBin gMem (tVarD 2) (tTupD (tConsD (tCD (.str "name")) (tConsD (tCD (.str "finer")) tNilD))))) (tVarD 3) [s0, s1, .un, .un] (zipD (ps.map .str) xs) acc P
  | [], xs, acc, P, _, h => by
    unfold pick at h
    rw [List.append_nil] at h
    exact h
  | p :: ps, [], acc, P, _, h => by
    unfold pick at h
    rw [List.append_nil] at h
    exact h
  | p :: ps, x :: xs, acc, P, hl, h => by
    rw [List.length_cons] at hl
    show lcD _ _ _ _ (.tuple [.str p, x] :: zipD (ps.map .str) xs) acc P
    unfold lcD
    walk_at "dl"
    refine ⟨by decide, rfl, rfl, ?_⟩
    show (if inV (toV (.str p)) ([PyData.str "name", .str "finer"].map toV) = true then _ else _)
    rw [nm_in]
    unfold pick at h
    by_cases c : p = "name" ∨ p = "finer"
    · rw [if_pos (decide_eq_true c)]
      rw [if_pos c] at h
      refine ⟨by omega, pick_lc (by rw [List.length_append, List.length_singleton]; omega) ?_⟩
      rw [List.append_assoc]
      exact h
    · rw [if_neg (by rw [decide_eq_false c]; decide)]
      rw [if_neg c] at h
      exact pick_lc (by omega) h
def sp_names_in : DSp := sp__law_names_due
theorem vc_names_in : ∀ dvs Q, sp_names_in dvs Q → dvs.length = 1 ∧ rd_names_in { nx := fun _ => Q (.d .none), rt := Q } (startD N_names_in dvs) := by
  rintro dvs Q ⟨c, d, k, z, r, rfl, hr, h⟩
  refine ⟨rfl, ?_⟩
  unfold rd_names_in
  have main : ∀ (ps : List Str) (ns : List Str), (k, ps) ∈ partsL → ps.length ≤ 5 → pick ((["key", "day", "kind"] : List Str) ++ ps) (.int c :: .int d :: .str k :: .str z :: r) = ns.map .str → ns.length ≤ 3 → (∀ j, j ∈ ns ++ (if k = "made" then nms "made" r else []) ↔ j ∈ z :: nms k r) → (k = "made" → (nms "made" r).length ≤ 8) → rd_names_in { nx := fun _ => Q (.d .none), rt := Q } (startD N_names_in [.d (.tuple (.int c :: .int d :: .str k :: .str z :: r))]) := by
    intro ps ns hp pl hpk nl hm ml
    unfold rd_names_in
    refine seqG fun R hR => ?_
    walk_at "dl"
    unfold tLcD
    walk_at "dl"
    refine ⟨_, _, k, _, ps, rfl, hp, ?_⟩
    walk_at "dl"
    refine pick_lc (ps := ("key" : Str) :: ("day" : Str) :: ("kind" : Str) :: ps) ?_ ?_
    · simp only [List.length_nil, List.length_cons]
      omega
    have hpk2 : pick (("key" : Str) :: ("day" : Str) :: ("kind" : Str) :: ps) (.int c :: .int d :: .str k :: .str z :: r) = ns.map .str := hpk
    rw [List.nil_append, hpk2]
    walk_at "dl"
    refine fun l => hR _ ?_
    walk_at "dl"
    refine ⟨_, _, k, z, r, rfl, hr, fun ck => ?_, fun ck => ?_⟩
    · rw [if_neg ck, List.append_nil] at hm
      walk_at "dl"
      refine ⟨by rw [List.length_map]; omega, ns, rfl, by omega, fun ys nd mem so => h ys nd (fun j => (mem j).trans (hm j)) so⟩
    · rw [if_pos ck] at hm
      have ml := ml ck
      walk_at "dl"
      refine ⟨by rw [List.length_map, List.length_map]; omega, ns ++ nms "made" r, by rw [List.map_append], by rw [List.length_append]; omega, fun ys nd mem so => h ys nd (fun j => (mem j).trans (hm j)) so⟩
  have out : ∀ {a b : Str}, decide (a = b) = false → a ≠ b := fun h => of_decide_eq_false h
  cases hr with
  | @thing so lv p q ms hs l0 l1 f f0 ml mi mr =>
    refine main ["name", "sort", "level", "rate", "marks"] [z] (by decide +kernel) (by decide) ?_ (by simp) ?_ (fun e => absurd e (by decide +kernel))
    · rfl
    · rw [if_neg (by decide +kernel), List.append_nil]
      unfold nms
      rw [if_neg (by decide +kernel), if_neg (by decide +kernel)]
      exact fun _ => Iff.rfl
  | @told t rows t0 t1 rk =>
    refine main ["name", "term", "rows"] [z] (by decide +kernel) (by decide) ?_ (by simp) ?_ (fun e => absurd e (by decide +kernel))
    · rfl
    · rw [if_neg (by decide +kernel), List.append_nil]
      unfold nms
      rw [if_neg (by decide +kernel), if_neg (by decide +kernel)]
      exact fun _ => Iff.rfl
  | @held f t rows n t0 t1 rk =>
    refine main ["name", "finer", "term", "rows"] [z, f] (by decide +kernel) (by decide) ?_ (by simp) ?_ (fun e => absurd e (by decide +kernel))
    · rfl
    · rw [if_neg (by decide +kernel), List.append_nil]
      unfold nms
      rw [if_pos rfl]
      exact fun _ => Iff.rfl
  | @made p q rows f f0 rk =>
    refine main ["name", "rate", "rows"] [z] (by decide +kernel) (by decide) ?_ (by simp) ?_ (fun _ => by rw [nms_made, List.length_map]; exact rk.2.1)
    · rfl
    · rw [if_pos rfl]
      exact fun _ => Iff.rfl
  | @read ps s =>
    refine main ["name", "spot"] [z] (by decide +kernel) (by decide) ?_ (by simp) ?_ (fun e => absurd e (by decide +kernel))
    · rfl
    · rw [if_neg (by decide +kernel), List.append_nil]
      unfold nms
      rw [if_neg (by decide +kernel), if_neg (by decide +kernel)]
      exact fun _ => Iff.rfl
  | plain hk =>
    rcases hk with rfl | rfl | rfl
    · refine main ["name"] [z] (by decide +kernel) (by decide) rfl (by simp) ?_ (fun e => absurd e (by decide +kernel))
      rw [if_neg (by decide +kernel), List.append_nil]
      unfold nms
      rw [if_neg (by decide +kernel), if_neg (by decide +kernel)]
      exact fun _ => Iff.rfl
    · refine main ["name"] [z] (by decide +kernel) (by decide) rfl (by simp) ?_ (fun e => absurd e (by decide +kernel))
      rw [if_neg (by decide +kernel), List.append_nil]
      unfold nms
      rw [if_neg (by decide +kernel), if_neg (by decide +kernel)]
      exact fun _ => Iff.rfl
    · refine main ["name"] [z] (by decide +kernel) (by decide) rfl (by simp) ?_ (fun e => absurd e (by decide +kernel))
      rw [if_neg (by decide +kernel), List.append_nil]
      unfold nms
      rw [if_neg (by decide +kernel), if_neg (by decide +kernel)]
      exact fun _ => Iff.rfl
section
variable {ts : List Addr} {P : Program} {w : World} {K : PySem.W.Frag} {mg : Str → Option Value} {base : Heap}
theorem ok_names_in {f : Addr} {fd : FuncData} (Fn : L2.Fun K "names_in" "names_in" s_names_in f fd) {f_parts_of : Addr} (g_parts_of : Fg P w K mg base (L2.CX P w) 1 f_parts_of (Pm K ts sp_parts_of)) (m_parts_of : mg "parts_of" = some (.ref f_parts_of)) (p_parts_of : PySem.W.keepIn K (.ref f_parts_of) = true) {f_elders_in : Addr} (g_elders_in : Fg P w K mg base (L2.CX P w) 1 f_elders_in (Pm K ts sp_elders_in)) (m_elders_in : mg "elders_in" = some (.ref f_elders_in)) (p_elders_in : PySem.W.keepIn K (.ref f_elders_in) = true) (z_zip : mg "zip" = none) (z_sorted : mg "sorted" = none) (z_set : mg "set" = none) : Fg P w K mg base (L2.CX P w) 2 f (Pm K ts sp_names_in) := d_def Fn sc_names_in (fun _ _ _ _ _ _ us hl => match us, hl with | [_], _ => rfl) sp_names_in rd_names_in (fun cdv A outer s H E wn hcd ht ag hr => by
  have S := sc_names_in
  have hu := hr.units
  exact (dss_cons (ds_setLc (i := 1) (vs := [2, 3]) (tgt2 2 3 (by decide)) (ps_setLc (i := 1) (own := [("part", 2), ("worth", 3)]) rfl S.nd rfl rfl (sw_true rfl rfl rfl (by decide +kernel)) (di_zipT (by rfl) z_zip (da_cons (d_use g_parts_of ht ag (hr.mono (by decide)) passZ (by rfl) m_parts_of p_parts_of (da_cons (d_var 0) da_nil)) (da_cons (d_var 0) da_nil))) (blkOk_by (N := N_names_in) (sc := defScope s_names_in) (by decide +kernel)) (fun _ _ _ _ _ => pg_tup rfl (pgs_cons (pg_name (i := 2) S.nd rfl (Or.inl rfl)) (pgs_cons (pg_name (i := 3) S.nd rfl (Or.inl rfl)) pgs_nil))) (fun _ _ _ _ _ => pts_oneD (dt_cmp o_in (d_var 2) (d_tup (da_cons d_str (da_cons d_str da_nil))))) (fun _ _ _ _ _ => (d_var 3))))
    (dss_one (ds_ret (d_sortTx rfl (by rfl) z_sorted (by rfl) z_set (d_bin o_add (d_var 1) (d_use g_elders_in ht ag (hr.mono (by decide)) passZ (by rfl) m_elders_in p_elders_in (da_cons (d_var 0) da_nil)))))))) vc_names_in
end
/-! _law_alike -/
abbrev N__law_alike : List Str := ["_law_found", "_law_due"]
theorem sc__law_alike : FnScope N__law_alike ["_law_found", "_law_due"] (defScope s__law_alike) := ⟨rfl, rfl, rfl, by decide +kernel, rfl, by decide +kernel, by decide +kernel⟩
def rd__law_alike : DS := (tRetD (tAnV (tBin (gEqv id) (tVarD 0) (tVarD 1)) (tBin (gEqv id) (tCallD cRepr (tConsD (tVarD 0) tNilD)) (tCallD cRepr (tConsD (tVarD 1) tNilD)))))
def sp__law_alike : DSp := fun us P => ∃ x, us = [.d x, .d x] ∧ selfEq x ∧ Sh x ∧ P (.d (.bool true))
theorem vc__law_alike : ∀ dvs Q, sp__law_alike dvs Q → dvs.length = 2 ∧ rd__law_alike { nx := fun _ => Q (.d .none), rt := Q } (startD N__law_alike dvs) := by
  rintro dvs Q ⟨x, rfl, hs, sh, h⟩
  refine ⟨rfl, ?_⟩
  have e : ∀ P : DV → Prop, P (.d (.bool true)) → gEqv id x x P := fun P q => gEqv_self hs q
  unfold rd__law_alike
  generalize hg : gEqv id = g at *
  walk_at "dl"
  refine e _ ?_
  walk_at "dl"
  refine ⟨sh, sh, ?_⟩
  subst hg
  walk_at "dl"
  exact h
section
variable {ts : List Addr} {P : Program} {w : World} {K : PySem.W.Frag} {mg : Str → Option Value} {base : Heap}
theorem ok__law_alike {f : Addr} {fd : FuncData} (Fn : L2.Fun K "_law_alike" "_law_alike" s__law_alike f fd) (z_repr : mg "repr" = none) : Fg P w K mg base (L2.CX P w) 1 f (Pm K ts sp__law_alike) := d_def Fn sc__law_alike (fun _ _ _ _ _ _ us hl => match us, hl with | [_, _], _ => rfl) sp__law_alike rd__law_alike (fun cdv A outer s H E wn hcd ht ag hr => by
  have S := sc__law_alike
  have hu := hr.units
  exact (dss_one (ds_ret (d_and (d_cmp (o_eq hu) (d_var 0) (d_var 1)) (d_one (d_cmp (o_eq hu) (d_callB (k_repr ag hu) (by rfl) z_repr (by decide +kernel) (da_cons (d_var 0) da_nil)) (d_callB (k_repr ag hu) (by rfl) z_repr (by decide +kernel) (da_cons (d_var 1) da_nil)))))))) vc__law_alike
end
/-! copied_part -/
abbrev N_copied_part : List Str := ["worth", "inner"]
theorem sc_copied_part : FnScope N_copied_part ["worth"] (defScope s_copied_part) := ⟨rfl, rfl, rfl, by decide +kernel, rfl, by decide +kernel, by decide +kernel⟩
def sp_copied_part : Nat → DSp
  | 0 => fun _ _ => False
  | m + 1 => fun us P => ∃ x, us = [.d x] ∧ x.depth ≤ m ∧ okC x = true ∧ x.canLay0 = true ∧ P (cpT x)
def rd_copied_part (m : Nat) : DS := (tSeqD (tIfD (tTru (tCallD (cIsi "list") (tConsD (tVarD 0) (tConsD (tRaw (.ty "list")) tNilD)))) (tRetD (tLcT (itLst (tVarD 0)) (gnD 1) (tUse (sp_copied_part m) (tConsD (tVarD 1) tNilD)) [1])) (fun d env => d.nx env))
    (tSeqD (tIfD (tTru (tCallD (cIsi "tuple") (tConsD (tVarD 0) (tConsD (tRaw (.ty "tuple")) tNilD)))) (tRetD (tTupT (tLcT (itTup (tVarD 0)) (gnD 1) (tUse (sp_copied_part m) (tConsD (tVarD 1) tNilD)) [1]))) (fun d env => d.nx env))
    (tRetVD 0)))
theorem copied_allT (m : Nat) : ∀ {xs acc : List PyData} {env : List Sl} {P : DV → Prop}, (∀ z ∈ xs, z.depth + 1 ≤ m ∧ okC z = true ∧ z.canLay0 = true) → acc.length + xs.length ≤ 5000 → (∃ s0 s1, env = [s0, s1]) → P (.ft (.list (acc ++ xs))) →
    lcT (gnD 1) (tUse (sp_copied_part m) (tConsD (tVarD 1) tNilD)) env xs acc P
  | [], acc, env, P, _, _, _, h => by
    rw [List.append_nil] at h
    exact h
  | x :: xs, acc, env, P, hx, hl, ⟨s0, s1, he⟩, h => by
    subst he
    obtain ⟨h1, h2, h3⟩ := hx x (List.mem_cons_self ..)
    obtain ⟨k, rfl⟩ : ∃ k, m = k + 1 := ⟨m - 1, by omega⟩
    unfold lcT
    walk_at "dl"
    refine ⟨x, rfl, by omega, h2, h3, ?_⟩
    have rest := copied_allT (k + 1) (xs := xs) (acc := acc ++ [x]) (env := [s0, s1]) (P := P) (fun z hz => hx z (List.mem_cons_of_mem _ hz)) (by rw [List.length_append, List.length_singleton]; rw [List.length_cons] at hl; omega) ⟨_, _, rfl⟩ (by rw [List.append_assoc]; exact h)
    rw [List.length_cons] at hl
    exact ⟨x, tre_cp h3, by omega, rest⟩
theorem vc_copied_part (m : Nat) : ∀ dvs Q, sp_copied_part (m + 1) dvs Q → dvs.length = 1 ∧ rd_copied_part m { nx := fun _ => Q (.d .none), rt := Q } (startD N_copied_part dvs) := by
  rintro dvs Q ⟨x, rfl, hd, hc, hy, h⟩
  refine ⟨rfl, ?_⟩
  unfold rd_copied_part
  cases x with
  | list xs =>
    simp only [okC, Bool.and_eq_true, decide_eq_true_eq] at hc
    simp only [PyData.depth] at hd
    rw [PyData.canLay0] at hy
    walk_at "dl"
    unfold tLcT
    walk_at "dl"
    exact copied_allT m (fun z hz => ⟨by have := depth_mem hz; omega, okC_mem hc.2 hz, lay_mem hy hz⟩) (by simpa using hc.1) ⟨_, _, rfl⟩ h
  | tuple xs =>
    simp only [okC, Bool.and_eq_true, decide_eq_true_eq] at hc
    simp only [PyData.depth] at hd
    rw [PyData.canLay0] at hy
    walk_at "dl"
    unfold tLcT
    walk_at "dl"
    exact copied_allT m (fun z hz => ⟨by have := depth_mem hz; omega, okC_mem hc.2 hz, lay_mem hy hz⟩) (by simpa using hc.1) ⟨_, _, rfl⟩ h
  | _ => walk_at "dl"; exact h
section
variable {ts : List Addr} {P : Program} {w : World} {K : PySem.W.Frag} {mg : Str → Option Value} {base : Heap}
theorem ok_copied_part {f : Addr} {fd : FuncData} (Fn : L2.Fun K "copied_part" "copied_part" s_copied_part f fd) (m_copied_part : mg "copied_part" = some (.ref f)) (p_copied_part : PySem.W.keepIn K (.ref f) = true) (z_isinstance : mg "isinstance" = none) (z_list : mg "list" = none) (z_tuple : mg "tuple" = none) : ∀ m : Nat, Fg P w K mg base (L2.CX P w) (1 + m) f (Pm K ts (sp_copied_part m)) := by
  intro m
  induction m with
  | zero => exact fun A outer s H us vs Q E _ _ _ _ ⟨_, _, _, _, _, _, _, h, _⟩ => h.elim
  | succ m g_copied_part => exact show Fg P w K mg base (L2.CX P w) (1 + m + 1) f _ from d_def Fn sc_copied_part (fun _ _ _ _ _ _ us hl => match us, hl with | [_], _ => rfl) (sp_copied_part (m + 1)) (rd_copied_part m) (fun cdv A outer s H E wn hcd ht ag hr => by
  have S := sc_copied_part
  have hu := hr.units
  exact (dss_cons (ds_if (dt_e (d_callB (k_isi (n := "list") (by simp)) (by rfl) z_isinstance (by decide +kernel) (da_cons (d_var 0) (da_cons (d_ty (by rfl) z_list (by decide +kernel)) da_nil)))) (dss_one (ds_ret (d_lcT (own := [("inner", 1)]) rfl S.nd (di_list (d_var 0)) (blkOk_by (N := N_copied_part) (sc := defScope s_copied_part) (by decide +kernel)) (tgt1 1) (fun _ _ _ _ _ => pg_name (i := 1) S.nd rfl (Or.inl rfl)) (fun _ _ _ _ _ => (d_use g_copied_part ht ag (hr.mono (by omega)) passZ (by rfl) m_copied_part p_copied_part (da_cons (d_var 1) da_nil)))))) dss_nil)
    (dss_cons (ds_if (dt_e (d_callB (k_isi (n := "tuple") (by simp)) (by rfl) z_isinstance (by decide +kernel) (da_cons (d_var 0) (da_cons (d_ty (by rfl) z_tuple (by decide +kernel)) da_nil)))) (dss_one (ds_ret (d_tupT (by rfl) z_tuple (d_lcT (own := [("inner", 1)]) rfl S.nd (di_tup (d_var 0)) (blkOk_by (N := N_copied_part) (sc := defScope s_copied_part) (by decide +kernel)) (tgt1 1) (fun _ _ _ _ _ => pg_name (i := 1) S.nd rfl (Or.inl rfl)) (fun _ _ _ _ _ => (d_use g_copied_part ht ag (hr.mono (by omega)) passZ (by rfl) m_copied_part p_copied_part (da_cons (d_var 1) da_nil))))))) dss_nil)
    (dss_one (ds_retV 0))))) (vc_copied_part m)
end
/-! copy_of -/
abbrev N_copy_of : List Str := ["paper", "worth"]
theorem sc_copy_of : FnScope N_copy_of ["paper"] (defScope s_copy_of) := ⟨rfl, rfl, rfl, by decide +kernel, rfl, by decide +kernel, by decide +kernel⟩
def rd_copy_of : DS := (tRetD (tTupT (tLcT (itTup (tVarD 0)) (gnD 1) (tUse (sp_copied_part 8) (tConsD (tVarD 1) tNilD)) [1])))
def sp_copy_of : DSp := fun us P => ∃ xs, us = [.d (.tuple xs)] ∧ (PyData.tuple xs).depth ≤ 8 ∧ okC (.tuple xs) = true ∧ (PyData.tuple xs).canLay0 = true ∧ P (.ft (.tuple xs))
theorem vc_copy_of : ∀ dvs Q, sp_copy_of dvs Q → dvs.length = 1 ∧ rd_copy_of { nx := fun _ => Q (.d .none), rt := Q } (startD N_copy_of dvs) := by
  rintro dvs Q ⟨xs, rfl, hd, hc, hy, h⟩
  refine ⟨rfl, ?_⟩
  unfold rd_copy_of
  simp only [okC, Bool.and_eq_true, decide_eq_true_eq] at hc
  simp only [PyData.depth] at hd
  rw [PyData.canLay0] at hy
  walk_at "dl"
  unfold tLcT
  walk_at "dl"
  exact copied_allT 8 (fun z hz => ⟨by have := depth_mem hz; omega, okC_mem hc.2 hz, lay_mem hy hz⟩) (by simpa using hc.1) ⟨_, _, rfl⟩ h
section
variable {ts : List Addr} {P : Program} {w : World} {K : PySem.W.Frag} {mg : Str → Option Value} {base : Heap}
theorem ok_copy_of {f : Addr} {fd : FuncData} (Fn : L2.Fun K "copy_of" "copy_of" s_copy_of f fd) {f_copied_part : Addr} (g_copied_part : Fg P w K mg base (L2.CX P w) 9 f_copied_part (Pm K ts (sp_copied_part 8))) (m_copied_part : mg "copied_part" = some (.ref f_copied_part)) (p_copied_part : PySem.W.keepIn K (.ref f_copied_part) = true) (z_tuple : mg "tuple" = none) : Fg P w K mg base (L2.CX P w) 10 f (Pm K ts sp_copy_of) := d_def Fn sc_copy_of (fun _ _ _ _ _ _ us hl => match us, hl with | [_], _ => rfl) sp_copy_of rd_copy_of (fun cdv A outer s H E wn hcd ht ag hr => by
  have S := sc_copy_of
  have hu := hr.units
  exact (dss_one (ds_ret (d_tupT (by rfl) z_tuple (d_lcT (own := [("worth", 1)]) rfl S.nd (di_tup (d_var 0)) (blkOk_by (N := N_copy_of) (sc := defScope s_copy_of) (by decide +kernel)) (tgt1 1) (fun _ _ _ _ _ => pg_name (i := 1) S.nd rfl (Or.inl rfl)) (fun _ _ _ _ _ => (d_use g_copied_part ht ag (hr.mono (by decide)) passZ (by rfl) m_copied_part p_copied_part (da_cons (d_var 1) da_nil)))))))) vc_copy_of
end
/-! _law_emptied -/
abbrev N__law_emptied : List Str := ["_law_at", "_law_paper", "_law_spot"]
theorem sc__law_emptied : FnScope N__law_emptied ["_law_at", "_law_paper"] (defScope s__law_emptied) := ⟨rfl, rfl, rfl, by decide +kernel, rfl, by decide +kernel, by decide +kernel⟩
def rd__law_emptied : DS := (tSeqD (tIfD (tTmV 1 (tTst (tBin (gEqv id) (tBin gIx (tVarD 1) (tCD (.int 2))) (tCD (.str "held"))))) (tAl3 1 2 (tPlT (tPlL (tPlT tPl0 (tCD (.int 6))) (tTmT 1 (tBin gMod (tVarD 0) (tCallD cLen (tConsD (tBin gIx (tVarD 1) (tCD (.int 6))) tNilD))))) (tCD (.int 1))) (7) (1) (fun d env => d.nx env)) (fun d env => d.nx env))
    (tIfD (tTmV 1 (tTru (tCallD (cIsi "list") (tConsD (tBin gIx (tVarD 1) (tUnD gNeg (tCD (.int 1)))) (tConsD (tRaw (.ty "list")) tNilD))))) (tPopP 1 (tPlT tPl0 (tUnD gNeg (tCD (.int 1))))) (fun d env => d.nx env)))
/-- what is done to the spot of a held paper -/
def spotF (w : Int) (xs : List PyData) : List PyData := match xs with
  | c :: d :: .str k :: r => if k = "held" then (match r with
    | [nm, f, t, .list rows] => (match rows[(w.fmod rows.length).toNat]? with
      | some (.tuple (m :: .list (_ :: ys) :: q)) => c :: d :: .str k :: [nm, f, t, .list (rows.set (w.fmod rows.length).toNat (.tuple (m :: .list (.int 1 :: (ys ++ [.int 7])) :: q)))]
      | _ => xs)
    | _ => xs) else xs
  | _ => xs
/-- the last list without its last item -/
def popF (xs : List PyData) : List PyData := match xs.getLast? with
  | some (.list ys) => xs.dropLast ++ [.list ys.dropLast]
  | _ => xs
def empF (w : Int) : PyData → PyData
  | .tuple xs => .tuple (popF (spotF w xs))
  | x => x
theorem nl_tup {C : List PyData} {ys : List PyData} : noL (.tuple (C ++ [.list ys])) = false := by
  rw [noL]
  induction C with
  | nil => rfl
  | cons c C ih =>
    show (noL c && noLs (C ++ [.list ys])) = false
    rw [ih, Bool.and_false]
theorem ixLs (A : List PyData) (y : PyData) : ixN (A ++ [y]).length (-1) = some A.length := by
  rw [List.length_append, List.length_singleton, ixN_last (by omega)]
  rfl
theorem fmod_in {w : Int} {n : Nat} (hn : 1 ≤ n) (h0 : 0 ≤ w) : 0 ≤ w.fmod n ∧ (w.fmod n).toNat < n := by
  have a := Int.fmod_nonneg h0 (show (0 : Int) ≤ n by omega)
  have b := Int.fmod_lt_of_pos w (show (0 : Int) < n by omega)
  omega
theorem ixN_in {n : Nat} {k : Int} (h0 : 0 ≤ k) (h1 : k.toNat < n) : ixN n k = some k.toNat := by
  unfold ixN
  rw [if_pos h0, if_pos (by omega)]
def sp__law_emptied : DSpM := fun us x P => ∃ w : Int, us = [.d (.int w), .d .none] ∧ 0 ≤ w ∧ Pap x ∧ P (empF w x)
def noTop : PyData → Bool
  | .list _ => false
  | _ => true
theorem pop_end {d : DK} {v : V} {w : Int} {A : List PyData} {y : PyData} {T : List Addr} {s2 : Sl} (hne : y ≠ .list []) (h : ∀ T2, d.nx [.d (.int w), .tv v T2 (.tuple (popF (A ++ [y]))), s2]) :
    tIfD (tTmV 1 (tTru (tCallD (cIsi "list") (tConsD (tBin gIx (tVarD 1) (tUnD gNeg (tCD (.int 1)))) (tConsD (tRaw (.ty "list")) tNilD))))) (tPopP 1 (tPlT tPl0 (tUnD gNeg (tCD (.int 1))))) (fun d env => d.nx env) d [.d (.int w), .tv v T (.tuple (A ++ [y])), s2] := by
  refine ifG fun P1 P2 hP hN => ?_
  walk_at "dl"
  refine ⟨_, _, _, rfl, rfl, ?_⟩
  try walk_at "dl"
  refine ix_last (List.getLast?_concat ..) ?_
  walk_at "dl"
  have no : noTop y = true → P2 := fun n => hN (by
    have e : popF (A ++ [y]) = A ++ [y] := by
      unfold popF
      rw [List.getLast?_concat]
      cases y with
      | list ys => cases n
      | _ => rfl
    rw [e] at h
    exact h T)
  cases y with
  | list ys =>
    rw [if_pos rfl]
    by_cases en : ys = []
    · exact absurd (congrArg PyData.list en) hne
    · obtain ⟨ys, z, rfl⟩ : ∃ a b, ys = a ++ [b] := ⟨_, _, (List.dropLast_concat_getLast en).symm⟩
      refine hP ⟨_, _, _, rfl, rfl, ?_⟩
      try walk_at "dl"
      refine ⟨nl_tup, A.length, _, ixLs A _, List.getElem?_concat_length, ys, z, rfl, fun S2 => ?_⟩
      have e : popF (A ++ [PyData.list (ys ++ [z])]) = (A ++ [PyData.list (ys ++ [z])]).set A.length (.list ys) := by
        unfold popF
        rw [List.getLast?_concat, List.set_append_right _ _ (Nat.le_refl _), Nat.sub_self, List.dropLast_concat]
        simp
      rw [e] at h
      exact h S2
  | none => exact no rfl
  | bool => exact no rfl
  | int => exact no rfl
  | str => exact no rfl
  | tuple => exact no rfl
  | dict => exact no rfl
theorem vc__law_emptied : ∀ dvs y T v R, sp__law_emptied dvs y R → dvs.length = 2 ∧ rd__law_emptied { nx := fun env => ∃ T' z, env[1]? = some (.tv v T' z) ∧ R z, rt := fun _ => False } ((startD N__law_emptied dvs).set 1 (.tv v T y)) := by
  rintro dvs x T v R ⟨w, rfl, w0, hx, h⟩
  refine ⟨rfl, ?_⟩
  unfold rd__law_emptied
  obtain ⟨c, d, k, z, r, rfl, c0, c1, d0, d1, hz, hr⟩ := hx
  refine seqG fun S hS => ?_
  refine ifG fun P1 P2 hP hN => ?_
  walk_at "dl"
  refine ⟨_, _, _, rfl, rfl, ?_⟩
  walk_at "dl"
  by_cases ch : k = "held"
  · rw [if_pos (decide_eq_true ch)]
    subst ch
    cases hr with
    | @held f t rows n t0 t1 rk =>
      refine hP ?_
      refine ⟨by show 2 < 3; decide, _, _, _, rfl, rfl, ?_⟩
      walk_at "dl"
      have lr := rk.1
      have lr8 := rk.2.1
      obtain ⟨i0, i1⟩ := fmod_in (n := rows.length) rk.1 w0
      obtain ⟨row, er⟩ : ∃ row, rows[(w.fmod rows.length).toNat]? = some row := ⟨_, List.getElem?_eq_getElem i1⟩
      obtain ⟨m, ps, p, q, u, v2, rfl, m0, m1, sp, _⟩ := rk.2.2.1 row (List.mem_of_getElem? er)
      obtain ⟨p0, ps, rfl⟩ : ∃ a b, ps = a :: b := by
        cases ps with
        | nil => exact absurd sp.1 (by decide)
        | cons a b => exact ⟨a, b, rfl⟩
      have sl : ps.length ≤ 5 := by have := sp.2.1; rw [List.length_cons] at this; omega
      refine ⟨nl_tup (C := [_, _, _, _, _, _]), 6, _, rfl, rfl, ?_⟩
      refine ⟨by omega, rfl, (w.fmod rows.length).toNat, _, ixN_in i0 i1, er, ?_⟩
      refine ⟨rfl, 1, _, rfl, rfl, .int p0, IL ps, rfl, by rw [il_len]; omega, fun S2 v1 => ?_⟩
      refine hS _ (pop_end (A := [_, _, _, _, _, _]) (y := .list _) (fun e => by have := congrArg (fun x => match x with | PyData.list xs => xs.length | _ => 0) e; simp only [List.length_set, List.length_nil] at this; omega) fun T2 => ⟨T2, _, rfl, ?_⟩)
      have e : empF w (.tuple (.int c :: .int d :: .str "held" :: .str z :: [.str f, .int t, .list rows])) = .tuple (popF ([.int c, .int d, .str "held", .str z, .str f, .int t] ++ [.list (rows.set (w.fmod rows.length).toNat (.tuple (.int m :: .list (.int 1 :: (IL ps ++ [.int 7])) :: [frc p q, frc u v2])))])) := by
        unfold empF spotF
        simp only [if_true, er]
        rfl
      rw [e] at h
      exact h
    | plain hk => rcases hk with hk | hk | hk <;> exact absurd hk (by decide +kernel)
  · rw [if_neg (by rw [decide_eq_false ch]; decide)]
    refine hN (hS _ ?_)
    obtain ⟨A, y, eA⟩ : ∃ A y, (.int c :: .int d :: .str k :: .str z :: r : List PyData) = A ++ [y] := ⟨_, _, (List.dropLast_concat_getLast (by simp)).symm⟩
    have e : empF w (.tuple (.int c :: .int d :: .str k :: .str z :: r)) = .tuple (popF (.int c :: .int d :: .str k :: .str z :: r)) := by
      unfold empF spotF
      simp only [if_neg ch]
    rw [e] at h
    rw [eA] at h ⊢
    refine pop_end (fun e => ?_) fun T2 => ⟨T2, _, rfl, h⟩
    subst e
    have la := congrArg List.getLast? eA
    rw [List.getLast?_concat] at la
    cases hr with
    | @thing so lv p q ms hs l0 l1 f f0 ml mi mr =>
      have : PyData.list (IL ms) = .list [] := Option.some.inj la
      have : (IL ms).length = 0 := by rw [PyData.list.inj this]; rfl
      rw [il_len] at this
      rcases hs with ⟨_, hs⟩ | ⟨_, hs⟩ <;> omega
    | @told t rows t0 t1 rk =>
      have : PyData.list rows = .list [] := Option.some.inj la
      have := rk.1
      rw [PyData.list.inj ‹PyData.list rows = .list []›] at this
      exact absurd this (by decide)
    | held => exact absurd rfl ch
    | @made p q rows f f0 rk =>
      have : PyData.list rows = .list [] := Option.some.inj la
      have := rk.1
      rw [PyData.list.inj ‹PyData.list rows = .list []›] at this
      exact absurd this (by decide)
    | @read ps s =>
      have : PyData.list (IL ps) = .list [] := Option.some.inj la
      have : (IL ps).length = 0 := by rw [PyData.list.inj this]; rfl
      rw [il_len] at this
      have := s.1
      omega
    | plain hk => exact PyData.noConfusion (Option.some.inj la)
section
variable {ts : List Addr} {P : Program} {w : World} {K : PySem.W.Frag} {mg : Str → Option Value} {base : Heap}
theorem ok__law_emptied {f : Addr} {fd : FuncData} (Fn : L2.Fun K "_law_emptied" "_law_emptied" s__law_emptied f fd) (z_len : mg "len" = none) (z_isinstance : mg "isinstance" = none) (z_list : mg "list" = none) : Fg P w K mg base (L2.CX P w) 1 f (PmM 1 K ts sp__law_emptied) := d_defM Fn sc__law_emptied (fun _ _ _ _ _ _ us hl => match us, hl with | [_, _], _ => rfl) sp__law_emptied rd__law_emptied (fun cdv A outer s H E wn hcd ht ag hr => by
  have S := sc__law_emptied
  have hu := hr.units
  exact (dss_cons (ds_if (dt_tmV 1 (dt_cmp (o_eq hu) (d_ix (d_var 1) d_int) d_str)) (dss_al3 (ps_set (i := 2) S.nd rfl (by first | exact Or.inl rfl | exact Or.inr rfl) (pl_ixT (pl_ixL (pl_ixT (pl_var (pv 1)) d_int) (d_tmT 1 (d_bin o_mod (d_var 0) (d_callB k_len (by rfl) z_len (by decide +kernel) (da_cons (d_ix (d_var 1) d_int) da_nil))))) d_int)) (ps_expr (pe_bm PySem.F.plainAttrs_list PySem.F.slot_list_append PySem.F.type_list_append mt_append (pv 2) (pa_cons pe_int pa_nil))) (ps_asg pe_int (pg_sub (pv 2) pe_int set_list)) dss_nil) dss_nil)
    (dss_one (ds_if (dt_tmV 1 (dt_e (d_callB (k_isi (n := "list") (by simp)) (by rfl) z_isinstance (by decide +kernel) (da_cons (d_ix (d_var 1) (d_neg d_int)) (da_cons (d_ty (by rfl) z_list (by decide +kernel)) da_nil))))) (dss_one (ds_popP (pe_bm0 PySem.F.plainAttrs_list PySem.F.slot_list_pop PySem.F.type_list_pop mt_pop (pl_ixT (pl_var (pv 1)) (d_neg d_int))))) dss_nil)))) vc__law_emptied
end
/-! law -/
abbrev N_law : List Str := ["_law_script", "_law_bag_here", "_law_k", "_law_paper", "_law_due", "_law_handed", "_law_told", "_law_one", "_law_two", "_law_at", "_law_mine"]
theorem sc_law : FnScope N_law ["_law_script"] (defScope s_law) := ⟨rfl, rfl, rfl, by decide +kernel, rfl, by decide +kernel, by decide +kernel⟩
def rd_law : DS := (tSeqD (tForD (gnD 2) (itR1 (tConsD (tBin gAdd (tCD (.int 1)) (tUse sp__law_take (tConsD (tVarD 1) (tConsD (tCD (.int 5)) tNilD)))) tNilD)) (tSeqD (tSetD 3 (tUse sp__law_any_paper (tConsD (tVarD 1) tNilD)))
        (tSeqD (tIfD (tAndD (tTst (tBin (gEqv id) (tBin gIx (tVarD 3) (tCD (.int 2))) (tCD (.str "held")))) (tTst (tBin (gEqv id) (tUse sp__law_take (tConsD (tVarD 1) (tConsD (tCD (.int 3)) tNilD))) (tCD (.int 0))))) (tSetD 3 (tBin gAdd (tBin gAdd (tSlT (tVarD 3) oNone (oSome (tCD (.int 4)))) (tTupD (tConsD (tBin gIx (tVarD 3) (tCD (.int 3))) tNilD))) (tSlT (tVarD 3) (oSome (tCD (.int 5))) oNone))) (fun d env => d.nx env))
        (tSeqD (tSetD 4 (tUse sp__law_names_due (tConsD (tVarD 3) tNilD)))
        (tSeqD (tSetD 5 (tUse (sp__law_copy 8) (tConsD (tVarD 3) tNilD)))
        (tSeqD (tSetD 6 (tTmT 5 (tUse sp_names_in (tConsD (tVarD 5) tNilD))))
        (tSeqD (tIfD (tOrD (tNotD (tTru (tUse sp__law_alike (tConsD (tVarD 6) (tConsD (tVarD 4) tNilD))))) (tNotD (tTru (tUse sp__law_alike (tConsD (tVarD 5) (tConsD (tVarD 3) tNilD)))))) (tRetD (tCD (.bool false))) (fun d env => d.nx env))
        (tSeqD (tAppD 6 (tCD (.str "zz")))
        (tSeqD (tSetI 6 (tCD (.int 0)) (tCD (.str "zy")))
        (tSeqD (tIfD (tOrD (tNotD (tTru (tUse sp__law_alike (tConsD (tTmT 5 (tUse sp_names_in (tConsD (tVarD 5) tNilD))) (tConsD (tVarD 4) tNilD))))) (tNotD (tTru (tUse sp__law_alike (tConsD (tVarD 5) (tConsD (tVarD 3) tNilD)))))) (tRetD (tCD (.bool false))) (fun d env => d.nx env))
        (tSeqD (tSetD 7 (tUse sp_copy_of (tConsD (tVarD 5) tNilD)))
        (tSeqD (tSetD 8 (tUse sp_copy_of (tConsD (tVarD 5) tNilD)))
        (tSeqD (tIfD (tOrD (tNotD (tTru (tUse sp__law_alike (tConsD (tVarD 7) (tConsD (tVarD 3) tNilD))))) (tNotD (tTru (tUse sp__law_alike (tConsD (tVarD 8) (tConsD (tVarD 3) tNilD)))))) (tRetD (tCD (.bool false))) (fun d env => d.nx env))
        (tSeqD (tParT 9 10 (tUse sp__law_take (tConsD (tVarD 1) (tConsD (tCD (.int 8)) tNilD))) (tUse (sp__law_copy 8) (tConsD (tVarD 3) tNilD)))
        (tSeqD (tMut sp__law_emptied (tVarD 9) 7)
        (tSeqD (tMut sp__law_emptied (tVarD 9) 10)
        (tSeqD (tIfD (tOrD (tNotD (tTru (tUse sp__law_alike (tConsD (tVarD 5) (tConsD (tVarD 3) tNilD))))) (tOrD (tNotD (tTru (tUse sp__law_alike (tConsD (tVarD 8) (tConsD (tVarD 3) tNilD))))) (tNotD (tTru (tUse sp__law_alike (tConsD (tVarD 7) (tConsD (tVarD 10) tNilD))))))) (tRetD (tCD (.bool false))) (fun d env => d.nx env))
        (tSeqD (tMut sp__law_emptied (tVarD 9) 5)
        (tIfD (tOrD (tNotD (tTru (tUse sp__law_alike (tConsD (tVarD 8) (tConsD (tVarD 3) tNilD))))) (tNotD (tTru (tUse sp__law_alike (tConsD (tUse sp_copy_of (tConsD (tVarD 8) tNilD)) (tConsD (tVarD 3) tNilD)))))) (tRetD (tCD (.bool false))) (fun d env => d.nx env))))))))))))))))))))
    (tRetD (tCD (.bool true))))
theorem rising_pw : ∀ (p : Str) (l : List Str), risingS p l = true → (p :: l).Pairwise (fun a b => ¬ (b.cps.toList < a.cps.toList))
  | p, [], _ => List.pairwise_singleton ..
  | p, x :: r, h => by
    have h2 : (!ltCps x.cps.toList p.cps.toList && risingS x r) = true := h
    rw [Bool.and_eq_true, ltCps_eq, Bool.not_eq_true', decide_eq_false_iff_not] at h2
    have ih := rising_pw x r h2.2
    refine List.pairwise_cons.mpr ⟨fun y m => ?_, ih⟩
    rcases List.mem_cons.mp m with rfl | m
    · exact h2.1
    · have a := (List.pairwise_cons.mp ih).1 y m
      exact List.not_lt.mpr (List.le_trans (List.not_lt.mp h2.1) (List.not_lt.mp a))
theorem sorted_one {a b : List Str} (ha : sortedS a = true) (hb : sortedS b = true) (na : a.Nodup) (nb : b.Nodup) (h : ∀ j, j ∈ a ↔ j ∈ b) : a = b := by
  have pw : ∀ l : List Str, sortedS l = true → l.Pairwise (fun a b => ¬ (b.cps.toList < a.cps.toList)) := fun l h => by
    cases l with
    | nil => exact .nil
    | cons p l => exact rising_pw p l h
  refine ((List.perm_ext_iff_of_nodup na nb).mpr h).eq_of_pairwise (fun x y _ _ h1 h2 => ?_) (pw a ha) (pw b hb)
  exact TL.ext_tl (List.le_antisymm (List.not_lt.mp h1) (List.not_lt.mp h2))
theorem noL_strs : ∀ ys : List Str, noLs (ys.map .str) = true
  | [] => rfl
  | y :: ys => by rw [List.map_cons, noLs, noL_strs ys]; rfl
theorem nms_nam {k : Str} {r : List PyData} (h : Prt k r) : ∀ j ∈ nms k r, Nam j := by
  intro j m
  unfold nms at m
  cases h with
  | held n t0 t1 rk =>
    rw [if_pos rfl, List.mem_singleton] at m
    exact m ▸ n
  | @made p q rows f f0 rk =>
    rw [if_neg (by decide +kernel), if_pos rfl] at m
    obtain ⟨x, hx, rfl⟩ := List.mem_map.mp m
    obtain ⟨_, nm, _, rfl, _, _, n, _⟩ := rk.2.2.1 x hx
    exact n
  | thing => rw [if_neg (by decide +kernel), if_neg (by decide +kernel)] at m; cases m
  | told => rw [if_neg (by decide +kernel), if_neg (by decide +kernel)] at m; cases m
  | read => rw [if_neg (by decide +kernel), if_neg (by decide +kernel)] at m; cases m
  | plain hk => rcases hk with rfl | rfl | rfl <;> (rw [if_neg (by decide +kernel), if_neg (by decide +kernel)] at m; cases m)
theorem nms_len {k : Str} {r : List PyData} (h : Prt k r) : (nms k r).length ≤ 8 := by
  unfold nms
  cases h with
  | held n t0 t1 rk => rw [if_pos rfl]; exact (by decide : 1 ≤ 8)
  | @made p q rows f f0 rk => rw [if_neg (by decide +kernel), if_pos rfl, List.length_map]; exact rk.2.1
  | thing => rw [if_neg (by decide +kernel), if_neg (by decide +kernel)]; decide
  | told => rw [if_neg (by decide +kernel), if_neg (by decide +kernel)]; decide
  | read => rw [if_neg (by decide +kernel), if_neg (by decide +kernel)]; decide
  | plain hk => rcases hk with rfl | rfl | rfl <;> (rw [if_neg (by decide +kernel), if_neg (by decide +kernel)]; decide)
theorem names_gd {ys ns : List Str} (hn : ∀ j ∈ ns, Nam j) (h : ∀ j, j ∈ ys ↔ j ∈ ns) (nd : ys.Nodup) (l : ns.length ≤ 9) : Gd 1 1000 (.list (ys.map .str)) ∧ ys.length ≤ 9 := by
  have ly : ys.length ≤ 9 := Nat.le_trans (List.Nodup.length_le_of_subset nd fun j m => (h j).mp m) l
  have q := Nat.mul_le_mul_right 84 ly
  refine ⟨(gd_lstL (gdl_all (n := 0) (k := 82) fun x m => ?_) (by rw [List.length_map]; omega)).up (by decide) (by rw [List.length_map]; omega), ly⟩
  obtain ⟨j, mj, rfl⟩ := List.mem_map.mp m
  exact (hn j ((h j).mp mj)).gd
theorem tup_gd {xs : List PyData} (h : ∀ y ∈ xs, Gd 3 3000 y) (l : xs.length ≤ 8) : Gd 4 24100 (.tuple xs) := by
  have q := Nat.mul_le_mul_right 3002 l
  exact (gd_tupL (gdl_all h) (by omega)).up (by decide) (by omega)
theorem lst_gd {rows : List PyData} (h : ∀ y ∈ rows, Gd 2 330 y) (l : rows.length ≤ 8) : Gd 3 3000 (.list rows) := by
  have q := Nat.mul_le_mul_right 332 l
  exact (gd_lstL (gdl_all h) (by omega)).up (by decide) (by omega)
theorem popF_gd {xs : List PyData} (h : ∀ y ∈ xs, Gd 3 3000 y ∧ ∀ ys, y = .list ys → Gd 3 3000 (.list ys.dropLast)) (l : xs.length ≤ 8) : Gd 4 24100 (.tuple (popF xs)) := by
  unfold popF
  split
  · next ys e =>
    have hm := List.mem_of_getLast? e
    refine tup_gd (fun y m => ?_) ?_
    · rcases List.mem_append.mp m with m | m
      · exact (h y ((List.dropLast_sublist _).subset m)).1
      · rw [List.mem_singleton.mp m]
        exact (h _ hm).2 ys rfl
    · rw [List.length_append, List.length_dropLast, List.length_singleton]
      omega
  · exact tup_gd (fun y m => (h y m).1) l
theorem drop_rows {R : PyData → Prop} {rows : List PyData} (hR : ∀ x, R x → Gd 2 330 x) (h : ∀ y ∈ rows, R y) (l : rows.length ≤ 8) : Gd 3 3000 (.list rows) ∧ ∀ ys, PyData.list rows = .list ys → Gd 3 3000 (.list ys.dropLast) :=
  ⟨lst_gd (fun y m => hR y (h y m)) l, fun ys e => by
    cases e
    exact lst_gd (fun y m => hR y (h y ((List.dropLast_sublist _).subset m))) (by rw [List.length_dropLast]; omega)⟩
theorem il_drop {ms : List Int} (mi : ∀ m ∈ ms, 0 ≤ m ∧ m ≤ 1000) (l : ms.length ≤ 8) : Gd 3 3000 (.list (IL ms)) ∧ ∀ ys, PyData.list (IL ms) = .list ys → Gd 3 3000 (.list ys.dropLast) :=
  ⟨(gd_il (m := 8) mi l (by decide)).up, fun ys e => by
    cases e
    rw [show (IL ms).dropLast = IL ms.dropLast from List.map_dropLast.symm]
    exact (gd_il (m := 8) (fun m hm => mi m ((List.dropLast_sublist _).subset hm)) (by rw [List.length_dropLast]; omega) (by decide)).up⟩
theorem emp_gd {w : Int} (w0 : 0 ≤ w) {x : PyData} (hx : Pap x) : Gd 4 24100 (empF w x) := by
  obtain ⟨c, d, k, z, r, rfl, c0, c1, d0, d1, hz, hr⟩ := hx
  have kg := hr.gd.1
  have front : ∀ r2 : List PyData, r2.length ≤ 4 → (∀ y ∈ r2, Gd 3 3000 y ∧ ∀ ys, y = .list ys → Gd 3 3000 (.list ys.dropLast)) → Gd 4 24100 (.tuple (popF (.int c :: .int d :: .str k :: .str z :: r2))) := fun r2 l h => by
    refine popF_gd (fun y m => ?_) (by simp only [List.length_cons]; omega)
    simp only [List.mem_cons] at m
    rcases m with rfl | rfl | rfl | rfl | m
    · exact ⟨(gd_day (by omega) (by omega)).up, fun ys e => by cases e⟩
    · exact ⟨(gd_day (by omega) (by omega)).up, fun ys e => by cases e⟩
    · exact ⟨kg.up, fun ys e => by cases e⟩
    · exact ⟨hz.gd.up, fun ys e => by cases e⟩
    · exact h y m
  have plain : k ≠ "held" → (r.length ≤ 4) → (∀ y ∈ r, Gd 3 3000 y ∧ ∀ ys, y = .list ys → Gd 3 3000 (.list ys.dropLast)) → Gd 4 24100 (empF w (.tuple (.int c :: .int d :: .str k :: .str z :: r))) := fun hk l h => by
    unfold empF spotF
    simp only [if_neg hk]
    exact front r l h
  cases hr with
  | @thing so lv p q ms hs l0 l1 f f0 ml mi mr =>
    refine plain (by decide +kernel) (by simp) fun y m => ?_
    simp only [List.mem_cons, List.not_mem_nil, or_false] at m
    rcases m with rfl | rfl | rfl | rfl
    · refine ⟨?_, fun ys e => by cases e⟩
      rcases hs with ⟨rfl, _⟩ | ⟨rfl, _⟩ <;> exact (gd_lit (by decide +kernel) (by decide +kernel)).up
    · exact ⟨(gd_mark l0 (by omega)).up, fun ys e => by cases e⟩
    · exact ⟨f.gd.up, fun ys e => by cases e⟩
    · exact il_drop mi ml
  | @told t rows t0 t1 rk =>
    refine plain (by decide +kernel) (by simp) fun y m => ?_
    simp only [List.mem_cons, List.not_mem_nil, or_false] at m
    rcases m with rfl | rfl
    · exact ⟨(gd_day t0 (by omega)).up, fun ys e => by cases e⟩
    · exact drop_rows (fun x h => h.gd.up) rk.2.2.1 rk.2.1
  | @made p q rows f f0 rk =>
    refine plain (by decide +kernel) (by simp) fun y m => ?_
    simp only [List.mem_cons, List.not_mem_nil, or_false] at m
    rcases m with rfl | rfl
    · exact ⟨f.gd.up, fun ys e => by cases e⟩
    · exact drop_rows (fun x h => h.gd.up) rk.2.2.1 rk.2.1
  | @read ps s =>
    refine plain (by decide +kernel) (by simp) fun y m => ?_
    simp only [List.mem_cons, List.not_mem_nil, or_false] at m
    rcases m with rfl
    exact il_drop s.2.2.1 (by have := s.2.1; omega)
  | plain hk =>
    refine plain (by rcases hk with rfl | rfl | rfl <;> decide +kernel) (by simp) fun y m => by cases m
  | @held f t rows n t0 t1 rk =>
    obtain ⟨i0, i1⟩ := fmod_in (n := rows.length) rk.1 w0
    obtain ⟨row, er⟩ : ∃ row, rows[(w.fmod rows.length).toNat]? = some row := ⟨_, List.getElem?_eq_getElem i1⟩
    obtain ⟨m, ps, p, q, u, v2, rfl, m0, m1, sp, s1, s2, _⟩ := rk.2.2.1 row (List.mem_of_getElem? er)
    obtain ⟨p0, ps, rfl⟩ : ∃ a b, ps = a :: b := by
      cases ps with
      | nil => exact absurd sp.1 (by decide)
      | cons a b => exact ⟨a, b, rfl⟩
    have e : empF w (.tuple (.int c :: .int d :: .str "held" :: .str z :: [.str f, .int t, .list rows])) = .tuple (popF (.int c :: .int d :: .str "held" :: .str z :: [.str f, .int t, .list (rows.set (w.fmod rows.length).toNat (.tuple (.int m :: .list (.int 1 :: (IL ps ++ [.int 7])) :: [frc p q, frc u v2])))])) := by
      unfold empF spotF
      simp only [if_true, er]
      rfl
    rw [e]
    have hl : ps.length ≤ 5 := by have := sp.2.1; rw [List.length_cons] at this; omega
    have ng : Gd 2 330 (.tuple (.int m :: .list (.int 1 :: (IL ps ++ [.int 7])) :: [frc p q, frc u v2])) := by
      have il : PyData.list (.int 1 :: (IL ps ++ [.int 7])) = .list (IL (1 :: (ps ++ [7]))) := by
        simp [IL]
      rw [il]
      have gi := gd_il (ns := 1 :: (ps ++ [7])) (m := 8) (fun a ha => by
        simp only [List.mem_cons, List.mem_append, List.not_mem_nil, or_false] at ha
        rcases ha with rfl | ha | rfl
        · omega
        · exact sp.2.2.1 a (List.mem_cons_of_mem _ ha)
        · omega) (by simp only [List.length_cons, List.length_append, List.length_nil]; omega) (by decide)
      exact (gd_tupL (gdl_cons ((gd_mark m0 m1).up (m := 1) (l := 11)) (gdl_cons gi (gdl_cons s1.gd (gdl_cons s2.gd gdl_nil)))) (by simp)).up
    have rg : ∀ y ∈ rows.set (w.fmod rows.length).toNat (.tuple (.int m :: .list (.int 1 :: (IL ps ++ [.int 7])) :: [frc p q, frc u v2])), Gd 2 330 y := fun y my => by
      rcases List.mem_or_eq_of_mem_set my with my | rfl
      · exact (rk.2.2.1 y my).gd.up
      · exact ng
    refine front _ (by simp) fun y my => ?_
    simp only [List.mem_cons, List.not_mem_nil, or_false] at my
    rcases my with rfl | rfl | rfl
    · exact ⟨n.gd.up, fun ys e => by cases e⟩
    · exact ⟨(gd_day t0 (by omega)).up, fun ys e => by cases e⟩
    · exact drop_rows (R := fun y => Gd 2 330 y) (fun x h => h) rg (by rw [List.length_set]; exact rk.2.1)
theorem gnG {i : Nat} {x : PyData} {env : List Sl} {k : List Sl → Prop} (h : k (env.set i (.d x))) : gnD i x env k := h
theorem vc_law : rd_law { nx := fun _ => False, rt := fun dv => dv = .d (.bool true) } (.un :: .bag :: List.replicate 9 .un) := by
  unfold rd_law
  refine seqG fun R hR => ?_
  walk_at "dl"
  refine ⟨5, rfl, by decide, by decide, fun n n0 n5 => ?_⟩
  walk_at "dl"
  refine ⟨⟨by omega, by omega⟩, ?_⟩
  refine forD_ind (fun zs env => ∃ s2 s3 s4 s5 s6 s7 s8 s9 s10, env = [.un, .bag, s2, s3, s4, s5, s6, s7, s8, s9, s10]) (fun env hI => ?_) (fun z0 zs env R2 hI hR2 => ?_) _ _ ⟨_, _, _, _, _, _, _, _, _, rfl⟩
  · obtain ⟨s2, s3, s4, s5, s6, s7, s8, s9, s10, rfl⟩ := hI
    refine hR _ ?_
    walk_at "dl"
  · obtain ⟨s2, s3, s4, s5, s6, s7, s8, s9, s10, rfl⟩ := hI
    refine gnG (seqG fun R hR => ?_)
    walk_at "dl"
    refine ⟨rfl, fun x hx _ => ?_⟩
    walk_at "dl"
    refine hR _ (seqG fun R hR => ?_)
    have body : ∀ x, Pap x → R [.un, .bag, .d z0, .d x, s4, s5, s6, s7, s8, s9, s10] := fun x hx => hR _ (seqG fun R hR => by
      have gd := hx.gd
      have eg := fun (w : Int) (w0 : 0 ≤ w) => emp_gd w0 hx
      have hx0 := hx
      obtain ⟨c, d, k, z, r, rfl, c0, c1, d0, d1, hz, hr⟩ := hx
      have dp := Nat.le_trans gd.ly.deep (show 4 ≤ 7 by decide)
      have nn : ∀ j ∈ z :: nms k r, Nam j := fun j m => (List.mem_cons.mp m).elim (fun e => e ▸ hz) (nms_nam hr j)
      have nl : (z :: nms k r).length ≤ 9 := by rw [List.length_cons]; have := nms_len hr; omega
      walk_at "dl"
      refine ⟨c, d, k, z, r, rfl, hr, fun ys nd mem so => ?_⟩
      obtain ⟨yg, yl⟩ := names_gd nn mem nd nl
      have yne : 1 ≤ ys.length := by
        cases ys with
        | nil => exact absurd ((mem z).mpr List.mem_cons_self) List.not_mem_nil
        | cons a b => simp
      walk_at "dl"
      refine fun l4 => hR _ (seqG fun R hR => ?_)
      walk_at "dl"
      refine ⟨_, rfl, dp, gd.cp, gd.ly.lay, ?_⟩
      simp only [cpT]
      walk_at "dl"
      refine fun S5 => hR _ (seqG fun R hR => ?_)
      walk_at "dl"
      refine ⟨c, d, k, z, r, rfl, hr, fun ys2 nd2 mem2 so2 => ?_⟩
      cases sorted_one so2 so nd2 nd fun j => (mem2 j).trans (mem j).symm
      walk_at "dl"
      refine ⟨noL_strs ys, fun l6 => hR _ (seqG fun R hR => ?_)⟩
      refine ifG fun P1 P2 hP hN => ?_
      walk_at "dl"
      refine ⟨_, rfl, yg.eq, yg.sh, ?_⟩
      walk_at "dl"
      refine ⟨.inr rfl, ?_⟩
      refine ⟨_, rfl, gd.eq, gd.sh, ?_⟩
      walk_at "dl"
      refine ⟨.inr rfl, ?_⟩
      refine hN (hR _ (seqG fun R hR => ?_))
      walk_at "dl"
      refine ⟨by rw [List.length_map]; omega, hR _ (seqG fun R hR => ?_)⟩
      walk_at "dl"
      rw [ixN_in (Int.le_refl 0) (by simp)]
      walk_at "dl"
      refine hR _ (seqG fun R hR => ?_)
      refine ifG fun P1 P2 hP hN => ?_
      walk_at "dl"
      refine ⟨c, d, k, z, r, rfl, hr, fun ys2 nd2 mem2 so2 => ?_⟩
      cases sorted_one so2 so nd2 nd fun j => (mem2 j).trans (mem j).symm
      walk_at "dl"
      refine ⟨noL_strs ys, _, rfl, yg.eq, yg.sh, ?_⟩
      walk_at "dl"
      refine ⟨.inr rfl, _, rfl, gd.eq, gd.sh, ?_⟩
      walk_at "dl"
      refine ⟨.inr rfl, hN (hR _ (seqG fun R hR => ?_))⟩
      walk_at "dl"
      refine ⟨_, rfl, Nat.le_succ_of_le dp, gd.cp, gd.ly.lay, ?_⟩
      walk_at "dl"
      refine fun S7 => hR _ (seqG fun R hR => ?_)
      walk_at "dl"
      refine ⟨_, rfl, Nat.le_succ_of_le dp, gd.cp, gd.ly.lay, ?_⟩
      walk_at "dl"
      refine fun S8 => hR _ (seqG fun R hR => ?_)
      refine ifG fun P1 P2 hP hN => ?_
      walk_at "dl"
      refine ⟨_, rfl, gd.eq, gd.sh, ?_⟩
      walk_at "dl"
      refine ⟨.inr rfl, _, rfl, gd.eq, gd.sh, ?_⟩
      walk_at "dl"
      refine ⟨.inr rfl, hN (hR _ (seqG fun R hR => ?_))⟩
      walk_at "dl"
      refine ⟨8, rfl, by decide, by decide, fun w w0 w8 => ?_⟩
      refine ⟨_, rfl, _, rfl, dp, gd.cp, gd.ly.lay, ?_⟩
      simp only [cpT]
      walk_at "dl"
      refine fun S10 => hR _ (seqG fun R hR => ?_)
      walk_at "dl"
      refine ⟨.int w, _, _, _, rfl, rfl, rfl, w, rfl, w0, hx0, fun T7 => ?_⟩
      walk_at "dl"
      refine hR _ (seqG fun R hR => ?_)
      walk_at "dl"
      refine ⟨.int w, _, _, _, rfl, rfl, rfl, w, rfl, w0, hx0, fun T10 => ?_⟩
      walk_at "dl"
      refine hR _ (seqG fun R hR => ?_)
      have ge := eg w w0
      refine ifG fun P1 P2 hP hN => ?_
      walk_at "dl"
      refine ⟨_, rfl, gd.eq, gd.sh, ?_⟩
      walk_at "dl"
      refine ⟨.inr rfl, _, rfl, gd.eq, gd.sh, ?_⟩
      walk_at "dl"
      refine ⟨.inr rfl, _, rfl, ge.eq, ge.sh, ?_⟩
      walk_at "dl"
      refine ⟨.inr rfl, hN (hR _ (seqG fun R hR => ?_))⟩
      walk_at "dl"
      refine ⟨.int w, _, _, _, rfl, rfl, rfl, w, rfl, w0, hx0, fun T5 => ?_⟩
      walk_at "dl"
      refine hR _ ?_
      refine ifG fun P1 P2 hP hN => ?_
      walk_at "dl"
      refine ⟨_, rfl, gd.eq, gd.sh, ?_⟩
      walk_at "dl"
      refine ⟨.inr rfl, _, rfl, Nat.le_succ_of_le dp, gd.cp, gd.ly.lay, ?_⟩
      walk_at "dl"
      refine ⟨_, rfl, gd.eq, gd.sh, ?_⟩
      walk_at "dl"
      exact hN (hR2 _ ⟨_, _, _, _, _, _, _, _, _, rfl⟩))
    refine ifG fun P1 P2 hP hN => ?_
    have hx0 := hx
    obtain ⟨c, d, k, z, r, rfl, c0, c1, d0, d1, hz, hr⟩ := hx
    have no : P2 := hN (body _ hx0)
    walk_at "dl"
    by_cases ck : k = "held"
    · rw [if_pos (decide_eq_true ck)]
      subst ck
      refine ⟨3, rfl, by decide, by decide, fun w w0 w3 => ?_⟩
      walk_at "dl"
      by_cases c3 : w = 0
      · rw [if_pos (decide_eq_true c3)]
        cases hr with
        | @held f t rows n t0 t1 rk =>
          refine hP ?_
          have k1 : Dl.cutD [.int c, .int d, .str "held", .str z, .str f, .int t, .list rows] none (some 4) = [.int c, .int d, .str "held", .str z] := Dl.cut_to _ 4
          have k2 : Dl.cutD [.int c, .int d, .str "held", .str z, .str f, .int t, .list rows] (some 5) none = [.int t, .list rows] := Dl.cut_from _ 5
          walk_at "dl"
          rw [k1, k2]
          exact ⟨by decide, by simp, by simp, by simp, by simp, body _ ⟨c, d, _, z, _, rfl, c0, c1, d0, d1, hz, .held hz t0 t1 rk⟩⟩
        | plain hk => rcases hk with hk | hk | hk <;> exact absurd hk (by decide +kernel)
      · rw [if_neg (by rw [decide_eq_false c3]; decide)]
        exact no
    · rw [if_neg (by rw [decide_eq_false ck]; decide)]
      exact no
section
variable {ts : List Addr} {P : Program} {w : World} {K : PySem.W.Frag} {mg : Str → Option Value} {base : Heap}
theorem ok_law {f : Addr} {fd : FuncData} (Fn : L2.Fun K "law" "law" s_law f fd) {f__law_bag : Addr} (g__law_bag : Fg P w K mg base (L2.CX P w) 1 f__law_bag (spBag K)) (m__law_bag : mg "_law_bag" = some (.ref f__law_bag)) (p__law_bag : PySem.W.keepIn K (.ref f__law_bag) = true) {f__law_take : Addr} (g__law_take : Fg P w K mg base (L2.CX P w) 1 f__law_take (Pm K ts sp__law_take)) (m__law_take : mg "_law_take" = some (.ref f__law_take)) (p__law_take : PySem.W.keepIn K (.ref f__law_take) = true) {f__law_any_paper : Addr} (g__law_any_paper : Fg P w K mg base (L2.CX P w) 5 f__law_any_paper (Pm K ts sp__law_any_paper)) (m__law_any_paper : mg "_law_any_paper" = some (.ref f__law_any_paper)) (p__law_any_paper : PySem.W.keepIn K (.ref f__law_any_paper) = true) {f__law_names_due : Addr} (g__law_names_due : Fg P w K mg base (L2.CX P w) 1 f__law_names_due (Pm K ts sp__law_names_due)) (m__law_names_due : mg "_law_names_due" = some (.ref f__law_names_due)) (p__law_names_due : PySem.W.keepIn K (.ref f__law_names_due) = true) {f__law_copy : Addr} (g__law_copy : Fg P w K mg base (L2.CX P w) 9 f__law_copy (Pm K ts (sp__law_copy 8))) (m__law_copy : mg "_law_copy" = some (.ref f__law_copy)) (p__law_copy : PySem.W.keepIn K (.ref f__law_copy) = true) {f_names_in : Addr} (g_names_in : Fg P w K mg base (L2.CX P w) 2 f_names_in (Pm K ts sp_names_in)) (m_names_in : mg "names_in" = some (.ref f_names_in)) (p_names_in : PySem.W.keepIn K (.ref f_names_in) = true) {f__law_alike : Addr} (g__law_alike : Fg P w K mg base (L2.CX P w) 1 f__law_alike (Pm K ts sp__law_alike)) (m__law_alike : mg "_law_alike" = some (.ref f__law_alike)) (p__law_alike : PySem.W.keepIn K (.ref f__law_alike) = true) {f_copy_of : Addr} (g_copy_of : Fg P w K mg base (L2.CX P w) 10 f_copy_of (Pm K ts sp_copy_of)) (m_copy_of : mg "copy_of" = some (.ref f_copy_of)) (p_copy_of : PySem.W.keepIn K (.ref f_copy_of) = true) {f__law_emptied : Addr} (g__law_emptied : Fg P w K mg base (L2.CX P w) 1 f__law_emptied (PmM 1 K ts sp__law_emptied)) (m__law_emptied : mg "_law_emptied" = some (.ref f__law_emptied)) (p__law_emptied : PySem.W.keepIn K (.ref f__law_emptied) = true) (z_range : mg "range" = none) : Fg P w K mg base (L2.CX P w) 11 f (spLaw K ts) := law_ok (z1 := "_law_bag_here") (n := 9) Fn sc_law rfl (fun _ _ _ _ _ _ us hl => match us, hl with | [_], _ => rfl) rd_law (fun cdv A outer s H E ag hr => by
  have S := sc_law
  have hu := hr.units
  exact pss_cons (ps_set (i := 1) S.nd rfl (by first | exact Or.inl rfl | exact Or.inr rfl) (g_call g__law_bag ag (hr.mono (by decide)) passZ (by rfl) m__law_bag p__law_bag (pa_cons (pv 0) pa_nil)))
    (pss_any fun wn ht => (dss_cons (ds_for PassesOwn.never rfl (di_r1 (by rfl) z_range (da_cons (d_bin o_add d_int (d_use g__law_take ht ag (hr.mono (by decide)) passZ (by rfl) m__law_take p__law_take (da_cons (d_var 1) (da_cons d_int da_nil)))) da_nil)) (dg_name (i := 2) S.nd rfl (by first | exact Or.inl rfl | exact Or.inr rfl)) (dss_cons (ds_set (i := 3) S.nd rfl (by first | exact Or.inl rfl | exact Or.inr rfl) (d_use g__law_any_paper ht ag (hr.mono (by decide)) passZ (by rfl) m__law_any_paper p__law_any_paper (da_cons (d_var 1) da_nil)))
        (dss_cons (ds_if (dt_w (dw_and (dt_cmp (o_eq hu) (d_ix (d_var 3) d_int) d_str) (dw_and1 (dt_cmp (o_eq hu) (d_use g__law_take ht ag (hr.mono (by decide)) passZ (by rfl) m__law_take p__law_take (da_cons (d_var 1) (da_cons d_int da_nil))) d_int)))) (dss_one (ds_set (i := 3) S.nd rfl (by first | exact Or.inl rfl | exact Or.inr rfl) (d_bin o_add (d_bin o_add (d_slT (d_var 3) do_none (do_some d_int)) (d_tup (da_cons (d_ix (d_var 3) d_int) da_nil))) (d_slT (d_var 3) (do_some d_int) do_none)))) dss_nil)
        (dss_cons (ds_set (i := 4) S.nd rfl (by first | exact Or.inl rfl | exact Or.inr rfl) (d_use g__law_names_due ht ag (hr.mono (by decide)) passZ (by rfl) m__law_names_due p__law_names_due (da_cons (d_var 3) da_nil)))
        (dss_cons (ds_set (i := 5) S.nd rfl (by first | exact Or.inl rfl | exact Or.inr rfl) (d_use g__law_copy ht ag (hr.mono (by decide)) passZ (by rfl) m__law_copy p__law_copy (da_cons (d_var 3) da_nil)))
        (dss_cons (ds_set (i := 6) S.nd rfl (by first | exact Or.inl rfl | exact Or.inr rfl) (d_tmT 5 (d_use g_names_in ht ag (hr.mono (by decide)) passZ (by rfl) m_names_in p_names_in (da_cons (d_var 5) da_nil))))
        (dss_cons (ds_if (dt_w (dw_or (dt_not (dt_e (d_use g__law_alike ht ag (hr.mono (by decide)) passZ (by rfl) m__law_alike p__law_alike (da_cons (d_var 6) (da_cons (d_var 4) da_nil))))) (dw_or1 (dt_not (dt_e (d_use g__law_alike ht ag (hr.mono (by decide)) passZ (by rfl) m__law_alike p__law_alike (da_cons (d_var 5) (da_cons (d_var 3) da_nil)))))))) (dss_one (ds_ret d_bl)) dss_nil)
        (dss_cons (ds_app (i := 6) (pe_bm PySem.F.plainAttrs_list PySem.F.slot_list_append PySem.F.type_list_append mt_append (pv 6) (pa_cons d_str pa_nil)))
        (dss_cons (ds_seti (i := 6) d_str (pv 6) d_int (pg_sub (pv 6) d_int set_list))
        (dss_cons (ds_if (dt_w (dw_or (dt_not (dt_e (d_use g__law_alike ht ag (hr.mono (by decide)) passZ (by rfl) m__law_alike p__law_alike (da_cons (d_tmT 5 (d_use g_names_in ht ag (hr.mono (by decide)) passZ (by rfl) m_names_in p_names_in (da_cons (d_var 5) da_nil))) (da_cons (d_var 4) da_nil))))) (dw_or1 (dt_not (dt_e (d_use g__law_alike ht ag (hr.mono (by decide)) passZ (by rfl) m__law_alike p__law_alike (da_cons (d_var 5) (da_cons (d_var 3) da_nil)))))))) (dss_one (ds_ret d_bl)) dss_nil)
        (dss_cons (ds_set (i := 7) S.nd rfl (by first | exact Or.inl rfl | exact Or.inr rfl) (d_use g_copy_of ht ag (hr.mono (by decide)) passZ (by rfl) m_copy_of p_copy_of (da_cons (d_var 5) da_nil)))
        (dss_cons (ds_set (i := 8) S.nd rfl (by first | exact Or.inl rfl | exact Or.inr rfl) (d_use g_copy_of ht ag (hr.mono (by decide)) passZ (by rfl) m_copy_of p_copy_of (da_cons (d_var 5) da_nil)))
        (dss_cons (ds_if (dt_w (dw_or (dt_not (dt_e (d_use g__law_alike ht ag (hr.mono (by decide)) passZ (by rfl) m__law_alike p__law_alike (da_cons (d_var 7) (da_cons (d_var 3) da_nil))))) (dw_or1 (dt_not (dt_e (d_use g__law_alike ht ag (hr.mono (by decide)) passZ (by rfl) m__law_alike p__law_alike (da_cons (d_var 8) (da_cons (d_var 3) da_nil)))))))) (dss_one (ds_ret d_bl)) dss_nil)
        (dss_cons (ds_parT (i := 9) (j := 10) (ps_par (i := 9) (j := 10) rfl S.nd rfl rfl (by decide) rfl rfl (pa_cons (d_use g__law_take ht ag (hr.mono (by decide)) passZ (by rfl) m__law_take p__law_take (da_cons (d_var 1) (da_cons d_int da_nil))) (pa_cons (d_use g__law_copy ht ag (hr.mono (by decide)) passZ (by rfl) m__law_copy p__law_copy (da_cons (d_var 3) da_nil)) pa_nil)) (by rfl)))
        (dss_cons (ds_mut 7 g__law_emptied ht ag (hr.mono (by decide)) passZ (by rfl) m__law_emptied p__law_emptied (d_var 9) (pv 7))
        (dss_cons (ds_mut 10 g__law_emptied ht ag (hr.mono (by decide)) passZ (by rfl) m__law_emptied p__law_emptied (d_var 9) (pv 10))
        (dss_cons (ds_if (dt_w (dw_or (dt_not (dt_e (d_use g__law_alike ht ag (hr.mono (by decide)) passZ (by rfl) m__law_alike p__law_alike (da_cons (d_var 5) (da_cons (d_var 3) da_nil))))) (dw_or (dt_not (dt_e (d_use g__law_alike ht ag (hr.mono (by decide)) passZ (by rfl) m__law_alike p__law_alike (da_cons (d_var 8) (da_cons (d_var 3) da_nil))))) (dw_or1 (dt_not (dt_e (d_use g__law_alike ht ag (hr.mono (by decide)) passZ (by rfl) m__law_alike p__law_alike (da_cons (d_var 7) (da_cons (d_var 10) da_nil))))))))) (dss_one (ds_ret d_bl)) dss_nil)
        (dss_cons (ds_mut 5 g__law_emptied ht ag (hr.mono (by decide)) passZ (by rfl) m__law_emptied p__law_emptied (d_var 9) (pv 5))
        (dss_one (ds_if (dt_w (dw_or (dt_not (dt_e (d_use g__law_alike ht ag (hr.mono (by decide)) passZ (by rfl) m__law_alike p__law_alike (da_cons (d_var 8) (da_cons (d_var 3) da_nil))))) (dw_or1 (dt_not (dt_e (d_use g__law_alike ht ag (hr.mono (by decide)) passZ (by rfl) m__law_alike p__law_alike (da_cons (d_use g_copy_of ht ag (hr.mono (by decide)) passZ (by rfl) m_copy_of p_copy_of (da_cons (d_var 8) da_nil)) (da_cons (d_var 3) da_nil)))))))) (dss_one (ds_ret d_bl)) dss_nil))))))))))))))))))))
    (dss_one (ds_ret d_bl))))) vc_law
end
/-! what the top has left -/
theorem all_mk {q : Program} {lo : List Str} {mean : ExcName → Option Value} {mb : Str → Option Value} {w : World} {K : PySem.W.Frag} {h : Heap} {mg : Str → Option Value} {fa0 : Addr} (X : K.In h) (T : PyProof.Rows.Top q lo mean mg mb h) (hfa : mg "law" = some (.ref fa0)) (c : He.SaysX fa fn tb tf ex w h K) :
  ∃ cs : List (Addr × Addr), K.In h ∧ Tabs K h cs ∧ ∀ base : Heap, K.In base → base.Ns mainGlobals mg → (∀ p ∈ cs, GxR.TabB base mg p.1 p.2) → Fg PySem.Challenge.rw_truechain_k34_names_and_copies.prog w K mg base (L2.CX PySem.Challenge.rw_truechain_k34_names_and_copies.prog w) 11 fa0 (spLaw K (cs.map Prod.snd)) := by
  have G := T.g
  refine ⟨tf.map (He.cT K), X, tabsX X c, fun base _ _ tb => ?_⟩
  obtain ⟨fd__law_bag, F__law_bag⟩ := c.t.d.def_ 0 (d := d__law_bag) rfl
  have m__law_bag := He.glo_ok X G (c.t.d.fact 0 (f := .glo "_law_bag") rfl)
  have p__law_bag := F__law_bag.kp
  obtain ⟨fd__law_take, F__law_take⟩ := c.t.d.def_ 1 (d := d__law_take) rfl
  have m__law_take := He.glo_ok X G (c.t.d.fact 1 (f := .glo "_law_take") rfl)
  have p__law_take := F__law_take.kp
  obtain ⟨fd__law_name, F__law_name⟩ := c.t.d.def_ 2 (d := d__law_name) rfl
  have m__law_name := He.glo_ok X G (c.t.d.fact 2 (f := .glo "_law_name") rfl)
  have p__law_name := F__law_name.kp
  obtain ⟨fd__law_rising, F__law_rising⟩ := c.t.d.def_ 3 (d := d__law_rising) rfl
  have m__law_rising := He.glo_ok X G (c.t.d.fact 3 (f := .glo "_law_rising") rfl)
  have p__law_rising := F__law_rising.kp
  obtain ⟨fd__law_low, F__law_low⟩ := c.t.d.def_ 4 (d := d__law_low) rfl
  have m__law_low := He.glo_ok X G (c.t.d.fact 4 (f := .glo "_law_low") rfl)
  have p__law_low := F__law_low.kp
  obtain ⟨fd__law_small, F__law_small⟩ := c.t.d.def_ 5 (d := d__law_small) rfl
  have m__law_small := He.glo_ok X G (c.t.d.fact 5 (f := .glo "_law_small") rfl)
  have p__law_small := F__law_small.kp
  obtain ⟨fd__law_free, F__law_free⟩ := c.t.d.def_ 6 (d := d__law_free) rfl
  have m__law_free := He.glo_ok X G (c.t.d.fact 6 (f := .glo "_law_free") rfl)
  have p__law_free := F__law_free.kp
  obtain ⟨fd__law_under, F__law_under⟩ := c.t.d.def_ 7 (d := d__law_under) rfl
  have m__law_under := He.glo_ok X G (c.t.d.fact 7 (f := .glo "_law_under") rfl)
  have p__law_under := F__law_under.kp
  obtain ⟨fd__law_most, F__law_most⟩ := c.t.d.def_ 8 (d := d__law_most) rfl
  have m__law_most := He.glo_ok X G (c.t.d.fact 8 (f := .glo "_law_most") rfl)
  have p__law_most := F__law_most.kp
  obtain ⟨fd__law_least, F__law_least⟩ := c.t.d.def_ 9 (d := d__law_least) rfl
  have m__law_least := He.glo_ok X G (c.t.d.fact 9 (f := .glo "_law_least") rfl)
  have p__law_least := F__law_least.kp
  obtain ⟨fd__law_any_spot, F__law_any_spot⟩ := c.t.d.def_ 10 (d := d__law_any_spot) rfl
  have m__law_any_spot := He.glo_ok X G (c.t.d.fact 10 (f := .glo "_law_any_spot") rfl)
  have p__law_any_spot := F__law_any_spot.kp
  obtain ⟨fd__law_any_rows, F__law_any_rows⟩ := c.t.d.def_ 11 (d := d__law_any_rows) rfl
  have m__law_any_rows := He.glo_ok X G (c.t.d.fact 11 (f := .glo "_law_any_rows") rfl)
  have p__law_any_rows := F__law_any_rows.kp
  obtain ⟨fd__law_any_paper, F__law_any_paper⟩ := c.t.d.def_ 12 (d := d__law_any_paper) rfl
  have m__law_any_paper := He.glo_ok X G (c.t.d.fact 12 (f := .glo "_law_any_paper") rfl)
  have p__law_any_paper := F__law_any_paper.kp
  obtain ⟨fd__law_names_due, F__law_names_due⟩ := c.t.d.def_ 13 (d := d__law_names_due) rfl
  have m__law_names_due := He.glo_ok X G (c.t.d.fact 13 (f := .glo "_law_names_due") rfl)
  have p__law_names_due := F__law_names_due.kp
  obtain ⟨fd__law_copy, F__law_copy⟩ := c.t.d.def_ 14 (d := d__law_copy) rfl
  have m__law_copy := He.glo_ok X G (c.t.d.fact 14 (f := .glo "_law_copy") rfl)
  have p__law_copy := F__law_copy.kp
  obtain ⟨fd_parts_of, F_parts_of⟩ := c.t.d.def_ 15 (d := d_parts_of) rfl
  have m_parts_of := He.glo_ok X G (c.t.d.fact 15 (f := .glo "parts_of") rfl)
  have p_parts_of := F_parts_of.kp
  obtain ⟨fd_elders_in, F_elders_in⟩ := c.t.d.def_ 16 (d := d_elders_in) rfl
  have m_elders_in := He.glo_ok X G (c.t.d.fact 16 (f := .glo "elders_in") rfl)
  have p_elders_in := F_elders_in.kp
  obtain ⟨fd_names_in, F_names_in⟩ := c.t.d.def_ 17 (d := d_names_in) rfl
  have m_names_in := He.glo_ok X G (c.t.d.fact 17 (f := .glo "names_in") rfl)
  have p_names_in := F_names_in.kp
  obtain ⟨fd__law_alike, F__law_alike⟩ := c.t.d.def_ 18 (d := d__law_alike) rfl
  have m__law_alike := He.glo_ok X G (c.t.d.fact 18 (f := .glo "_law_alike") rfl)
  have p__law_alike := F__law_alike.kp
  obtain ⟨fd_copied_part, F_copied_part⟩ := c.t.d.def_ 19 (d := d_copied_part) rfl
  have m_copied_part := He.glo_ok X G (c.t.d.fact 19 (f := .glo "copied_part") rfl)
  have p_copied_part := F_copied_part.kp
  obtain ⟨fd_copy_of, F_copy_of⟩ := c.t.d.def_ 20 (d := d_copy_of) rfl
  have m_copy_of := He.glo_ok X G (c.t.d.fact 20 (f := .glo "copy_of") rfl)
  have p_copy_of := F_copy_of.kp
  obtain ⟨fd__law_emptied, F__law_emptied⟩ := c.t.d.def_ 21 (d := d__law_emptied) rfl
  have m__law_emptied := He.glo_ok X G (c.t.d.fact 21 (f := .glo "_law_emptied") rfl)
  have p__law_emptied := F__law_emptied.kp
  obtain ⟨fd_law, F_law⟩ := c.t.d.def_ 22 (d := d_law) rfl
  have m_law := He.glo_ok X G (c.t.d.fact 22 (f := .glo "law") rfl)
  have p_law := F_law.kp
  have e := hfa.symm.trans m_law
  cases e
  have z_abs := He.free_ok X G (c.t.d.fact 23 (f := .free "abs") rfl)
  have z_len := He.free_ok X G (c.t.d.fact 24 (f := .free "len") rfl)
  have z_range := He.free_ok X G (c.t.d.fact 25 (f := .free "range") rfl)
  have z_sorted := He.free_ok X G (c.t.d.fact 26 (f := .free "sorted") rfl)
  have z_int := He.free_ok X G (c.t.d.fact 27 (f := .free "int") rfl)
  have z_set := He.free_ok X G (c.t.d.fact 28 (f := .free "set") rfl)
  have z_isinstance := He.free_ok X G (c.t.d.fact 29 (f := .free "isinstance") rfl)
  have z_list := He.free_ok X G (c.t.d.fact 30 (f := .free "list") rfl)
  have z_tuple := He.free_ok X G (c.t.d.fact 31 (f := .free "tuple") rfl)
  have c_PARTS := He.glo_ok X G (c.t.d.fact 32 (f := .glo "PARTS") rfl)
  have kd_PARTS : KCon K w (He.ga K "PARTS") [("thing", (.tuple [(.str "name"), (.str "sort"), (.str "level"), (.str "rate"), (.str "marks")])), ("off", (.tuple [(.str "name")])), ("harmed", (.tuple [(.str "name")])), ("mended", (.tuple [(.str "name")])), ("made", (.tuple [(.str "name"), (.str "rate"), (.str "rows")])), ("told", (.tuple [(.str "name"), (.str "term"), (.str "rows")])), ("held", (.tuple [(.str "name"), (.str "finer"), (.str "term"), (.str "rows")])), ("read", (.tuple [(.str "name"), (.str "spot")]))] := kcon_of (ks := ["thing", "off", "harmed", "mended", "made", "told", "held", "read"]) (kvs := [("thing", .adr (fun K => vaA K (He.ga K "PARTS") "thing")), ("off", .adr (fun K => vaA K (He.ga K "PARTS") "off")), ("harmed", .adr (fun K => vaA K (He.ga K "PARTS") "harmed")), ("mended", .adr (fun K => vaA K (He.ga K "PARTS") "mended")), ("made", .adr (fun K => vaA K (He.ga K "PARTS") "made")), ("told", .adr (fun K => vaA K (He.ga K "PARTS") "told")), ("held", .adr (fun K => vaA K (He.ga K "PARTS") "held")), ("read", .adr (fun K => vaA K (He.ga K "PARTS") "read"))]) (tabW c.t 0 (t := (fun K => He.ga K "PARTS", ["thing", "off", "harmed", "mended", "made", "told", "held", "read"])) rfl) rfl (exsAt (K := K) c.more 8 (b := fun K => He.valsB K (He.ga K "PARTS") [("thing", .adr (fun K => vaA K (He.ga K "PARTS") "thing")), ("off", .adr (fun K => vaA K (He.ga K "PARTS") "off")), ("harmed", .adr (fun K => vaA K (He.ga K "PARTS") "harmed")), ("mended", .adr (fun K => vaA K (He.ga K "PARTS") "mended")), ("made", .adr (fun K => vaA K (He.ga K "PARTS") "made")), ("told", .adr (fun K => vaA K (He.ga K "PARTS") "told")), ("held", .adr (fun K => vaA K (He.ga K "PARTS") "held")), ("read", .adr (fun K => vaA K (He.ga K "PARTS") "read"))]) rfl) (.cons (tupAt_ok (vs := [(.str "name"), (.str "sort"), (.str "level"), (.str "rate"), (.str "marks")]) (exsAt (K := K) c.more 7 (b := fun K => tupAt K (vaA K (He.ga K "PARTS") "thing") [(.str "name"), (.str "sort"), (.str "level"), (.str "rate"), (.str "marks")]) rfl) fun F => .cons (Rp.str _) (.cons (Rp.str _) (.cons (Rp.str _) (.cons (Rp.str _) (.cons (Rp.str _) (.nil)))))) (.cons (tupAt_ok (vs := [(.str "name")]) (exsAt (K := K) c.more 6 (b := fun K => tupAt K (vaA K (He.ga K "PARTS") "off") [(.str "name")]) rfl) fun F => .cons (Rp.str _) (.nil)) (.cons (tupAt_ok (vs := [(.str "name")]) (exsAt (K := K) c.more 5 (b := fun K => tupAt K (vaA K (He.ga K "PARTS") "harmed") [(.str "name")]) rfl) fun F => .cons (Rp.str _) (.nil)) (.cons (tupAt_ok (vs := [(.str "name")]) (exsAt (K := K) c.more 4 (b := fun K => tupAt K (vaA K (He.ga K "PARTS") "mended") [(.str "name")]) rfl) fun F => .cons (Rp.str _) (.nil)) (.cons (tupAt_ok (vs := [(.str "name"), (.str "rate"), (.str "rows")]) (exsAt (K := K) c.more 3 (b := fun K => tupAt K (vaA K (He.ga K "PARTS") "made") [(.str "name"), (.str "rate"), (.str "rows")]) rfl) fun F => .cons (Rp.str _) (.cons (Rp.str _) (.cons (Rp.str _) (.nil)))) (.cons (tupAt_ok (vs := [(.str "name"), (.str "term"), (.str "rows")]) (exsAt (K := K) c.more 2 (b := fun K => tupAt K (vaA K (He.ga K "PARTS") "told") [(.str "name"), (.str "term"), (.str "rows")]) rfl) fun F => .cons (Rp.str _) (.cons (Rp.str _) (.cons (Rp.str _) (.nil)))) (.cons (tupAt_ok (vs := [(.str "name"), (.str "finer"), (.str "term"), (.str "rows")]) (exsAt (K := K) c.more 1 (b := fun K => tupAt K (vaA K (He.ga K "PARTS") "held") [(.str "name"), (.str "finer"), (.str "term"), (.str "rows")]) rfl) fun F => .cons (Rp.str _) (.cons (Rp.str _) (.cons (Rp.str _) (.cons (Rp.str _) (.nil))))) (.cons (tupAt_ok (vs := [(.str "name"), (.str "spot")]) (exsAt (K := K) c.more 0 (b := fun K => tupAt K (vaA K (He.ga K "PARTS") "read") [(.str "name"), (.str "spot")]) rfl) fun F => .cons (Rp.str _) (.cons (Rp.str _) (.nil))) (.nil)))))))))
  have kl_PARTS : KLst K w (He.ga K "PARTS") ["thing", "off", "harmed", "mended", "made", "told", "held", "read"] := klst_of (tabW c.t 0 (t := (fun K => He.ga K "PARTS", ["thing", "off", "harmed", "mended", "made", "told", "held", "read"])) rfl) (by decide +kernel) (by decide)
  obtain ⟨t_KIND_AT, c_KIND_AT⟩ := He.int_ok X G (c.t.d.fact 33 (f := .int "KIND_AT" 2) rfl)
  obtain ⟨t_ROWS_AT, c_ROWS_AT⟩ := He.int_ok X G (c.t.d.fact 34 (f := .int "ROWS_AT" (-1)) rfl)
  have z_zip := He.free_ok X G (c.t.d.fact 35 (f := .free "zip") rfl)
  have z_repr := He.free_ok X G (c.t.d.fact 36 (f := .free "repr") rfl)
  have g__law_bag := ok__law_bag (P := PySem.Challenge.rw_truechain_k34_names_and_copies.prog) (w := w) (mg := mg) (base := base) (fun_ofD (st := s__law_bag) F__law_bag) (z_abs := z_abs)
  have g__law_take := ok__law_take (ts := (tf.map (He.cT K)).map Prod.snd) (P := PySem.Challenge.rw_truechain_k34_names_and_copies.prog) (w := w) (mg := mg) (base := base) (fun_ofD (st := s__law_take) F__law_take) (z_len := z_len)
  have g__law_name := ok__law_name (ts := (tf.map (He.cT K)).map Prod.snd) (P := PySem.Challenge.rw_truechain_k34_names_and_copies.prog) (w := w) (mg := mg) (base := base) (fun_ofD (st := s__law_name) F__law_name) (g__law_take := g__law_take) (m__law_take := m__law_take) (p__law_take := p__law_take) (z_range := z_range)
  have g__law_rising := ok__law_rising (ts := (tf.map (He.cT K)).map Prod.snd) (P := PySem.Challenge.rw_truechain_k34_names_and_copies.prog) (w := w) (mg := mg) (base := base) (fun_ofD (st := s__law_rising) F__law_rising) (g__law_take := g__law_take) (m__law_take := m__law_take) (p__law_take := p__law_take) (z_range := z_range)
  have g__law_low := ok__law_low (ts := (tf.map (He.cT K)).map Prod.snd) (P := PySem.Challenge.rw_truechain_k34_names_and_copies.prog) (w := w) (mg := mg) (base := base) (fun_ofD (st := s__law_low) F__law_low) (z_abs := z_abs)
  have g__law_small := ok__law_small (ts := (tf.map (He.cT K)).map Prod.snd) (P := PySem.Challenge.rw_truechain_k34_names_and_copies.prog) (w := w) (mg := mg) (base := base) (fun_ofD (st := s__law_small) F__law_small) (g__law_take := g__law_take) (m__law_take := m__law_take) (p__law_take := p__law_take) (g__law_low := g__law_low) (m__law_low := m__law_low) (p__law_low := p__law_low)
  have g__law_free := ok__law_free (ts := (tf.map (He.cT K)).map Prod.snd) (P := PySem.Challenge.rw_truechain_k34_names_and_copies.prog) (w := w) (mg := mg) (base := base) (fun_ofD (st := s__law_free) F__law_free) (g__law_small := g__law_small) (m__law_small := m__law_small) (p__law_small := p__law_small) (z_abs := z_abs)
  have g__law_under := ok__law_under (ts := (tf.map (He.cT K)).map Prod.snd) (P := PySem.Challenge.rw_truechain_k34_names_and_copies.prog) (w := w) (mg := mg) (base := base) (fun_ofD (st := s__law_under) F__law_under) 
  have g__law_most := ok__law_most (ts := (tf.map (He.cT K)).map Prod.snd) (P := PySem.Challenge.rw_truechain_k34_names_and_copies.prog) (w := w) (mg := mg) (base := base) (fun_ofD (st := s__law_most) F__law_most) (g__law_under := g__law_under) (m__law_under := m__law_under) (p__law_under := p__law_under)
  have g__law_least := ok__law_least (ts := (tf.map (He.cT K)).map Prod.snd) (P := PySem.Challenge.rw_truechain_k34_names_and_copies.prog) (w := w) (mg := mg) (base := base) (fun_ofD (st := s__law_least) F__law_least) (g__law_under := g__law_under) (m__law_under := m__law_under) (p__law_under := p__law_under)
  have g__law_any_spot := ok__law_any_spot (ts := (tf.map (He.cT K)).map Prod.snd) (P := PySem.Challenge.rw_truechain_k34_names_and_copies.prog) (w := w) (mg := mg) (base := base) (fun_ofD (st := s__law_any_spot) F__law_any_spot) (g__law_take := g__law_take) (m__law_take := m__law_take) (p__law_take := p__law_take) (z_sorted := z_sorted) (z_range := z_range)
  have g__law_any_rows := ok__law_any_rows (ts := (tf.map (He.cT K)).map Prod.snd) (P := PySem.Challenge.rw_truechain_k34_names_and_copies.prog) (w := w) (mg := mg) (base := base) (fun_ofD (st := s__law_any_rows) F__law_any_rows) (g__law_rising := g__law_rising) (m__law_rising := m__law_rising) (p__law_rising := p__law_rising) (g__law_take := g__law_take) (m__law_take := m__law_take) (p__law_take := p__law_take) (g__law_small := g__law_small) (m__law_small := m__law_small) (p__law_small := p__law_small) (g__law_most := g__law_most) (m__law_most := m__law_most) (p__law_most := p__law_most) (g__law_least := g__law_least) (m__law_least := m__law_least) (p__law_least := p__law_least) (g__law_free := g__law_free) (m__law_free := m__law_free) (p__law_free := p__law_free) (g__law_any_spot := g__law_any_spot) (m__law_any_spot := m__law_any_spot) (p__law_any_spot := p__law_any_spot) (g__law_name := g__law_name) (m__law_name := m__law_name) (p__law_name := p__law_name)
  have g__law_any_paper := ok__law_any_paper (ts := (tf.map (He.cT K)).map Prod.snd) (P := PySem.Challenge.rw_truechain_k34_names_and_copies.prog) (w := w) (mg := mg) (base := base) (fun_ofD (st := s__law_any_paper) F__law_any_paper) (g__law_take := g__law_take) (m__law_take := m__law_take) (p__law_take := p__law_take) (g__law_name := g__law_name) (m__law_name := m__law_name) (p__law_name := p__law_name) (g__law_rising := g__law_rising) (m__law_rising := m__law_rising) (p__law_rising := p__law_rising) (g__law_free := g__law_free) (m__law_free := m__law_free) (p__law_free := p__law_free) (g__law_any_rows := g__law_any_rows) (m__law_any_rows := m__law_any_rows) (p__law_any_rows := p__law_any_rows) (g__law_any_spot := g__law_any_spot) (m__law_any_spot := m__law_any_spot) (p__law_any_spot := p__law_any_spot) (z_int := z_int)
  have g__law_names_due := ok__law_names_due (ts := (tf.map (He.cT K)).map Prod.snd) (P := PySem.Challenge.rw_truechain_k34_names_and_copies.prog) (w := w) (mg := mg) (base := base) (fun_ofD (st := s__law_names_due) F__law_names_due) (z_sorted := z_sorted) (z_set := z_set)
  have g__law_copy := ok__law_copy (ts := (tf.map (He.cT K)).map Prod.snd) (P := PySem.Challenge.rw_truechain_k34_names_and_copies.prog) (w := w) (mg := mg) (base := base) (fun_ofD (st := s__law_copy) F__law_copy) (m__law_copy := m__law_copy) (p__law_copy := p__law_copy) (z_isinstance := z_isinstance) (z_list := z_list) (z_tuple := z_tuple) 8
  have g_parts_of := ok_parts_of (ts := (tf.map (He.cT K)).map Prod.snd) (P := PySem.Challenge.rw_truechain_k34_names_and_copies.prog) (w := w) (mg := mg) (base := base) (fun_ofD (st := s_parts_of) F_parts_of) (c_PARTS := c_PARTS) (kd_PARTS := kd_PARTS) (kl_PARTS := kl_PARTS) (c_KIND_AT := c_KIND_AT)
  have g_elders_in := ok_elders_in (ts := (tf.map (He.cT K)).map Prod.snd) (P := PySem.Challenge.rw_truechain_k34_names_and_copies.prog) (w := w) (mg := mg) (base := base) (fun_ofD (st := s_elders_in) F_elders_in) (c_KIND_AT := c_KIND_AT) (c_ROWS_AT := c_ROWS_AT)
  have g_names_in := ok_names_in (ts := (tf.map (He.cT K)).map Prod.snd) (P := PySem.Challenge.rw_truechain_k34_names_and_copies.prog) (w := w) (mg := mg) (base := base) (fun_ofD (st := s_names_in) F_names_in) (g_parts_of := g_parts_of) (m_parts_of := m_parts_of) (p_parts_of := p_parts_of) (g_elders_in := g_elders_in) (m_elders_in := m_elders_in) (p_elders_in := p_elders_in) (z_zip := z_zip) (z_sorted := z_sorted) (z_set := z_set)
  have g__law_alike := ok__law_alike (ts := (tf.map (He.cT K)).map Prod.snd) (P := PySem.Challenge.rw_truechain_k34_names_and_copies.prog) (w := w) (mg := mg) (base := base) (fun_ofD (st := s__law_alike) F__law_alike) (z_repr := z_repr)
  have g_copied_part := ok_copied_part (ts := (tf.map (He.cT K)).map Prod.snd) (P := PySem.Challenge.rw_truechain_k34_names_and_copies.prog) (w := w) (mg := mg) (base := base) (fun_ofD (st := s_copied_part) F_copied_part) (m_copied_part := m_copied_part) (p_copied_part := p_copied_part) (z_isinstance := z_isinstance) (z_list := z_list) (z_tuple := z_tuple) 8
  have g_copy_of := ok_copy_of (ts := (tf.map (He.cT K)).map Prod.snd) (P := PySem.Challenge.rw_truechain_k34_names_and_copies.prog) (w := w) (mg := mg) (base := base) (fun_ofD (st := s_copy_of) F_copy_of) (g_copied_part := g_copied_part) (m_copied_part := m_copied_part) (p_copied_part := p_copied_part) (z_tuple := z_tuple)
  have g__law_emptied := ok__law_emptied (ts := (tf.map (He.cT K)).map Prod.snd) (P := PySem.Challenge.rw_truechain_k34_names_and_copies.prog) (w := w) (mg := mg) (base := base) (fun_ofD (st := s__law_emptied) F__law_emptied) (z_len := z_len) (z_isinstance := z_isinstance) (z_list := z_list)
  have g_law := ok_law (ts := (tf.map (He.cT K)).map Prod.snd) (P := PySem.Challenge.rw_truechain_k34_names_and_copies.prog) (w := w) (mg := mg) (base := base) (fun_ofD (st := s_law) F_law) (g__law_bag := g__law_bag) (m__law_bag := m__law_bag) (p__law_bag := p__law_bag) (g__law_take := g__law_take) (m__law_take := m__law_take) (p__law_take := p__law_take) (g__law_any_paper := g__law_any_paper) (m__law_any_paper := m__law_any_paper) (p__law_any_paper := p__law_any_paper) (g__law_names_due := g__law_names_due) (m__law_names_due := m__law_names_due) (p__law_names_due := p__law_names_due) (g__law_copy := g__law_copy) (m__law_copy := m__law_copy) (p__law_copy := p__law_copy) (g_names_in := g_names_in) (m_names_in := m_names_in) (p_names_in := p_names_in) (g__law_alike := g__law_alike) (m__law_alike := m__law_alike) (p__law_alike := p__law_alike) (g_copy_of := g_copy_of) (m_copy_of := m_copy_of) (p_copy_of := p_copy_of) (g__law_emptied := g__law_emptied) (m__law_emptied := m__law_emptied) (p__law_emptied := p__law_emptied) (z_range := z_range)
  exact g_law
end Lk
open PySem PySem.W PyProof.Rows
set_option maxHeartbeats 0 in
theorem PySem.Challenge.cw_truechain_k34_names_and_copies_holds : PySem.Challenge.rw_truechain_k34_names_and_copies.Holds := by
  refine Lk.hd ?_
  refine Dl.law_endX (l := PySem.Challenge.rw_truechain_k34_names_and_copies) (k := 11) (sp := fun K ts => Dl.spLaw K ts) rfl rfl ⟨rfl, by decide, by decide⟩ rfl (fun w mg mb lo mean fa h Y T hmg => ?F) (fun K H a ns ts hl ht hS => ⟨ht, a, ns, rfl, hS, hl, fun _ => rfl⟩)
  obtain ⟨K, KX, c⟩ := Y
  exact ⟨K, Lk.all_mk KX T hmg c⟩
