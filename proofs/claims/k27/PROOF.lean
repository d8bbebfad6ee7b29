import PyProof.Rows.All
import Wide.All
import OpenK.AllK
import Wide.FinOn
import HandS.ForMost
import HandS.Flow
import HandS.Wide
import HandS.WideBits
import HandS.Gcd
import HandS.IsInst
import HandS.Call
import HandS.SortInts
import HandS.Walk
import HandS.Star
import PyProof.ReprRoads
import HandS.AnyAll
import HandS.EndBits
import HandS.Exc
import HandS.Text
import KE.GoesEnum
import HandS.RaiseMore
import HandS.Comp
import HandS.Style
import PyProof.P3Eq
import HandS.Deep
import HandS.More
import HandS.TupAny
import HandS.ExcOwn
import HandS.ExcInit
import HandS.WordsExc
import HandS.TryOnly
import HandS.ExcField
import HandS.ExcIs
import KE.KExcIs
import HandS.Small
import PyProof.Rows.SeqMore
import HandS.HeadHook4
import HandS.Words
import HandS.DictTup
import KE.SortData
import HandS.SetFor
import HandS.Strs
import PyProof.Rows.SetFrom
import PyProof.StrLawsRepr
import HandS.ListEq
import HandS.Zip
import HandS.TupSets
import HandS.FStr
import HandS.Steps
import PyProof.EqKinds
import PyProof.NeKinds
import HandS.TryMany
import PySem.Challenge.RW_truechain_k27_marks_refused
set_option Elab.async false
set_option linter.all false
set_option maxRecDepth 100000
set_option exponentiation.threshold 100000
/-! the data layer: values as trees, heaps out of sight -/
namespace Dl
open PySem PySem.Spec PyProof.Rows L2 GxR
/-- what is asked of a class whose objects are held as data -/
structure ObC (K : PySem.W.Frag) (c : Str) (C : Addr) : Prop where
  name : PySem.W.nsIn K mainGlobals c = some (some (.ref C))
  cls : Cls K C
  ha : PySem.W.findIn K (.ref C) "__class__" = some (some (.builtin "object.__class__"))
  hn : PySem.W.specialIn K (.builtin "object.__class__") "__get__" = some (some (.builtin "getset_descriptor.__get__"))
  ht : PySem.W.takesIn K (.builtin "object.__class__") = some true
  hm : PySem.W.mroIn K C (.type "object") = some true
  kit : ∀ n, (n = "int" ∨ n = "bool" ∨ n = "str" ∨ n = "list" ∨ n = "tuple" ∨ n = "dict") → PySem.W.kitOne K (.ref C) (.type n) = some false
/-- an object of a class of the module as data: its class by its name, its fields -/
def obD (c : Str) (ds : List (Str × PyData)) : PyData := .dict ((.none, .str c) :: ds.map fun p => (.str p.1, p.2))
mutual
inductive Rp (K : PySem.W.Frag) (F : Hp) : V → PyData → Prop
  | non : Rp K F .non .none
  | bl (b : Bool) : Rp K F (.bl b) (.bool b)
  | int (i : Int) : Rp K F (.int i) (.int i)
  | str (x : Str) : Rp K F (.str x) (.str x)
  | lst {a : Addr} {vs : List V} {xs : List PyData} (h : F a = some (.lst vs)) (r : RpA K F vs xs) : Rp K F (.ref a) (.list xs)
  | tup {a : Addr} {vs : List V} {xs : List PyData} (h : SqT K F a vs) (r : RpA K F vs xs) : Rp K F (.ref a) (.tuple xs)
  | dct {a : Addr} {kvs : List (Key × V)} {ks xs : List PyData} (h : F a = some (.dK kvs)) (r : RpA K F (kvs.map fun p => kV p.1) ks) (q : RpA K F (kvs.map Prod.snd) xs) : Rp K F (.ref a) (.dict (ks.zip xs))
  | obj {a C dx : Addr} {fs : List (Str × V)} {c : Str} {vs : List V} {ds : List (Str × PyData)} (h : F a = some (.ins C dx fs)) (hc : ObC K c C) (hn : ds.map (fun p => fs.lookup p.1) = vs.map some) (ho : ∀ n, n ∉ ds.map Prod.fst → fs.lookup n = none) (r : RpA K F vs (ds.map Prod.snd)) : Rp K F (.ref a) (obD c ds)
inductive RpA (K : PySem.W.Frag) (F : Hp) : List V → List PyData → Prop
  | nil : RpA K F [] []
  | cons {v : V} {vs : List V} {x : PyData} {xs : List PyData} (h : Rp K F v x) (t : RpA K F vs xs) : RpA K F (v :: vs) (x :: xs)
end
section
variable {K : PySem.W.Frag} {F F' : Hp}
theorem sq_up {a : Addr} {vs : List V} (e : Same F F') (h : SqL K F a vs) : SqL K F' a vs := e.seq h
theorem sqt_up {a : Addr} {vs : List V} (e : Same F F') (h : SqT K F a vs) : SqT K F' a vs := by
  rcases h with (h | ⟨o, h⟩) | h
  · exact .inl (.inl (e _ _ h))
  · exact .inl (.inr ⟨o, e _ _ h⟩)
  · exact .inr h
mutual
theorem Rp.up (e : Same F F') : ∀ {v : V} {x : PyData}, Rp K F v x → Rp K F' v x
  | _, _, .non => .non
  | _, _, .bl b => .bl b
  | _, _, .int b => .int b
  | _, _, .str b => .str b
  | _, _, .lst h r => .lst (e _ _ h) (RpA.up e r)
  | _, _, .tup h r => .tup (sqt_up e h) (RpA.up e r)
  | _, _, .dct h r q => .dct (e _ _ h) (RpA.up e r) (RpA.up e q)
  | _, _, .obj h hc hn ho r => .obj (e _ _ h) hc hn ho (RpA.up e r)
theorem RpA.up (e : Same F F') : ∀ {v : List V} {x : List PyData}, RpA K F v x → RpA K F' v x
  | _, _, .nil => .nil
  | _, _, .cons h t => .cons (Rp.up e h) (RpA.up e t)
end
theorem RpA.len : ∀ {vs : List V} {xs : List PyData}, RpA K F vs xs → vs.length = xs.length
  | _, _, .nil => rfl
  | _, _, .cons _ t => congrArg (· + 1) (RpA.len t)
theorem RpA.app : ∀ {vs ws : List V} {xs ys : List PyData}, RpA K F vs xs → RpA K F ws ys → RpA K F (vs ++ ws) (xs ++ ys)
  | _, _, _, _, .nil, q => q
  | _, _, _, _, .cons h t, q => .cons h (RpA.app t q)
theorem RpA.get : ∀ {vs : List V} {xs : List PyData} {i : Nat} {x : PyData}, RpA K F vs xs → xs[i]? = some x → ∃ v, vs[i]? = some v ∧ Rp K F v x
  | _, _, _, _, .nil, e => by simp at e
  | _, _, 0, _, .cons h _, e => by simp at e; subst e; exact ⟨_, rfl, h⟩
  | _, _, i + 1, x, .cons _ t, e => by
    obtain ⟨v, h1, h2⟩ := RpA.get (i := i) (x := x) t (by simpa using e)
    exact ⟨v, by simpa using h1, h2⟩
theorem RpA.getV : ∀ {vs : List V} {xs : List PyData} {i : Nat} {v : V}, RpA K F vs xs → vs[i]? = some v → ∃ x, xs[i]? = some x ∧ Rp K F v x
  | _, _, _, _, .nil, e => by simp at e
  | _, _, 0, _, .cons h _, e => by simp at e; subst e; exact ⟨_, rfl, h⟩
  | _, _, i + 1, x, .cons _ t, e => by
    obtain ⟨v, h1, h2⟩ := RpA.getV (i := i) (v := x) t (by simpa using e)
    exact ⟨v, by simpa using h1, h2⟩
theorem RpA.set {v : V} {x : PyData} (h : Rp K F v x) : ∀ {vs : List V} {xs : List PyData} (i : Nat), RpA K F vs xs → RpA K F (vs.set i v) (xs.set i x)
  | _, _, _, .nil => .nil
  | _, _, 0, .cons _ t => .cons h t
  | _, _, i + 1, .cons q t => .cons q (RpA.set h i t)
theorem RpA.take : ∀ {vs : List V} {xs : List PyData} (n : Nat), RpA K F vs xs → RpA K F (vs.take n) (xs.take n)
  | _, _, 0, _ => .nil
  | _, _, _ + 1, .nil => .nil
  | _, _, n + 1, .cons h t => .cons h (RpA.take n t)
theorem RpA.drop : ∀ {vs : List V} {xs : List PyData} (n : Nat), RpA K F vs xs → RpA K F (vs.drop n) (xs.drop n)
  | _, _, 0, h => h
  | _, _, _ + 1, .nil => .nil
  | _, _, n + 1, .cons _ t => RpA.drop n t
theorem RpA.ints : ∀ ns : List Int, RpA K F (ns.map V.int) (ns.map PyData.int)
  | [] => .nil
  | n :: ns => .cons (.int n) (RpA.ints ns)
/-- the ints of data that are all ints -/
theorem RpA.ofInts : ∀ {vs : List V} {ns : List Int}, RpA K F vs (ns.map PyData.int) → vs = ns.map V.int
  | _, [], .nil => rfl
  | _, n :: ns, .cons h t => by
    cases h
    rw [RpA.ofInts t]
    rfl
end
mutual
def noL : PyData → Bool
  | .none => true
  | .bool _ => true
  | .int _ => true
  | .str _ => true
  | .list _ => false
  | .tuple xs => noLs xs
  | .dict _ => false
def noLs : List PyData → Bool
  | [] => true
  | x :: xs => noL x && noLs xs
end
section
variable {K : PySem.W.Frag} {b : Bg} {F H F' H' : Hp}
/-- what may change -/
def isM : HO → Bool
  | .lst _ => true
  | .dK _ => true
  | .ins _ _ _ => true
  | .own _ => true
  | _ => false
mutual
theorem noL_up {F2 : Hp} (h : ∀ a o, isM o = false → F a = some o → F2 a = some o) : ∀ {v : V} {x : PyData}, noL x = true → Rp K F v x → Rp K F2 v x
  | _, _, _, .non => .non
  | _, _, _, .bl b => .bl b
  | _, _, _, .int b => .int b
  | _, _, _, .str b => .str b
  | _, _, n, .lst _ _ => by simp only [noL] at n; cases n
  | _, _, n, .tup e r => by
    refine .tup ?_ (noLs_up h (by simpa only [noL] using n) r)
    rcases e with (e | ⟨o, e⟩) | e
    · exact .inl (.inl (h _ _ rfl e))
    · exact .inl (.inr ⟨o, h _ _ rfl e⟩)
    · exact .inr e
  | _, _, n, .dct _ _ _ => by simp only [noL] at n; cases n
  | _, _, n, .obj _ _ _ _ _ => by simp only [obD, noL] at n; cases n
theorem noLs_up {F2 : Hp} (h : ∀ a o, isM o = false → F a = some o → F2 a = some o) : ∀ {v : List V} {x : List PyData}, noLs x = true → RpA K F v x → RpA K F2 v x
  | _, _, _, .nil => .nil
  | _, _, n, .cons a t => by
    rw [noLs, Bool.and_eq_true] at n
    exact .cons (noL_up h n.1 a) (noLs_up h n.2 t)
end
end
theorem key_up {K : PySem.W.Frag} {F F2 : Hp} {k : Key} {x : PyData} (h : Rp K F (kV k) x) : Rp K F2 (kV k) x := by
  cases k with
  | inl i => cases h; exact .int i
  | inr z => cases h; exact .str z
theorem noKs_up {K : PySem.W.Frag} {F F2 : Hp} : ∀ {kvs : List (Key × V)} {ks : List PyData}, RpA K F (kvs.map fun p => kV p.1) ks → RpA K F2 (kvs.map fun p => kV p.1) ks
  | [], _, .nil => .nil
  | (_, _) :: _, _, .cons h t => .cons (key_up h) (noKs_up t)
/-! ### trees of objects that are owned: S, the addresses of what may change -/
mutual
inductive Ot (K : PySem.W.Frag) (F H : Hp) (dp : Bool) : List Addr → V → PyData → Prop
  | leaf {v : V} {x : PyData} (r : Rp K F v x) (n : dp = true → noL x = true) : Ot K F H dp [] v x
  | lst {a : Addr} {S : List Addr} {vs : List V} {xs : List PyData} (h : H a = some (.lst vs)) (r : OtA K F H dp S vs xs) : Ot K F H dp (a :: S) (.ref a) (.list xs)
  | tup {a : Addr} {S : List Addr} {vs : List V} {xs : List PyData} (h : SqT K F a vs) (r : OtA K F H dp S vs xs) : Ot K F H dp S (.ref a) (.tuple xs)
  | dct {a : Addr} {S : List Addr} {kvs : List (Key × V)} {ks xs : List PyData} (h : H a = some (.dK kvs)) (r : RpA K F (kvs.map fun p => kV p.1) ks) (q : OtA K F H dp S (kvs.map Prod.snd) xs) : Ot K F H dp (a :: S) (.ref a) (.dict (ks.zip xs))
  | obj {a C dx : Addr} {S : List Addr} {fs : List (Str × V)} {c : Str} {vs : List V} {ds : List (Str × PyData)} (h : H a = some (.ins C dx fs)) (hd : H dx = some (.own a)) (hc : ObC K c C) (hn : ds.map (fun p => fs.lookup p.1) = vs.map some) (ho : ∀ n, n ∉ ds.map Prod.fst → fs.lookup n = none) (hl : fs.length = ds.length) (r : OtA K F H dp S vs (ds.map Prod.snd)) : Ot K F H dp (a :: dx :: S) (.ref a) (obD c ds)
inductive OtA (K : PySem.W.Frag) (F H : Hp) (dp : Bool) : List Addr → List V → List PyData → Prop
  | nil : OtA K F H dp [] [] []
  | cons {S T : List Addr} {v : V} {vs : List V} {x : PyData} {xs : List PyData} (h : Ot K F H dp S v x) (t : OtA K F H dp T vs xs) : OtA K F H dp (S ++ T) (v :: vs) (x :: xs)
end
section
variable {K : PySem.W.Frag} {F F' H H' : Hp} {dp : Bool}
mutual
theorem Ot.up (e : Same F F') : ∀ {S : List Addr} {v : V} {x : PyData}, (∀ a ∈ S, ∀ o, H a = some o → H' a = some o) → Ot K F H dp S v x → Ot K F' H' dp S v x
  | _, _, _, _, .leaf r n => .leaf (r.up e) n
  | _, _, _, k, .lst h r => .lst (k _ (List.mem_cons_self ..) _ h) (OtA.up e (fun a m => k a (List.mem_cons_of_mem _ m)) r)
  | _, _, _, k, .tup h r => .tup (sqt_up e h) (OtA.up e k r)
  | _, _, _, k, .dct h r q => .dct (k _ (List.mem_cons_self ..) _ h) (r.up e) (OtA.up e (fun a m => k a (List.mem_cons_of_mem _ m)) q)
  | _, _, _, k, .obj h hd hc hn ho hl r => .obj (k _ (List.mem_cons_self ..) _ h) (k _ (List.mem_cons_of_mem _ (List.mem_cons_self ..)) _ hd) hc hn ho hl (OtA.up e (fun a m => k a (List.mem_cons_of_mem _ (List.mem_cons_of_mem _ m))) r)
theorem OtA.up (e : Same F F') : ∀ {S : List Addr} {v : List V} {x : List PyData}, (∀ a ∈ S, ∀ o, H a = some o → H' a = some o) → OtA K F H dp S v x → OtA K F' H' dp S v x
  | _, _, _, _, .nil => .nil
  | _, _, _, k, .cons h t => .cons (Ot.up e (fun a m => k a (List.mem_append.mpr (.inl m))) h) (OtA.up e (fun a m => k a (List.mem_append.mpr (.inr m))) t)
end
/-- known too: what S holds -/
def opn (ls : List Addr) (F H : Hp) : Hp := fun a => if a ∈ ls then H a else F a
theorem opn_same {ls : List Addr} (h : ∀ l ∈ ls, F l = none) : Same F (opn ls F H) := fun a o e => by
  unfold opn
  rw [if_neg (fun z => by rw [h a z] at e; cases e)]
  exact e
mutual
theorem Ot.open {Z : List Addr} (e : Same F (opn Z F H)) : ∀ {S : List Addr} {v : V} {x : PyData}, (∀ a ∈ S, a ∈ Z) → Ot K F H dp S v x → Rp K (opn Z F H) v x
  | _, _, _, _, .leaf r _ => r.up e
  | _, _, _, k, .lst h r => .lst (by unfold opn; rw [if_pos (k _ (List.mem_cons_self ..))]; exact h) (OtA.open e (fun a m => k a (List.mem_cons_of_mem _ m)) r)
  | _, _, _, k, .tup h r => .tup (sqt_up e h) (OtA.open e k r)
  | _, _, _, k, .dct h r q => .dct (by unfold opn; rw [if_pos (k _ (List.mem_cons_self ..))]; exact h) (r.up e) (OtA.open e (fun a m => k a (List.mem_cons_of_mem _ m)) q)
  | _, _, _, k, .obj h hd hc hn ho hl r => .obj (by unfold opn; rw [if_pos (k _ (List.mem_cons_self ..))]; exact h) hc hn ho (OtA.open e (fun a m => k a (List.mem_cons_of_mem _ (List.mem_cons_of_mem _ m))) r)
theorem OtA.open {Z : List Addr} (e : Same F (opn Z F H)) : ∀ {S : List Addr} {v : List V} {x : List PyData}, (∀ a ∈ S, a ∈ Z) → OtA K F H dp S v x → RpA K (opn Z F H) v x
  | _, _, _, _, .nil => .nil
  | _, _, _, k, .cons h t => .cons (Ot.open e (fun a m => k a (List.mem_append.mpr (.inl m))) h) (OtA.open e (fun a m => k a (List.mem_append.mpr (.inr m))) t)
end
mutual
/-- what is owned stands there, and may change -/
theorem Ot.there : ∀ {S : List Addr} {v : V} {x : PyData}, Ot K F H dp S v x → ∀ a ∈ S, ∃ o, H a = some o ∧ isM o = true
  | _, _, _, .leaf _ _, _, m => absurd m List.not_mem_nil
  | _, _, _, .lst h r, a, m => by
    rcases List.mem_cons.mp m with rfl | m
    · exact ⟨_, h, rfl⟩
    · exact OtA.there r a m
  | _, _, _, .tup _ r, a, m => OtA.there r a m
  | _, _, _, .dct h _ q, a, m => by
    rcases List.mem_cons.mp m with rfl | m
    · exact ⟨_, h, rfl⟩
    · exact OtA.there q a m
  | _, _, _, .obj h hd _ _ _ _ r, a, m => by
    rcases List.mem_cons.mp m with rfl | m
    · exact ⟨_, h, rfl⟩
    · rcases List.mem_cons.mp m with rfl | m
      · exact ⟨_, hd, rfl⟩
      · exact OtA.there r a m
theorem OtA.there : ∀ {S : List Addr} {v : List V} {x : List PyData}, OtA K F H dp S v x → ∀ a ∈ S, ∃ o, H a = some o ∧ isM o = true
  | _, _, _, .nil, _, m => absurd m List.not_mem_nil
  | _, _, _, .cons h t, a, m => by
    rcases List.mem_append.mp m with m | m
    · exact Ot.there h a m
    · exact OtA.there t a m
end
theorem isM_tbl {o : HO} (h : isM o = true) : ∀ ps, o ≠ .tbl ps := fun ps e => by subst e; cases h
mutual
theorem Ot.shut {F2 : Hp} (h : ∀ a o, isM o = false → F a = some o → F2 a = some o) : ∀ {S : List Addr} {v : V} {x : PyData}, Ot K F H true S v x → Ot K F2 H true S v x
  | _, _, _, .leaf r n => .leaf (noL_up h (n rfl) r) n
  | _, _, _, .lst e r => .lst e (OtA.shut h r)
  | _, _, _, .tup e r => .tup (by
      rcases e with (e | ⟨o, e⟩) | e
      · exact .inl (.inl (h _ _ rfl e))
      · exact .inl (.inr ⟨o, h _ _ rfl e⟩)
      · exact .inr e) (OtA.shut h r)
  | _, _, _, .dct e r q => .dct e (noKs_up r) (OtA.shut h q)
  | _, _, _, .obj e hd hc hn ho hl r => .obj e hd hc hn ho hl (OtA.shut h r)
theorem OtA.shut {F2 : Hp} (h : ∀ a o, isM o = false → F a = some o → F2 a = some o) : ∀ {S : List Addr} {v : List V} {x : List PyData}, OtA K F H true S v x → OtA K F2 H true S v x
  | _, _, _, .nil => .nil
  | _, _, _, .cons q t => .cons (Ot.shut h q) (OtA.shut h t)
end
theorem OtA.len : ∀ {S : List Addr} {vs : List V} {xs : List PyData}, OtA K F H dp S vs xs → vs.length = xs.length
  | _, _, _, .nil => rfl
  | _, _, _, .cons _ t => congrArg (· + 1) (OtA.len t)
theorem OtA.of : ∀ {vs : List V} {xs : List PyData}, RpA K F vs xs → OtA K F H false [] vs xs
  | _, _, .nil => .nil
  | _, _, .cons h t => OtA.cons (S := []) (T := []) (.leaf h fun z => nomatch z) (OtA.of t)
mutual
theorem Ot.any : ∀ {S : List Addr} {v : V} {x : PyData}, Ot K F H dp S v x → Ot K F H false S v x
  | _, _, _, .leaf r _ => .leaf r fun z => nomatch z
  | _, _, _, .lst h r => .lst h (OtA.any r)
  | _, _, _, .tup h r => .tup h (OtA.any r)
  | _, _, _, .dct h r q => .dct h r (OtA.any q)
  | _, _, _, .obj h hd hc hn ho hl r => .obj h hd hc hn ho hl (OtA.any r)
theorem OtA.any : ∀ {S : List Addr} {v : List V} {x : List PyData}, OtA K F H dp S v x → OtA K F H false S v x
  | _, _, _, .nil => .nil
  | _, _, _, .cons h t => .cons (Ot.any h) (OtA.any t)
end
end
/-- what is a list or a dict at its root -/
def mutR : PyData → Bool
  | .list _ => true
  | .dict _ => true
  | _ => false
theorem Ot.root {K : PySem.W.Frag} {F H : Hp} {S : List Addr} {v : V} {x : PyData} (h : Ot K F H true S v x) : mutR x = true → S ≠ [] := by
  cases h with
  | leaf r n =>
    have n := n rfl
    cases x with
    | list xs => simp [noL] at n
    | dict xs => simp [noL] at n
    | _ => exact fun z => nomatch z
  | tup => exact fun z => nomatch z
  | lst => exact fun _ z => nomatch z
  | dct => exact fun _ z => nomatch z
  | obj => exact fun _ z => nomatch z
/-! ### the world of a running def: the bag, what is known F, the heap H -/
/-- where the bag stands, and the cells that it was made of; where the tables of codes stand -/
structure Bg where
  b : Addr
  c : Addr
  ns : List Int
  ts : List Addr
/-- the draws' list: three numbers and the cells -/
def Bag (b : Bg) (F H : Hp) : Prop := (∃ x y z : Int, H b.b = some (.lst [.int x, .int y, .int z, .ref b.c]) ∧ 0 ≤ x ∧ 0 ≤ y ∧ 0 ≤ z) ∧ F b.c = some (.lst (b.ns.map V.int)) ∧ (∀ n ∈ b.ns, 0 ≤ n) ∧ ∀ t ∈ b.ts, F t = none ∧ TabG H t
/-- a step of the world -/
structure Stp (K : PySem.W.Frag) (b : Bg) (F H F' H' : Hp) : Prop where
  keep : ∀ a o, a ≠ b.b → (∀ ps, o ≠ .tbl ps) → H a = some o → H' a = some o
  bag : Bag b F' H'
  ex : Same F F'
  sub : Same F' H'
  fb : F' b.b = none
  new : ∀ a, F a = none → H a ≠ none → F' a = none
  tab : ∀ a ps, a ≠ b.b → H a = some (.tbl ps) → ∃ qs, H' a = some (.tbl qs) ∧ (TriplesOk ps.toList → TriplesOk qs.toList)
/-- a step may begin here -/
structure Wd (K : PySem.W.Frag) (b : Bg) (F H : Hp) : Prop where
  bag : Bag b F H
  sub : Same F H
  fb : F b.b = none
section
variable {K : PySem.W.Frag} {b : Bg} {F H F' H' F2 H2 : Hp}
theorem Wd.refl (w : Wd K b F H) : Stp K b F H F H := ⟨fun _ _ _ _ h => h, w.bag, fun _ _ h => h, w.sub, w.fb, fun _ h _ => h, fun _ ps _ h => ⟨ps, h, fun q => q⟩⟩
theorem Stp.wd (s : Stp K b F H F' H') : Wd K b F' H' := ⟨s.bag, s.sub, s.fb⟩
theorem Stp.there (s : Stp K b F H F' H') {a : Addr} (ne : a ≠ b.b) (h : H a ≠ none) : H' a ≠ none := by
  cases e : H a with
  | none => exact absurd e h
  | some o =>
    by_cases t : ∃ ps, o = .tbl ps
    · obtain ⟨ps, rfl⟩ := t
      obtain ⟨qs, q, _⟩ := s.tab a ps ne e
      rw [q]; exact fun z => nomatch z
    · rw [s.keep a o ne (fun ps z => t ⟨ps, z⟩) e]; exact fun z => nomatch z
theorem Stp.trans (s : Stp K b F H F' H') (t : Stp K b F' H' F2 H2) : Stp K b F H F2 H2 :=
  ⟨fun a o ne nt h => t.keep a o ne nt (s.keep a o ne nt h), t.bag, s.ex.trans t.ex, t.sub, t.fb, fun a hf hh => by
    by_cases e : a = b.b
    · rw [e]; exact t.fb
    · exact t.new a (s.new a hf hh) (s.there e hh), fun a ps ne h => by
    obtain ⟨qs, h1, k1⟩ := s.tab a ps ne h
    obtain ⟨rs, h2, k2⟩ := t.tab a qs ne h1
    exact ⟨rs, h2, fun z => k2 (k1 z)⟩⟩
theorem Bag.up (h : Bag b F H) (e : Same F F') (hb : H' b.b = H b.b) (ht : ∀ t ∈ b.ts, F t = none → TabG H t → F' t = none ∧ TabG H' t) : Bag b F' H' := by
  obtain ⟨⟨x, y, z, eb, r⟩, ec, q, k⟩ := h
  exact ⟨⟨x, y, z, hb.trans eb, r⟩, e _ _ ec, q, fun t m => ht t m (k t m).1 (k t m).2⟩
theorem TabG.ne {t p : Addr} (h : TabG H t) (hp : H p = none) : t ≠ p := fun e => by
  obtain ⟨ps, z, _⟩ := h
  rw [e, hp] at z
  cases z
theorem TabG.up {t p : Addr} {o : HO} (h : TabG H t) (hp : H p = none) : TabG (upd H p o) t := by
  obtain ⟨ps, z, k⟩ := id h
  exact ⟨ps, by rw [upd_ne (TabG.ne h hp)]; exact z, k⟩
theorem Bag.lst (h : Bag b F H) : ∃ vs, H b.b = some (.lst vs) := let ⟨⟨_, _, _, e, _⟩, _⟩ := h; ⟨_, e⟩
theorem same_laid {p : Addr} {o : HO} (hf : F p = none) : Same F (upd F p o) := fun a u h => by
  rw [upd_ne (ne_of_none h hf)]; exact h
/-- a new object is laid, known from now on -/
theorem Wd.laid (w : Wd K b F H) {p : Addr} {o : HO} (hp : H p = none) : Stp K b F H (upd F p o) (upd H p o) := by
  obtain ⟨vs, eb⟩ := w.bag.lst
  have pb : p ≠ b.b := fun e => by rw [e, eb] at hp; cases hp
  have fp : F p = none := by
    cases e : F p with
    | none => rfl
    | some o => rw [w.sub _ _ e] at hp; cases hp
  refine ⟨fun a u ne _ h => ?_, w.bag.up (same_laid fp) (upd_ne (Ne.symm pb)) (fun t _ h1 h2 => ⟨by rw [upd_ne (TabG.ne h2 hp)]; exact h1, TabG.up h2 hp⟩), same_laid fp, fun a u h => ?_, ?_, fun a hf hh => ?_, fun a ps ne h => ⟨ps, by rw [upd_ne (ne_of_none h hp)]; exact h, fun q => q⟩⟩
  · rw [upd_ne (ne_of_none h hp)]; exact h
  · by_cases e : a = p
    · rw [e, upd_same] at h ⊢; exact h
    · rw [upd_ne e] at h ⊢; exact w.sub _ _ h
  · rw [upd_ne (Ne.symm pb)]; exact w.fb
  · by_cases e : a = p
    · rw [e] at hh; exact absurd hp hh
    · rw [upd_ne e]; exact hf
/-- .. not known yet -/
theorem Wd.laidM (w : Wd K b F H) {p : Addr} {o : HO} (hp : H p = none) : Stp K b F H F (upd H p o) := by
  obtain ⟨vs, eb⟩ := w.bag.lst
  have pb : p ≠ b.b := fun e => by rw [e, eb] at hp; cases hp
  refine ⟨fun a u ne _ h => ?_, w.bag.up (fun _ _ h => h) (upd_ne (Ne.symm pb)) (fun t _ h1 h2 => ⟨h1, TabG.up h2 hp⟩), fun a u h => h, fun a u h => ?_, w.fb, fun a hf hh => hf, fun a ps ne h => ⟨ps, by rw [upd_ne (ne_of_none h hp)]; exact h, fun q => q⟩⟩
  · rw [upd_ne (ne_of_none h hp)]; exact h
  · have := w.sub _ _ h
    rw [upd_ne (ne_of_none this hp)]; exact this
end
/-! ### values and slots -/
inductive DV where
  | d (x : PyData)
  | fr (xs : List PyData)
  /-- a new tree -/
  | ft (x : PyData)
  | ow (l : Addr) (xs : List PyData)
  /-- a tree that stands in a slot -/
  | tr (p : Bool) (S : List Addr) (x : PyData)
  | raw (v : V)
  | bag
inductive Sl where
  | un
  | d (x : PyData)
  | ow (l : Addr) (xs : List PyData)
  | tr (p : Bool) (S : List Addr) (x : PyData)
  | raw (v : V)
  | bag
/-- a value v stands for dv: H₀ ahead of the evaluation, F H behind it -/
def Res (K : PySem.W.Frag) (b : Bg) (H₀ F H : Hp) : DV → V → Prop
  | .d x, v => Rp K F v x
  | .fr xs, v => ∃ p vs, v = .ref p ∧ H₀ p = none ∧ F p = none ∧ p ≠ b.b ∧ H p = some (.lst vs) ∧ RpA K F vs xs
  | .ow l xs, v => v = .ref l ∧ F l = none ∧ l ≠ b.b ∧ ∃ vs, H l = some (.lst vs) ∧ RpA K F vs xs
  | .ft x, v => ∃ S, S.Nodup ∧ (∀ a ∈ S, H₀ a = none ∧ F a = none ∧ a ≠ b.b) ∧ Ot K F H true S v x
  | .tr p S x, v => (∀ a ∈ S, F a = none ∧ a ≠ b.b) ∧ Ot K F H p S v x
  | .raw u, v => v = u
  | .bag, v => v = .ref b.b
/-- what a slot owns -/
def slA : Sl → List Addr
  | .ow l _ => [l]
  | .tr _ S _ => S
  | _ => []
def SlOk (K : PySem.W.Frag) (b : Bg) (H₀ F H : Hp) : Sl → Option (Option V) → Prop
  | .un, _ => True
  | .d x, o => ∃ v, o = some (some v) ∧ Rp K F v x
  | .ow l xs, o => o = some (some (.ref l)) ∧ H₀ l = none ∧ F l = none ∧ l ≠ b.b ∧ ∃ vs, H l = some (.lst vs) ∧ RpA K F vs xs
  | .tr p S x, o => ∃ v, o = some (some v) ∧ S.Nodup ∧ (∀ a ∈ S, H₀ a = none ∧ F a = none ∧ a ≠ b.b) ∧ (mutR x = true → S ≠ []) ∧ Ot K F H p S v x
  | .raw v, o => o = some (some v)
  | .bag, o => o = some (some (.ref b.b))
/-- the slots stand for env; since the def's entry (F₀ H₀) -/
structure Rel (K : PySem.W.Frag) (b : Bg) (F₀ H₀ : Hp) (env : List Sl) (σ : L2.St) (F H : Hp) : Prop where
  len : σ.length = env.length
  st : Stp K b F₀ H₀ F H
  at' : ∀ (i : Nat) (s : Sl), env[i]? = some s → SlOk K b H₀ F H s σ[i]?
  own : ∀ (i j : Nat) (s t : Sl) (a : Addr), env[i]? = some s → env[j]? = some t → a ∈ slA s → a ∈ slA t → i = j
section
variable {K : PySem.W.Frag} {b : Bg} {F₀ H₀ F H F' H' : Hp} {env : List Sl} {σ : L2.St}
theorem Rel.wd (r : Rel K b F₀ H₀ env σ F H) : Wd K b F H := r.st.wd
theorem SlOk.step (w : Wd K b F H) (s : Stp K b F H F' H') : ∀ {z : Sl} {o : Option (Option V)}, SlOk K b H₀ F H z o → SlOk K b H₀ F' H' z o
  | .un, _, _ => True.intro
  | .d _, _, ⟨v, e, r⟩ => ⟨v, e, r.up s.ex⟩
  | .ow l xs, _, ⟨e, h0, hf, ne, vs, hl, r⟩ => ⟨e, h0, s.new l hf (by rw [hl]; exact fun z => nomatch z), ne, vs, s.keep _ _ ne (fun _ z => nomatch z) hl, r.up s.ex⟩
  | .tr p S x, _, ⟨v, e, nd, k, mr, q⟩ => ⟨v, e, nd, fun a m => by
      obtain ⟨o, ho, _⟩ := q.there a m
      exact ⟨(k a m).1, s.new a (k a m).2.1 (by rw [ho]; exact fun z => nomatch z), (k a m).2.2⟩, mr, q.up s.ex fun a m o ho => by
      obtain ⟨o', ho', nt⟩ := q.there a m
      rw [ho] at ho'
      cases ho'
      exact s.keep a o (k a m).2.2 (isM_tbl nt) ho⟩
  | .raw _, _, e => e
  | .bag, _, e => e
theorem Rel.step (r : Rel K b F₀ H₀ env σ F H) (s : Stp K b F H F' H') : Rel K b F₀ H₀ env σ F' H' :=
  ⟨r.len, r.st.trans s, fun i z h => (r.at' i z h).step r.wd s, r.own⟩
theorem Res.step (s : Stp K b F H F' H') {Hz : Hp} : ∀ {dv : DV} {v : V}, Res K b Hz F H dv v → Res K b Hz F' H' dv v
  | .d _, _, r => Rp.up s.ex r
  | .fr xs, _, ⟨p, vs, e, h0, hf, ne, hp, r⟩ => ⟨p, vs, e, h0, s.new p hf (by rw [hp]; exact fun z => nomatch z), ne, s.keep _ _ ne (fun _ z => nomatch z) hp, r.up s.ex⟩
  | .ow l xs, _, ⟨e, hf, ne, vs, hp, r⟩ => ⟨e, s.new l hf (by rw [hp]; exact fun z => nomatch z), ne, vs, s.keep _ _ ne (fun _ z => nomatch z) hp, r.up s.ex⟩
  | .ft x, _, ⟨S, nd, k, q⟩ => ⟨S, nd, fun a m => by
      obtain ⟨o, ho, _⟩ := q.there a m
      exact ⟨(k a m).1, s.new a (k a m).2.1 (by rw [ho]; exact fun z => nomatch z), (k a m).2.2⟩, q.up s.ex fun a m o ho => by
      obtain ⟨o', ho', nt⟩ := q.there a m
      rw [ho] at ho'
      cases ho'
      exact s.keep a o (k a m).2.2 (isM_tbl nt) ho⟩
  | .tr p S x, _, ⟨k, q⟩ => ⟨fun a m => by
      obtain ⟨o, ho, _⟩ := q.there a m
      exact ⟨s.new a (k a m).1 (by rw [ho]; exact fun z => nomatch z), (k a m).2⟩, q.up s.ex fun a m o ho => by
      obtain ⟨o', ho', nt⟩ := q.there a m
      rw [ho] at ho'
      cases ho'
      exact s.keep a o (k a m).2 (isM_tbl nt) ho⟩
  | .raw _, _, e => e
  | .bag, _, e => e
theorem Stp.back (s : Stp K b F H F' H') {p : Addr} (ne : p ≠ b.b) (h : H' p = none) : H p = none := by
  cases e : H p with
  | none => rfl
  | some o => exact absurd h (s.there ne (by rw [e]; exact fun z => nomatch z))
theorem Res.early (s : Stp K b F H F' H') {F2 H2 : Hp} : ∀ {dv : DV} {v : V}, Res K b H' F2 H2 dv v → Res K b H F2 H2 dv v
  | .d _, _, r => r
  | .fr xs, _, ⟨p, vs, e, h0, hf, ne, hp, r⟩ => ⟨p, vs, e, s.back ne h0, hf, ne, hp, r⟩
  | .ft x, _, ⟨S, nd, k, q⟩ => ⟨S, nd, fun a m => ⟨s.back (k a m).2.2 (k a m).1, (k a m).2⟩, q⟩
  | .tr p S x, _, r => r
  | .ow l xs, _, r => r
  | .raw _, _, e => e
  | .bag, _, e => e
/-- a fresh list becomes known: seen from Fz Hz, ahead of its making -/
theorem Stp.freeze {Fz Hz : Hp} (s : Stp K b Fz Hz F H) {p : Addr} {vs : List V} (h0 : Hz p = none) (hf : F p = none) (ne : p ≠ b.b) (hp : H p = some (.lst vs)) : Stp K b Fz Hz (upd F p (.lst vs)) H := by
  refine ⟨s.keep, s.bag.up (same_laid hf) rfl (fun t _ h1 h2 => ⟨by rw [upd_ne (fun e => by obtain ⟨ps, z, _⟩ := h2; rw [e, hp] at z; cases z)]; exact h1, h2⟩), fun a o h => ?_, fun a o h => ?_, ?_, fun a h1 h2 => ?_, s.tab⟩
  · have := s.ex a o h
    rw [upd_ne (ne_of_none this hf)]; exact this
  · by_cases e : a = p
    · rw [e, upd_same] at h; rw [e, hp]; exact h
    · rw [upd_ne e] at h; exact s.sub _ _ h
  · rw [upd_ne (Ne.symm ne)]; exact s.fb
  · by_cases e : a = p
    · rw [e] at h2; exact absurd h0 h2
    · rw [upd_ne e]; exact s.new a h1 h2
/-- a tree becomes known: seen from Fz Hz, ahead of its making -/
theorem Stp.freezeT {Fz Hz : Hp} (s : Stp K b Fz Hz F H) {S : List Addr} (k : ∀ a ∈ S, Hz a = none ∧ F a = none ∧ a ≠ b.b) (th : ∀ a ∈ S, ∃ o, H a = some o ∧ isM o = true) : Stp K b Fz Hz (opn S F H) H := by
  have e : Same F (opn S F H) := opn_same fun l m => (k l m).2.1
  refine ⟨s.keep, s.bag.up e rfl (fun t _ h1 h2 => ⟨by
    unfold opn
    rw [if_neg fun m => by
      obtain ⟨ps, z, _⟩ := h2
      obtain ⟨o, ho, nt⟩ := th t m
      rw [ho] at z
      cases z
      cases nt]
    exact h1, h2⟩), s.ex.trans e, fun a o h => ?_, ?_, fun a h1 h2 => ?_, s.tab⟩
  · unfold opn at h
    split at h
    · exact h
    · exact s.sub _ _ h
  · unfold opn
    rw [if_neg fun m => (k _ m).2.2 rfl]
    exact s.fb
  · unfold opn
    rw [if_neg fun m => h2 (k _ m).1]
    exact s.new a h1 h2
end
end Dl
namespace Dl
open PySem PySem.Spec PyProof.Rows L2
theorem pe_weak {X : Cx} {e : Expr} {t u : TE} (h : PE X e t) (i : ∀ σ H Q, u σ H Q → t σ H Q) : PE X e u := ⟨fun p s σ H Q I q => h.run p s σ H Q I (i σ H Q q)⟩
theorem pt_weak {X : Cx} {e : Expr} {t u : TT} (h : PT X e t) (i : ∀ σ H Q, u σ H Q → t σ H Q) : PT X e u := ⟨fun p s σ H Q I q => h.run p s σ H Q I (i σ H Q q)⟩
theorem pw_weak {X : Cx} {e : Expr} {t u : TT} (h : PW X e t) (i : ∀ σ H Q, u σ H Q → t σ H Q) : PW X e u := ⟨fun wh p s σ H Q I q => h.run wh p s σ H Q I (i σ H Q q)⟩
theorem pa_weak {X : Cx} {e : List Expr} {t u : TA} (h : PA X e t) (i : ∀ σ H Q, u σ H Q → t σ H Q) : PA X e u := ⟨fun wh p s σ H Q I q => h.run wh p s σ H Q I (i σ H Q q)⟩
theorem ps_weak {X : Cx} {e : Stmt} {t u : TS} (h : PS X e t) (i : ∀ D σ H, u D σ H → t D σ H) : PS X e u := ⟨fun p s σ H D I q => h.run p s σ H D I (i D σ H q)⟩
theorem pss_weak {X : Cx} {e : List Stmt} {t u : TS} (h : PSs X e t) (i : ∀ D σ H, u D σ H → t D σ H) : PSs X e u := ⟨fun p s σ H D I q => h.run p s σ H D I (i D σ H q)⟩
/-- what stays through a def's run: the bag's place, what was known and what stood at the entry -/
structure Wn where
  b : Bg
  F : Hp
  H : Hp
abbrev RelW (K : PySem.W.Frag) (w : Wn) (env : List Sl) (σ : L2.St) (F H : Hp) : Prop := Rel K w.b w.F w.H env σ F H
abbrev DT := List Sl → (DV → Prop) → Prop
abbrev DTT := List Sl → (Bool → Prop) → Prop
abbrev DA := List Sl → (List DV → Prop) → Prop
structure DK where
  nx : List Sl → Prop
  rt : DV → Prop
  bk : List Sl → Prop := fun _ => False
  ct : List Sl → Prop := fun _ => False
abbrev DS := DK → List Sl → Prop
/-- an argument's value -/
def ArR (K : PySem.W.Frag) (b : Bg) (F H : Hp) : DV → V → Prop
  | .d x, v => Rp K F v x
  | .ow l xs, v => v = .ref l ∧ F l = none ∧ l ≠ b.b ∧ ∃ vs, H l = some (.lst vs) ∧ RpA K F vs xs
  | .raw u, v => v = u
  | .bag, v => v = .ref b.b
  | .tr p S x, v => (∀ a ∈ S, F a = none ∧ a ≠ b.b) ∧ Ot K F H p S v x
  | .fr _, _ => False
  | .ft _, _ => False
def lf (K : PySem.W.Frag) (w : Wn) (t : DT) : TE := fun σ H Q => ∃ env F P, RelW K w env σ F H ∧ t env P ∧ ∀ dv v F' H', Stp K w.b F H F' H' → Res K w.b H F' H' dv v → P dv → Q v H'
def lfT (K : PySem.W.Frag) (w : Wn) (t : DTT) : TT := fun σ H Q => ∃ env F P, RelW K w env σ F H ∧ t env P ∧ ∀ c F' H', Stp K w.b F H F' H' → P c → Q c H'
def lfA (K : PySem.W.Frag) (w : Wn) (t : DA) : TA := fun σ H Q => ∃ env F P, RelW K w env σ F H ∧ t env P ∧ ∀ dvs vs F' H', Stp K w.b F H F' H' → Paired (ArR K w.b F' H') dvs vs → P dvs → Q vs H'
structure Fit (K : PySem.W.Frag) (w : Wn) (F₁ : Hp) (d : DK) (D : Ends) : Prop where
  nx : ∀ env σ F H, RelW K w env σ F H → Same F₁ F → d.nx env → D.nx σ H
  bk : ∀ env σ F H, RelW K w env σ F H → Same F₁ F → d.bk env → D.bk σ H
  ct : ∀ env σ F H, RelW K w env σ F H → Same F₁ F → d.ct env → D.ct σ H
  rt : ∀ dv v F H, Stp K w.b w.F w.H F H → Res K w.b w.H F H dv v → d.rt dv → D.rt v H
theorem Fit.up {K : PySem.W.Frag} {w : Wn} {F₁ F₂ : Hp} {d : DK} {D : Ends} (f : Fit K w F₁ d D) (s : Same F₁ F₂) : Fit K w F₂ d D :=
  ⟨fun env σ F H r z => f.nx env σ F H r (s.trans z), fun env σ F H r z => f.bk env σ F H r (s.trans z), fun env σ F H r z => f.ct env σ F H r (s.trans z), f.rt⟩
theorem sm0 {F : Hp} : Same F F := fun _ _ z => z
def lfS (K : PySem.W.Frag) (w : Wn) (t : DS) : TS := fun D σ H => ∃ env F d, RelW K w env σ F H ∧ t d env ∧ Fit K w F d D
abbrev DPE (X : Cx) (w : Wn) (e : Expr) (t : DT) : Prop := PE X e (lf X.K w t)
abbrev DPT (X : Cx) (w : Wn) (e : Expr) (t : DTT) : Prop := PT X e (lfT X.K w t)
abbrev DPW (X : Cx) (w : Wn) (e : Expr) (t : DTT) : Prop := PW X e (lfT X.K w t)
abbrev DPA (X : Cx) (w : Wn) (e : List Expr) (t : DA) : Prop := PA X e (lfA X.K w t)
abbrev DPS (X : Cx) (w : Wn) (e : Stmt) (t : DS) : Prop := PS X e (lfS X.K w t)
abbrev DPSs (X : Cx) (w : Wn) (e : List Stmt) (t : DS) : Prop := PSs X e (lfS X.K w t)
/-! ### what a value is read as -/
def rd : DV → (PyData → Prop) → Prop
  | .d x, k => k x
  | .fr xs, k => k (.list xs)
  | .ow _ xs, k => k (.list xs)
  | .raw _, _ => False
  | .bag, _ => False
  | .ft _, _ => False
  | .tr _ _ _, _ => False
inductive Rr (K : PySem.W.Frag) (b : Bg) (F H : Hp) : V → PyData → Prop
  | d {v : V} {x : PyData} (h : Rp K F v x) : Rr K b F H v x
  | o {l : Addr} {vs : List V} {xs : List PyData} (hf : F l = none) (ne : l ≠ b.b) (h : H l = some (.lst vs)) (r : RpA K F vs xs) : Rr K b F H (.ref l) (.list xs)
section
variable {K : PySem.W.Frag} {b : Bg} {F H F' H' Hz : Hp} {v : V}
theorem Rr.step (s : Stp K b F H F' H') {x : PyData} : Rr K b F H v x → Rr K b F' H' v x
  | .d h => .d (h.up s.ex)
  | .o hf ne h r => .o (s.new _ hf (by rw [h]; exact fun z => nomatch z)) ne (s.keep _ _ ne (by intro _ z; cases z) h) (r.up s.ex)
theorem rd_ok {dv : DV} {k : PyData → Prop} (r : Res K b Hz F H dv v) (h : rd dv k) : ∃ x, Rr K b F H v x ∧ k x := by
  cases dv with
  | d x => exact ⟨x, .d r, h⟩
  | fr xs =>
    obtain ⟨p, vs, rfl, _, hf, ne, hp, q⟩ := r
    exact ⟨_, .o hf ne hp q, h⟩
  | ow l xs =>
    obtain ⟨rfl, hf, ne, vs, hp, q⟩ := r
    exact ⟨_, .o hf ne hp q, h⟩
  | raw u => exact False.elim h
  | bag => exact False.elim h
  | ft x => exact False.elim h
  | tr p S x => exact False.elim h
theorem Rr.int {i : Int} (h : Rr K b F H v (.int i)) : v = .int i := by cases h with | d h => cases h; rfl
theorem Rr.bl {i : Bool} (h : Rr K b F H v (.bool i)) : v = .bl i := by cases h with | d h => cases h; rfl
theorem Rr.str {i : Str} (h : Rr K b F H v (.str i)) : v = .str i := by cases h with | d h => cases h; rfl
theorem Rr.non (h : Rr K b F H v .none) : v = .non := by cases h with | d h => cases h; rfl
theorem Rr.lst {xs : List PyData} (w : Same F H) (h : Rr K b F H v (.list xs)) : ∃ l vs, v = .ref l ∧ H l = some (.lst vs) ∧ RpA K F vs xs := by
  cases h with
  | d h => cases h with | lst h r => exact ⟨_, _, rfl, w _ _ h, r⟩
  | o _ _ h r => exact ⟨_, _, rfl, h, r⟩
theorem Rr.tup {xs : List PyData} (w : Same F H) (h : Rr K b F H v (.tuple xs)) : ∃ l vs, v = .ref l ∧ SqT K H l vs ∧ RpA K F vs xs := by
  cases h with
  | d h => cases h with | tup h r => exact ⟨_, _, rfl, sqt_up w h, r⟩
theorem Rr.all {x : PyData} (w : Same F H) (h : Rr K b F H v x) : Rp K H v x := by
  cases h with
  | d h => exact h.up w
  | o hf ne h r => exact .lst h (r.up w)
theorem Res.intOf {i : Int} (r : Res K b Hz F H (.d (.int i)) v) : v = .int i := by cases (show Rp K F v (.int i) from r); rfl
theorem Res.blOf {i : Bool} (r : Res K b Hz F H (.d (.bool i)) v) : v = .bl i := by cases (show Rp K F v (.bool i) from r); rfl
end
/-! ### expressions -/
section
variable {X : Cx} {w : Wn} {a b e c : Expr} {ta tb tc te : DT} {pos : Pos}
def tVarD (i : Nat) : DT := fun env P => match env[i]? with
  | some (.d x) => P (.d x)
  | some (.ow l xs) => P (.ow l xs)
  | some (.tr p S x) => P (.tr p S x)
  | some (.raw v) => P (.raw v)
  | some .bag => P .bag
  | _ => False
theorem d_var (i : Nat) {x : Str} (hN : X.N[i]? = some x := by rfl) (hv : Vis X.env.scope x := by first | exact Or.inl rfl | exact Or.inr (Or.inl rfl) | exact Or.inr (Or.inr rfl)) (hd : (x == ("__debug__" : Str)) = false := by decide) (hc : (x == ("__classdict__" : Str)) = false := by decide) :
    DPE X w (.Name x pos) (tVarD i) := pe_weak (pe_var hN hv hd hc) fun σ H Q ⟨env, F, P, r, h, q⟩ => by
  unfold tVarD at h
  split at h
  · next x e =>
    obtain ⟨v, e1, r1⟩ := r.at' i _ e
    exact ⟨v, e1, q (.d x) _ F H r.wd.refl r1 h⟩
  · next l xs e =>
    obtain ⟨e1, h0, hf, ne, vs, hl, r1⟩ := r.at' i _ e
    exact ⟨_, e1, q (.ow l xs) _ F H r.wd.refl ⟨rfl, hf, ne, vs, hl, r1⟩ h⟩
  · next p S x e =>
    obtain ⟨v, e1, _, k, _, q1⟩ := r.at' i _ e
    exact ⟨v, e1, q (.tr p S x) v F H r.wd.refl ⟨fun a m => (k a m).2, q1⟩ h⟩
  · next v e => exact ⟨v, r.at' i _ e, q (.raw v) v F H r.wd.refl rfl h⟩
  · next e => exact ⟨_, r.at' i _ e, q .bag _ F H r.wd.refl rfl h⟩
  · exact h.elim
def tCD (x : PyData) : DT := fun _ P => P (.d x)
theorem d_int {i : Int} {j} : DPE X w (.Constant (.int i) j pos) (tCD (.int i)) := pe_weak pe_int fun σ H Q ⟨env, F, P, r, h, q⟩ => q (.d (.int i)) _ F H r.wd.refl (Rp.int i) h
theorem d_bl {i : Bool} {j} : DPE X w (.Constant (.bool i) j pos) (tCD (.bool i)) := pe_weak pe_bl fun σ H Q ⟨env, F, P, r, h, q⟩ => q (.d (.bool i)) _ F H r.wd.refl (Rp.bl i) h
theorem d_str {i : Str} {j} : DPE X w (.Constant (.str i) j pos) (tCD (.str i)) := pe_weak pe_str fun σ H Q ⟨env, F, P, r, h, q⟩ => q (.d (.str i)) _ F H r.wd.refl (Rp.str i) h
theorem d_non {j} : DPE X w (.Constant .none j pos) (tCD .none) := pe_weak pe_non fun σ H Q ⟨env, F, P, r, h, q⟩ => q (.d .none) _ F H r.wd.refl Rp.non h
/-- a number that the module names -/
theorem d_globI {x : Str} {i : Int} {t : Tok} (hg : Gl X x) (hm : X.mg x = some (.int i t)) (hd : (x == ("__debug__" : Str)) = false := by decide) : DPE X w (.Name x pos) (tCD (.int i)) :=
  pe_weak (pe_glob (v := .int i) hg hm ⟨t, rfl⟩ hd) fun σ H Q ⟨env, F, P, r, h, q⟩ => q (.d (.int i)) _ F H r.wd.refl (Rp.int i) h
def tRaw (v : V) : DT := fun _ P => P (.raw v)
/-- a built-in class as a value -/
theorem d_ty {x : Str} {n : String} (hg : Gl X x) (hm : X.mg x = none) (hv : bootBuiltins x = some (.type n)) (hn : x ≠ "__name__" := by decide) (hd : (x == ("__debug__" : Str)) = false := by decide) : DPE X w (.Name x pos) (tRaw (.ty n)) :=
  pe_weak (pe_bltn (v := .ty n) hg hm hv rfl hn hd) fun σ H Q ⟨env, F, P, r, h, q⟩ => q (.raw (.ty n)) _ F H r.wd.refl rfl h
/-! two operands -/
abbrev G2 := PyData → PyData → (DV → Prop) → Prop
def lR (K : PySem.W.Frag) (b : Bg) (g : G2) : R2 := fun x y H Q => ∃ F dx dy P, Wd K b F H ∧ Rr K b F H x dx ∧ Rr K b F H y dy ∧ g dx dy P ∧ ∀ dv v F' H', Stp K b F H F' H' → Res K b H F' H' dv v → P dv → Q v H'
def tBin (g : G2) (ta tb : DT) : DT := fun env P => ta env fun u => rd u fun x => tb env fun z => rd z fun y => g x y P
theorem bin_go {g : G2} {σ : L2.St} {H : Hp} {Q : VK} (h : lf X.K w (tBin g ta tb) σ H Q) : tOp (lR X.K w.b g) (lf X.K w ta) (lf X.K w tb) σ H Q := by
  obtain ⟨env, F, P, r, h, q⟩ := h
  refine ⟨env, F, _, r, h, fun dv v F1 H1 s1 r1 h1 => ?_⟩
  obtain ⟨x, x1, h1⟩ := rd_ok r1 h1
  refine ⟨env, F1, _, r.step s1, h1, fun dv2 v2 F2 H2 s2 r2 h2 => ?_⟩
  obtain ⟨y, y1, h2⟩ := rd_ok r2 h2
  exact ⟨F2, x, y, P, s2.wd, x1.step s2, y1, h2, fun dv3 v3 F3 H3 s3 r3 h3 => q dv3 v3 F3 H3 ((s1.trans s2).trans s3) (r3.early (s1.trans s2)) h3⟩
theorem d_bin {op : Operator} {g : G2} (ho : OpR X (binaryOp op) (lR X.K w.b g)) (ha : DPE X w a ta) (hb : DPE X w b tb) : DPE X w (.BinOp a op b pos) (tBin g ta tb) :=
  pe_weak (pe_op ho ha hb) fun _ _ _ h => bin_go h
theorem d_cmp {op : CmpOp} {g : G2} (ho : OpR X (compareOp op) (lR X.K w.b g)) (ha : DPE X w a ta) (hb : DPE X w b tb) (hm : behindInMarks op b = false := by first | exact nomark _ | rfl) : DPE X w (.Compare a [op] [b] pos) (tBin g ta tb) :=
  pe_weak (pe_cmpR ho ha hb hm) fun _ _ _ h => bin_go h
/-- the Bool that a value of True, False is -/
def isB : DV → (Bool → Prop) → Prop
  | .d (.bool c), k => k c
  | _, _ => False
theorem isB_ok {K : PySem.W.Frag} {b : Bg} {Hz F H : Hp} {v : V} {dv : DV} {k : Bool → Prop} (r : Res K b Hz F H dv v) (h : isB dv k) : ∃ c, v = .bl c ∧ k c := by
  unfold isB at h
  split at h
  · next c => exact ⟨c, r.blOf, h⟩
  · exact h.elim
def tTst (t : DT) : DTT := fun env P => t env fun u => isB u P
theorem dt_cmp {op : CmpOp} {g : G2} (ho : OpR X (compareOp op) (lR X.K w.b g)) (ha : DPE X w a ta) (hb : DPE X w b tb) (hm : behindInMarks op b = false := by first | exact nomark _ | rfl) : DPT X w (.Compare a [op] [b] pos) (tTst (tBin g ta tb)) :=
  pt_weak (pt_cmpR ho ha hb hm) fun σ H Q ⟨env, F, P, r, h, q⟩ => bin_go ⟨env, F, _, r, h, fun dv v F1 H1 s1 r1 h1 => by
    obtain ⟨c, rfl, h1⟩ := isB_ok r1 h1
    exact ⟨c, rfl, q c F1 H1 s1 h1⟩⟩
/-! one operand -/
abbrev G1 := PyData → (DV → Prop) → Prop
def tUnD (g : G1) (ta : DT) : DT := fun env P => ta env fun u => rd u fun x => g x P
def gNeg : G1 := fun x P => match x with
  | .int i => P (.d (.int (-i)))
  | _ => False
theorem d_neg (ha : DPE X w a ta) : DPE X w (.UnaryOp .USub a pos) (tUnD gNeg ta) := pe_weak (pe_un un_neg ha) fun σ H Q ⟨env, F, P, r, h, q⟩ => by
  refine ⟨env, F, _, r, h, fun dv v F1 H1 s1 r1 h1 => ?_⟩
  obtain ⟨x, x1, h1⟩ := rd_ok r1 h1
  unfold gNeg at h1
  split at h1
  · next i => exact ⟨i, x1.int, q (.d (.int (-i))) _ F1 H1 s1 (Rp.int _) h1⟩
  · exact h1.elim
/-! ### tests -/
variable {tA tB tC : DTT} {rest : List Expr}
def tAndD (t u : DTT) : DTT := fun env P => t env fun c => if c = true then u env P else P false
def tOrD (t u : DTT) : DTT := fun env P => t env fun c => if c = true then P true else u env P
def tNotD (t : DTT) : DTT := fun env P => t env fun c => P (!c)
theorem dw_and1 (ha : DPT X w a tA) : DPW X w (.BoolOp .And [a] pos) tA := pw_and1 ha
theorem dw_or1 (ha : DPT X w a tA) : DPW X w (.BoolOp .Or [a] pos) tA := pw_or1 ha
theorem dw_and (ha : DPT X w a tA) (hb : DPW X w (.BoolOp .And (b :: rest) pos) tB) : DPW X w (.BoolOp .And (a :: b :: rest) pos) (tAndD tA tB) :=
  pw_weak (pw_and ha hb) fun σ H Q ⟨env, F, P, r, h, q⟩ => ⟨env, F, _, r, h, fun c F1 H1 s1 h1 => by
    cases c with
    | true => exact ⟨env, F1, P, r.step s1, h1, fun c F2 H2 s2 h2 => q c F2 H2 (s1.trans s2) h2⟩
    | false => exact q false F1 H1 s1 h1⟩
theorem dw_or (ha : DPT X w a tA) (hb : DPW X w (.BoolOp .Or (b :: rest) pos) tB) : DPW X w (.BoolOp .Or (a :: b :: rest) pos) (tOrD tA tB) :=
  pw_weak (pw_or ha hb) fun σ H Q ⟨env, F, P, r, h, q⟩ => ⟨env, F, _, r, h, fun c F1 H1 s1 h1 => by
    cases c with
    | false => exact ⟨env, F1, P, r.step s1, h1, fun c F2 H2 s2 h2 => q c F2 H2 (s1.trans s2) h2⟩
    | true => exact q true F1 H1 s1 h1⟩
theorem dt_w (h : DPW X w a tA) : DPT X w a tA := PW.pt h
theorem dt_not (ha : DPT X w a tA) : DPT X w (.UnaryOp .Not a pos) (tNotD tA) :=
  pt_weak (pt_not ha) fun σ H Q ⟨env, F, P, r, h, q⟩ => ⟨env, F, _, r, h, fun c F1 H1 s1 h1 => q _ F1 H1 s1 h1⟩
/-- an expression by its truth -/
def truD : PyData → Bool
  | .none => false
  | .bool c => c
  | .int i => i != 0
  | .str x => x.length != 0
  | .list xs => !xs.isEmpty
  | .tuple xs => !xs.isEmpty
  | .dict kvs => !kvs.isEmpty
def truOk : PyData → Prop
  | .str x => x.length ≤ 100000
  | .dict _ => False
  | _ => True
theorem lim_le {n : Nat} (h : n ≤ 100000) : n ≤ sizeLine := Nat.le_trans h (by decide)
theorem lim_lt {n : Nat} (h : n < 100000) : n < sizeLine := Nat.lt_of_lt_of_le h (by decide)
theorem rpa_empty {K : PySem.W.Frag} {F : Hp} {vs : List V} {xs : List PyData} (r : RpA K F vs xs) : vs.isEmpty = xs.isEmpty := by cases r <;> rfl
theorem tru_of {K : PySem.W.Frag} {b : Bg} {F H : Hp} {v : V} {x : PyData} (s : Same F H) (h : Rr K b F H v x) (ok : truOk x) : TruV K v H (truD x) := by
  cases x with
  | none => cases h.non; rfl
  | bool c => cases h.bl; rfl
  | int i => cases h.int; rfl
  | str x =>
    cases h.str
    refine ⟨lim_le ok, ?_⟩
    show (x.length != 0) = ((x.length : Int) != 0)
    cases hx : x.length with
    | zero => rfl
    | succ n => rw [bne_iff_ne.mpr (show n + 1 ≠ 0 by omega), bne_iff_ne.mpr (show ((n + 1 : Nat) : Int) ≠ 0 by omega)]
  | list xs =>
    obtain ⟨l, vs, rfl, e, r⟩ := h.lst s
    exact .inl ⟨vs, SqL.of e, by rw [rpa_empty r]; rfl⟩
  | tuple xs =>
    obtain ⟨l, vs, rfl, e, r⟩ := h.tup s
    exact .inr (.inl ⟨vs, e, by rw [rpa_empty r]; rfl⟩)
  | dict kvs => exact False.elim ok
def tTru (t : DT) : DTT := fun env P => t env fun u => rd u fun x => truOk x ∧ P (truD x)
theorem dt_e (ha : DPE X w a ta) (he : ∀ whole, isTrue a X.env whole = (do let v ← whole; standAt a.pos; holding [v] (truthy v)) := by intro _; rfl) : DPT X w a (tTru ta) :=
  pt_weak (pt_truth ha he) fun σ H Q ⟨env, F, P, r, h, q⟩ => by
    refine ⟨env, F, _, r, h, fun dv v F1 H1 s1 r1 h1 => ?_⟩
    obtain ⟨x, x1, ok, h1⟩ := rd_ok r1 h1
    exact ⟨truD x, tru_of s1.sub x1 ok, q _ F1 H1 s1 h1⟩
/-- values of and, or, not, if-else -/
theorem lf_early {t : DT} {σ : L2.St} {F H F1 H1 : Hp} {env : List Sl} {P : DV → Prop} {Q : VK} (s1 : Stp X.K w.b F H F1 H1) (r : RelW X.K w env σ F H) (h : t env P)
    (q : ∀ dv v F' H', Stp X.K w.b F H F' H' → Res X.K w.b H F' H' dv v → P dv → Q v H') : lf X.K w t σ H1 Q :=
  ⟨env, F1, P, r.step s1, h, fun dv v F2 H2 s2 r2 h2 => q dv v F2 H2 (s1.trans s2) (r2.early s1) h2⟩
def tAndV (ta tb : DT) : DT := fun env P => ta env fun u => rd u fun x => truOk x ∧ if truD x = true then tb env P else P (match u with | .fr xs => .fr xs | _ => .d x)
theorem d_one {op} {t : DT} (h : DPE X w a t) : DPE X w (.BoolOp op [a] pos) t := pe_one h
def tIteD (t : DTT) (ta tb : DT) : DT := fun env P => t env fun c => if c = true then ta env P else tb env P
theorem d_ite (hc : DPT X w c tC) (ha : DPE X w a ta) (hb : DPE X w b tb) : DPE X w (.IfExp c a b pos) (tIteD tC ta tb) :=
  pe_weak (pe_ifExp hc ha hb) fun σ H Q ⟨env, F, P, r, h, q⟩ => ⟨env, F, _, r, h, fun c F1 H1 s1 h1 => by
    cases c with
    | true => exact lf_early s1 r h1 q
    | false => exact lf_early s1 r h1 q⟩
end
end Dl
namespace Dl
open PySem PySem.Spec PyProof.Rows L2
/-! ### operators by what they are given -/
def gAdd : G2 := fun x y P => match x, y with
  | .int i, .int j => P (.d (.int (i + j)))
  | .str i, .str j => i.length + j.length ≤ 100000 ∧ P (.d (.str (i ++ j)))
  | .list xs, .list ys => xs.length + ys.length ≤ 100000 ∧ P (.fr (xs ++ ys))
  | .tuple xs, .tuple ys => xs ≠ [] ∧ xs.length + ys.length ≤ 100000 ∧ P (.d (.tuple (xs ++ ys)))
  | _, _ => False
def gMinus : G2 := fun x y P => match x, y with
  | .int i, .int j => P (.d (.int (i - j)))
  | _, _ => False
def gMul : G2 := fun x y P => match x, y with
  | .int i, .int j => i.natAbs.log2 + j.natAbs.log2 < 1000000 ∧ P (.d (.int (i * j)))
  | _, _ => False
def gFdiv : G2 := fun x y P => match x, y with
  | .int i, .int j => j ≠ 0 ∧ j.natAbs.log2 < 9000 ∧ P (.d (.int (i.fdiv j)))
  | _, _ => False
def gMod : G2 := fun x y P => match x, y with
  | .int i, .int j => j ≠ 0 ∧ P (.d (.int (i.fmod j)))
  | _, _ => False
def gPow : G2 := fun x y P => match x, y with
  | .int i, .int j => (0 ≤ j ∧ j ≤ 1000000 ∧ i.natAbs < 2 ^ 64) ∧ P (.d (.int (i ^ j.toNat)))
  | _, _ => False
section
variable {X : Cx} {w : Wn}
theorem res_d {K : PySem.W.Frag} {b : Bg} {Hz F H : Hp} {v : V} {x : PyData} (h : Rp K F v x) : Res K b Hz F H (.d x) v := h
/-- a fresh list is laid -/
theorem res_new {K : PySem.W.Frag} {b : Bg} {F H : Hp} {vs : List V} {xs : List PyData} {P : DV → Prop} {Q : VK} (wd : Wd K b F H) (r : RpA K F vs xs) (q : ∀ dv v F' H', Stp K b F H F' H' → Res K b H F' H' dv v → P dv → Q v H') (h : P (.fr xs)) :
    ∀ p, H p = none → Q (.ref p) (upd H p (.lst vs)) := fun p hp => by
  obtain ⟨us, eb⟩ := wd.bag.lst
  have pb : p ≠ b.b := fun e => by rw [e, eb] at hp; cases hp
  refine q (.fr xs) _ F _ (wd.laidM hp) ⟨p, vs, rfl, hp, ?_, pb, upd_same, r⟩ h
  cases e : F p with
  | none => rfl
  | some o => rw [wd.sub _ _ e] at hp; cases hp
theorem res_newT {K : PySem.W.Frag} {b : Bg} {F H : Hp} {vs : List V} {xs : List PyData} {P : DV → Prop} {Q : VK} (wd : Wd K b F H) (r : RpA K F vs xs) (q : ∀ dv v F' H', Stp K b F H F' H' → Res K b H F' H' dv v → P dv → Q v H') (h : P (.d (.tuple xs))) :
    ∀ p, H p = none → Q (.ref p) (upd H p (.tup vs)) := fun p hp => by
  have st := wd.laid (o := .tup vs) hp
  exact q (.d (.tuple xs)) _ _ _ st (Rp.tup (SqT.of upd_same) (r.up st.ex)) h
theorem nonempty_vs {K : PySem.W.Frag} {F : Hp} {vs : List V} {xs : List PyData} (r : RpA K F vs xs) (h : xs ≠ []) : vs ≠ [] := by
  cases r with
  | nil => exact absurd rfl h
  | cons _ _ => exact fun z => nomatch z
theorem o_add : OpR X (binaryOp .Add) (lR X.K w.b gAdd) := by
  intro pins s σ H x y v u Q I rx ry h
  obtain ⟨F, dx, dy, P, wd, hx, hy, g, q⟩ := h
  unfold gAdd at g
  split at g
  · cases hx.int; cases hy.int
    exact op_add pins s σ H _ _ v u Q I rx ry ⟨_, _, rfl, rfl, q _ _ F H wd.refl (res_d (.int _)) g⟩
  · cases hx.str; cases hy.str
    exact op_add_str pins s σ H _ _ v u Q I rx ry ⟨_, _, rfl, rfl, lim_le g.1, q _ _ F H wd.refl (res_d (.str _)) g.2⟩
  · obtain ⟨l, vs, rfl, e1, r1⟩ := hx.lst wd.sub
    obtain ⟨m, us, rfl, e2, r2⟩ := hy.lst wd.sub
    exact op_cat pins s σ H _ _ v u Q I rx ry ⟨l, m, vs, us, rfl, rfl, e1, e2, by rw [r1.len, r2.len]; exact lim_le g.1, res_new wd (r1.app r2) q g.2⟩
  · next xs ys =>
    obtain ⟨l, vs, rfl, e1, r1⟩ := hx.tup wd.sub
    obtain ⟨m, us, rfl, e2, r2⟩ := hy.tup wd.sub
    have ne := nonempty_vs r1 g.1
    refine op_catT pins s σ H _ _ v u Q I rx ry ⟨l, m, vs, us, rfl, rfl, e1, e2, ne, by rw [r1.len, r2.len]; exact lim_le g.2.1, fun e => ?_, fun _ => res_newT wd (r1.app r2) q g.2.2⟩
    subst e
    cases r2
    rw [List.append_nil] at g
    have hq : Rp X.K F (.ref l) (.tuple xs) := by
      cases hx with
      | d h => exact h
    exact q _ _ F H wd.refl (res_d hq) g.2.2
  · exact g.elim
theorem o_sub : OpR X (binaryOp .Sub) (lR X.K w.b gMinus) := by
  intro pins s σ H x y v u Q I rx ry h
  obtain ⟨F, dx, dy, P, wd, hx, hy, g, q⟩ := h
  unfold gMinus at g
  split at g
  · cases hx.int; cases hy.int
    exact op_sub pins s σ H _ _ v u Q I rx ry ⟨_, _, rfl, rfl, q _ _ F H wd.refl (res_d (.int _)) g⟩
  · exact g.elim
theorem o_mul : OpR X (binaryOp .Mult) (lR X.K w.b gMul) := by
  intro pins s σ H x y v u Q I rx ry h
  obtain ⟨F, dx, dy, P, wd, hx, hy, g, q⟩ := h
  unfold gMul at g
  split at g
  · cases hx.int; cases hy.int
    exact op_mulW pins s σ H _ _ v u Q I rx ry ⟨_, _, rfl, rfl, g.1, q _ _ F H wd.refl (res_d (.int _)) g.2⟩
  · exact g.elim
theorem op_fdivX : OpR X (binaryOp .FloorDiv) (rI (fun _ j => j ≠ 0 ∧ j.natAbs.log2 < 9000) fun i j => .int (i.fdiv j)) :=
  opI fun _ _ _ _ _ _ _ hc q => floordiv_int hc.1 q (.inl (PyProof.noPylong_of_log2 hc.2))
theorem o_fdiv : OpR X (binaryOp .FloorDiv) (lR X.K w.b gFdiv) := by
  intro pins s σ H x y v u Q I rx ry h
  obtain ⟨F, dx, dy, P, wd, hx, hy, g, q⟩ := h
  unfold gFdiv at g
  split at g
  · cases hx.int; cases hy.int
    exact op_fdivX pins s σ H _ _ v u Q I rx ry ⟨_, _, rfl, rfl, ⟨g.1, g.2.1⟩, q _ _ F H wd.refl (res_d (.int _)) g.2.2⟩
  · exact g.elim
theorem o_mod : OpR X (binaryOp .Mod) (lR X.K w.b gMod) := by
  intro pins s σ H x y v u Q I rx ry h
  obtain ⟨F, dx, dy, P, wd, hx, hy, g, q⟩ := h
  unfold gMod at g
  split at g
  · cases hx.int; cases hy.int
    exact op_modN pins s σ H _ _ v u Q I rx ry ⟨_, _, rfl, rfl, g.1, q _ _ F H wd.refl (res_d (.int _)) g.2⟩
  · exact g.elim
theorem o_pow : OpR X (binaryOp .Pow) (lR X.K w.b gPow) := by
  intro pins s σ H x y v u Q I rx ry h
  obtain ⟨F, dx, dy, P, wd, hx, hy, g, q⟩ := h
  unfold gPow at g
  split at g
  · cases hx.int; cases hy.int
    exact op_pow pins s σ H _ _ v u Q I rx ry ⟨_, _, rfl, rfl, g.1, q _ _ F H wd.refl (res_d (.int _)) g.2⟩
  · exact g.elim
/-! comparisons -/
def gIn (p : Int → Int → Bool) (s : Str → Str → Bool) : G2 := fun x y P => match x, y with
  | .int i, .int j => P (.d (.bool (p i j)))
  | .str i, .str j => P (.d (.bool (s i j)))
  | _, _ => False
abbrev gLt : G2 := gIn (fun i j => decide (i < j)) fun i j => decide (i.cps.toList < j.cps.toList)
def gI (p : Int → Int → Bool) : G2 := fun x y P => match x, y with
  | .int i, .int j => P (.d (.bool (p i j)))
  | _, _ => False
theorem o_lt : OpR X (compareOp .Lt) (lR X.K w.b gLt) := by
  intro pins s σ H x y v u Q I rx ry h
  obtain ⟨F, dx, dy, P, wd, hx, hy, g, q⟩ := h
  unfold gLt gIn at g
  split at g
  · cases hx.int; cases hy.int
    exact op_lt pins s σ H _ _ v u Q I rx ry ⟨_, _, rfl, rfl, q _ _ F H wd.refl (res_d (.bl _)) g⟩
  · cases hx.str; cases hy.str
    exact op_lt_str pins s σ H _ _ v u Q I rx ry ⟨_, _, rfl, rfl, q _ _ F H wd.refl (res_d (.bl _)) g⟩
  · exact g.elim
theorem o_le : OpR X (compareOp .LtE) (lR X.K w.b (gIn (fun i j => decide (i ≤ j)) fun i j => !decide (j.cps.toList < i.cps.toList))) := by
  intro pins s σ H x y v u Q I rx ry h
  obtain ⟨F, dx, dy, P, wd, hx, hy, g, q⟩ := h
  unfold gIn at g
  split at g
  · cases hx.int; cases hy.int
    exact op_le pins s σ H _ _ v u Q I rx ry ⟨_, _, rfl, rfl, q _ _ F H wd.refl (res_d (.bl _)) g⟩
  · cases hx.str; cases hy.str
    exact op_le_str pins s σ H _ _ v u Q I rx ry ⟨_, _, rfl, rfl, q _ _ F H wd.refl (res_d (.bl _)) g⟩
  · exact g.elim
theorem o_gt : OpR X (compareOp .Gt) (lR X.K w.b (gIn (fun i j => decide (j < i)) fun i j => decide (j.cps.toList < i.cps.toList))) := by
  intro pins s σ H x y v u Q I rx ry h
  obtain ⟨F, dx, dy, P, wd, hx, hy, g, q⟩ := h
  unfold gIn at g
  split at g
  · cases hx.int; cases hy.int
    exact op_gt pins s σ H _ _ v u Q I rx ry ⟨_, _, rfl, rfl, q _ _ F H wd.refl (res_d (.bl _)) g⟩
  · cases hx.str; cases hy.str
    exact op_gt_str pins s σ H _ _ v u Q I rx ry ⟨_, _, rfl, rfl, q _ _ F H wd.refl (res_d (.bl _)) g⟩
  · exact g.elim
theorem o_ge : OpR X (compareOp .GtE) (lR X.K w.b (gIn (fun i j => decide (j ≤ i)) fun i j => !decide (i.cps.toList < j.cps.toList))) := by
  intro pins s σ H x y v u Q I rx ry h
  obtain ⟨F, dx, dy, P, wd, hx, hy, g, q⟩ := h
  unfold gIn at g
  split at g
  · cases hx.int; cases hy.int
    exact op_ge pins s σ H _ _ v u Q I rx ry ⟨_, _, rfl, rfl, q _ _ F H wd.refl (res_d (.bl _)) g⟩
  · cases hx.str; cases hy.str
    exact op_ge_str pins s σ H _ _ v u Q I rx ry ⟨_, _, rfl, rfl, q _ _ F H wd.refl (res_d (.bl _)) g⟩
  · exact g.elim
/-! what Rp says to the library's Reads -/
end
section
variable {X : Cx} {pins : List (Addr × Obj)} {σ : L2.St} {H : Hp} {s : Shared}
mutual
def flatD : PyData → Bool
  | .none => true
  | .bool _ => true
  | .int _ => true
  | .str _ => true
  | .list xs => flatA xs
  | .tuple xs => flatA xs
  | .dict _ => false
def flatA : List PyData → Bool
  | [] => true
  | x :: xs => flatD x && flatA xs
end
mutual
theorem rp_reads (I : Inv X pins σ H s) : ∀ (d : PyData) (v : V) (u : Value), flatD d = true → Rp X.K H v d → RelV v u → ∃ as, Reads s.heap u d as
  | .none, _, _, _, h, r => by cases h; cases r; exact ⟨_, Reads.none⟩
  | .bool b, _, _, _, h, r => by cases h; cases r; exact ⟨_, Reads.bool b⟩
  | .int i, _, _, _, h, r => by cases h; obtain ⟨t, rfl⟩ := r; exact ⟨_, Reads.int i t⟩
  | .str i, _, _, _, h, r => by cases h; obtain ⟨t, rfl⟩ := r; exact ⟨_, Reads.str i t⟩
  | .list ds, _, _, f, h, r => by
    cases h with
    | lst hs ha =>
      cases r
      obtain ⟨its, rv, ⟨o, n, ho, hc, _, hd⟩, _⟩ := I.list (SqL.of hs)
      obtain ⟨as, hr⟩ := rpa_reads I ds _ its (by simpa only [flatD] using f) ha rv
      exact ⟨_, Reads.list ho hc hd hr⟩
  | .tuple ds, _, _, f, h, r => by
    cases h with
    | tup hs ha =>
      cases r
      obtain ⟨its, rv, ⟨o, ho, hc, n, hd⟩, _⟩ := I.tuple hs
      obtain ⟨as, hr⟩ := rpa_reads I ds _ its (by simpa only [flatD] using f) ha rv
      exact ⟨_, Reads.tuple ho hc hd hr⟩
  | .dict _, _, _, f, _, _ => by simp only [flatD] at f; cases f
theorem rpa_reads (I : Inv X pins σ H s) : ∀ (ds : List PyData) (vs : List V) (us : List Value), flatA ds = true → RpA X.K H vs ds → Vals vs us → ∃ as, ReadsAll s.heap us ds as
  | [], _, _, _, h, r => by cases h; cases r; exact ⟨_, ReadsAll.nil⟩
  | d :: ds, _, _, f, h, r => by
    cases h with
    | cons h1 h2 =>
      cases r with
      | cons r1 r2 =>
        rw [flatA, Bool.and_eq_true] at f
        obtain ⟨as, q1⟩ := rp_reads I d _ _ f.1 h1 r1
        obtain ⟨bs, q2⟩ := rpa_reads I ds _ _ f.2 h2 r2
        exact ⟨_, ReadsAll.cons q1 q2⟩
end
mutual
theorem flat_of_can : ∀ d : PyData, d.canLay0 = true → flatD d = true
  | .none, _ => by simp only [flatD]
  | .bool _, _ => by simp only [flatD]
  | .int _, _ => by simp only [flatD]
  | .str _, _ => by simp only [flatD]
  | .list xs, h => by simp only [flatD]; exact flatA_of_can xs (by simpa only [PyData.canLay0] using h)
  | .tuple xs, h => by simp only [flatD]; exact flatA_of_can xs (by simpa only [PyData.canLay0] using h)
  | .dict _, h => by simp only [PyData.canLay0] at h; cases h
theorem flatA_of_can : ∀ d : List PyData, PyData.canLayAll0 d = true → flatA d = true
  | [], _ => by simp only [flatA]
  | x :: xs, h => by
    simp only [PyData.canLayAll0, Bool.and_eq_true] at h
    rw [flatA, flat_of_can x h.1, flatA_of_can xs h.2]
    rfl
end
end
/-- two values alike -/
def gEqv (f : Bool → Bool) : G2 := fun x y P => match x, y with
  | .int i, .int j => P (.d (.bool (f (decide (i = j)))))
  | .str i, .str j => P (.d (.bool (f (decide (i = j)))))
  | .bool i, .bool j => P (.d (.bool (f (decide (i = j)))))
  | x, y => SeqAt.shaped x = true ∧ SeqAt.shaped y = true ∧ P (.d (.bool (f (x.eqv y))))
section
variable {X : Cx} {w : Wn}
theorem o_eq (hu : X.A.units + 64 < cLine) : OpR X (compareOp .Eq) (lR X.K w.b (gEqv id)) := by
  intro pins s σ H x y v u Q I rx ry h
  obtain ⟨F, dx, dy, P, wd, hx, hy, g, q⟩ := h
  unfold gEqv at g
  split at g
  · cases hx.int; cases hy.int
    refine op_eq pins s σ H _ _ v u Q I rx ry ⟨rfl, ?_⟩
    rw [dec_int, Bool.beq_eq_decide_eq]
    exact q _ _ F H wd.refl (res_d (.bl _)) g
  · cases hx.str; cases hy.str
    refine op_eq pins s σ H _ _ v u Q I rx ry ⟨rfl, ?_⟩
    rw [dec_str, Bool.beq_eq_decide_eq]
    exact q _ _ F H wd.refl (res_d (.bl _)) g
  · cases hx.bl; cases hy.bl
    refine op_eq pins s σ H _ _ v u Q I rx ry ⟨rfl, ?_⟩
    rw [dec_bl, Bool.beq_eq_decide_eq]
    exact q _ _ F H wd.refl (res_d (.bl _)) g
  · obtain ⟨as, r1⟩ := rp_reads I _ _ _ (flat_of_can _ (SeqAt.canLay_of_shaped g.1)) (hx.all wd.sub) rx
    obtain ⟨bs, r2⟩ := rp_reads I _ _ _ (flat_of_can _ (SeqAt.canLay_of_shaped g.2.1)) (hy.all wd.sub) ry
    exact SeqAt.compareEq_shaped r1 r2 g.1 g.2.1 hu ⟨.bl _, H, I, rfl, q _ _ F H wd.refl (res_d (.bl _)) g.2.2⟩
theorem o_ne (hu : X.A.units + 64 < cLine) : OpR X (compareOp .NotEq) (lR X.K w.b (gEqv not)) := by
  intro pins s σ H x y v u Q I rx ry h
  obtain ⟨F, dx, dy, P, wd, hx, hy, g, q⟩ := h
  unfold gEqv at g
  split at g
  · cases hx.int; cases hy.int
    refine op_ne pins s σ H _ _ v u Q I rx ry ⟨rfl, ?_⟩
    rw [dec_int, Bool.beq_eq_decide_eq]
    exact q _ _ F H wd.refl (res_d (.bl _)) g
  · cases hx.str; cases hy.str
    refine op_ne pins s σ H _ _ v u Q I rx ry ⟨rfl, ?_⟩
    rw [dec_str, Bool.beq_eq_decide_eq]
    exact q _ _ F H wd.refl (res_d (.bl _)) g
  · cases hx.bl; cases hy.bl
    refine op_ne pins s σ H _ _ v u Q I rx ry ⟨rfl, ?_⟩
    rw [dec_bl, Bool.beq_eq_decide_eq]
    exact q _ _ F H wd.refl (res_d (.bl _)) g
  · obtain ⟨as, r1⟩ := rp_reads I _ _ _ (flat_of_can _ (SeqAt.canLay_of_shaped g.1)) (hx.all wd.sub) rx
    obtain ⟨bs, r2⟩ := rp_reads I _ _ _ (flat_of_can _ (SeqAt.canLay_of_shaped g.2.1)) (hy.all wd.sub) ry
    exact SeqAt.compareNe_shaped r1 r2 g.1 g.2.1 hu ⟨.bl _, H, I, rfl, q _ _ F H wd.refl (res_d (.bl _)) g.2.2⟩
/-! ### arguments, displays -/
variable {e : Expr} {es : List Expr} {te : DT} {t tr : DA} {pos : Pos}
def frz : DV → DV
  | .fr xs => .d (.list xs)
  | .ft x => .d x
  | x => x
theorem frz_ok {K : PySem.W.Frag} {b : Bg} {F H F' H' : Hp} {v : V} {dv : DV} (s : Stp K b F H F' H') (r : Res K b H F' H' dv v) : ∃ F2, Stp K b F H F2 H' ∧ ArR K b F2 H' (frz dv) v := by
  cases dv with
  | d x => exact ⟨F', s, r⟩
  | fr xs =>
    obtain ⟨p, vs, rfl, h0, hf, ne, hp, q⟩ := r
    exact ⟨_, s.freeze h0 hf ne hp, Rp.lst upd_same (q.up (same_laid hf))⟩
  | ow l xs => exact ⟨F', s, r⟩
  | raw u => exact ⟨F', s, r⟩
  | bag => exact ⟨F', s, r⟩
  | ft x =>
    obtain ⟨S, nd, k, q⟩ := r
    exact ⟨_, s.freezeT k q.there, q.open (opn_same fun l m => (k l m).2.1) fun _ m => m⟩
  | tr p S x => exact ⟨F', s, r⟩
theorem ArR.step {K : PySem.W.Frag} {b : Bg} {F H F' H' : Hp} (s : Stp K b F H F' H') : ∀ {dv : DV} {v : V}, ArR K b F H dv v → ArR K b F' H' dv v
  | .d _, _, r => Rp.up s.ex r
  | .fr xs, _, r => r.elim
  | .ow l xs, _, ⟨e, hf, ne, vs, hp, r⟩ => ⟨e, s.new l hf (by rw [hp]; exact fun z => nomatch z), ne, vs, s.keep _ _ ne (fun _ z => nomatch z) hp, r.up s.ex⟩
  | .ft x, _, r => r.elim
  | .tr p S x, _, ⟨k, q⟩ => ⟨fun a m => by
      obtain ⟨o, ho, _⟩ := q.there a m
      exact ⟨s.new a (k a m).1 (by rw [ho]; exact fun z => nomatch z), (k a m).2⟩, q.up s.ex fun a m o ho => by
      obtain ⟨o', ho', nt⟩ := q.there a m
      rw [ho] at ho'
      cases ho'
      exact s.keep a o (k a m).2 (isM_tbl nt) ho⟩
  | .raw _, _, e => e
  | .bag, _, e => e
def tNilD : DA := fun _ P => P []
def tConsD (te : DT) (tr : DA) : DA := fun env P => te env fun u => tr env fun us => P (frz u :: us)
theorem da_nil : DPA X w [] tNilD := pa_weak pa_nil fun σ H Q ⟨env, F, P, r, h, q⟩ => q [] [] F H r.wd.refl .nil h
theorem da_cons (ha : DPE X w e te) (hr : DPA X w es tr) (hs : starEach (e :: es) X.env = (false, eval e X.env) :: starEach es X.env := by rfl) : DPA X w (e :: es) (tConsD te tr) :=
  pa_weak (pa_cons ha hr hs) fun σ H Q ⟨env, F, P, r, h, q⟩ => ⟨env, F, _, r, h, fun dv v F1 H1 s1 r1 h1 => by
    obtain ⟨F2, s2, a2⟩ := frz_ok s1 r1
    exact ⟨env, F2, _, r.step s2, h1, fun dvs vs F3 H3 s3 r3 h3 => q (frz dv :: dvs) (v :: vs) F3 H3 (s2.trans s3) (.cons (a2.step s3) r3) h3⟩⟩
/-- all of them data -/
def allD : List DV → (List PyData → Prop) → Prop
  | [], k => k []
  | .d x :: r, k => allD r fun xs => k (x :: xs)
  | _ :: _, _ => False
theorem allD_ok {K : PySem.W.Frag} {b : Bg} {F H : Hp} : ∀ {dvs : List DV} {vs : List V} {k : List PyData → Prop}, Paired (ArR K b F H) dvs vs → allD dvs k → ∃ xs, RpA K F vs xs ∧ k xs
  | _, _, _, .nil, h => ⟨[], .nil, h⟩
  | .d x :: r, _, k, .cons a t, h => by
    obtain ⟨xs, q, hk⟩ := allD_ok t (show allD r (fun xs => k (x :: xs)) from h)
    exact ⟨x :: xs, .cons a q, hk⟩
  | .fr _ :: _, _, _, .cons _ _, h => h.elim
  | .ow _ _ :: _, _, _, .cons _ _, h => h.elim
  | .raw _ :: _, _, _, .cons _ _, h => h.elim
  | .bag :: _, _, _, .cons _ _, h => h.elim
def tLstD (t : DA) : DT := fun env P => t env fun us => allD us fun xs => xs.length ≤ 100000 ∧ P (.fr xs)
def tTupD (t : DA) : DT := fun env P => t env fun us => allD us fun xs => xs.length ≤ 100000 ∧ P (.d (.tuple xs))
theorem d_lst (h : DPA X w es t) : DPE X w (.List es pos) (tLstD t) := pe_weak (pe_lst h) fun σ H Q ⟨env, F, P, r, h, q⟩ => ⟨env, F, _, r, h, fun dvs vs F1 H1 s1 r1 h1 => by
  obtain ⟨xs, q1, hz, hp⟩ := allD_ok r1 h1
  exact ⟨by rw [q1.len]; exact lim_le hz, res_new s1.wd q1 (fun dv v F2 H2 s2 r2 h2 => q dv v F2 H2 (s1.trans s2) (r2.early s1) h2) hp⟩⟩
theorem d_tup {x1} (h : DPA X w es t) : DPE X w (.Tuple es x1 pos) (tTupD t) := pe_weak (pe_tup h) fun σ H Q ⟨env, F, P, r, h, q⟩ => ⟨env, F, _, r, h, fun dvs vs F1 H1 s1 r1 h1 => by
  obtain ⟨xs, q1, hz, hp⟩ := allD_ok r1 h1
  exact ⟨by rw [q1.len]; exact lim_le hz, res_newT s1.wd q1 (fun dv v F2 H2 s2 r2 h2 => q dv v F2 H2 (s1.trans s2) (r2.early s1) h2) hp⟩⟩
/-! ### an item -/
variable {a b : Expr} {ta tb : DT}
def gIx : G2 := fun x y P => match x, y with
  | .list xs, .int i => match atI xs i with
    | some z => P (.d z)
    | none => False
  | .tuple xs, .int i => match atI xs i with
    | some z => P (.d z)
    | none => False
  | .str z, .int i => z.length ≤ 100000 ∧ match atI z.cps.toList i with
    | some c => P (.d (.str ⟨#[c]⟩))
    | none => False
  | _, _ => False
theorem at_rp {K : PySem.W.Frag} {F : Hp} {vs : List V} {xs : List PyData} {i : Int} {z : PyData} (r : RpA K F vs xs) (h : atI xs i = some z) : ∃ v, atI vs i = some v ∧ Rp K F v z := by
  unfold atI at h ⊢
  rw [r.len]
  cases e : ixN xs.length i with
  | none => rw [e] at h; cases h
  | some j =>
    rw [e] at h
    exact r.get h
theorem ix_all : IxR X (lR X.K w.b gIx) := by
  intro value slice pins s σ H x y v u Q I rx ry h hs
  obtain ⟨F, dx, dy, P, wd, hx, hy, g, q⟩ := h
  unfold gIx at g
  split at g
  · obtain ⟨l, vs, rfl, e, r⟩ := hx.lst wd.sub
    cases hy.int
    split at g
    · next z ez =>
      obtain ⟨v1, e1, r1⟩ := at_rp r ez
      exact ix_list value slice pins s σ H _ _ v u Q I rx ry ⟨l, vs, _, v1, rfl, rfl, SqL.of e, e1, q _ _ F H wd.refl (res_d r1) g⟩ hs
    · exact g.elim
  · obtain ⟨l, vs, rfl, e, r⟩ := hx.tup wd.sub
    cases hy.int
    split at g
    · next z ez =>
      obtain ⟨v1, e1, r1⟩ := at_rp r ez
      exact ix_tup value slice pins s σ H _ _ v u Q I rx ry ⟨l, vs, _, v1, rfl, rfl, e, e1, q _ _ F H wd.refl (res_d r1) g⟩ hs
    · exact g.elim
  · cases hx.str
    cases hy.int
    obtain ⟨hz, g⟩ := g
    split at g
    · next z ez => exact ix_str value slice pins s σ H _ _ v u Q I rx ry ⟨_, _, z, rfl, rfl, lim_le hz, ez, q _ _ F H wd.refl (res_d (.str _)) g⟩ hs
    · exact g.elim
  · exact g.elim
theorem d_ix (ha : DPE X w a ta) (hb : DPE X w b tb) (hs : PlainIx b := by exact fun _ _ => rfl) : DPE X w (.Subscript a b pos) (tBin gIx ta tb) := pe_weak (pe_ix ix_all ha hb hs) fun _ _ _ h => bin_go h
end
end Dl
namespace Dl
open PySem PySem.Spec PyProof.Rows L2
/-! ### built-ins by values -/
abbrev GC := List DV → (DV → Prop) → Prop
def lC (K : PySem.W.Frag) (b : Bg) (g : GC) : List V → Hp → VK → Prop := fun vs H Q => ∃ F dvs P, Wd K b F H ∧ Paired (ArR K b F H) dvs vs ∧ g dvs P ∧ ∀ dv v F' H', Stp K b F H F' H' → Res K b H F' H' dv v → P dv → Q v H'
def tCallD (g : GC) (t : DA) : DT := fun env P => t env fun us => g us P
section
variable {K : PySem.W.Frag} {b : Bg} {F H F' H' Hz : Hp}
theorem arr_rr {dv : DV} {v : V} {k : PyData → Prop} (r : ArR K b F H dv v) (h : rd dv k) : ∃ x, Rr K b F H v x ∧ k x := by
  cases dv with
  | d x => exact ⟨x, .d r, h⟩
  | fr xs => exact False.elim r
  | ow l xs =>
    obtain ⟨rfl, hf, ne, vs, hp, q⟩ := r
    exact ⟨_, .o hf ne hp q, h⟩
  | raw u => exact False.elim h
  | bag => exact False.elim h
  | ft x => exact False.elim r
  | tr p S x => exact False.elim h
def one : List DV → (DV → Prop) → Prop
  | [x], k => k x
  | _, _ => False
def two : List DV → (DV → DV → Prop) → Prop
  | [x, y], k => k x y
  | _, _ => False
theorem one_ok {R : DV → V → Prop} {dvs : List DV} {vs : List V} {k : DV → Prop} (r : Paired R dvs vs) (h : one dvs k) : ∃ x v, vs = [v] ∧ R x v ∧ k x := by
  unfold one at h
  split at h
  · cases r with | cons a t => cases t; exact ⟨_, _, rfl, a, h⟩
  · exact h.elim
theorem two_ok {R : DV → V → Prop} {dvs : List DV} {vs : List V} {k : DV → DV → Prop} (r : Paired R dvs vs) (h : two dvs k) : ∃ x y v u, vs = [v, u] ∧ R x v ∧ R y u ∧ k x y := by
  unfold two at h
  split at h
  · cases r with | cons a t => cases t with | cons a2 t => cases t; exact ⟨_, _, _, _, rfl, a, a2, h⟩
  · exact h.elim
end
section
variable {X : Cx} {w : Wn} {e : Expr} {es : List Expr} {t : DA} {x : Str} {p pos : Pos} {id T : String} {g : GC}
theorem callb_go {σ : L2.St} {H : Hp} {Q : VK} (h : lf X.K w (tCallD g t) σ H Q) : tCB (lC X.K w.b g) (lfA X.K w t) σ H Q := by
  obtain ⟨env, F, P, r, h, q⟩ := h
  exact ⟨env, F, _, r, h, fun dvs vs F1 H1 s1 r1 h1 => ⟨F1, dvs, P, s1.wd, r1, h1, fun dv v F2 H2 s2 r2 h2 => q dv v F2 H2 (s1.trans s2) (r2.early s1) h2⟩⟩
theorem d_callB (hc : CallR X (.builtin id) (lC X.K w.b g)) (gl : Gl X x) (gm : X.mg x = none) (gv : bootBuiltins x = some (.builtin id)) (ha : DPA X w (e :: es) t) (hn : x ≠ "__name__" := by decide) (db : (x == ("__debug__" : Str)) = false := by decide)
    (he : starEach (e :: es) X.env = (false, eval e X.env) :: starEach es X.env := by rfl) (hpl : (backTo pos (starEach es X.env)).any (·.1) = false := by rfl) : DPE X w (.Call (.Name x p) (e :: es) [] pos) (tCallD g t) :=
  pe_weak (pe_callB hc gl gm gv ha hn db he hpl) fun _ _ _ h => callb_go h
theorem d_callTy (hc : CallR X (.type T) (lC X.K w.b g)) (gl : Gl X x) (gm : X.mg x = none) (gv : bootBuiltins x = some (.type T)) (ha : DPA X w (e :: es) t) (hn : x ≠ "__name__" := by decide) (db : (x == ("__debug__" : Str)) = false := by decide)
    (he : starEach (e :: es) X.env = (false, eval e X.env) :: starEach es X.env := by rfl) (hpl : (backTo pos (starEach es X.env)).any (·.1) = false := by rfl) : DPE X w (.Call (.Name x p) (e :: es) [] pos) (tCallD g t) :=
  pe_weak (pe_callTy hc gl gm gv ha hn db he hpl) fun _ _ _ h => callb_go h
theorem d_callM (hc : CallR X (.builtin id) (lC X.K w.b g)) (gl : Gl X x) (gm : X.mg x = some (.builtin id)) (ha : DPA X w (e :: es) t) (db : (x == ("__debug__" : Str)) = false := by decide)
    (he : starEach (e :: es) X.env = (false, eval e X.env) :: starEach es X.env := by rfl) (hpl : (backTo pos (starEach es X.env)).any (·.1) = false := by rfl) : DPE X w (.Call (.Name x p) (e :: es) [] pos) (tCallD g t) :=
  pe_weak (pe_callBfun hc gl gm ha db he hpl) fun _ _ _ h => callb_go h
def cLen : GC := fun us P => one us fun u => rd u fun x => match x with
  | .list xs => P (.d (.int xs.length))
  | .tuple xs => P (.d (.int xs.length))
  | .str z => z.length ≤ 100000 ∧ P (.d (.int z.length))
  | _ => False
theorem k_len : CallR X (.builtin "len") (lC X.K w.b cLen) := by
  intro pins s σ H vs us Q I r h
  obtain ⟨F, dvs, P, wd, ar, g, q⟩ := h
  obtain ⟨u, v, rfl, a, g⟩ := one_ok ar g
  obtain ⟨x, hx, g⟩ := arr_rr a g
  split at g
  · obtain ⟨l, vs, rfl, e, r1⟩ := hx.lst wd.sub
    exact call_len_seq pins s σ H _ us Q I r ⟨l, vs, rfl, .inl (SqL.of e), by rw [r1.len]; exact q _ _ F H wd.refl (res_d (.int _)) g⟩
  · obtain ⟨l, vs, rfl, e, r1⟩ := hx.tup wd.sub
    exact call_len_seq pins s σ H _ us Q I r ⟨l, vs, rfl, .inr e, by rw [r1.len]; exact q _ _ F H wd.refl (res_d (.int _)) g⟩
  · cases hx.str
    exact call_len_str pins s σ H _ us Q I r ⟨_, rfl, lim_le g.1, q _ _ F H wd.refl (res_d (.int _)) g.2⟩
  · exact g.elim
def cAbs : GC := fun us P => one us fun u => rd u fun x => match x with
  | .int i => P (.d (.int i.natAbs))
  | _ => False
theorem k_abs : CallR X (.builtin "abs") (lC X.K w.b cAbs) := by
  intro pins s σ H vs us Q I r h
  obtain ⟨F, dvs, P, wd, ar, g, q⟩ := h
  obtain ⟨u, v, rfl, a, g⟩ := one_ok ar g
  obtain ⟨x, hx, g⟩ := arr_rr a g
  split at g
  · next i =>
    cases hx.int
    refine call_abs pins s σ H _ us Q I r ⟨i, rfl, ?_⟩
    have e : (if i < 0 then -i else i) = (i.natAbs : Int) := by split <;> omega
    rw [e]
    exact q _ _ F H wd.refl (res_d (.int _)) g
  · exact g.elim
def cMin (f : Int → Int → Int) : GC := fun us P => two us fun u z => rd u fun x => rd z fun y => match x, y with
  | .int i, .int j => P (.d (.int (f i j)))
  | _, _ => False
theorem k_min (hc : X.calm = true) : CallR X (.builtin "min") (lC X.K w.b (cMin min)) := by
  intro pins s σ H vs us Q I r h
  obtain ⟨F, dvs, P, wd, ar, g, q⟩ := h
  obtain ⟨u, z, v1, v2, rfl, a1, a2, g⟩ := two_ok ar g
  obtain ⟨x, hx, g⟩ := arr_rr a1 g
  obtain ⟨y, hy, g⟩ := arr_rr a2 g
  split at g
  · cases hx.int
    cases hy.int
    refine call_min2 hc pins s σ H _ us Q I r ⟨_, _, rfl, ?_⟩
    have e : ∀ i j : Int, (if j < i then j else i) = min i j := fun i j => by split <;> omega
    rw [e]
    exact q _ _ F H wd.refl (res_d (.int _)) g
  · exact g.elim
theorem k_max (hc : X.calm = true) : CallR X (.builtin "max") (lC X.K w.b (cMin max)) := by
  intro pins s σ H vs us Q I r h
  obtain ⟨F, dvs, P, wd, ar, g, q⟩ := h
  obtain ⟨u, z, v1, v2, rfl, a1, a2, g⟩ := two_ok ar g
  obtain ⟨x, hx, g⟩ := arr_rr a1 g
  obtain ⟨y, hy, g⟩ := arr_rr a2 g
  split at g
  · cases hx.int
    cases hy.int
    refine call_max2 hc pins s σ H _ us Q I r ⟨_, _, rfl, ?_⟩
    have e : ∀ i j : Int, (if j > i then j else i) = max i j := fun i j => by split <;> omega
    rw [e]
    exact q _ _ F H wd.refl (res_d (.int _)) g
  · exact g.elim
def cInt : GC := fun us P => one us fun u => rd u fun x => match x with
  | .int i => P (.d (.int i))
  | .bool c => P (.d (.int (if c then 1 else 0)))
  | _ => False
theorem k_int : CallR X (.type "int") (lC X.K w.b cInt) := by
  intro pins s σ H vs us Q I r h
  obtain ⟨F, dvs, P, wd, ar, g, q⟩ := h
  obtain ⟨u, v, rfl, a, g⟩ := one_ok ar g
  obtain ⟨x, hx, g⟩ := arr_rr a g
  split at g
  · cases hx.int
    exact call_int1 pins s σ H _ us Q I r (.inl ⟨_, rfl, q _ _ F H wd.refl (res_d (.int _)) g⟩)
  · cases hx.bl
    exact call_int1 pins s σ H _ us Q I r (.inr ⟨_, rfl, q _ _ F H wd.refl (res_d (.int _)) g⟩)
  · exact g.elim
def cGcd : GC := fun us P => two us fun u z => rd u fun x => rd z fun y => match x, y with
  | .int i, .int j => P (.d (.int ((Nat.gcd i.natAbs j.natAbs : Nat) : Int)))
  | _, _ => False
theorem k_gcd : CallR X (.builtin "math.gcd") (lC X.K w.b cGcd) := by
  intro pins s σ H vs us Q I r h
  obtain ⟨F, dvs, P, wd, ar, g, q⟩ := h
  obtain ⟨u, z, v1, v2, rfl, a1, a2, g⟩ := two_ok ar g
  obtain ⟨x, hx, g⟩ := arr_rr a1 g
  obtain ⟨y, hy, g⟩ := arr_rr a2 g
  split at g
  · cases hx.int
    cases hy.int
    exact cr_gcd pins s σ H _ us Q I r ⟨_, _, rfl, q _ _ F H wd.refl (res_d (.int _)) g⟩
  · exact g.elim
def cList : GC := fun us P => one us fun u => rd u fun x => match x with
  | .list xs => P (.fr xs)
  | .tuple xs => P (.fr xs)
  | _ => False
theorem k_list : CallR X (.type "list") (lC X.K w.b cList) := by
  intro pins s σ H vs us Q I r h
  obtain ⟨F, dvs, P, wd, ar, g, q⟩ := h
  obtain ⟨u, v, rfl, a, g⟩ := one_ok ar g
  obtain ⟨x, hx, g⟩ := arr_rr a g
  split at g
  · obtain ⟨l, vs, rfl, e, r1⟩ := hx.lst wd.sub
    exact call_list_of pins s σ H _ us Q I r ⟨l, vs, rfl, .inl (SqL.of e), res_new wd r1 q g⟩
  · obtain ⟨l, vs, rfl, e, r1⟩ := hx.tup wd.sub
    exact call_list_of pins s σ H _ us Q I r ⟨l, vs, rfl, .inr e, res_new wd r1 q g⟩
  · exact g.elim
/-! isinstance -/
def tyN : PyData → String
  | .none => "NoneType"
  | .bool _ => "bool"
  | .int _ => "int"
  | .str _ => "str"
  | .list _ => "list"
  | .tuple _ => "tuple"
  | .dict _ => "dict"
/-- an object of a class of the module -/
def isOb : PyData → Bool
  | .dict ((.none, _) :: _) => true
  | _ => false
theorem obD_isOb (c : Str) (ds : List (Str × PyData)) : isOb (obD c ds) = true := rfl
theorem dct_isOb {K : PySem.W.Frag} {F : Hp} {kvs : List (Key × V)} {ks xs : List PyData} (r : RpA K F (kvs.map fun p => kV p.1) ks) : isOb (.dict (ks.zip xs)) = false := by
  match kvs, ks, xs, r with
  | [], _, _, .nil => rfl
  | (k, v) :: _, x :: _, y :: _, .cons a _ =>
    cases x with
    | none => cases k <;> cases a
    | _ => rfl
  | _ :: _, _ :: _, [], _ => rfl
def isA (n : String) : PyData → Bool
  | .none => n == "NoneType"
  | .bool _ => n == "bool" || n == "int"
  | .int _ => n == "int"
  | .str _ => n == "str"
  | .list _ => n == "list"
  | .tuple _ => n == "tuple"
  | .dict kvs => n == "dict" && !isOb (.dict kvs)
def cIsi (n : String) : GC := fun us P => two us fun u z => rd u fun x => match z with
  | .raw (.ty m) => m = n ∧ P (.d (.bool (isA n x)))
  | _ => False
theorem kit_all {n : String} (hn : n = "int" ∨ n = "bool" ∨ n = "str" ∨ n = "list" ∨ n = "tuple" ∨ n = "dict") (x : PyData) (hx : isOb x = false) : kitB (tyN x) n = some (isA n x) := by
  rcases hn with rfl | rfl | rfl | rfl | rfl | rfl <;> cases x <;> (simp only [tyN, isA, hx, Bool.not_false, Bool.and_true]; decide +kernel)
theorem ty_isa {K : PySem.W.Frag} {b : Bg} {F H : Hp} {v : V} {x : PyData} {n : String} (hn : n = "int" ∨ n = "bool" ∨ n = "str" ∨ n = "list" ∨ n = "tuple" ∨ n = "dict") (s : Same F H) (h : Rr K b F H v x) : ∃ t, TyX K H v t ∧ PySem.W.kitOne K t (.type n) = some (isA n x) := by
  cases x with
  | none => cases h.non; exact ⟨_, .base .non, kit_ty (kit_all hn .none rfl)⟩
  | bool c => cases h.bl; exact ⟨_, .base (.bl _), kit_ty (kit_all hn (.bool c) rfl)⟩
  | int c => cases h.int; exact ⟨_, .base (.int _), kit_ty (kit_all hn (.int c) rfl)⟩
  | str c => cases h.str; exact ⟨_, .base (.str _), kit_ty (kit_all hn (.str c) rfl)⟩
  | list xs => obtain ⟨l, vs, rfl, e, r⟩ := h.lst s; exact ⟨_, .base (.lst e), kit_ty (kit_all hn (.list xs) rfl)⟩
  | tuple xs =>
    obtain ⟨l, vs, rfl, e, r⟩ := h.tup s
    refine ⟨_, ?_, kit_ty (kit_all hn (.tuple xs) rfl)⟩
    rcases e with (e | ⟨o, e⟩) | ⟨o, its, n, e, c, _⟩
    · exact .base (.tup e)
    · exact .fTuple e
    · exact .kTuple e c
  | dict kvs =>
    generalize e : PyData.dict kvs = z at h
    cases h with
    | d h =>
      cases h with
      | dct h r q => exact ⟨_, .base (.dK (s _ _ h)), kit_ty (kit_all hn _ (dct_isOb r))⟩
      | obj h hc _ _ r =>
        refine ⟨_, .base (.ins (s _ _ h) hc.cls hc.ha hc.hn hc.ht hc.hm), ?_⟩
        rw [hc.kit n hn]
        simp only [isA, obD, isOb, Bool.not_true, Bool.and_false]
      | _ => cases e
    | o => cases e
theorem k_isi {n : String} (hn : n = "int" ∨ n = "bool" ∨ n = "str" ∨ n = "list" ∨ n = "tuple" ∨ n = "dict") : CallR X (.builtin "isinstance") (lC X.K w.b (cIsi n)) := by
  intro pins s σ H vs us Q I r h
  obtain ⟨F, dvs, P, wd, ar, g, q⟩ := h
  obtain ⟨u, z, v1, v2, rfl, a1, a2, g⟩ := two_ok ar g
  obtain ⟨x, hx, g⟩ := arr_rr a1 g
  split at g
  · obtain ⟨e, g⟩ := g
    subst e
    cases (show v2 = V.ty _ from a2)
    obtain ⟨t, ty, kt⟩ := ty_isa hn wd.sub hx
    exact call_isi pins s σ H _ us Q I r ⟨v1, .ty _, _, _, _, rfl, .ty _, ty, kt, q _ _ F H wd.refl (res_d (.bl _)) g⟩
  · exact g.elim
end
/-! ### calls of the text's own defs -/
def Fg (P : Program) (w : World) (K : PySem.W.Frag) (mg : Str → Option Value) (base : Heap) (CX : CXT) (k : Nat) (f : Addr) (sp : Sp) : Prop :=
  ∀ (A : Around) (outer : List Env) (s : Shared) (H : Hp) (us : List Value) (vs : List V) (Q : VK) (E : XK), A.guards = some [] → Room k A → Env0 P w K mg base A outer s H → Vals vs us → sp vs H Q E →
    codeAny (model P w) A (.call (.ref f) { pos := us, kw := [] }) (CR CX outer P w H s Q E) s
/-- a promise in the data's words -/
abbrev DSp := List DV → (DV → Prop) → Prop
def AgR (K : PySem.W.Frag) (b : Bg) (F : Hp) : DV → V → Prop
  | .d x, v => Rp K F v x
  | .raw u, v => v = u
  | .bag, v => v = .ref b.b
  | _, _ => False
def Pm (K : PySem.W.Frag) (ts : List Addr) (sp : DSp) : Sp := fun vs H Q _ => ∃ b F dvs P, b.ts = ts ∧ Wd K b F H ∧ Paired (AgR K b F) dvs vs ∧ sp dvs P ∧ ∀ dv v F' H', Stp K b F H F' H' → Res K b H F' H' dv v → P dv → Q v H'
def dat : DV → DV
  | .ow _ xs => .d (.list xs)
  | .tr _ _ x => .d x
  | x => x
def owA : DV → List Addr
  | .ow l _ => [l]
  | .tr _ S _ => S
  | _ => []
def anyOw (us : List DV) : List Addr := us.flatMap owA
def okR (us : List DV) (r : DV) : Prop := anyOw us = [] ∨ match r with
  | .d x => noL x = true
  | .ft _ => True
  | _ => False
def tUse (sp : DSp) (t : DA) : DT := fun env P => t env fun us => sp (us.map dat) fun r => okR us r ∧ P r
section
variable {K : PySem.W.Frag} {b : Bg} {F H F' H' : Hp}
def shut (ls : List Addr) (F : Hp) : Hp := fun a => if a ∈ ls then none else F a
theorem args_open {dvs : List DV} {vs : List V} (r : Paired (ArR K b F H) dvs vs) : ∀ l ∈ anyOw dvs, F l = none ∧ l ≠ b.b ∧ ∃ o, H l = some o ∧ isM o = true := by
  induction r with
  | nil => intro l hl; cases hl
  | @cons dv v dvs vs a t ih =>
    intro l hl
    rcases List.mem_append.mp (show l ∈ owA dv ++ anyOw dvs from hl) with h | h
    · cases dv with
      | ow m xs =>
        obtain rfl : l = m := by simpa [owA] using h
        obtain ⟨_, hf, ne, ws, e, _⟩ := a
        exact ⟨hf, ne, _, e, rfl⟩
      | tr p S x =>
        have h : l ∈ S := h
        exact ⟨(a.1 l h).1, (a.1 l h).2, a.2.there l h⟩
      | ft x => simp [owA] at h
      | d x => simp [owA] at h
      | fr xs => simp [owA] at h
      | raw v => simp [owA] at h
      | bag => simp [owA] at h
    · exact ih l h
theorem args_dat {ls : List Addr} {dvs : List DV} {vs : List V} (r : Paired (ArR K b F H) dvs vs) (hs : Same F (opn ls F H)) (hl : ∀ l ∈ anyOw dvs, l ∈ ls) : Paired (AgR K b (opn ls F H)) (dvs.map dat) vs := by
  induction r with
  | nil => exact .nil
  | @cons dv v dvs vs a t ih =>
    refine .cons ?_ (ih fun l h => hl l (List.mem_append.mpr (.inr h)))
    cases dv with
    | d x => exact Rp.up hs a
    | raw u => exact a
    | bag => exact a
    | fr xs => exact a.elim
    | ow l xs =>
      obtain ⟨rfl, hf, ne, ws, e, q⟩ := a
      have : l ∈ ls := hl l (List.mem_append.mpr (.inl (by simp [owA])))
      refine Rp.lst ?_ (q.up hs)
      unfold opn
      rw [if_pos this]
      exact e
    | ft x => exact a.elim
    | tr p S x => exact a.2.open hs fun l m => hl l (List.mem_append.mpr (.inl m))
end
section
variable {K : PySem.W.Frag} {b : Bg} {F1 H1 F2 H2 : Hp} {ls : List Addr}
/-- behind a call: what was opened for it is shut again -/
theorem shut_ok (wd : Wd K b F1 H1) (op : ∀ l ∈ ls, F1 l = none ∧ l ≠ b.b ∧ ∃ o, H1 l = some o ∧ isM o = true) (s2 : Stp K b (opn ls F1 H1) H1 F2 H2) : Stp K b F1 H1 (shut ls F2) H2 ∧ ∀ a o, isM o = false → F2 a = some o → shut ls F2 a = some o := by
  have hs : Same F1 (opn ls F1 H1) := opn_same fun l hl => (op l hl).1
  refine ⟨⟨s2.keep, ⟨s2.bag.1, ?_, s2.bag.2.2.1, fun t m => ⟨by unfold shut; split; exact rfl; exact (s2.bag.2.2.2 t m).1, (s2.bag.2.2.2 t m).2⟩⟩, fun a o z => ?_, fun a o z => ?_, ?_, fun a z1 z2 => ?_, s2.tab⟩, fun a o hm z => ?_⟩
  · unfold shut
    rw [if_neg fun m => by have := wd.bag.2.1; rw [(op _ m).1] at this; cases this]
    exact s2.bag.2.1
  · unfold shut
    rw [if_neg fun m => by rw [(op a m).1] at z; cases z]
    exact s2.ex a o (hs a o z)
  · unfold shut at z
    split at z
    · cases z
    · exact s2.sub _ _ z
  · unfold shut
    split
    · rfl
    · exact s2.fb
  · unfold shut
    split
    · rfl
    · next m =>
      refine s2.new a ?_ z2
      unfold opn
      rw [if_neg m]
      exact z1
  · unfold shut
    rw [if_neg fun m => ?_]
    · exact z
    · obtain ⟨_, ne, ws, el, mm⟩ := op a m
      have h3 := s2.keep a ws ne (isM_tbl mm) el
      rw [s2.sub _ _ z] at h3
      cases h3
      rw [hm] at mm
      cases mm
theorem opened (wd : Wd K b F1 H1) (op : ∀ l ∈ ls, F1 l = none ∧ l ≠ b.b ∧ ∃ o, H1 l = some o ∧ isM o = true) : Wd K b (opn ls F1 H1) H1 := by
  have hs : Same F1 (opn ls F1 H1) := opn_same fun l hl => (op l hl).1
  refine ⟨wd.bag.up hs rfl (fun t _ h1 h2 => ⟨by
    unfold opn
    rw [if_neg (fun m => by
      obtain ⟨ps, z, _⟩ := h2
      obtain ⟨_, _, o, e, mm⟩ := op t m
      rw [e] at z
      cases z
      cases mm)]
    exact h1, h2⟩), fun a o z => ?_, ?_⟩
  · unfold opn at z
    split at z
    · exact z
    · exact wd.sub _ _ z
  · unfold opn
    rw [if_neg fun z => (op _ z).2.1 rfl]
    exact wd.fb
/-- what a call tells, told where its arguments are shut again -/
theorem okR_shut {us : List DV} {dv : DV} {v : V} (ok : okR us dv) (ne : anyOw us ≠ []) (h : ∀ a o, isM o = false → F2 a = some o → shut ls F2 a = some o) (rs : Res K b H1 F2 H2 dv v) : Res K b H1 (shut ls F2) H2 dv v := by
  rcases ok with ok | ok
  · exact absurd ok ne
  · cases dv with
    | d x => exact noL_up h ok rs
    | ft x =>
      obtain ⟨S, nd, k, q⟩ := rs
      exact ⟨S, nd, fun a m => ⟨(k a m).1, by unfold shut; split; rfl; exact (k a m).2.1, (k a m).2.2⟩, q.shut h⟩
    | fr xs => exact ok.elim
    | ow l xs => exact ok.elim
    | tr p S x => exact ok.elim
    | raw u => exact ok.elim
    | bag => exact ok.elim
theorem opn_nil : opn [] F1 H1 = F1 := by
  funext a
  unfold opn
  rw [if_neg (by simp)]
end
section
variable {X : Cx} {w : Wn} {CX : CXT} {k : Nat} {f : Addr} {sp : Sp} {ds : DSp} {E : XK} {x : Str} {e : Expr} {es : List Expr} {p pos : Pos} {t : DA}
theorem run_g {pins : List (Addr × Obj)} {σ : L2.St} {H : Hp} {s : Shared} {Q : VK} {us : List Value} {vs : List V} (Fk : Fg X.prog X.w X.K X.mg X.base CX k f sp) (ag : X.A.guards = some []) (room : Room k X.A) (ps : Passes CX X E)
    (I : L2.Inv X pins σ H s) (rv : Vals vs us) (want : sp vs H Q E) : wpAny (model X.prog X.w) X.A (call (.ref f) us) (EP X pins σ Q) X.xe s := by
  refine wpAny_call (codeAny_mono (Fk X.A X.stack s H us vs Q E ag room I.env0 rv want) fun res s2 got => ?_)
  match res, got with
  | .error u, got => exact ps pins σ H s u s2 I got
  | .ok (.ret u), got => exact I.after got
theorem d_use {ts : List Addr} (Fk : Fg X.prog X.w X.K X.mg X.base CX k f (Pm X.K ts ds)) (ht : w.b.ts = ts) (ag : X.A.guards = some []) (room : Room k X.A) (ps : Passes CX X E) (gl : Gl X x) (gm : X.mg x = some (.ref f)) (kp : PySem.W.keepIn X.K (.ref f) = true)
    (ha : DPA X w (e :: es) t) (db : (x == ("__debug__" : Str)) = false := by decide) (s1 : starEach (e :: es) X.env = (false, eval e X.env) :: starEach es X.env := by rfl) (s2 : (backTo pos (starEach es X.env)).any (·.1) = false := by rfl) :
    DPE X w (.Call (.Name x p) (e :: es) [] pos) (tUse ds t) := by
  have base : PE X (.Call (.Name x p) (e :: es) [] pos) (fun σ H Q => lfA X.K w t σ H fun vs H1 => Pm X.K ts ds vs H1 Q E) := by
    refine ⟨fun pins s σ H Q I want => wpAny_Call_Name_kw (ld_glob I gl gm ?_ db)⟩
    refine PySem.W.callWith_K (h₀ := X.base) I.ok.mod.kin kp ?_ s1 s2
    exact thn (ha.run pos pins s σ H _ I want) fun us st ⟨vs, H1, I1, rv, q⟩ => ⟨I1.kIn, run_g Fk ag room ps I1 rv q⟩
  refine pe_weak base fun σ H Q ⟨env, F, P, r, h, q⟩ => ⟨env, F, _, r, h, fun dvs vs F1 H1 st ar h1 => ?_⟩
  have op := args_open ar
  have hs : Same F1 (opn (anyOw dvs) F1 H1) := opn_same fun l hl => (op l hl).1
  refine ⟨w.b, opn (anyOw dvs) F1 H1, _, _, ht, opened st.wd op, args_dat ar hs (fun l hl => hl), h1, fun dv v F2 H2 s2 rs ⟨ok, hp⟩ => ?_⟩
  by_cases em : anyOw dvs = []
  · rw [em, opn_nil] at s2
    exact q dv v F2 H2 (st.trans s2) (rs.early st) hp
  · obtain ⟨sh, kp⟩ := shut_ok st.wd op s2
    exact q dv v _ H2 (st.trans sh) ((okR_shut ok em kp rs).early st) hp
end
end Dl
namespace Dl
open PySem PySem.Spec PyProof.Rows L2
section
variable {K : PySem.W.Frag} {b : Bg} {F₀ H₀ F H F' H' : Hp} {env : List Sl} {σ : L2.St}
theorem slA_ok {s : Sl} {o : Option (Option V)} (h : SlOk K b H₀ F H s o) : ∀ a ∈ slA s, H₀ a = none ∧ F a = none ∧ a ≠ b.b ∧ ∃ o, H a = some o ∧ isM o = true := by
  intro a m
  cases s with
  | ow l xs =>
    obtain ⟨_, h0, hf, ne, vs, hl, _⟩ := h
    obtain rfl : a = l := by simpa [slA] using m
    exact ⟨h0, hf, ne, _, hl, rfl⟩
  | tr p S x =>
    obtain ⟨v, _, _, k, _, q⟩ := h
    have m : a ∈ S := m
    exact ⟨(k a m).1, (k a m).2.1, (k a m).2.2, q.there a m⟩
  | un => simp [slA] at m
  | d x => simp [slA] at m
  | raw x => simp [slA] at m
  | bag => simp [slA] at m
theorem own_set {i : Nat} {z : Sl} (own : ∀ (i j : Nat) (s t : Sl) (a : Addr), env[i]? = some s → env[j]? = some t → a ∈ slA s → a ∈ slA t → i = j) (ow : ∀ a, a ∈ slA z → ∀ j s, j ≠ i → env[j]? = some s → a ∉ slA s) :
    ∀ (j k : Nat) (s t : Sl) (a : Addr), (env.set i z)[j]? = some s → (env.set i z)[k]? = some t → a ∈ slA s → a ∈ slA t → j = k := by
  intro j k s t a h1 h2 m1 m2
  rw [List.getElem?_set] at h1 h2
  by_cases e1 : i = j
  · by_cases e2 : i = k
    · exact e1.symm.trans e2
    · rw [if_pos e1] at h1
      rw [if_neg e2] at h2
      split at h1
      · cases h1
        exact absurd m2 (ow a m1 k t (Ne.symm e2) h2)
      · cases h1
  · rw [if_neg e1] at h1
    by_cases e2 : i = k
    · rw [if_pos e2] at h2
      split at h2
      · cases h2
        exact absurd m1 (ow a m2 j s (Ne.symm e1) h1)
      · cases h2
    · rw [if_neg e2] at h2
      exact own j k s t a h1 h2 m1 m2
theorem Rel.put (r : Rel K b F₀ H₀ env σ F H) (i : Nat) {z : Sl} {v : V} (ok : SlOk K b H₀ F H z (some (some v))) (ow : ∀ a, a ∈ slA z → ∀ j s, j ≠ i → env[j]? = some s → a ∉ slA s) :
    Rel K b F₀ H₀ (env.set i z) (σ.set i (some v)) F H := by
  refine ⟨by rw [List.length_set, List.length_set]; exact r.len, r.st, fun j s e => ?_, own_set r.own ow⟩
  rw [List.getElem?_set] at e ⊢
  by_cases h : i = j
  · subst h
    rw [if_pos rfl] at e ⊢
    by_cases hl : i < env.length
    · rw [if_pos hl] at e
      rw [if_pos (by rw [r.len]; exact hl)]
      cases e
      exact ok
    · rw [if_neg hl] at e
      cases e
  · rw [if_neg h] at e ⊢
    exact r.at' j s e
/-- what an owned slot holds is written -/
theorem Rel.wrtS (r : Rel K b F₀ H₀ env σ F H) {i : Nat} {s s' : Sl} (e : env[i]? = some s) {H' : Hp} (hk : ∀ a o, a ∉ slA s → H a = some o → H' a = some o) (hs : SlOk K b H₀ F H' s' σ[i]?)
    (ow : ∀ a, a ∈ slA s' → a ∈ slA s ∨ H a = none) : Rel K b F₀ H₀ (env.set i s') σ F H' := by
  have ok := slA_ok (r.at' i _ e)
  have hb : H' b.b = H b.b := by
    obtain ⟨vs, eb⟩ := r.st.bag.lst
    rw [eb]
    exact hk _ _ (fun m => (ok _ m).2.2.1 rfl) eb
  refine ⟨by rw [List.length_set]; exact r.len, ⟨fun a o n nt h => ?_, ?_, r.st.ex, fun a o h => ?_, r.st.fb, r.st.new, fun a ps n h => ?_⟩, fun j t h => ?_, own_set r.own fun a m j t nj ej => ?_⟩
  · exact hk a o (fun m => by rw [(ok a m).1] at h; cases h) (r.st.keep a o n nt h)
  · refine r.st.bag.up (fun _ _ h => h) hb fun t _ h1 h2 => ⟨h1, ?_⟩
    obtain ⟨ps, z, k⟩ := h2
    refine ⟨ps, hk _ _ (fun m => ?_) z, k⟩
    obtain ⟨_, _, _, o, ho, mo⟩ := ok t m
    rw [z] at ho
    cases ho
    cases mo
  · exact hk a o (fun m => by rw [(ok a m).2.1] at h; cases h) (r.st.sub a o h)
  · obtain ⟨qs, h1, k⟩ := r.st.tab a ps n h
    exact ⟨qs, hk _ _ (fun m => by rw [(ok a m).1] at h; cases h) h1, k⟩
  · rw [List.getElem?_set] at h
    by_cases hj : i = j
    · subst hj
      rw [if_pos rfl] at h
      split at h
      · cases h
        exact hs
      · cases h
    · rw [if_neg hj] at h
      have old := r.at' j t h
      have apart : ∀ a, a ∈ slA t → a ∉ slA s := fun a m1 m2 => hj (r.own i j _ _ a e h m2 m1)
      cases t with
      | un => exact old
      | d x => exact old
      | raw v => exact old
      | bag => exact old
      | ow m zs =>
        obtain ⟨e1, e2, e3, e4, ws, e5, e6⟩ := old
        exact ⟨e1, e2, e3, e4, ws, hk _ _ (apart m (by simp [slA])) e5, e6⟩
      | tr p S x =>
        obtain ⟨v, e1, nd, k, mr, q⟩ := old
        exact ⟨v, e1, nd, k, mr, q.up (fun _ _ z => z) fun a m o ho => hk a o (apart a m) ho⟩
  · rcases ow a m with m2 | m2
    · exact fun m3 => nj (r.own j i _ _ a ej e m3 m2)
    · intro m3
      obtain ⟨_, _, _, o, ho, _⟩ := slA_ok (r.at' j _ ej) a m3
      rw [m2] at ho
      cases ho
/-- the list of an owned slot is written -/
theorem Rel.wrt (r : Rel K b F₀ H₀ env σ F H) {i : Nat} {l : Addr} {xs ys : List PyData} {vs : List V} (e : env[i]? = some (.ow l xs)) (q : RpA K F vs ys) :
    Rel K b F₀ H₀ (env.set i (.ow l ys)) σ F (upd H l (.lst vs)) := by
  obtain ⟨es, h0, hf, ne, us, hl, _⟩ := r.at' i _ e
  exact r.wrtS e (fun a o n h => by rw [upd_ne (fun z => n (by simp [slA, z]))]; exact h) ⟨es, h0, hf, ne, vs, upd_same, q⟩ fun a m => .inl m
end
/-! ### statements -/
def stD (i : Nat) : DV → List Sl → (List Sl → Prop) → Prop
  | .d x, env, k => k (env.set i (.d x))
  | .fr xs, env, k => ∀ l, k (env.set i (.ow l xs))
  | .raw v, env, k => k (env.set i (.raw v))
  | .bag, env, k => k (env.set i .bag)
  | .ft x, env, k => ∀ S, k (env.set i (.tr true S x))
  | .ow _ _, _, _ => False
  | .tr _ _ _, _, _ => False
section
variable {X : Cx} {w : Wn} {e : Expr} {te : DT} {pos : Pos} {st : Stmt} {rest : List Stmt} {t u : DS}
theorem st_ok {σ : L2.St} {F H F1 H1 : Hp} {env : List Sl} {i : Nat} {dv : DV} {v : V} {k : List Sl → Prop} (r : RelW X.K w env σ F H) (s : Stp X.K w.b F H F1 H1) (rs : Res X.K w.b H F1 H1 dv v) (h : stD i dv env k) :
    ∃ env', RelW X.K w env' (σ.set i (some v)) F1 H1 ∧ k env' := by
  cases dv with
  | d x => exact ⟨_, (r.step s).put i (z := .d x) ⟨v, rfl, rs⟩ (fun a m => by cases m), h⟩
  | raw u =>
    obtain rfl : v = u := rs
    exact ⟨_, (r.step s).put i (z := .raw v) rfl (fun a m => by cases m), h⟩
  | bag =>
    obtain rfl : v = .ref w.b.b := rs
    exact ⟨_, (r.step s).put i (z := .bag) rfl (fun a m => by cases m), h⟩
  | ow l xs => exact h.elim
  | fr xs =>
    obtain ⟨p, vs, rfl, h0, hf, ne, hp, q⟩ := rs
    refine ⟨_, (r.step s).put i (z := .ow p xs) ⟨rfl, r.st.back ne h0, hf, ne, vs, hp, q⟩ (fun a m j t nj ej m2 => ?_), h p⟩
    obtain rfl : a = p := by simpa [slA] using m
    obtain ⟨_, _, _, o, e5, _⟩ := slA_ok (r.at' j _ ej) a m2
    rw [h0] at e5
    cases e5
  | ft x =>
    obtain ⟨S, nd, k, q⟩ := rs
    refine ⟨_, (r.step s).put i (z := .tr true S x) ⟨v, rfl, nd, fun a m => ⟨r.st.back (k a m).2.2 (k a m).1, (k a m).2⟩, q.root, q⟩ (fun a m j t nj ej m2 => ?_), h S⟩
    obtain ⟨_, _, _, o, e5, _⟩ := slA_ok (r.at' j _ ej) a m2
    rw [(k a m).1] at e5
    cases e5
  | tr p S x => exact h.elim
def tSetD (i : Nat) (te : DT) : DS := fun d env => te env fun dv => stD i dv env d.nx
theorem ds_set {x : Str} {i : Nat} {pos' : Pos} (hN : X.N.Nodup) (hi : X.N[i]? = some x) (hx : Loc X.env.scope x) (he : DPE X w e te) (hs : swapsWith e (some (.Name x pos')) pos.line X.env = pure false := by rfl)
    (hf : X.fn x = true ∨ X.env.scope.names.lookup x = some .local := by first | exact .inl rfl | exact .inr rfl) : DPS X w (.Assign [.Name x pos'] e pos) (tSetD i te) :=
  ps_weak (ps_set hN hi hx he hs hf) fun D σ H ⟨env, F, d, r, h, fit⟩ => ⟨env, F, _, r, h, fun dv v F1 H1 s1 r1 h1 => by
    obtain ⟨env', r2, k⟩ := st_ok r s1 r1 h1
    exact fit.nx env' _ F1 H1 r2 s1.ex k⟩
def tSeqD (t u : DS) : DS := fun d env => t { d with nx := u d } env
theorem dss_nil : DPSs X w [] (fun d env => d.nx env) := pss_weak pss_nil fun D σ H ⟨env, F, d, r, h, fit⟩ => fit.nx env σ F H r sm0 h
theorem dss_one (h : DPS X w st t) : DPSs X w [st] t := pss_one h
theorem dss_cons (h1 : DPS X w st t) (h2 : DPSs X w rest u) : DPSs X w (st :: rest) (tSeqD t u) :=
  pss_weak (pss_cons h1 h2) fun D σ H ⟨env, F, d, r, h, fit⟩ => ⟨env, F, _, r, h, ⟨fun env' σ' F' H' r' sm h' => ⟨env', F', d, r', h', fit.up sm⟩, fit.bk, fit.ct, fit.rt⟩⟩
theorem ds_pass : DPS X w (.Pass pos) (fun d env => d.nx env) := ps_weak ps_pass fun D σ H ⟨env, F, d, r, h, fit⟩ => fit.nx env σ F H r sm0 h
theorem ds_break : DPS X w (.Break pos) (fun d env => d.bk env) := ps_weak ps_break fun D σ H ⟨env, F, d, r, h, fit⟩ => fit.bk env σ F H r sm0 h
theorem ds_cont : DPS X w (.Continue pos) (fun d env => d.ct env) := ps_weak ps_continue fun D σ H ⟨env, F, d, r, h, fit⟩ => fit.ct env σ F H r sm0 h
theorem ds_doc {x j pos'} : DPS X w (.Expr (.Constant (.str x) j pos) pos') (fun d env => d.nx env) := ps_weak ps_doc fun D σ H ⟨env, F, d, r, h, fit⟩ => fit.nx env σ F H r sm0 h
theorem ds_never : DPS X w st (fun _ _ => False) := ps_weak ps_never fun D σ H ⟨env, F, d, r, h, fit⟩ => h
theorem dss_never {sts : List Stmt} : DPSs X w sts (fun _ _ => False) := pss_weak pss_never fun D σ H ⟨env, F, d, r, h, fit⟩ => h
def tDropD (te : DT) : DS := fun d env => te env fun _ => d.nx env
theorem ds_expr (he : DPE X w e te) (hs : swapsWith e none pos.line X.env = pure false := by rfl) : DPS X w (.Expr e pos) (tDropD te) :=
  ps_weak (ps_expr he hs) fun D σ H ⟨env, F, d, r, h, fit⟩ => ⟨env, F, _, r, h, fun dv v F1 H1 s1 r1 h1 => fit.nx env _ F1 H1 (r.step s1) s1.ex h1⟩
def tRetD (te : DT) : DS := fun d env => te env fun dv => match dv with
  | .ow _ _ => False
  | .tr _ _ _ => False
  | x => d.rt x
theorem Res.since {K : PySem.W.Frag} {b : Bg} {F₀ H₀ F H F2 H2 : Hp} (s : Stp K b F₀ H₀ F H) {dv : DV} {v : V} (r : Res K b H F2 H2 dv v) : Res K b H₀ F2 H2 dv v := r.early s
theorem ds_ret (he : DPE X w e te) : DPS X w (.Return (some e) pos) (tRetD te) :=
  ps_weak (ps_ret he) fun D σ H ⟨env, F, d, r, h, fit⟩ => ⟨env, F, _, r, h, fun dv v F1 H1 s1 r1 h1 => by
    refine fit.rt dv v F1 H1 (r.st.trans s1) (r1.since r.st) ?_
    cases dv with
    | ow l xs => exact h1.elim
    | d x => exact h1
    | fr x => exact h1
    | ft x => exact h1
    | tr p S x => exact h1.elim
    | raw x => exact h1
    | bag => exact h1⟩
def tRetVD (i : Nat) : DS := fun d env => match env[i]? with
  | some (.ow _ xs) => d.rt (.fr xs)
  | some (.d x) => d.rt (.d x)
  | some (.raw v) => d.rt (.raw v)
  | _ => False
theorem ds_retV (i : Nat) {x : Str} {p : Pos} (hN : X.N[i]? = some x := by rfl) (hv : Vis X.env.scope x := by first | exact Or.inl rfl | exact Or.inr (Or.inl rfl) | exact Or.inr (Or.inr rfl)) (hd : (x == ("__debug__" : Str)) = false := by decide) (hc : (x == ("__classdict__" : Str)) = false := by decide) :
    DPS X w (.Return (some (.Name x p)) pos) (tRetVD i) :=
  ps_weak (ps_ret (pe_var hN hv hd hc)) fun D σ H ⟨env, F, d, r, h, fit⟩ => by
    unfold tRetVD at h
    split at h
    · next l xs e =>
      obtain ⟨e1, h0, hf, ne, vs, hl, q⟩ := r.at' i _ e
      exact ⟨_, e1, fit.rt (.fr xs) _ F H r.st ⟨l, vs, rfl, h0, hf, ne, hl, q⟩ h⟩
    · next x e =>
      obtain ⟨v, e1, r1⟩ := r.at' i _ e
      exact ⟨v, e1, fit.rt (.d x) v F H r.st r1 h⟩
    · next v e => exact ⟨v, r.at' i _ e, fit.rt (.raw v) v F H r.st rfl h⟩
    · exact h.elim
theorem ds_retN : DPS X w (.Return none pos) (fun d _ => d.rt (.d .none)) := ps_weak ps_retN fun D σ H ⟨env, F, d, r, h, fit⟩ => fit.rt (.d .none) .non F H r.st Rp.non h
variable {c : Expr} {tc : DTT} {as bs : List Stmt}
def tIfD (c : DTT) (t u : DS) : DS := fun d env => c env fun k => if k = true then t d env else u d env
theorem ds_if (hc : DPT X w c tc) (ha : DPSs X w as t) (hb : DPSs X w bs u) : DPS X w (.If c as bs pos) (tIfD tc t u) :=
  ps_weak (ps_if hc ha hb) fun D σ H ⟨env, F, d, r, h, fit⟩ => ⟨env, F, _, r, h, fun k F1 H1 s1 h1 => by
    cases k with
    | true => exact ⟨env, F1, d, r.step s1, h1, fit.up s1.ex⟩
    | false => exact ⟨env, F1, d, r.step s1, h1, fit.up s1.ex⟩⟩
/-- an owned list becomes data for good, ahead of a statement -/
def frzS (i : Nat) (env : List Sl) : List Sl := match env[i]? with
  | some (.ow _ xs) => env.set i (.d (.list xs))
  | some (.tr _ _ x) => env.set i (.d x)
  | _ => env
theorem frz_rel {K : PySem.W.Frag} {w : Wn} {env : List Sl} {σ : L2.St} {F H : Hp} (i : Nat) (r : RelW K w env σ F H) : ∃ F2, RelW K w (frzS i env) σ F2 H ∧ Same F F2 := by
  unfold frzS
  split
  · next l xs e =>
    obtain ⟨e1, h0, hf, ne, vs, hl, q⟩ := r.at' i _ e
    have st := r.st.freeze h0 hf ne hl
    have up : Same F (upd F l (.lst vs)) := same_laid hf
    refine ⟨_, ⟨by rw [List.length_set]; exact r.len, st, fun j s h => ?_, own_set r.own fun a m => by cases m⟩, up⟩
    rw [List.getElem?_set] at h
    by_cases hj : i = j
    · subst hj
      rw [if_pos rfl] at h
      split at h
      · cases h
        exact ⟨_, e1, Rp.lst upd_same (q.up up)⟩
      · cases h
    · rw [if_neg hj] at h
      have old := r.at' j s h
      have apart : l ∉ slA s := fun m => hj (r.own i j _ _ l e h (by simp [slA]) m)
      cases s with
      | un => exact old
      | d x => obtain ⟨v, a1, a2⟩ := old; exact ⟨v, a1, a2.up up⟩
      | raw v => exact old
      | bag => exact old
      | ow m zs =>
        obtain ⟨e1, e2, e3, e4, ws, e5, e6⟩ := old
        have ml : m ≠ l := fun z => apart (by simp [slA, z])
        exact ⟨e1, e2, by rw [upd_ne ml]; exact e3, e4, ws, e5, e6.up up⟩
      | tr p S x =>
        obtain ⟨v, e1, nd, k, mr, q⟩ := old
        refine ⟨v, e1, nd, fun a m => ⟨(k a m).1, ?_, (k a m).2.2⟩, mr, q.up up fun _ _ _ z => z⟩
        rw [upd_ne (fun z => apart (show l ∈ S by rw [← z]; exact m))]
        exact (k a m).2.1
  · next p S x e =>
    obtain ⟨v, e1, nd, k, mr, q⟩ := r.at' i _ e
    have st := r.st.freezeT k q.there
    have up : Same F (opn S F H) := opn_same fun l m => (k l m).2.1
    refine ⟨_, ⟨by rw [List.length_set]; exact r.len, st, fun j s h => ?_, own_set r.own fun a m => by cases m⟩, up⟩
    rw [List.getElem?_set] at h
    by_cases hj : i = j
    · subst hj
      rw [if_pos rfl] at h
      split at h
      · cases h
        exact ⟨_, e1, q.open up fun _ m => m⟩
      · cases h
    · rw [if_neg hj] at h
      have old := r.at' j s h
      have apart : ∀ a ∈ S, a ∉ slA s := fun a m1 m2 => hj (r.own i j _ _ a e h m1 m2)
      have out : ∀ a ∈ slA s, F a = none → opn S F H a = none := fun a m h0 => by
        unfold opn
        rw [if_neg fun m2 => apart a m2 m]
        exact h0
      cases s with
      | un => exact old
      | d x => obtain ⟨v, a1, a2⟩ := old; exact ⟨v, a1, a2.up up⟩
      | raw v => exact old
      | bag => exact old
      | ow m zs =>
        obtain ⟨e1, e2, e3, e4, ws, e5, e6⟩ := old
        exact ⟨e1, e2, out m (by simp [slA]) e3, e4, ws, e5, e6.up up⟩
      | tr p' T y =>
        obtain ⟨v, e1, nd, k, mr, q⟩ := old
        exact ⟨v, e1, nd, fun a m => ⟨(k a m).1, out a m (k a m).2.1, (k a m).2.2⟩, mr, q.up up fun _ _ _ z => z⟩
  · exact ⟨F, r, sm0⟩
theorem ds_frz (i : Nat) (h : DPS X w st t) : DPS X w st (fun d env => t d (frzS i env)) := ps_weak h fun D σ H ⟨env, F, d, r, h, fit⟩ => by
  obtain ⟨F2, r2, sm⟩ := frz_rel i r
  exact ⟨_, F2, d, r2, h, fit.up sm⟩
/-- xs.append(e) -/
def tAppD (i : Nat) (te : DT) : DS := fun d env => match env[i]? with
  | some (.ow l xs) => xs.length < 100000 ∧ te env fun dv => match frz dv with
    | .d x => d.nx (env.set i (.ow l (xs ++ [x])))
    | _ => False
  | _ => False
theorem ds_app {i : Nat} (base : PE X e (tBM X.K "list" rAppend (tVar i) (tCons (lf X.K w te) tNil))) (hs : swapsWith e none pos.line X.env = pure false := by rfl) : DPS X w (.Expr e pos) (tAppD i te) :=
  ps_weak (ps_expr base hs) fun D σ H ⟨env, F, d, r, h, fit⟩ => by
    unfold tAppD at h
    split at h
    · next l xs ei =>
      obtain ⟨e1, _, _, _, vs, hl, _⟩ := r.at' i _ ei
      obtain ⟨hz, h⟩ := h
      refine ⟨_, e1, .inl ⟨rfl, vs, SqL.of hl⟩, env, F, _, r, h, fun dv v F1 H1 s1 r1 h1 => ?_⟩
      obtain ⟨F2, s2, a2⟩ := frz_ok s1 r1
      have r2 := r.step s2
      obtain ⟨_, _, _, _, us, hl2, q2⟩ := r2.at' i _ ei
      split at h1
      · next x ex =>
        rw [ex] at a2
        refine ⟨l, us, v, rfl, rfl, hl2, by rw [q2.len]; exact lim_lt hz, ?_⟩
        exact fit.nx _ _ F2 _ (r2.wrt ei (q2.app (.cons a2 .nil))) s2.ex h1
      · exact h1.elim
    · exact h.elim
/-- xs[i] = e, xs an owned list -/
def tSetI (i : Nat) (ti te : DT) : DS := fun d env => te env fun dv => match frz dv, env[i]? with
  | .d x, some (.ow l xs) => ti env fun k => rd k fun y => match y with
    | .int j => match ixN xs.length j with
      | some m => d.nx (env.set i (.ow l (xs.set m x)))
      | none => False
    | _ => False
  | _, _ => False
theorem ds_seti {i : Nat} {ti : DT} {ix o : Expr} {p : Pos} (he : DPE X w e te) (ho : PE X o (tVar i)) (hi : DPE X w ix ti) (hp : PG X (.Subscript o ix p) (gSub (tVar i) (lf X.K w ti) rSetL)) (hs : swapsWithSole [.Subscript o ix p] e pos.line X.env = pure false := by rfl) (hw : swappedStores [.Subscript o ix p] e X.env = pure none := by rfl) :
    DPS X w (.Assign [.Subscript o ix p] e pos) (tSetI i ti te) :=
  ps_weak (ps_asg he hp hs hw) fun D σ H ⟨env, F, d, r, h, fit⟩ => ⟨env, F, _, r, h, fun dv v F1 H1 s1 r1 h1 => by
    obtain ⟨F2, s2, a2⟩ := frz_ok s1 r1
    have r2 := r.step s2
    split at h1
    · next x l xs ex ei =>
      rw [ex] at a2
      obtain ⟨e1, _, _, _, us, hl2, q2⟩ := r2.at' i _ ei
      refine ⟨_, e1, env, F2, _, r2, h1, fun k u F3 H3 s3 r3 h3 => ?_⟩
      obtain ⟨y, y1, h3⟩ := rd_ok r3 h3
      split at h3
      · next j =>
        obtain rfl := y1.int
        split at h3
        · next m em =>
          have r4 := r2.step s3
          obtain ⟨_, _, _, _, ws, hl4, q4⟩ := r4.at' i _ ei
          refine ⟨l, ws, j, m, rfl, rfl, hl4, by rw [q4.len]; exact em, ?_⟩
          exact fit.nx _ _ F3 _ (r4.wrt ei (q4.set (Rp.up s3.ex a2) m)) (s2.ex.trans s3.ex) h3
        · exact h3.elim
      · exact h3.elim
    · exact h1.elim⟩
end
/-! ### loops -/
def forD (g : PyData → List Sl → (List Sl → Prop) → Prop) (tb : DS) (d : DK) : List PyData → List Sl → Prop
  | [], env => d.nx env
  | x :: xs, env => g x env fun e2 => tb { d with nx := forD g tb d xs, ct := forD g tb d xs, bk := d.nx } e2
def whD (tc : DTT) (tb : DS) (d : DK) : Nat → List Sl → Prop
  | 0, _ => False
  | n + 1, env => tc env fun k => if k = true then tb { d with nx := whD tc tb d n, ct := whD tc tb d n, bk := d.nx } env else d.nx env
abbrev DG := PyData → List Sl → (List Sl → Prop) → Prop
def lfG (K : PySem.W.Frag) (w : Wn) (g : DG) : TG := fun v σ H Q => ∃ env F x k, RelW K w env σ F H ∧ Rp K F v x ∧ g x env k ∧ ∀ env' σ' F' H', RelW K w env' σ' F' H' → Same F F' → k env' → Q σ' H'
/-- what is walked: J gives xs, one by one -/
structure Wlk (K : PySem.W.Frag) (b : Bg) (F : Hp) (J : It) (xs : List PyData) : Prop where
  ex : ∃ (G : Hp → Prop) (Y : Nat → Hp → V → Hp → Prop), Walk J xs.length G Y ∧ (∀ F' H', Same F F' → Wd K b F' H' → G H') ∧
    ∀ i F' H' v H2, Same F F' → Wd K b F' H' → Y i H' v H2 → ∃ F2 x, Stp K b F' H' F2 H2 ∧ xs[i]? = some x ∧ Rp K F2 v x
abbrev DIt := List Sl → (List PyData → Prop) → Prop
def lfI (K : PySem.W.Frag) (w : Wn) (t : DIt) : TI := fun σ H R => ∃ env F P, RelW K w env σ F H ∧ t env P ∧ ∀ xs J F' H', Stp K w.b F H F' H' → Wlk K w.b F' J xs → P xs → R J H'
section
variable {X : Cx} {w : Wn} {c e : Expr} {tc : DTT} {as : List Stmt} {pos : Pos} {tb : DS}
def tWhD (tc : DTT) (tb : DS) : DS := fun d env => ∃ n, whD tc tb d n env
theorem ds_while (hp : PassesOwn (model X.prog X.w) X.A X.env X.xe) (hc : DPT X w c tc) (hb : DPSs X w as tb) : DPS X w (.While c as [] pos) (tWhD tc tb) :=
  ps_weak (ps_while hp hc hb) fun D σ H ⟨env, F, d, r, ⟨n, h⟩, fit⟩ => by
    refine ⟨fun m σ H => ∃ env F', RelW X.K w env σ F' H ∧ Same F F' ∧ whD tc tb d m env, ⟨n, env, F, r, sm0, h⟩, ?_⟩
    rintro m σ H ⟨env, F2, r, sm, h⟩
    cases m with
    | zero => exact h.elim
    | succ m =>
      refine ⟨env, F2, _, r, h, fun k F1 H1 s1 h1 => ?_⟩
      cases k with
      | false => exact fit.nx env σ F1 H1 (r.step s1) (sm.trans s1.ex) h1
      | true =>
        refine ⟨fun σ' H' => ∃ env F', RelW X.K w env σ' F' H' ∧ Same F F' ∧ whD tc tb d m env, fun σ' H' h' => ⟨m, Nat.lt_succ_self m, h'⟩, env, F1, _, r.step s1, h1, ?_⟩
        have up := (fit.up sm).up s1.ex
        have sb := sm.trans s1.ex
        exact ⟨fun env' σ' F' H' r' sm' h' => ⟨env', F', r', sb.trans sm', h'⟩, up.nx, fun env' σ' F' H' r' sm' h' => ⟨env', F', r', sb.trans sm', h'⟩, fit.rt⟩
def tForD (g : DG) (ti : DIt) (tb : DS) : DS := fun d env => ti env fun xs => forD g tb d xs env
theorem ds_for {tg iter : Expr} {g : DG} {ti : DIt} (hp : PassesOwn (model X.prog X.w) X.A X.env X.xe) (hc : X.calm = true) (hi : PI X tg iter (lfI X.K w ti)) (hg : PG X tg (lfG X.K w g)) (hb : DPSs X w as tb)
    (hs : ∀ x, foldedSetIterable iter X.env x = pure x := by intro _; rfl) : DPS X w (.For tg iter as [] pos) (tForD g ti tb) :=
  ps_weak (ps_for hp hc hi hg hb hs) fun D σ H ⟨env, F, d, r, h, fit⟩ => by
    refine ⟨env, F, _, r, h, fun xs J F1 H1 s1 wl h1 => ?_⟩
    obtain ⟨G, Y, wk, hG, hY⟩ := wl.ex
    refine for_it wk (fun i σ H => ∃ env F, RelW X.K w env σ F H ∧ Same F1 F ∧ forD g tb d (xs.drop i) env) ⟨env, F1, r.step s1, fun _ _ z => z, h1⟩ (fun i σ H _ ⟨env, F, r, sm, _⟩ => hG F H sm r.wd) (fun i v σ H H' hi ⟨env, F, r, sm, hd⟩ y => ?_) fun σ H ⟨env, F, r, sm, hd⟩ => ?_
    · obtain ⟨F2, x, s2, ex, rx⟩ := hY i F H v H' sm r.wd y
      have e1 : xs.drop i = x :: xs.drop (i + 1) := by
        obtain ⟨hl, ex⟩ := List.getElem?_eq_some_iff.mp ex
        rw [List.drop_eq_getElem_cons hl, ex]
      rw [e1] at hd
      refine ⟨env, F2, x, _, r.step s2, rx, hd, fun env' σ' F' H'' r' sm' k' => ⟨env', F', _, r', k', ?_⟩⟩
      have sb : Same F1 F' := (sm.trans s2.ex).trans sm'
      have up := fit.up (s1.ex.trans sb)
      exact ⟨fun env' σ' F'' H' r' sm' h' => ⟨env', F'', r', sb.trans sm', h'⟩, up.nx, fun env' σ' F'' H' r' sm' h' => ⟨env', F'', r', sb.trans sm', h'⟩, fit.rt⟩
    · rw [List.drop_length] at hd
      exact fit.nx env σ F H r (s1.ex.trans sm) hd
end
end Dl
namespace Dl
open PySem PySem.Spec PyProof.Rows L2
/-! ### what is walked -/
section
variable {K : PySem.W.Frag} {b : Bg} {F : Hp}
theorem wlk_list {a : Addr} {vs : List V} {xs : List PyData} (h : F a = some (.lst vs)) (r : RpA K F vs xs) : Wlk K b F (Itl K a) xs :=
  ⟨⟨_, _, r.len ▸ walk_list (K := K) (a := a) (xs := vs), fun F' H' s w => SqL.of (w.sub _ _ (s _ _ h)), fun i F' H' v H2 s w y => by
    obtain ⟨rfl, e⟩ := y
    obtain ⟨x, e1, r1⟩ := r.getV e
    exact ⟨F', x, w.refl, e1, r1.up s⟩⟩⟩
theorem wlk_tup {a : Addr} {vs : List V} {xs : List PyData} (h : SqT K F a vs) (r : RpA K F vs xs) : Wlk K b F (Itt K a) xs :=
  ⟨⟨_, _, r.len ▸ walk_tup (K := K) (a := a) (xs := vs), fun F' H' s w => sqt_up w.sub (sqt_up s h), fun i F' H' v H2 s w y => by
    obtain ⟨rfl, e⟩ := y
    obtain ⟨x, e1, r1⟩ := r.getV e
    exact ⟨F', x, w.refl, e1, r1.up s⟩⟩⟩
def rngD (lo : Int) (n : Nat) : List PyData := (List.range n).map fun i => .int (lo + (i : Nat))
theorem rngD_len (lo : Int) (n : Nat) : (rngD lo n).length = n := by simp [rngD]
theorem wlk_rng {lo : Int} {n : Nat} : Wlk K b F (Itr lo n) (rngD lo n) :=
  ⟨⟨_, fun i H v H' => i < n ∧ H' = H ∧ v = .int (lo + i), ⟨fun i H hi _ => by rw [rngD_len] at hi; exact hi, fun H _ => by rw [rngD_len]; exact Nat.le_refl _, fun i H x H' hi _ y => by rw [rngD_len] at hi; exact ⟨hi, y⟩⟩, fun _ _ _ _ => True.intro, fun i F' H' v H2 s w y => by
    obtain ⟨hi, rfl, rfl⟩ := y
    refine ⟨F', .int (lo + i), w.refl, ?_, .int _⟩
    unfold rngD
    rw [List.getElem?_map, List.getElem?_range hi]
    rfl⟩⟩
def signsD (z : Str) : List PyData := z.cps.toList.map fun c => .str ⟨#[c]⟩
theorem wlk_str {z : Str} : Wlk K b F (Its z) (signsD z) :=
  ⟨⟨_, _, (show (signsD z).length = z.cps.size by simp [signsD]) ▸ walk_str (z := z), fun _ _ _ _ => True.intro, fun i F' H' v H2 s w y => by
    obtain ⟨rfl, c, e, rfl⟩ := y
    refine ⟨F', .str ⟨#[c]⟩, w.refl, ?_, .str _⟩
    unfold signsD
    rw [List.getElem?_map, Array.getElem?_toList, e]
    rfl⟩⟩
theorem pair_new {F' H' : Hp} (w : Wd K b F' H') {T : Addr} {x y : V} {dx dy : PyData} (hT : H' T = none) (rx : Rp K F' x dx) (ry : Rp K F' y dy) : ∃ F2, Stp K b F' H' F2 (upd H' T (.tup [x, y])) ∧ Rp K F2 (.ref T) (.tuple [dx, dy]) := by
  have st := w.laid (o := .tup [x, y]) hT
  exact ⟨_, st, Rp.tup (SqT.of upd_same) (.cons (rx.up st.ex) (.cons (ry.up st.ex) .nil))⟩
def enumD (xs : List PyData) : List PyData := xs.zipIdx.map fun p => .tuple [.int (p.2 : Nat), p.1]
theorem enumD_len (xs : List PyData) : (enumD xs).length = xs.length := by simp [enumD]
theorem wlk_enum {a : Addr} {vs : List V} {xs : List PyData} (h : F a = some (.lst vs)) (r : RpA K F vs xs) : Wlk K b F (Ite K a) (enumD xs) :=
  ⟨⟨_, _, (show vs.length = (enumD xs).length by rw [enumD_len, r.len]) ▸ walk_enum (K := K) (a := a) (xs := vs), fun F' H' s w => SqL.of (w.sub _ _ (s _ _ h)), fun i F' H' v H2 s w y => by
    obtain ⟨T, x, y, rfl, hT, rfl, e1, e2⟩ := y
    cases e1
    obtain ⟨z, e3, r1⟩ := r.getV e2
    obtain ⟨F2, st, rp⟩ := pair_new w hT (Rp.int (i : Nat)) (r1.up s)
    refine ⟨F2, _, st, ?_, rp⟩
    unfold enumD
    rw [List.getElem?_map, List.getElem?_zipIdx, e3]
    simp⟩⟩
def zipD (xs ys : List PyData) : List PyData := (xs.zip ys).map fun p => .tuple [p.1, p.2]
theorem wlk_zip {a c : Addr} {vs us : List V} {xs ys : List PyData} (h : F a = some (.lst vs)) (r : RpA K F vs xs) (h2 : F c = some (.lst us)) (r2 : RpA K F us ys) : Wlk K b F (Itz K a c) (zipD xs ys) :=
  ⟨⟨_, _, walk_zip (K := K) (a := a) (b := c) (xs := vs) (ys := us) (by simp [zipD, r.len, r2.len]), fun F' H' s w => ⟨SqL.of (w.sub _ _ (s _ _ h)), SqL.of (w.sub _ _ (s _ _ h2))⟩, fun i F' H' v H2 s w y => by
    obtain ⟨T, x, y, rfl, hT, rfl, e1, e2⟩ := y
    obtain ⟨z1, e3, r3⟩ := r.getV e1
    obtain ⟨z2, e4, r4⟩ := r2.getV e2
    obtain ⟨F2, st, rp⟩ := pair_new w hT (r3.up s) (r4.up s)
    refine ⟨F2, _, st, ?_, rp⟩
    unfold zipD
    have e5 : (xs.zip ys)[i]? = some (z1, z2) := List.getElem?_zip_eq_some.mpr ⟨e3, e4⟩
    rw [List.getElem?_map, e5]
    rfl⟩⟩
end
section
variable {X : Cx} {w : Wn} {tg e : Expr} {te : DT} {ta : DA} {pos p : Pos}
theorem pi_weak {iter : Expr} {t u : TI} (h : PI X tg iter t) (i : ∀ σ H R, u σ H R → t σ H R) : PI X tg iter u := ⟨fun p s σ H R I q => h.run p s σ H R I (i σ H R q)⟩
def itLst (te : DT) : DIt := fun env P => te env fun dv => match frz dv with
  | .d (.list xs) => P xs
  | _ => False
def itTup (te : DT) : DIt := fun env P => te env fun dv => match frz dv with
  | .d (.tuple xs) => P xs
  | _ => False
def itStr (te : DT) : DIt := fun env P => te env fun dv => match frz dv with
  | .d (.str z) => P (signsD z)
  | _ => False
theorem di_list (he : DPE X w e te) : PI X tg e (lfI X.K w (itLst te)) := pi_weak (pi_list he) fun σ H R ⟨env, F, P, r, h, q⟩ => ⟨env, F, _, r, h, fun dv v F1 H1 s1 r1 h1 => by
  obtain ⟨F2, s2, a2⟩ := frz_ok s1 r1
  split at h1
  · next xs ex =>
    rw [ex] at a2
    cases (show Rp X.K F2 v (.list xs) from a2) with
    | lst e1 r2 => exact ⟨_, rfl, ⟨_, SqL.of (s2.sub _ _ e1)⟩, q xs _ F2 H1 s2 (wlk_list e1 r2) h1⟩
  · exact h1.elim⟩
theorem di_tup (he : DPE X w e te) : PI X tg e (lfI X.K w (itTup te)) := pi_weak (pi_tup he) fun σ H R ⟨env, F, P, r, h, q⟩ => ⟨env, F, _, r, h, fun dv v F1 H1 s1 r1 h1 => by
  obtain ⟨F2, s2, a2⟩ := frz_ok s1 r1
  split at h1
  · next xs ex =>
    rw [ex] at a2
    cases (show Rp X.K F2 v (.tuple xs) from a2) with
    | tup e1 r2 => exact ⟨_, rfl, ⟨_, sqt_up s2.sub e1⟩, q xs _ F2 H1 s2 (wlk_tup e1 r2) h1⟩
  · exact h1.elim⟩
theorem di_str (he : DPE X w e te) : PI X tg e (lfI X.K w (itStr te)) := pi_weak (pi_str he) fun σ H R ⟨env, F, P, r, h, q⟩ => ⟨env, F, _, r, h, fun dv v F1 H1 s1 r1 h1 => by
  obtain ⟨F2, s2, a2⟩ := frz_ok s1 r1
  split at h1
  · next z ex =>
    rw [ex] at a2
    cases (show Rp X.K F2 v (.str z) from a2)
    exact ⟨z, rfl, q _ _ F2 H1 s2 wlk_str h1⟩
  · exact h1.elim⟩
def itR1 (ta : DA) : DIt := fun env P => ta env fun us => allD us fun xs => match xs with
  | [.int j] => (-1000000000 < j ∧ j < 1000000000) ∧ P (rngD 0 j.toNat)
  | _ => False
def itR2 (ta : DA) : DIt := fun env P => ta env fun us => allD us fun xs => match xs with
  | [.int i, .int j] => (-1000000000 < i ∧ i < 1000000000 ∧ -1000000000 < j ∧ j < 1000000000) ∧ P (rngD i (j - i).toNat)
  | _ => False
theorem di_r1 {a : Expr} (gl : Gl X "range") (gm : X.mg "range" = none) (ha : DPA X w [a] ta) (hs : starEach [a] X.env = [(false, eval a X.env)] := by rfl) : PI X tg (.Call (.Name "range" p) [a] [] pos) (lfI X.K w (itR1 ta)) :=
  pi_weak (pi_range1 gl gm ha hs) fun σ H R ⟨env, F, P, r, h, q⟩ => ⟨env, F, _, r, h, fun dvs vs F1 H1 s1 r1 h1 => by
    obtain ⟨xs, ra, h1⟩ := allD_ok r1 h1
    split at h1
    · next j =>
      cases ra with
      | cons a1 t =>
        cases t
        cases a1
        exact ⟨j, rfl, by omega, by omega, q _ _ F1 H1 s1 wlk_rng h1.2⟩
    · exact h1.elim⟩
theorem di_r2 {a c : Expr} (gl : Gl X "range") (gm : X.mg "range" = none) (ha : DPA X w [a, c] ta) (hs : starEach [a, c] X.env = [(false, eval a X.env), (false, eval c X.env)] := by rfl) (hs2 : starEach [c] X.env = [(false, eval c X.env)] := by rfl) :
    PI X tg (.Call (.Name "range" p) [a, c] [] pos) (lfI X.K w (itR2 ta)) :=
  pi_weak (pi_range2 gl gm ha hs hs2) fun σ H R ⟨env, F, P, r, h, q⟩ => ⟨env, F, _, r, h, fun dvs vs F1 H1 s1 r1 h1 => by
    obtain ⟨xs, ra, h1⟩ := allD_ok r1 h1
    split at h1
    · next i j =>
      cases ra with
      | cons a1 t =>
        cases t with
        | cons a2 t =>
          cases t
          cases a1
          cases a2
          exact ⟨i, j, rfl, ⟨by omega, by omega, by omega, by omega⟩, q _ _ F1 H1 s1 wlk_rng h1.2⟩
    · exact h1.elim⟩
def itEnum (ta : DA) : DIt := fun env P => ta env fun us => allD us fun xs => match xs with
  | [.list ys] => P (enumD ys)
  | _ => False
def itZip (ta : DA) : DIt := fun env P => ta env fun us => allD us fun xs => match xs with
  | [.list ys, .list zs] => P (zipD ys zs)
  | _ => False
theorem di_enum {a : Expr} {tpos : Pos} {elts : List Expr} {kk : Nat} (gl : Gl X "enumerate") (gm : X.mg "enumerate" = none) (ha : DPA X w [a] ta) (hs : starEach [a] X.env = [(false, eval a X.env)] := by rfl) : PI X (.Tuple elts kk tpos) (.Call (.Name "enumerate" p) [a] [] pos) (lfI X.K w (itEnum ta)) :=
  pi_weak (pi_enum gl gm ha hs) fun σ H R ⟨env, F, P, r, h, q⟩ => ⟨env, F, _, r, h, fun dvs vs F1 H1 s1 r1 h1 => by
    obtain ⟨xs, ra, h1⟩ := allD_ok r1 h1
    split at h1
    · next ys =>
      cases ra with
      | cons a1 t =>
        cases t
        cases a1 with
        | lst e1 r2 => exact ⟨_, _, rfl, SqL.of (s1.sub _ _ e1), q _ _ F1 H1 s1 (wlk_enum e1 r2) h1⟩
    · exact h1.elim⟩
theorem di_zip {a c : Expr} {tpos : Pos} {elts : List Expr} {kk : Nat} (gl : Gl X "zip") (gm : X.mg "zip" = none) (ha : DPA X w [a, c] ta) (hs : starEach [a, c] X.env = (false, eval a X.env) :: starEach [c] X.env := by rfl) (hpl : (backTo pos (starEach [c] X.env)).any (·.1) = false := by rfl) : PI X (.Tuple elts kk tpos) (.Call (.Name "zip" p) [a, c] [] pos) (lfI X.K w (itZip ta)) :=
  pi_weak (pi_zip gl gm ha hs hpl) fun σ H R ⟨env, F, P, r, h, q⟩ => ⟨env, F, _, r, h, fun dvs vs F1 H1 s1 r1 h1 => by
    obtain ⟨xs, ra, h1⟩ := allD_ok r1 h1
    split at h1
    · next ys zs =>
      cases ra with
      | cons a1 t =>
        cases t with
        | cons a2 t =>
          cases t
          cases a1 with
          | lst e1 r2 =>
            cases a2 with
            | lst e3 r4 => exact ⟨_, _, _, _, rfl, SqL.of (s1.sub _ _ e1), SqL.of (s1.sub _ _ e3), q _ _ F1 H1 s1 (wlk_zip e1 r2 e3 r4) h1⟩
    · exact h1.elim⟩
end
/-! ### targets -/
section
variable {X : Cx} {w : Wn} {e : Expr} {te : DT} {pos : Pos}
theorem pg_weak {tg : Expr} {t u : TG} (h : PG X tg t) (i : ∀ v σ H Q, u v σ H Q → t v σ H Q) : PG X tg u := by
  obtain ⟨h1⟩ := h
  constructor
  intros
  first | exact h1 _ _ _ _ _ _ _ ‹_› ‹_› (i _ _ _ _ ‹_›) | exact h1 _ _ _ _ _ _ _ _ ‹_› ‹_› (i _ _ _ _ ‹_›)
def gnD (i : Nat) : DG := fun x env k => k (env.set i (.d x))
theorem dg_name {i : Nat} {x : Str} (hN : X.N.Nodup) (hi : X.N[i]? = some x) (hx : Loc X.env.scope x) (hf : X.fn x = true ∨ X.env.scope.names.lookup x = some .local := by first | exact .inl rfl | exact .inr rfl) : PG X (.Name x pos) (lfG X.K w (gnD i)) :=
  pg_weak (pg_name hN hi hx hf) fun v σ H Q ⟨env, F, x, k, r, rx, h, q⟩ => q _ _ F H (r.put i (z := .d x) ⟨v, rfl, rx⟩ (fun a m => by cases m)) sm0 h
abbrev DGs := List PyData → List Sl → (List Sl → Prop) → Prop
def gnilD : DGs := fun xs env k => xs = [] ∧ k env
def gconsD (g : DG) (gs : DGs) : DGs := fun xs env k => match xs with
  | x :: r => g x env fun e2 => gs r e2 k
  | [] => False
def lfGs (K : PySem.W.Frag) (w : Wn) (g : DGs) : TGs := fun vs σ H Q => ∃ env F xs k, RelW K w env σ F H ∧ RpA K F vs xs ∧ g xs env k ∧ ∀ env' σ' F' H', RelW K w env' σ' F' H' → Same F F' → k env' → Q σ' H'
theorem pgs_weak {tg : List Expr} {t u : TGs} (h : PGs X tg t) (i : ∀ v σ H Q, u v σ H Q → t v σ H Q) : PGs X tg u := by
  obtain ⟨h1⟩ := h
  constructor
  intros
  first | exact h1 _ _ _ _ _ _ _ ‹_› ‹_› (i _ _ _ _ ‹_›) | exact h1 _ _ _ _ _ _ _ _ ‹_› ‹_› (i _ _ _ _ ‹_›)
theorem dgs_nil : PGs X [] (lfGs X.K w gnilD) := pgs_weak pgs_nil fun v σ H Q ⟨env, F, xs, k, r, rx, h, q⟩ => by
  obtain ⟨rfl, h⟩ := h
  cases rx
  exact ⟨rfl, q _ _ F H r sm0 h⟩
theorem dgs_cons {a : Expr} {as : List Expr} {g : DG} {gs : DGs} (h1 : PG X a (lfG X.K w g)) (h2 : PGs X as (lfGs X.K w gs)) (hs : (assignEach (a :: as) X.env).map (fun x => x.snd) = assign a X.env :: (assignEach as X.env).map (fun x => x.snd) := by rfl) : PGs X (a :: as) (lfGs X.K w (gconsD g gs)) :=
  pgs_weak (pgs_cons h1 h2 hs) fun v σ H Q ⟨env, F, xs, k, r, rx, h, q⟩ => by
    cases rx with
    | nil => exact h.elim
    | cons a1 t => exact ⟨_, _, rfl, env, F, _, _, r, a1, h, fun e2 σ2 F2 H2 r2 s2 h2 => ⟨e2, F2, _, k, r2, t.up s2, h2, fun e3 σ3 F3 H3 r3 s3 h3 => q e3 σ3 F3 H3 r3 (s2.trans s3) h3⟩⟩
def gtD (n : Nat) (gs : DGs) : DG := fun x env k => match x with
  | .tuple xs => xs.length = n ∧ gs xs env k
  | _ => False
theorem dg_tup {es : List Expr} {k n : Nat} {gs : DGs} (hc : X.calm = true) (h : PGs X es (lfGs X.K w gs)) (hn : (assignEach es X.env).length = n := by rfl) (hst : (assignEach es X.env).findIdx? (fun x => x.fst) = none := by rfl) : PG X (.Tuple es k pos) (lfG X.K w (gtD n gs)) := by
  refine pg_weak (pg_tup hc h hn hst) fun v σ H Q ⟨env, F, x, k, r, rx, h, q⟩ => ?_
  cases x with
  | tuple xs =>
    cases rx with
    | tup e1 r1 => exact ⟨_, _, rfl, sqt_up r.st.sub e1, by rw [r1.len]; exact h.1, env, F, xs, k, r, r1, h.2, q⟩
  | _ => exact h.elim
/-- target = e -/
def tAsgD (te : DT) (g : DG) : DS := fun d env => te env fun dv => match frz dv with
  | .d x => g x env d.nx
  | _ => False
theorem ds_asg {tg : Expr} {g : DG} (he : DPE X w e te) (hg : PG X tg (lfG X.K w g)) (hs : swapsWithSole [tg] e pos.line X.env = pure false := by rfl) (hw : swappedStores [tg] e X.env = pure none := by rfl) (h1 : (assignEach [tg] X.env).map (fun x => x.snd) = [assign tg X.env] := by rfl) : DPS X w (.Assign [tg] e pos) (tAsgD te g) :=
  ps_weak (ps_asg he hg hs hw h1) fun D σ H ⟨env, F, d, r, h, fit⟩ => ⟨env, F, _, r, h, fun dv v F1 H1 s1 r1 h1 => by
    obtain ⟨F2, s2, a2⟩ := frz_ok s1 r1
    split at h1
    · next x ex =>
      rw [ex] at a2
      exact ⟨env, F2, x, _, r.step s2, a2, h1, fun e3 σ3 F3 H3 r3 s3 h3 => fit.nx e3 σ3 F3 H3 r3 (s2.ex.trans s3) h3⟩
    · exact h1.elim⟩
def tParD (i j : Nat) (ta : DA) : DS := fun d env => ta env fun us => allD us fun xs => match xs with
  | [x, y] => d.nx ((env.set i (.d x)).set j (.d y))
  | _ => False
theorem ds_par {i j : Nat} {x y : Str} {a c : Expr} {ta : DA} {px py pt : Pos} {kt k2 pt2} (hc : X.calm = true) (hN : X.N.Nodup) (hi : X.N[i]? = some x) (hj : X.N[j]? = some y) (hij : i ≠ j)
    (hx : X.env.scope.names.lookup x = some .local) (hy : X.env.scope.names.lookup y = some .local) (ha : DPA X w [a, c] ta)
    (base : PS X (.Assign [.Tuple [.Name x px, .Name y py] kt pt] (.Tuple [a, c] k2 pt2) pos) (tPar i j (lfA X.K w ta))) :
    DPS X w (.Assign [.Tuple [.Name x px, .Name y py] kt pt] (.Tuple [a, c] k2 pt2) pos) (tParD i j ta) :=
  ps_weak base fun D σ H ⟨env, F, d, r, h, fit⟩ => ⟨env, F, _, r, h, fun dvs vs F1 H1 s1 r1 h1 => by
    obtain ⟨xs, ra, h1⟩ := allD_ok r1 h1
    split at h1
    · next x y =>
      cases ra with
      | cons a1 t =>
        cases t with
        | cons a2 t =>
          cases t
          refine ⟨_, _, rfl, fit.nx _ _ F1 H1 ((((r.step s1).put i (z := .d x) ⟨_, rfl, a1⟩ ?_).put j (z := .d y) ⟨_, rfl, a2⟩ ?_)) s1.ex h1⟩
          · intro a m; cases m
          · intro a m; cases m
    · exact h1.elim⟩
def tAugI (i : Nat) (f : Int → Int → Int) (te : DT) : DS := fun d env => match env[i]? with
  | some (.d (.int x)) => te env fun dv => match dv with
    | .d (.int y) => d.nx (env.set i (.d (.int (f x y))))
    | _ => False
  | _ => False
theorem ds_augI {i : Nat} {x : Str} {op : Operator} {f : Int → Int → Int} {pos' : Pos} (hN : X.N.Nodup) (hi : X.N[i]? = some x) (hx : Loc X.env.scope x) (he : DPE X w e te) (ho : PIp X op (ipI f)) (hf : X.fn x = true ∨ X.env.scope.names.lookup x = some .local := by first | exact .inl rfl | exact .inr rfl)
    (base : PS X (.AugAssign (.Name x pos') op e pos) (tAug i (lf X.K w te) (ipI f))) : DPS X w (.AugAssign (.Name x pos') op e pos) (tAugI i f te) :=
  ps_weak base fun D σ H ⟨env, F, d, r, h, fit⟩ => by
    unfold tAugI at h
    split at h
    · next a ea =>
      obtain ⟨v, e1, r1⟩ := r.at' i _ ea
      cases r1
      refine ⟨_, e1, env, F, _, r, h, fun dv v F1 H1 s1 r1 h1 => ?_⟩
      split at h1
      · next c =>
        obtain rfl := r1.intOf
        refine ⟨_, _, rfl, rfl, fit.nx _ _ F1 H1 ((r.step s1).put i (z := .d (.int (f a c))) ⟨_, rfl, .int _⟩ ?_) s1.ex h1⟩
        intro a m; cases m
      · exact h1.elim
    · exact h.elim
end
/-! ### defs -/
def toSl : DV → Sl
  | .d x => .d x
  | .raw v => .raw v
  | .bag => .bag
  | _ => .un
def startD (N : List Str) (dvs : List DV) : List Sl := dvs.map toSl ++ List.replicate (N.length - dvs.length) .un
section
variable {K : PySem.W.Frag} {b : Bg} {F H : Hp}
theorem agr_get {i : Nat} {x : DV} : ∀ {dvs : List DV} {vs : List V} {i : Nat} {x : DV}, Paired (AgR K b F) dvs vs → dvs[i]? = some x → ∃ v, vs[i]? = some v ∧ AgR K b F x v
  | _, _, _, _, .nil, e => by simp at e
  | _, _, 0, _, .cons h _, e => by simp at e; subst e; exact ⟨_, rfl, h⟩
  | _, _, i + 1, x, .cons _ t, e => by
    obtain ⟨v, h1, h2⟩ := agr_get (i := i) (x := x) t (by simpa using e)
    exact ⟨v, by simpa using h1, h2⟩
theorem rel_start {N : List Str} {dvs : List DV} {vs : List V} (w : Wd K b F H) (r : Paired (AgR K b F) dvs vs) : Rel K b F H (startD N dvs) (start N vs) F H := by
  have hl : dvs.length = vs.length := Paired.length r
  refine ⟨by simp [L2.start, startD, hl], w.refl, fun i s e => ?_, fun i j s t a e1 _ m _ => ?_⟩
  · unfold startD at e
    unfold L2.start
    by_cases hi : i < dvs.length
    · rw [List.getElem?_append_left (by simpa using hi), List.getElem?_map] at e
      rw [List.getElem?_append_left (by simpa [← hl] using hi), List.getElem?_map]
      cases ed : dvs[i]? with
      | none => rw [ed] at e; cases e
      | some x =>
        rw [ed] at e
        obtain ⟨v, ev, a⟩ := agr_get (i := i) (x := x) r ed
        rw [ev]
        cases e
        cases x with
        | d x => exact ⟨v, rfl, a⟩
        | raw u => exact congrArg (fun z => some (some z)) a
        | bag => exact congrArg (fun z => some (some z)) a
        | fr xs => exact True.intro
        | ow l xs => exact True.intro
        | ft x => exact True.intro
        | tr p S x => exact True.intro
    · rw [List.getElem?_append_right (by simpa using hi), List.getElem?_replicate] at e
      split at e
      · cases e; exact True.intro
      · cases e
  · exfalso
    unfold startD at e1
    by_cases hi : i < dvs.length
    · rw [List.getElem?_append_left (by simpa using hi), List.getElem?_map] at e1
      cases ed : dvs[i]? with
      | none => rw [ed] at e1; cases e1
      | some x => rw [ed] at e1; cases x <;> cases e1 <;> cases m
    · rw [List.getElem?_append_right (by simpa using hi), List.getElem?_replicate] at e1
      split at e1 <;> cases e1
      cases m
end
section
variable {P : Program} {w : World} {K : PySem.W.Frag} {mg : Str → Option Value} {base : Heap} {CX : CXT} {k : Nat} {f : Addr} {fd : FuncData}
theorem guards_in {A : Around} (h : A.guards = some []) (env : Env) : (A.deeper env).guards = some [] := by
  first | exact h | (simp [Around.deeper, h]) | (unfold Around.deeper; exact h)
/-- THE RULE: a def's body, its reading, its promise -/
theorem d_def {ts : List Addr} {x qual : Str} {st : Stmt} {N ps : List Str} (Fn : L2.Fun K x qual st f fd) (S : FnScope N ps (defScope st))
    (hb : ∀ (kV doc pm : Value) (an : Option Addr) (cdv ct : Value) (us : List Value), us.length = ps.length → bindArgs (PySem.W.fnOf x qual (defArgs st) (defBody st) (defScope st) .none kV doc pm an cdv ct) { pos := us, kw := [] } = pure (ps.zip us))
    (sp : DSp) (t : DS)
    (hd : ∀ (cdv : Value) (A : Around) (outer : List Env) (s : Shared) (H : Hp) (E : XK) (wn : Wn), fd.code = cdv → wn.b.ts = ts → (A.deeper (envOfC qual (defScope st) s.heap.objs.size f cdv)).guards = some [] → Room k (A.deeper (envOfC qual (defScope st) s.heap.objs.size f cdv)) →
      DPSs (cxOf CX P w K mg base N qual (defScope st) f cdv A outer s H E).nox wn (defBody st) t)
    (hv : ∀ dvs Q, sp dvs Q → dvs.length = ps.length ∧ t { nx := fun _ => Q (.d .none), rt := Q } (startD N dvs)) : Fg P w K mg base CX (k + 1) f (Pm K ts sp) := by
  intro A outer s H us vs Q E ag room e0 rv want
  obtain ⟨b, F, dvs, R, ht, wd, ar, hsp, q⟩ := want
  obtain ⟨hlen, hread⟩ := hv dvs R hsp
  obtain ⟨oc, od, kV, doc, pm, an, cdv, ct, osl, rfl, lk, hcd⟩ := Fn.ex
  have hvl : vs.length = ps.length := (Paired.length ar).symm.trans hlen
  have hul : us.length = ps.length := rv.length.symm.trans hvl
  refine StX.run_bnd (N := N) (ps := ps) lk hcd S room e0 (G := fun xs H2 => xs = vs ∧ H2 = H) (fun A' Ex Q' h => ?_) fun s2 H2 xs g room2 => ?_
  · rw [hb kV doc pm an cdv ct us hul]
    exact wpAny_pure (h s H vs us e0 Un.refl rfl (fun _ _ z => z) rv hvl ⟨rfl, rfl⟩)
  · obtain ⟨rfl, rfl⟩ := g
    refine ⟨_, PSs.nox (hd cdv A outer s2 _ E ⟨b, F, _⟩ rfl ht (guards_in ag _) room2), startD N dvs, F, _, rel_start wd ar, hread, ?_⟩
    refine ⟨fun env σ F' H' r _ z => ?_, fun env σ F' H' r _ z => z, fun env σ F' H' r _ z => z, fun dv v F' H' st rs z => q dv v F' H' st rs z⟩
    exact q (.d .none) .non F' H' r.st Rp.non z
end
end Dl
namespace Dl
open PySem PySem.Spec PyProof.Rows L2
/-! ### list comprehensions -/
def lcD (g : PyData → List Sl → (List Sl → Prop) → Prop) (tt : DTT) (te : DT) (env : List Sl) : List PyData → List PyData → (DV → Prop) → Prop
  | [], acc, P => P (.fr acc)
  | x :: xs, acc, P => g x env fun e2 => tt e2 fun c => if c = true then te e2 fun dv => match frz dv with
      | .d y => acc.length < 100000 ∧ lcD g tt te env xs (acc ++ [y]) P
      | _ => False
    else lcD g tt te env xs acc P
/-- the target's names, as slots -/
def unS (env : List Sl) : List Nat → List Sl
  | [] => env
  | v :: vs => (unS env vs).set v .un
def tLcD (ti : DIt) (g : PyData → List Sl → (List Sl → Prop) → Prop) (tt : DTT) (te : DT) (vs : List Nat) : DT := fun env P => ti env fun xs => lcD g tt te (unS env vs) xs [] P
section
variable {K : PySem.W.Frag} {b : Bg} {F₀ H₀ F H F' H' : Hp} {env : List Sl} {σ : L2.St}
theorem Rel.forget (r : Rel K b F₀ H₀ env σ F H) (i : Nat) : Rel K b F₀ H₀ (env.set i .un) (σ.set i none) F H := by
  refine ⟨by rw [List.length_set, List.length_set]; exact r.len, r.st, fun j s e => ?_, own_set r.own fun a m => by cases m⟩
  rw [List.getElem?_set] at e ⊢
  by_cases h : i = j
  · rw [if_pos h] at e
    split at e
    · cases e; exact True.intro
    · cases e
  · rw [if_neg h] at e ⊢
    exact r.at' j s e
theorem Rel.forgets : ∀ (vs : List Nat) {env : List Sl} {σ : L2.St}, Rel K b F₀ H₀ env σ F H → Rel K b F₀ H₀ (unS env vs) (wipe σ vs) F H
  | [], _, _, r => r
  | v :: vs, _, _, r => (Rel.forgets vs r).forget v
end
/-- what the target does, and that it touches its own names alone -/
structure Tgt (K : PySem.W.Frag) (vs : List Nat) (g : PyData → List Sl → (List Sl → Prop) → Prop) (t : TG) : Prop where
  run : ∀ (b : Bg) (F₀ H₀ : Hp) (env : List Sl) (σ : L2.St) (F H : Hp) (v : V) (x : PyData) (k : List Sl → Prop) (Q : L2.St → Hp → Prop), Rel K b F₀ H₀ (unS env vs) (wipe σ vs) F H → Rp K F v x → g x (unS env vs) k →
    (∀ env' σ', Rel K b F₀ H₀ env' σ' F H → wipe σ' vs = wipe σ vs → k env' → Q σ' H) → t v (wipe σ vs) H Q
theorem set_set_none (σ : L2.St) (i : Nat) (a : Option V) : (σ.set i a).set i none = σ.set i none := by rw [List.set_set]
theorem tgt1 {K : PySem.W.Frag} (i : Nat) : Tgt K [i] (gnD i) (gName i) :=
  ⟨fun b F₀ H₀ env σ F H v x k Q r rx h q => q _ _ (r.put i (z := .d x) ⟨v, rfl, rx⟩ (fun a m => by cases m)) (by show ((σ.set i none).set i (some v)).set i none = σ.set i none; rw [List.set_set, List.set_set]) h⟩
theorem tgt2 {K : PySem.W.Frag} (i j : Nat) (hij : i ≠ j) : Tgt K [i, j] (gtD 2 (gconsD (gnD i) (gconsD (gnD j) gnilD))) (gTup K 2 (gCons (gName i) (gCons (gName j) gNil))) :=
  ⟨fun b F₀ H₀ env σ F H v x k Q r rx h q => by
    cases x with
    | tuple xs =>
      obtain ⟨hl, h⟩ := h
      match xs, hl, h with
      | [x, y], _, h =>
        cases rx with
        | tup e1 r1 =>
          cases r1 with
          | cons a1 t =>
            cases t with
            | cons a2 t =>
              cases t
              obtain ⟨_, h⟩ := h
              refine ⟨_, _, rfl, sqt_up r.st.sub e1, rfl, _, _, rfl, _, _, rfl, rfl, q _ _ ((r.put i (z := .d x) ⟨_, rfl, a1⟩ ?_).put j (z := .d y) ⟨_, rfl, a2⟩ ?_) ?_ h⟩
              · intro a m; cases m
              · intro a m; cases m
              · show ((((((σ.set j none).set i none).set i _).set j _).set j none).set i none) = (σ.set j none).set i none
                rw [List.set_set, List.set_set, List.set_comm _ _ hij, List.set_set, List.set_set]
    | _ => exact h.elim⟩
section
variable {X : Cx} {w : Wn}
theorem pts_nilD : PTs X [] (lfT X.K w fun _ P => P true) := ⟨fun pins s σ H Q I ⟨env, F, P, r, h, q⟩ => pts_nil.run pins s σ H Q I (q true F H r.wd.refl h)⟩
theorem pts_oneD {c : Expr} {tt : DTT} (h : DPT X w c tt) : PTs X [c] (lfT X.K w tt) := pts_one h
theorem lc_go {ti : DIt} {g : PyData → List Sl → (List Sl → Prop) → Prop} {t : TG} {tt : DTT} {te : DT} {vs : List Nat} (tg' : Tgt X.K vs g t) {σ : L2.St} {H : Hp} {Q : VK} (h : lf X.K w (tLcD ti g tt te vs) σ H Q) : tLc (lfI X.K w ti) t (lfT X.K w tt) (lf X.K w te) vs σ H Q := by
  obtain ⟨env, F, P, r, h, q⟩ := h
  exact ⟨env, F, _, r, h, fun xs J F1 H1 s1 wl h1 D hD => by
    obtain ⟨G, Y, wk, hG, hY⟩ := wl.ex
    obtain ⟨us, eb⟩ := s1.bag.lst
    have Db : D ≠ w.b.b := fun e => by rw [e, eb] at hD; cases hD
    have F1D : F1 D = none := by
      cases e : F1 D with
      | none => rfl
      | some o => rw [s1.sub _ _ e] at hD; cases hD
    have r1 := (r.step s1).forgets vs
    refine lc_it wk (fun i H2 => ∃ F2 acc us, Stp X.K w.b F1 H1 F2 H2 ∧ H2 D = some (.lst us) ∧ RpA X.K F2 us acc ∧ F2 D = none ∧ lcD g tt te (unS env vs) (xs.drop i) acc P) ⟨F1, [], [], s1.wd.laidM hD, upd_same, .nil, F1D, h1⟩ (fun i H2 _ ⟨F2, acc, us, st, _⟩ => hG F2 H2 st.ex st.wd) (fun i v H2 H3 hi ⟨F2, acc, us, st, eD, ra, fD, hl⟩ y => ?_) fun H2 ⟨F2, acc, us, st, eD, ra, fD, hl⟩ => ?_
    · obtain ⟨F3, x, s3, ex, rx⟩ := hY i F2 H2 v H3 st.ex st.wd y
      have e1 : xs.drop i = x :: xs.drop (i + 1) := by
        obtain ⟨hl, ex⟩ := List.getElem?_eq_some_iff.mp ex
        rw [List.drop_eq_getElem_cons hl, ex]
      rw [e1] at hl
      have st3 := st.trans s3
      have eD3 := s3.keep D (.lst us) Db (by intro _ z; cases z) eD
      have fD3 : F3 D = none := s3.new D fD (by rw [eD]; exact fun z => nomatch z)
      refine tg'.run w.b w.F w.H env σ F3 H3 v x _ _ (r1.step st3) rx hl fun env' σ' r' wi hl => ⟨wi, env', F3, _, r', hl, fun c F4 H4 s4 h4 => ?_⟩
      have eD4 := s4.keep D (.lst us) Db (by intro _ z; cases z) eD3
      have fD4 : F4 D = none := s4.new D fD3 (by rw [eD3]; exact fun z => nomatch z)
      cases c with
      | false => exact ⟨F4, acc, us, st3.trans s4, eD4, (ra.up s3.ex).up s4.ex, fD4, h4⟩
      | true =>
        refine ⟨env', F4, _, r'.step s4, h4, fun dv v5 F5 H5 s5 r5 h5 => ?_⟩
        obtain ⟨F6, s6, a6⟩ := frz_ok s5 r5
        split at h5
        · next y ey =>
          rw [ey] at a6
          have eD6 := s6.keep D (.lst us) Db (by intro _ z; cases z) eD4
          have fD6 : F6 D = none := s6.new D fD4 (by rw [eD4]; exact fun z => nomatch z)
          have ra6 := ((ra.up s3.ex).up s4.ex).up s6.ex
          have st6 := (st3.trans s4).trans s6
          refine ⟨us, eD6, by rw [ra6.len]; exact lim_lt h5.1, F6, acc ++ [y], us ++ [v5], ⟨fun a o ne nt ha => ?_, st6.bag.up (fun _ _ h => h) (upd_ne (Ne.symm Db)) (fun t _ h1 h2 => ⟨h1, by obtain ⟨ps, z, k⟩ := h2; exact ⟨ps, by rw [upd_ne (fun e => by rw [e, eD6] at z; cases z)]; exact z, k⟩⟩), st6.ex, fun a o ha => ?_, st6.fb, st6.new, fun a ps ne ha => by
            obtain ⟨qs, h1, k⟩ := st6.tab a ps ne ha
            exact ⟨qs, by rw [upd_ne (ne_of_none ha hD)]; exact h1, k⟩⟩, upd_same, ra6.app (.cons a6 .nil), fD6, h5.2⟩
          · rw [upd_ne (ne_of_none ha hD)]
            exact st6.keep a o ne nt ha
          · rw [upd_ne (ne_of_none ha fD6)]
            exact st6.sub a o ha
        · exact h5.elim
    · rw [List.drop_length] at hl
      exact q (.fr acc) _ F2 H2 (s1.trans st) ⟨D, us, rfl, s1.back Db hD, fD, Db, eD, ra⟩ hl⟩
theorem d_lc {elt tg iter : Expr} {ifs : List Expr} {scope : Scope} {own : List (Str × Nat)} {pos : Pos} {ti : DIt} {g : PyData → List Sl → (List Sl → Prop) → Prop} {t : TG} {tt : DTT} {te : DT} (hc : X.calm = true) (hN : X.N.Nodup) (hi : PI X tg iter (lfI X.K w ti)) (ok : BlkOk X.N X.env.scope scope own)
    (tg' : Tgt X.K (own.map (·.2)) g t)
    (hg : ∀ (s : Shared) (H : Hp) (C : Addr) (cl : List (Str × Addr)) (fp : List Addr), PG (X.blk s H scope (compEnvC scope cl C X.env) fp) tg t) (ht : ∀ (s : Shared) (H : Hp) (C : Addr) (cl : List (Str × Addr)) (fp : List Addr), PTs (X.blk s H scope (compEnvC scope cl C X.env) fp) ifs (lfT X.K w tt))
    (he : ∀ (s : Shared) (H : Hp) (C : Addr) (cl : List (Str × Addr)) (fp : List Addr), PE (X.blk s H scope (compEnvC scope cl C X.env) fp) elt (lf X.K w te)) (hs : ∀ x, foldedSetIterable iter X.env x = pure x := by intro _; rfl) :
    DPE X w (.ListComp elt [⟨tg, iter, ifs, 0⟩] scope pos) (tLcD ti g tt te (own.map (·.2))) :=
  pe_weak (pe_lc hc hN hi ok hg ht he hs) fun _ _ _ h => lc_go tg' h
/-- name = [..] -/
theorem ds_setLc {i : Nat} {e : Expr} {tg : Expr} {pos : Pos} {ti : DIt} {g : PyData → List Sl → (List Sl → Prop) → Prop} {t : TG} {tt : DTT} {te : DT} {vs : List Nat} (tg' : Tgt X.K vs g t)
    (base : PS X (.Assign [tg] e pos) (tAsg (tLc (lfI X.K w ti) t (lfT X.K w tt) (lf X.K w te) vs) (gName i))) : DPS X w (.Assign [tg] e pos) (tSetD i (tLcD ti g tt te vs)) :=
  ps_weak base fun D σ H ⟨env, F, d, r, h, fit⟩ => lc_go tg' ⟨env, F, _, r, h, fun dv v F1 H1 s1 r1 h1 => by
    obtain ⟨env', r2, k⟩ := st_ok r s1 r1 h1
    exact fit.nx env' _ F1 H1 r2 s1.ex k⟩
end
end Dl
namespace Dl
open PySem PySem.Spec PyProof.Rows L2
/-! ### a law's end: from the promise of its def -/
/-- cs: the codes of some defs, each with its table, still empty at the entry and no part of K -/
structure Tabs (K : PySem.W.Frag) (h : Heap) (cs : List (Addr × Addr)) : Prop where
  emp : ∀ p ∈ cs, h.get? p.2 = some (PySem.W.tabObj #[])
  head : ∀ p ∈ cs, PySem.W.CodeHd h p.1 p.2
  out : ∀ p ∈ cs, K.lookup p.2 = none
theorem tbl_ne_dict {es : Array DictEntry} {ep : Nat} {o : Obj} (h : o.data = .dict es ep) : o ≠ PySem.W.tabObj #[] := fun z => by rw [z] at h; cases h
theorem opening {P : Program} {w : World} {K : PySem.W.Frag} {mg mb : Str → Option Value} {a : Addr} {st : Shared} {vs : List Value} {ns : List Int} {cs : List (Addr × Addr)}
    (kin : K.In st.heap) (n1 : st.heap.Ns mainGlobals mg) (n2 : st.heap.Ns builtinsNs mb) (n3 : ∀ y : Str, y ≠ "__name__" → mb y = bootBuiltins y) (n4 : st.heap.NoLimit) (n5 : st.gens = #[])
    (hs : st.heap.get? a = some { cls := .type "list", data := .seq vs.toArray }) (iv : IntsAre vs ns) (sz : ns.length ≤ sizeLine)
    (T : Tabs K st.heap cs) (hbm : ∃ (bm : Addr) (ob : Obj), mg "__builtins__" = some (.ref bm) ∧ bm ≠ builtinsNs ∧ st.heap.get? bm = some ob ∧ ob.cls = .type "module" ∧ ob.dict = some builtinsNs ∧ ob.data = .plain) :
    ∃ (H : Hp) (base : Heap), SqL K H a (ns.map V.int) ∧ (∀ p ∈ cs, H p.2 = some (.tbl #[])) ∧ Env0 P w K mg base callerA [] st H ∧ K.In base ∧ base.Ns mainGlobals mg ∧ (∀ p ∈ cs, GxR.TabB base mg p.1 p.2) ∧
      ∀ (H' : Hp) (g : Heap), Un (frs []) [] H H' st.heap g → HOk P w H' g → OldK st.heap g := by
  have rel := vals_ints iv
  have cnt := iv.length
  -- tables aside, the script alone is tracked, if it is no object of the module
  have main : ∀ H : Hp, (∀ p ∈ cs, H p.2 = some (.tbl #[])) → SqL K H a (ns.map V.int) → HOk P w H st.heap → (∀ c u, H c = some u → (c = a ∧ K.lookup a = none ∧ ∃ ob xs, u = .frz ob (.lst xs)) ∨ (u = .tbl #[] ∧ ∃ p ∈ cs, p.2 = c)) →
      ∃ (H : Hp) (base : Heap), SqL K H a (ns.map V.int) ∧ (∀ p ∈ cs, H p.2 = some (.tbl #[])) ∧ Env0 P w K mg base callerA [] st H ∧ K.In base ∧ base.Ns mainGlobals mg ∧ (∀ p ∈ cs, GxR.TabB base mg p.1 p.2) ∧
      ∀ (H' : Hp) (g : Heap), Un (frs []) [] H H' st.heap g → HOk P w H' g → OldK st.heap g := by
    intro H tabs seq ok kind
    -- what is neither a list nor a table stays in the base
    have stay : ∀ {c : Addr} {o : Obj}, st.heap.get? c = some o → o.data ≠ .seq vs.toArray → o ≠ PySem.W.tabObj #[] → (hidT st.heap H).get? c = some o := fun {c o} e d1 d2 => hidT_get e (by
      cases q : H c with
      | none => rfl
      | some u =>
        rcases kind c u q with ⟨rfl, _⟩ | ⟨_, p, hp, rfl⟩
        · rw [hs] at e
          cases e
          exact (d1 rfl).elim
        · rw [T.emp p hp] at e
          cases e
          exact (d2 rfl).elim)
    have out : ∀ {c : Addr} {m : Str → Option Value}, st.heap.Ns c m → (hidT st.heap H).Ns c m := by
      rintro c m ⟨o, es, ep, e, d, rest⟩
      exact ⟨o, es, ep, stay e (fun z => by rw [d] at z; cases z) (tbl_ne_dict d), d, rest⟩
    have kb : K.In (hidT st.heap H) := by
      intro c o e
      refine hidT_get (kin c o e) ?_
      cases q : H c with
      | none => rfl
      | some u =>
        rcases kind c u q with ⟨rfl, no, _⟩ | ⟨_, p, hp, rfl⟩
        · rw [no] at e
          cases e
        · rw [T.out p hp] at e
          cases e
    obtain ⟨mc, c1, c2⟩ := n4
    have md : Mod K mg (hidT st.heap H) := ⟨kb, out n1, ⟨mb, out n2, n3⟩, ⟨mc, out c1, c2⟩⟩
    have isMain : ∀ {b : Addr} {o : Obj}, st.heap.get? b = some o → (∀ es ep, o.data ≠ .dict es ep) → b ≠ mainGlobals := fun {b o} e d z => by
      obtain ⟨o2, es, ep, e2, d2, _⟩ := n1
      rw [z, e2] at e
      cases e
      exact d es ep d2
    have tb : ∀ p ∈ cs, GxR.TabB (hidT st.heap H) mg p.1 p.2 := by
      intro p hp
      obtain ⟨o, us, file, tf, flags, tg, inF, text, tt, e1, e2, e3, rest⟩ := T.head p hp
      obtain ⟨bm, ob, b1, b2, b3, b4, b5, b6⟩ := hbm
      refine ⟨⟨o, us, file, tf, flags, tg, inF, text, tt, stay e1 (fun z => by rw [e3] at z; cases z) (fun z => by rw [z] at e2; cases e2), e2, e3, rest⟩, ⟨bm, ob, b1, b2, isMain b3 (fun es ep z => by rw [b6] at z; cases z), fun z => ?_, stay b3 (fun z => by rw [b6] at z; cases z) (fun z => by rw [z] at b4; cases b4), b4, b5, b6⟩, Ne.symm (isMain (T.emp p hp) fun es ep z => by cases z)⟩
      rw [z, T.emp p hp] at b3
      cases b3
      cases b4
    refine ⟨H, hidT st.heap H, seq, tabs, ⟨rfl, md, fun c o e => of_hidT e, Nat.le_of_eq (hidT_size _ _), True.intro, (fun c hc => by cases hc), ok, .of_eq n5⟩, kb, out n1, tb, fun H' g un ok' => ?_⟩
    have where' : ∀ c o, st.heap.get? c = some o → g.get? c = some o ∨ ∃ p ∈ cs, p.2 = c ∧ ∃ more : Array Value, g.get? c = some (PySem.W.tabObj more) := fun c o e => by
      cases q : H c with
      | none => exact .inl (un.keep c o e q (by intro z; cases z) (by intro z; cases z))
      | some u =>
        rcases kind c u q with ⟨rfl, _, ob, xs, rfl⟩ | ⟨rfl, p, hp, rfl⟩
        · obtain ⟨e1, _⟩ := ok _ _ q
          obtain ⟨e2, _⟩ := ok' _ _ (un.frzs _ ob _ q)
          rw [e] at e1
          cases e1
          exact .inl e2
        · obtain ⟨more, z⟩ := un.tbls p.2 #[] q
          exact .inr ⟨p, hp, rfl, _, ok' _ _ z⟩
    constructor
    · intro c o e
      rcases where' c o e with z | ⟨p, hp, rfl, more, z⟩
      · exact .inl z
      · rw [T.emp p hp] at e
        cases e
        exact .inr (.inl ⟨((T.head p hp).tab (T.emp p hp)).isCodeTable, rfl, #[], more, rfl, by rw [Array.empty_append]; exact z⟩)
    · intro c o e
      rcases where' c o e with z | ⟨_, _, _, _, z⟩
      · exact ⟨_, z⟩
      · exact ⟨_, z⟩
  have noA : ∀ p ∈ cs, p.2 ≠ a := fun p hp e => by
    have z := T.emp p hp
    rw [e, hs] at z
    have z2 : Data.seq vs.toArray _ = Data.fields #[] := congrArg Obj.data (Option.some.inj z)
    cases z2
  let H0 : Hp := fun c => if c ∈ cs.map Prod.snd then some (.tbl #[]) else none
  have h0 : ∀ p ∈ cs, H0 p.2 = some (.tbl #[]) := fun p hp => if_pos (List.mem_map_of_mem hp)
  have h1 : ∀ c u, H0 c = some u → u = .tbl #[] ∧ ∃ p ∈ cs, p.2 = c := fun c u z => by
    by_cases m : c ∈ cs.map Prod.snd
    · have e : H0 c = some (.tbl #[]) := if_pos m
      rw [e] at z
      exact ⟨(Option.some.inj z).symm, List.mem_map.mp m⟩
    · have e : H0 c = none := if_neg m
      rw [e] at z
      cases z
  have ok0 : ∀ c u, H0 c = some u → ObjOk P w H0 st.heap c u := fun c u z => by
    obtain ⟨rfl, p, hp, rfl⟩ := h1 c u z
    exact T.emp p hp
  cases look : K.lookup a with
  | some o =>
    have e := kin a o look
    rw [hs] at e
    cases e
    refine main H0 h0 (.inr ⟨_, vs.toArray, _, look, rfl, rfl, rfl, ?_, ?_⟩) ok0 fun c u z => .inr (h1 c u z)
    · rw [List.size_toArray, cnt]; exact sz
    · simpa using rel
  | none =>
    have at_a : upd H0 a (.frz { cls := .type "list", data := .seq vs.toArray } (.lst (ns.map V.int))) a = some (.frz { cls := .type "list", data := .seq vs.toArray } (.lst (ns.map V.int))) := upd_same
    refine main (upd H0 a (.frz { cls := .type "list", data := .seq vs.toArray } (.lst (ns.map V.int)))) (fun p hp => by rw [upd_ne (noA p hp)]; exact h0 p hp) (.inl (.inr ⟨_, at_a⟩)) (fun c u z => ?_) fun c u z => ?_
    · by_cases hc : c = a
      · rw [hc, upd_same] at z
        rw [hc]
        cases z
        exact ⟨hs, by rw [List.length_map]; exact sz, vs, _, rel, hs⟩
      · rw [upd_ne hc] at z
        obtain ⟨rfl, p, hp, rfl⟩ := h1 c u z
        exact T.emp p hp
    · by_cases hc : c = a
      · rw [hc, upd_same] at z
        cases z
        exact .inl ⟨hc, look, _, _, rfl⟩
      · rw [upd_ne hc] at z
        exact .inr (h1 c u z)
theorem law_end {l : PySem.W.OpenLaw} {k : Nat} {q : Program} {loose : List Str} {XP : (Str → Option Value) → Heap → Prop} {YP : World → Heap → Prop} {d : DefRec} {K : Params → PySem.W.Frag} {sp : PySem.W.Frag → List Addr → Sp}
    (hn : l.most = some 63) (hdf : d.params.defaults = []) (room : Room k callerA) (ag : callerA.guards = some []) (hY : ∀ (w : World) (h : Heap), YP w h → (K w.params).In h)
    (F : ∀ (w : World) (mg mb : Str → Option Value) (lo : List Str) (mean : ExcName → Option Value) (fa : Addr) (h : Heap), (K w.params).In h → PyProof.Rows.Top q lo mean mg mb h → mg d.name = some (.ref fa) →
      ∃ cs : List (Addr × Addr), Tabs (K w.params) h cs ∧ ∀ base : Heap, (K w.params).In base → base.Ns mainGlobals mg → (∀ p ∈ cs, GxR.TabB base mg p.1 p.2) → Fg l.prog w (K w.params) mg base (L2.CX l.prog w) k fa (sp (K w.params) (cs.map Prod.snd)))
    (hsp : ∀ (K : PySem.W.Frag) (H : Hp) (a : Addr) (ns : List Int) (ts : List Addr), ns.length ≤ 63 → (∀ t ∈ ts, GxR.TabG H t) → SqL K H a (ns.map V.int) → sp K ts [.ref a] H (fun v _ => v = .bl true) E0) :
    PySem.W.WalkO q loose XP YP l.row.toRowW d [] (fun f vs => PySem.call f vs) := by
  refine Att.attach_callB hn hdf fun w s0 st mg mb fa o pm cd doc a vs ns G Y ho hd hcd hmg hobj hints hlen hbits hg => ?_
  have kin := hY w _ Y
  obtain ⟨cs, T, fg⟩ := F w mg mb _ _ fa _ kin G.T hmg
  obtain ⟨H, base, seq, tabs, e0, kb, nb, tb, old⟩ := opening (P := l.prog) (w := w) kin G.T.g G.T.b G.T.builtins G.T.nolimit hg hobj hints (Nat.le_trans hlen (by decide)) T G.T.bmain
  have tg : ∀ t ∈ cs.map Prod.snd, GxR.TabG H t := fun t ht => by
    obtain ⟨p, hp, rfl⟩ := List.mem_map.mp ht
    exact ⟨#[], tabs p hp, by simp [TriplesOk]⟩
  refine codeAny_mono (fg base kb nb tb callerA [] st H [.ref a] [.ref a] _ _ ag room e0 (.cons rfl .nil) (hsp _ H a ns _ hlen tg seq)) fun r s2 got => ?_
  match r, got with
  | .error e, got =>
    obtain ⟨_, _, _, _, _, _, _, _, _, _, _, _, z⟩ := got
    exact z.elim
  | .ok (.ret u), got =>
    obtain ⟨v, H', os, bare, un, ok', rv, e⟩ := got
    subst e
    obtain rfl : u = Value.bool true := rv
    exact ⟨rfl, old H' _ un ok', os, bare⟩
end Dl
namespace Dl
open PySem PySem.Spec PyProof.Rows L2
/-! ### and, or, not as values; is None; chains; slices; constants that are tuples -/
section
variable {X : Cx} {w : Wn} {a b c e : Expr} {ta tb tc te : DT} {pos : Pos} {rest : List Expr}
theorem passZ {P : Program} {wd : World} : Passes (L2.CX P wd) X E0 := fun _ _ _ _ _ _ _ h => by
  obtain ⟨_, _, _, _, _, _, _, _, _, _, _, _, z⟩ := h
  exact z.elim
def tAnV (ta tb : DT) : DT := fun env P => ta env fun u => rd u fun x => truOk x ∧ if truD x = true then tb env P else P u
def tOrV' (ta tb : DT) : DT := fun env P => ta env fun u => rd u fun x => truOk x ∧ if truD x = true then P u else tb env P
theorem d_and (ha : DPE X w a ta) (hb : DPE X w (.BoolOp .And (b :: rest) pos) tb) : DPE X w (.BoolOp .And (a :: b :: rest) pos) (tAnV ta tb) :=
  pe_weak (pe_andT ha hb) fun σ H Q ⟨env, F, P, r, h, q⟩ => ⟨env, F, _, r, h, fun dv v F1 H1 s1 r1 h1 => by
    obtain ⟨x, x1, ok, h1⟩ := rd_ok r1 h1
    refine ⟨truD x, tru_of s1.sub x1 ok, ?_⟩
    cases hx : truD x with
    | true =>
      rw [hx] at h1
      exact lf_early s1 r h1 q
    | false =>
      rw [hx] at h1
      exact q dv v F1 H1 s1 r1 h1⟩
theorem d_or (ha : DPE X w a ta) (hb : DPE X w (.BoolOp .Or (b :: rest) pos) tb) : DPE X w (.BoolOp .Or (a :: b :: rest) pos) (tOrV' ta tb) :=
  pe_weak (pe_orT ha hb) fun σ H Q ⟨env, F, P, r, h, q⟩ => ⟨env, F, _, r, h, fun dv v F1 H1 s1 r1 h1 => by
    obtain ⟨x, x1, ok, h1⟩ := rd_ok r1 h1
    refine ⟨truD x, tru_of s1.sub x1 ok, ?_⟩
    cases hx : truD x with
    | true =>
      rw [hx] at h1
      exact q dv v F1 H1 s1 r1 h1
    | false =>
      rw [hx] at h1
      exact lf_early s1 r h1 q⟩
def tNoV (ta : DT) : DT := fun env P => ta env fun u => rd u fun x => truOk x ∧ P (.d (.bool (!truD x)))
theorem d_not (ha : DPE X w a ta) : DPE X w (.UnaryOp .Not a pos) (tNoV ta) :=
  pe_weak (pe_notT ha) fun σ H Q ⟨env, F, P, r, h, q⟩ => ⟨env, F, _, r, h, fun dv v F1 H1 s1 r1 h1 => by
    obtain ⟨x, x1, ok, h1⟩ := rd_ok r1 h1
    exact ⟨truD x, tru_of s1.sub x1 ok, q (.d (.bool _)) _ F1 H1 s1 (.bl _) h1⟩⟩
/-! is None -/
def nonB : DV → (Bool → Prop) → Prop
  | .d .none, k => k true
  | .d _, k => k false
  | .fr _, k => k false
  | .ow _ _, k => k false
  | .raw _, _ => False
  | .ft _, _ => False
  | .tr _ _ _, _ => False
  | .bag, k => k false
theorem nonB_ok {K : PySem.W.Frag} {b : Bg} {Hz F H : Hp} {v : V} {dv : DV} {k : Bool → Prop} (r : Res K b Hz F H dv v) (h : nonB dv k) : k (decide (v = .non)) := by
  cases dv with
  | d x =>
    have r' : Rp K F v x := r
    cases x with
    | none => cases r'; exact h
    | bool y => cases r'; rw [decide_eq_false (fun z => by cases z)]; exact h
    | int y => cases r'; rw [decide_eq_false (fun z => by cases z)]; exact h
    | str y => cases r'; rw [decide_eq_false (fun z => by cases z)]; exact h
    | list y => cases r'; rw [decide_eq_false (fun z => by cases z)]; exact h
    | tuple y => cases r'; rw [decide_eq_false (fun z => by cases z)]; exact h
    | dict y =>
      have hn : v ≠ .non := fun z => by
        subst z
        generalize e : PyData.dict y = q at r'
        cases r'
        cases e
      rw [decide_eq_false hn]; exact h
  | fr xs => obtain ⟨p, vs, rfl, _⟩ := r; rw [decide_eq_false (fun z => by cases z)]; exact h
  | ow l xs => obtain ⟨rfl, _⟩ := r; rw [decide_eq_false (fun z => by cases z)]; exact h
  | raw u => exact h.elim
  | ft x => exact h.elim
  | tr p S x => exact h.elim
  | bag => cases (show v = V.ref b.b from r); rw [decide_eq_false (fun z => by cases z)]; exact h
def tIsNV (f : Bool → Bool) (ta : DT) : DT := fun env P => ta env fun u => nonB u fun c => P (.d (.bool (f c)))
theorem d_isN {j pos'} (ha : DPE X w a ta) : DPE X w (.Compare a [.Is] [.Constant .none j pos'] pos) (tIsNV id ta) :=
  pe_weak (pe_cmp (pc_isN ha) rfl) fun σ H Q ⟨env, F, P, r, h, q⟩ => ⟨env, F, _, r, h, fun dv v F1 H1 s1 r1 h1 => q (.d (.bool _)) _ F1 H1 s1 (.bl _) (nonB_ok r1 h1)⟩
theorem d_isNN {j pos'} (ha : DPE X w a ta) : DPE X w (.Compare a [.IsNot] [.Constant .none j pos'] pos) (tIsNV not ta) :=
  pe_weak (pe_cmp (pc_notN ha) rfl) fun σ H Q ⟨env, F, P, r, h, q⟩ => ⟨env, F, _, r, h, fun dv v F1 H1 s1 r1 h1 => q (.d (.bool _)) _ F1 H1 s1 (.bl _) (nonB_ok r1 h1)⟩
theorem dt_isN {j pos'} (ha : DPE X w a ta) : DPT X w (.Compare a [.Is] [.Constant .none j pos'] pos) (tTst (tIsNV id ta)) :=
  pt_weak (pt_cmp (pc_isN ha) rfl) fun σ H Q ⟨env, F, P, r, h, q⟩ => ⟨env, F, _, r, h, fun dv v F1 H1 s1 r1 h1 => ⟨_, rfl, q _ F1 H1 s1 (nonB_ok r1 h1)⟩⟩
theorem dt_isNN {j pos'} (ha : DPE X w a ta) : DPT X w (.Compare a [.IsNot] [.Constant .none j pos'] pos) (tTst (tIsNV not ta)) :=
  pt_weak (pt_cmp (pc_notN ha) rfl) fun σ H Q ⟨env, F, P, r, h, q⟩ => ⟨env, F, _, r, h, fun dv v F1 H1 s1 r1 h1 => ⟨_, rfl, q _ F1 H1 s1 (nonB_ok r1 h1)⟩⟩
/-! chains -/
def tChD (g g' : G2) (ta tb tc : DT) : DT := fun env P => ta env fun u => rd u fun x => tb env fun z => rd z fun y => g x y fun c => isB c fun k => if k = true then tc env fun t => rd t fun y2 => g' y y2 P else P (.d (.bool false))
theorem chain_go {g g' : G2} {σ : L2.St} {H : Hp} {Q : VK} (h : lf X.K w (tChD g g' ta tb tc) σ H Q) : tChain (lR X.K w.b g) (lR X.K w.b g') (lf X.K w ta) (lf X.K w tb) (lf X.K w tc) σ H Q := by
  obtain ⟨env, F, P, r, h, q⟩ := h
  refine ⟨env, F, _, r, h, fun dv v F1 H1 s1 r1 h1 => ?_⟩
  obtain ⟨x, x1, h1⟩ := rd_ok r1 h1
  refine ⟨env, F1, _, r.step s1, h1, fun dv2 v2 F2 H2 s2 r2 h2 => ?_⟩
  obtain ⟨y, y1, h2⟩ := rd_ok r2 h2
  refine ⟨F2, x, y, _, s2.wd, x1.step s2, y1, h2, fun dv3 v3 F3 H3 s3 r3 h3 => ?_⟩
  obtain ⟨k, rfl, h3⟩ := isB_ok r3 h3
  refine ⟨k, rfl, ?_⟩
  have s13 := (s1.trans s2).trans s3
  cases k with
  | false => exact q _ _ F3 H3 s13 (res_d (.bl false)) h3
  | true =>
    refine ⟨env, F3, _, ((r.step s1).step s2).step s3, h3, fun dv4 v4 F4 H4 s4 r4 h4 => ?_⟩
    obtain ⟨y2, y3, h4⟩ := rd_ok r4 h4
    exact ⟨F4, y, y2, P, s4.wd, (y1.step s3).step s4, y3, h4, fun dv5 v5 F5 H5 s5 r5 h5 => q dv5 v5 F5 H5 ((s13.trans s4).trans s5) (r5.early (s13.trans s4)) h5⟩
theorem d_chain {op op' : CmpOp} {g g' : G2} (ho : OpR X (compareOp op) (lR X.K w.b g)) (ho' : OpR X (compareOp op') (lR X.K w.b g')) (ha : DPE X w a ta) (hb : DPE X w b tb) (hc : DPE X w c tc)
    (hm : lastMarks [op, op'] [b, c] = false := by with_unfolding_all rfl) : DPE X w (.Compare a [op, op'] [b, c] pos) (tChD g g' ta tb tc) :=
  pe_weak (pe_chain ho ho' ha hb hc hm) fun _ _ _ h => chain_go h
theorem dt_chain {op op' : CmpOp} {g g' : G2} (ho : OpR X (compareOp op) (lR X.K w.b g)) (ho' : OpR X (compareOp op') (lR X.K w.b g')) (ha : DPE X w a ta) (hb : DPE X w b tb) (hc : DPE X w c tc)
    (hm : lastMarks [op, op'] [b, c] = false := by with_unfolding_all rfl) : DPT X w (.Compare a [op, op'] [b, c] pos) (tTst (tChD g g' ta tb tc)) :=
  pt_weak (pt_chain ho ho' ha hb hc hm) fun σ H Q ⟨env, F, P, r, h, q⟩ => chain_go ⟨env, F, _, r, h, fun dv v F1 H1 s1 r1 h1 => by
    obtain ⟨k, rfl, h1⟩ := isB_ok r1 h1
    exact ⟨k, rfl, q k F1 H1 s1 h1⟩⟩
/-! slices -/
abbrev DO := List Sl → (Option Int → Prop) → Prop
def lfO (K : PySem.W.Frag) (w : Wn) (t : DO) : TO := fun σ H Q => ∃ env F P, RelW K w env σ F H ∧ t env P ∧ ∀ o F' H', Stp K w.b F H F' H' → P o → Q o H'
def oNone : DO := fun _ P => P none
def oSome (te : DT) : DO := fun env P => te env fun u => match u with
  | .d (.int i) => P (some i)
  | _ => False
theorem do_none : PO X none (lfO X.K w oNone) := ⟨fun pins s σ H Q I ⟨env, F, P, r, h, q⟩ => po_none.run pins s σ H Q I (q none F H r.wd.refl h)⟩
theorem do_some (he : DPE X w e te) : PO X (some e) (lfO X.K w (oSome te)) := ⟨fun pins s σ H Q I ⟨env, F, P, r, h, q⟩ => (po_some he).run pins s σ H Q I ⟨env, F, _, r, h, fun dv v F1 H1 s1 r1 h1 => by
  split at h1
  · next i => exact ⟨i, r1.intOf, q (some i) F1 H1 s1 h1⟩
  · exact h1.elim⟩⟩
def cutD (xs : List PyData) (lo hi : Option Int) : List PyData := (xs.drop (HT.sIx xs.length 0 lo)).take (HT.sIx xs.length xs.length hi - HT.sIx xs.length 0 lo)
theorem cut_rp {K : PySem.W.Frag} {F : Hp} {vs : List V} {xs : List PyData} (r : RpA K F vs xs) (lo hi : Option Int) : RpA K F (cutV vs lo hi) (cutD xs lo hi) := by
  unfold cutV cutD
  rw [r.len]
  exact (r.drop _).take _
def tSlL (te : DT) (lo hi : DO) : DT := fun env P => te env fun u => rd u fun x => lo env fun l => hi env fun h => match x with
  | .list xs => P (.fr (cutD xs l h))
  | _ => False
theorem d_slL {lo hi : Option Expr} {tl th : DO} {p2 : Pos} (he : DPE X w e te) (hl : PO X lo (lfO X.K w tl)) (hh : PO X hi (lfO X.K w th)) : DPE X w (.Subscript e (.Slice lo hi none p2) pos) (tSlL te tl th) :=
  pe_weak (pe_slice sl_list he hl hh) fun σ H Q ⟨env, F, P, r, h, q⟩ => ⟨env, F, _, r, h, fun dv v F1 H1 s1 r1 h1 => by
    obtain ⟨x, x1, h1⟩ := rd_ok r1 h1
    refine ⟨env, F1, _, r.step s1, h1, fun l F2 H2 s2 h2 => ⟨env, F2, _, (r.step s1).step s2, h2, fun u F3 H3 s3 h3 => ?_⟩⟩
    have s13 := (s1.trans s2).trans s3
    split at h3
    · next xs =>
      obtain ⟨m, vs, rfl, e, ra⟩ := ((x1.step s2).step s3).lst s3.sub
      exact ⟨m, vs, rfl, SqL.of e, res_new s3.wd (cut_rp ra l u) (fun dv v F4 H4 s4 r4 h4 => q dv v F4 H4 (s13.trans s4) (r4.early s13) h4) h3⟩
    · exact h3.elim⟩
end
/-! ### enumerate of a tuple -/
section
set_option maxHeartbeats 1000000 in
theorem enum_made {v : Value} {o : Obj} {Hd : Heap → Prop} (B : PySem.Begins v o Hd) :
    Meets (Builtin.«enumerate.__new__» { pos := [.type "enumerate", v], kw := [] }) (fun _ R st => Hd st.heap ∧
      R (.ok (.ret (.ref (st.heap.push o).objs.size))) { st with heap := (st.heap.push o).push { cls := .type "enumerate", data := .fields #[.none, .bool false, .ref st.heap.objs.size, rawInt 0, .none, .none] } }) :=
  .of_wp fun prog w A R st want => by
    obtain ⟨hp, gs, dr, tk, os⟩ := st
    obtain ⟨h1, want⟩ := want
    have sub := sub_enumerate
    have it : ∀ {A' : Around} {E Q : Value → Shared → Prop}, Q (.ref hp.objs.size) ⟨hp.push o, gs, dr, tk, os⟩ → wpAny (model prog w) A' (pyIter v) Q E ⟨hp, gs, dr, tk, os⟩ :=
      fun q => B.iter prog w _ _ ⟨hp, gs, dr, tk, os⟩ _ h1 q
    wp_walk using it
    refine wpAny_stack_any fun sk => wpAny_pure ?_
    split
    · rename_i c _ _ _ _ _
      cases (c == Value.type "enumerate") <;> (wp_walk using it; exact ⟨_, rfl, want⟩)
    · wp_walk using it
      exact ⟨_, rfl, want⟩
variable {prog : Program} {w : World} {A : Around} {E : Value → Shared → Prop} {s : Shared}
theorem enum_call {v : Value} {o : Obj} {Hd : Heap → Prop} {Q : Value → Shared → Prop} (B : PySem.Begins v o Hd) (h1 : Hd s.heap)
    (want : ∀ h', IsEnum h' (s.heap.objs.size + 1) s.heap.objs.size 0 .none → h'.get? s.heap.objs.size = some o → (∀ c u, s.heap.get? c = some u → h'.get? c = some u) → Q (.ref (s.heap.objs.size + 1)) { s with heap := h' }) :
    wpAny (model prog w) A (call (.type "enumerate") [v]) Q E s := by
  refine callType_new F.called_enumerate (by decide) (F.typeCall_enumerate_1 _) (F.newCall_enumerate_1 _) (fun obj => F.args_object_init_2 obj _) F.entry_enumerate_new (enum_made B) ⟨h1, ?_⟩
  have hz : (s.heap.push o).objs.size = s.heap.objs.size + 1 := Heap.size_push ..
  show _ ∧ _
  rw [hz]
  have he : IsEnum ((s.heap.push o).push { cls := .type "enumerate", data := .fields #[.none, .bool false, .ref s.heap.objs.size, rawInt 0, .none, .none] }) (s.heap.objs.size + 1) s.heap.objs.size 0 .none := by
    have z := Heap.get?_push_size (s.heap.push o) (o := { cls := .type "enumerate", data := .fields #[.none, .bool false, .ref s.heap.objs.size, rawInt 0, .none, .none] }) rfl
    rw [hz] at z
    exact z
  exact ⟨⟨_, he, rfl⟩, want _ he (Heap.get?_push_of_some _ (Heap.get?_push_size _ B.free)) fun c u x => Heap.get?_push_of_some _ (Heap.get?_push_of_some _ x)⟩
end
/-- the tuple at a, each item in a new pair -/
def IteT (K : PySem.W.Frag) (a : Addr) : It :=
  { go := fun i H => ∃ (xs : List V) (x : V), SqT K H a xs ∧ xs[i]? = some x
    yld := fun i H v H' => ∃ T x, v = .ref T ∧ H T = none ∧ H' = upd H T (.tup [.int (i : Nat), x]) ∧ ∀ xs, SqT K H a xs → xs[i]? = some x
    stop := fun i H => ∃ xs : List V, SqT K H a xs ∧ xs.length = i }
theorem enumT_turn {P : Program} {w : World} {K : PySem.W.Frag} {elts : List Expr} {kk : Nat} {tpos : Pos} (a e it : Addr) :
    Turn P w K (.Tuple elts kk tpos) (IteT K a) [e, it] e (fun i h => (∃ old, IsEnum h e it ((i : Nat) : Int) old) ∧ h.IsTupleIter it a i ∧ e ≠ it ∧ a ≠ it ∧ a ≠ e) where
  mem := by simp
  obj := fun i h st c hc => by
    obtain ⟨⟨old, he⟩, ⟨o, ho, _, hd⟩, _⟩ := st
    rcases (show c = e ∨ c = it by simpa using hc) with rfl | rfl
    · exact ⟨_, he, fun v q => nomatch q⟩
    · exact ⟨o, ho, fun v q => by rw [hd] at q; cases q⟩
  keep := fun i h h' st k => by
    obtain ⟨⟨old, he⟩, hi, r⟩ := st
    exact ⟨⟨old, k e (by simp) _ he⟩, hi.at fun o q => k it (by simp) o q, r⟩
  item := by
    intro X hP hw hK hc i pins s σ H E I hf st hg
    subst hP hw hK
    obtain ⟨⟨old, he⟩, hit, hne, nai, nae⟩ := st
    obtain ⟨xs, x, hq, hx⟩ := hg
    obtain ⟨its, rv, tp, hz⟩ := I.tuple hq
    obtain ⟨u, hu, ru⟩ := rv.get hx
    have hel : e < s.heap.objs.size := Heap.lt_size he
    have hil : it < s.heap.objs.size := by obtain ⟨_, q, _⟩ := hit; exact Heap.lt_size q
    have D := Draws.tuple (prog := X.prog) (w := X.w) (A := X.A.in1) (I.ok.hd hc) it a nai its.toArray
    have hlt : i < its.toArray.size := by
      obtain ⟨hl, _⟩ := List.getElem?_eq_some_iff.mp hu
      simpa using hl
    refine wpAny_pyNext_enum_itemD D he ⟨hit, tp⟩ hlt hne (by simpa [hne] using nae.symm) fun z h' tk hz2 ho hst hT hsz hk => ?_
    have ez : z = u := by
      have q : its.toArray[i]? = some z := hz2
      rw [List.getElem?_toArray, hu] at q
      exact (Option.some.inj q).symm
    subst ez
    refine ⟨_, rfl, wpAny_letOwnedTupleGo_enum (s := { s with heap := h', toks := tk + 1 }) ho fun h2 he2 sb => ?_⟩
    have hT2 : h2.get? s.heap.objs.size = some { cls := .type "tuple", data := .seq #[.int i tk, z] } := (sb.2 _ (Nat.ne_of_gt hel)).trans hT
    have new : ObjOk X.prog X.w (upd H s.heap.objs.size (.tup [.int (i : Nat), x])) h2 s.heap.objs.size (.tup [.int (i : Nat), x]) :=
      ⟨by show 2 ≤ sizeLine; decide, [.int i tk, z], .cons ⟨_, rfl⟩ (.cons ru .nil), ⟨_, hT2, rfl, _, rfl⟩⟩
    have J : L2.Inv X pins σ (upd H s.heap.objs.size (.tup [.int (i : Nat), x])) { s with heap := h2, toks := tk + 1 } :=
      I.turnedNew (ch := [e, it]) (fun c ob hc2 q => (sb.2 c (fun z => hc2 (by simp [z]))).trans (hk c ob (fun z => hc2 (by simp [z])) (fun z => hc2 (by simp [z])) q)) hf (Nat.le_refl _) new
    refine ⟨.ref s.heap.objs.size, _, J, rfl, ⟨_, x, rfl, I.hok.fresh (Nat.le_refl _), rfl, fun ys hy => by rw [I.tuple_inj hy hq]; exact hx⟩, ⟨⟨z, ?_⟩, hst.1.at fun o q => (sb.2 it (Ne.symm hne)).trans q, hne, nai, nae⟩, fun c hc2 => ?_⟩
    · rw [show ((i + 1 : Nat) : Int) = (i : Int) + 1 by omega]
      exact he2
    · have lt : c < s.heap.objs.size := by
        rcases (show c = e ∨ c = it by simpa using hc2) with rfl | rfl
        · exact hel
        · exact hil
      rw [upd_ne (Nat.ne_of_lt lt)]
      exact (hf c hc2).1
  done := by
    intro X hP hw hK hc i pins s σ H E I hf st hg
    subst hP hw hK
    obtain ⟨⟨old, he⟩, hit, hne, nai, nae⟩ := st
    obtain ⟨xs, hq, hx⟩ := hg
    obtain ⟨its, rv, tp, hz⟩ := I.tuple hq
    obtain ⟨f0, f1, f2, f3, f4, f5⟩ := hf it (by simp)
    have hl := rv.length
    have D := Draws.tuple (prog := X.prog) (w := X.w) (A := X.A.in1) (I.ok.hd hc) it a nai its.toArray
    have hi : i = its.toArray.size := by rw [List.size_toArray, ← hl]; exact hx.symm
    subst hi
    exact wpAny_pyNext_enum_endD D he ⟨hit, tp⟩ fun h' eb => ⟨rfl, I.turned (t' := s.toks) (fun c o hc2 q => eb c o hc2 q) f0 f1 f3 f4 f5⟩
  self := fun A i s Q E st h => by
    obtain ⟨⟨_, he⟩, _⟩ := st
    exact wpAny_pyIter_enum he h
end Dl
namespace Dl
open PySem PySem.Spec PyProof.Rows L2
def iEnumT (K : PySem.W.Frag) (ta : TA) : TI := fun σ H R => ta σ H fun vs H1 => ∃ a xs, vs = [.ref a] ∧ SqT K H1 a xs ∧ R (IteT K a) H1
theorem pi_enumT {X : Cx} {e : Expr} {ta : TA} {p pos tpos : Pos} {elts : List Expr} {kk : Nat} (gl : Gl X "enumerate") (gm : X.mg "enumerate" = none) (ha : PA X [e] ta) (hs : starEach [e] X.env = [(false, eval e X.env)] := by rfl) :
    PI X (.Tuple elts kk tpos) (.Call (.Name "enumerate" p) [e] [] pos) (iEnumT X.K ta) := by
  refine ⟨fun pins s σ H R I want => ?_⟩
  have w2 : ta σ H fun vs H1 => ∃ a xs, vs = [.ref a] ∧ SqT X.K H1 a xs ∧ R (IteT X.K a) H1 := want
  have run := ha.run pos pins s σ H _ I w2
  refine Call_ (ld_blt I gl gm boot_enumerate (PyProof.Rows.callWith_type1 (thn run ?_) hs rfl))
  intro us st got
  obtain ⟨vs, H1, J, rv, q⟩ := got
  obtain ⟨a, xs, rfl, hq, q⟩ := q
  match us, rv with
  | [_], .cons r .nil =>
    cases r
    obtain ⟨its, rv, tp, hz⟩ := J.tuple hq
    have la : a < st.heap.objs.size := tp.lt
    refine enum_call (begins_tuple a its.toArray) tp fun h' he hit hk => wpAny_pyIter_enum he ?_
    have J2 : L2.Inv X pins σ H1 { st with heap := h' } := J.kept (t' := st.toks) hk
    refine ⟨st.heap.objs.size + 1, [st.heap.objs.size + 1, st.heap.objs.size], _, _, H1, rfl, J2, enumT_turn a (st.heap.objs.size + 1) st.heap.objs.size, ⟨⟨.none, he⟩, ⟨_, hit, rfl, rfl⟩, Nat.succ_ne_self _, Nat.ne_of_lt la, Nat.ne_of_lt (Nat.lt_succ_of_lt la)⟩, fun c hc => ?_, q⟩
    have le : st.heap.objs.size ≤ c := by
      rcases (show c = st.heap.objs.size + 1 ∨ c = st.heap.objs.size by simpa using hc) with z | z
      · rw [z]; exact Nat.le_succ _
      · rw [z]; exact Nat.le_refl _
    exact J.fpOk le (J.hok.fresh le)
theorem wlk_enumT {K : PySem.W.Frag} {b : Bg} {F : Hp} {a : Addr} {vs : List V} {xs : List PyData} (h : SqT K F a vs) (r : RpA K F vs xs) : Wlk K b F (IteT K a) (enumD xs) :=
  ⟨⟨fun H => SqT K H a vs, YPair (fun i => some (.int (i : Nat))) (fun i => vs[i]?), ⟨fun i H hi q => by
      have hl : i < vs.length := by rw [r.len]; simpa [enumD] using hi
      exact ⟨vs, vs[i], q, List.getElem?_eq_getElem hl⟩, fun H q => ⟨vs, q, by rw [enumD_len, r.len]⟩, fun i H v H2 hi q y => by
      obtain ⟨T, x, e1, hT, e2, hx⟩ := y
      exact ⟨T, .int (i : Nat), x, e1, hT, e2, rfl, hx vs q⟩⟩, fun F' H' s w => sqt_up w.sub (sqt_up s h), fun i F' H' v H2 s w y => by
    obtain ⟨T, x, y, rfl, hT, rfl, e1, e2⟩ := y
    cases e1
    obtain ⟨z, e3, r1⟩ := r.getV e2
    obtain ⟨F2, st, rp⟩ := pair_new w hT (Rp.int (i : Nat)) (r1.up s)
    refine ⟨F2, _, st, ?_, rp⟩
    unfold enumD
    rw [List.getElem?_map, List.getElem?_zipIdx, e3]
    simp⟩⟩
def itEnumT (ta : DA) : DIt := fun env P => ta env fun us => allD us fun xs => match xs with
  | [.tuple ys] => P (enumD ys)
  | _ => False
theorem di_enumT {X : Cx} {w : Wn} {ta : DA} {p pos tpos : Pos} {a : Expr} {elts : List Expr} {kk : Nat} (gl : Gl X "enumerate") (gm : X.mg "enumerate" = none) (ha : DPA X w [a] ta) (hs : starEach [a] X.env = [(false, eval a X.env)] := by rfl) : PI X (.Tuple elts kk tpos) (.Call (.Name "enumerate" p) [a] [] pos) (lfI X.K w (itEnumT ta)) :=
  pi_weak (pi_enumT gl gm ha hs) fun σ H R ⟨env, F, P, r, h, q⟩ => ⟨env, F, _, r, h, fun dvs vs F1 H1 s1 r1 h1 => by
    obtain ⟨xs, ra, h1⟩ := allD_ok r1 h1
    split at h1
    · next ys =>
      cases ra with
      | cons a1 t =>
        cases t
        cases a1 with
        | tup e1 r2 => exact ⟨_, _, rfl, sqt_up s1.sub e1, q _ _ F1 H1 s1 (wlk_enumT e1 r2) h1⟩
    · exact h1.elim⟩
/-! ### a def that takes any number of arguments -/
theorem d_star {ts : List Addr} {P : Program} {w : World} {K : PySem.W.Frag} {mg : Str → Option Value} {base : Heap} {k : Nat} {f : Addr} {fd : FuncData} {x qual pv : Str} {st : Stmt} {N : List Str} (Fn : L2.Fun K x qual st f fd) (S : FnScope N [pv] (defScope st))
    (hb : ∀ (kV doc pm : Value) (an : Option Addr) (cdv ct : Value) (us : List Value), bindArgs (PySem.W.fnOf x qual (defArgs st) (defBody st) (defScope st) .none kV doc pm an cdv ct) { pos := us, kw := [] } = (newTuple us >>= fun t => pure [(pv, t)]))
    (sp : DSp) (t : DS)
    (hd : ∀ (cdv : Value) (A : Around) (outer : List Env) (s : Shared) (H : Hp) (E : XK) (wn : Wn), fd.code = cdv → wn.b.ts = ts → (A.deeper (envOfC qual (defScope st) s.heap.objs.size f cdv)).guards = some [] → Room k (A.deeper (envOfC qual (defScope st) s.heap.objs.size f cdv)) →
      DPSs (cxOf (L2.CX P w) P w K mg base N qual (defScope st) f cdv A outer s H E).nox wn (defBody st) t)
    (hv : ∀ dvs Q, sp dvs Q → allD dvs fun xs => xs.length ≤ 100000 ∧ t { nx := fun _ => Q (.d .none), rt := Q } (startD N [.d (.tuple xs)])) : Fg P w K mg base (L2.CX P w) (k + 1) f (Pm K ts sp) := by
  intro A outer s H us vs Q E ag room e0 rv want
  obtain ⟨b, F, dvs, R, ht, wd, ar, hsp, q⟩ := want
  have ar2 : Paired (ArR K b F H) dvs vs := by
    clear rv hsp q
    induction ar with
    | nil => exact .nil
    | @cons dv v _ _ a t ih =>
      refine .cons ?_ ih
      cases dv with
      | d x => exact a
      | raw u => exact a
      | bag => exact a
      | fr x => exact a.elim
      | ow l x => exact a.elim
      | ft x => exact a.elim
      | tr p S x => exact a.elim
  obtain ⟨xs, rx, hz, hread⟩ := allD_ok ar2 (hv dvs R hsp)
  obtain ⟨oc, od, kV, doc, pm, an, cdv, ct, osl, rfl, lk, hcd⟩ := Fn.ex
  have hn : H s.heap.objs.size = none := e0.hok.fresh (Nat.le_refl _)
  have hvl : vs.length ≤ sizeLine := by rw [rx.len]; exact lim_le hz
  have hul : us.length ≤ sizeLine := by rw [← rv.length]; exact hvl
  refine StX.run_bnd (N := N) (ps := [pv]) lk hcd S room e0 (G := fun ys H2 => ∃ p, H p = none ∧ ys = [V.ref p] ∧ H2 = upd H p (.tup vs)) (fun A' Ex Q' h => ?_) fun s2 H2 ys g room2 => ?_
  · rw [hb kV doc pm an cdv ct us]
    refine wpAny_bind (wpAny_newTuple (wpAny_pure ?_) hul)
    have new : ObjOk P w (upd H s.heap.objs.size (.tup vs)) (s.heap.push ({ cls := .type "tuple", data := .seq us.toArray } : Obj)) s.heap.objs.size (.tup vs) := ⟨hvl, us, rv, ⟨_, Heap.get?_push_size _ rfl, rfl, _, rfl⟩⟩
    have un := StX.un_laid (fs := frs outer) (s := s) (o := ({ cls := .type "tuple", data := .seq us.toArray } : Obj)) (u := .tup vs) hn
    exact h _ _ [V.ref s.heap.objs.size] [Value.ref s.heap.objs.size] (StX.env0_laid e0 new) un rfl (fun e s' => StX.cxUp outer s H _ _ E e s' un (fun c o q => Heap.get?_push_of_some _ q) rfl) (.cons rfl .nil) rfl ⟨_, hn, rfl, rfl⟩
  · obtain ⟨p, hp, rfl, rfl⟩ := g
    have stp := wd.laid (o := .tup vs) hp
    have ra : Rp K (upd F p (.tup vs)) (.ref p) (.tuple xs) := Rp.tup (SqT.of upd_same) (rx.up stp.ex)
    refine ⟨_, PSs.nox (hd cdv A outer s2 _ E ⟨b, upd F p (.tup vs), upd H p (.tup vs)⟩ rfl ht (guards_in ag _) room2), startD N [.d (.tuple xs)], upd F p (.tup vs), _, rel_start stp.wd (.cons ra .nil), hread, ?_⟩
    refine ⟨fun env σ F' H' r _ z => ?_, fun env σ F' H' r _ z => z, fun env σ F' H' r _ z => z, fun dv v F' H' st' rs z => q dv v F' H' (stp.trans st') (rs.early stp) z⟩
    exact q (.d .none) .non F' H' (stp.trans r.st) Rp.non z
end Dl
namespace Dl
open PySem PySem.Spec PyProof.Rows L2
/-! ### xs[i] as the first half of xs[i] += e -/
def rGetL : V → V → Hp → VK → Prop := fun o i H Q => ∃ l xs k v, o = .ref l ∧ i = .int (k : Nat) ∧ H l = some (.lst xs) ∧ xs[k]? = some v ∧ Q v H
theorem get_lst {X : Cx} : PGet X rGetL := by
  intro pins s σ H o i ov iv Q I ro ri want
  obtain ⟨l, xs, k, v, rfl, rfl, e, ev, q⟩ := want
  cases ro
  obtain ⟨t, rfl⟩ := ri
  obtain ⟨its, r, pl, hz⟩ := I.list (SqL.of e)
  obtain ⟨u, hu, ru⟩ := r.get ev
  obtain ⟨hl, _⟩ := List.getElem?_eq_some_iff.mp ev
  have hb := line63
  exact wpAny_getItem_list pl.isList (by omega) (by omega) (by simpa using hu) ⟨v, H, I, ru, q⟩
/-! ### defs by a reading over the heap -/
theorem r_def {P : Program} {w : World} {K : PySem.W.Frag} {mg : Str → Option Value} {base : Heap} {CX : CXT} {k : Nat} {f : Addr} {fd : FuncData} {x qual : Str} {st : Stmt} {N ps : List Str} (Fn : L2.Fun K x qual st f fd) (S : FnScope N ps (defScope st))
    (hb : ∀ (kV doc pm : Value) (an : Option Addr) (cdv ct : Value) (us : List Value), us.length = ps.length → bindArgs (PySem.W.fnOf x qual (defArgs st) (defBody st) (defScope st) .none kV doc pm an cdv ct) { pos := us, kw := [] } = pure (ps.zip us))
    (sp : Sp)
    (hd : ∀ (cdv : Value) (A : Around) (outer : List Env) (s : Shared) (H : Hp) (vs : List V) (Q : VK) (E : XK), (A.deeper (envOfC qual (defScope st) s.heap.objs.size f cdv)).guards = some [] → Room k (A.deeper (envOfC qual (defScope st) s.heap.objs.size f cdv)) → sp vs H Q E →
      vs.length = ps.length ∧ ∃ t, PSs (cxOf CX P w K mg base N qual (defScope st) f cdv A outer s H E).nox (defBody st) t ∧ t { nx := fun _ H' => Q .non H', rt := Q } (L2.start N vs) H) : Fg P w K mg base CX (k + 1) f sp := by
  intro A outer s H us vs Q E ag room e0 rv want
  obtain ⟨oc, od, kV, doc, pm, an, cdv, ct, osl, rfl, lk, hcd⟩ := Fn.ex
  have hvl : vs.length = ps.length := (hd cdv A outer s H vs Q E (guards_in ag _) (room.deeper _) want).1
  have hul : us.length = ps.length := rv.length.symm.trans hvl
  refine StX.run_bnd (N := N) (ps := ps) lk hcd S room e0 (G := fun xs H2 => xs = vs ∧ H2 = H) (fun A' Ex Q' h => ?_) fun s2 H2 xs g room2 => ?_
  · rw [hb kV doc pm an cdv ct us hul]
    exact wpAny_pure (h s H vs us e0 Un.refl rfl (fun _ _ z => z) rv hvl ⟨rfl, rfl⟩)
  · obtain ⟨rfl, rfl⟩ := g
    obtain ⟨_, t, ht, q⟩ := hd cdv A outer s2 _ _ Q E (guards_in ag _) room2 want
    exact ⟨t, PSs.nox ht, q⟩
/-! ### a draw -/
def spTake : DSp := fun us P => ∃ m : Int, us = [.bag, .d (.int m)] ∧ 0 < m ∧ m.natAbs.log2 < 9000 ∧ ∀ r : Int, 0 ≤ r → r < m → P (.d (.int r))
abbrev bIx (K : PySem.W.Frag) (k : Int) : TE := tOp (rIxL K) (tVar 0) (tC (.int k))
abbrev bLen (K : PySem.W.Frag) : List V → Hp → VK → Prop := fun xs H Q => ∃ p ys, xs = [.ref p] ∧ (SqL K H p ys ∨ SqT K H p ys) ∧ Q (.int ys.length) H
abbrev bMul : R2 := rI CMul fun i j => .int (i * j)
abbrev bMod : R2 := rI (fun _ j => 0 < j) fun i j => .int (i % j)
abbrev bAdd : R2 := rI0 fun i j => .int (i + j)
/-- the reading of _law_take's body; its slots: the bag, many, cell, value, first, second -/
def tkT (K : PySem.W.Frag) : TS :=
  tSeq (tIfS (tTest (tOp rEq (bIx K 0) (tC (.int 0))))
      (tSeq (tAsg (tC (.int 0)) (gName 2))
      (tSeq (tIfS (tTest (tOp (rI0 fun i j => .bl (decide (i < j))) (bIx K 2) (tCB (bLen K) (tCons (bIx K 3) tNil)))) (tAsg (tOp (rIxL K) (bIx K 3) (bIx K 2)) (gName 2)) tNext)
      (tSeq (tAugS (tVar 0) (tC (.int 2)) (tC (.int 1)) rGetL (ipI fun i j => i + j) rSetL)
      (tSeq (tIfS (tTest (tOp (rI0 fun i j => .bl (decide (j ≤ i))) (tVar 2) (tC (.int 1000000000000000000)))) (tAsg (tVar 2) (gSub (tVar 0) (tC (.int 0)) rSetL)) tNext)
        (tAsg (tOp bMod (tOp bAdd (tOp bAdd (tOp bMul (bIx K 1) (tC (.int 48271))) (tOp bMod (tVar 2) (tC (.int 2147483647)))) (tOp bMul (tC (.int 7919)) (bIx K 2))) (tC (.int 2147483647))) (gSub (tVar 0) (tC (.int 1)) rSetL))))))
      tNext)
  (tSeq (tIfS (tTest (tOp (rI0 fun i j => .bl (decide (j < i))) (bIx K 0) (tC (.int 0))))
      (tSeq (tAsg (tOp bMod (bIx K 0) (tVar 1)) (gName 3))
      (tSeq (tAsg (tOp (rI (fun _ j => j ≠ 0 ∧ j.natAbs.log2 < 9000) fun i j => .int (i.fdiv j)) (bIx K 0) (tVar 1)) (gSub (tVar 0) (tC (.int 0)) rSetL))
        (tRet (tVar 3))))
      tNext)
  (tSeq (tAsg (tOp bMod (tOp bMul (tOp bAdd (bIx K 1) (tC (.int 1))) (tC (.int 39373))) (tC (.int 1000000007))) (gName 4))
  (tSeq (tAsg (tOp bMod (tOp bMul (tOp bMod (tOp bMul (tVar 4) (tVar 4)) (tC (.int 998244353))) (tC (.int 30011))) (tC (.int 998244353))) (gName 5))
  (tSeq (tIfS (tTest (tOp (rI0 fun i j => .bl (decide (j < i))) (tVar 1) (tC (.int 1000000)))) (tRet (tOp bMod (tOp bAdd (tOp bMul (tVar 5) (tC (.int 1000000007))) (tVar 4)) (tVar 1))) tNext)
    (tRet (tOp bMod (tOp (rI CDiv fun i j => .int (i / j)) (tVar 5) (tC (.int 7))) (tVar 1)))))))
section
variable {K : PySem.W.Frag} {b : Bg} {F H : Hp}
/-- the bag holds x y z now -/
structure Bn (b : Bg) (F H H' : Hp) (x y z : Int) : Prop where
  at' : H' b.b = some (.lst [.int x, .int y, .int z, .ref b.c])
  else' : ∀ a, a ≠ b.b → H' a = H a
  x0 : 0 ≤ x
  y0 : 0 ≤ y
  z0 : 0 ≤ z
theorem Bn.cells {H' : Hp} {x y z : Int} (w : Wd K b F H) (n : Bn b F H H' x y z) : H' b.c = some (.lst (b.ns.map V.int)) := by
  have e := w.bag.2.1
  have ne : b.c ≠ b.b := fun q => by rw [q, w.fb] at e; cases e
  rw [n.else' _ ne]
  exact w.sub _ _ e
theorem Bn.put {H' : Hp} {x y z x2 y2 z2 : Int} (n : Bn b F H H' x y z) (h1 : 0 ≤ x2) (h2 : 0 ≤ y2) (h3 : 0 ≤ z2) : Bn b F H (upd H' b.b (.lst [.int x2, .int y2, .int z2, .ref b.c])) x2 y2 z2 :=
  ⟨upd_same, fun a ne => by rw [upd_ne ne]; exact n.else' a ne, h1, h2, h3⟩
theorem Bn.stp {H' : Hp} {x y z : Int} (w : Wd K b F H) (n : Bn b F H H' x y z) : Stp K b F H F H' :=
  ⟨fun a o ne _ h => by rw [n.else' a ne]; exact h, ⟨⟨x, y, z, n.at', n.x0, n.y0, n.z0⟩, w.bag.2.1, w.bag.2.2.1, fun t m => ⟨(w.bag.2.2.2 t m).1, by obtain ⟨ps, q, k⟩ := (w.bag.2.2.2 t m).2; exact ⟨ps, by rw [n.else' t (fun e => by obtain ⟨_, eb⟩ := w.bag.lst; rw [e, eb] at q; cases q)]; exact q, k⟩⟩⟩, fun _ _ h => h, fun a o h => by
    have ne : a ≠ b.b := fun q => by rw [q, w.fb] at h; cases h
    rw [n.else' a ne]; exact w.sub _ _ h, w.fb, fun _ h _ => h, fun a ps ne h => ⟨ps, by rw [n.else' a ne]; exact h, fun q => q⟩⟩
theorem bix0 {σ : L2.St} {H' : Hp} {x y z : Int} {Q : VK} (n : Bn b F H H' x y z) (h0 : σ[0]? = some (some (.ref b.b))) (q : Q (.int x) H') : bIx K 0 σ H' Q :=
  ⟨_, h0, _, _, _, _, rfl, rfl, SqL.of n.at', rfl, q⟩
theorem bix1 {σ : L2.St} {H' : Hp} {x y z : Int} {Q : VK} (n : Bn b F H H' x y z) (h0 : σ[0]? = some (some (.ref b.b))) (q : Q (.int y) H') : bIx K 1 σ H' Q :=
  ⟨_, h0, _, _, _, _, rfl, rfl, SqL.of n.at', rfl, q⟩
theorem bix2 {σ : L2.St} {H' : Hp} {x y z : Int} {Q : VK} (n : Bn b F H H' x y z) (h0 : σ[0]? = some (some (.ref b.b))) (q : Q (.int z) H') : bIx K 2 σ H' Q :=
  ⟨_, h0, _, _, _, _, rfl, rfl, SqL.of n.at', rfl, q⟩
theorem bix3 {σ : L2.St} {H' : Hp} {x y z : Int} {Q : VK} (n : Bn b F H H' x y z) (h0 : σ[0]? = some (some (.ref b.b))) (q : Q (.ref b.c) H') : bIx K 3 σ H' Q :=
  ⟨_, h0, _, _, _, _, rfl, rfl, SqL.of n.at', rfl, q⟩
theorem tk_tail {H' : Hp} {m y : Int} {x z : Int} {D : Ends} {s2 s3 s4 s5 : Option V} (w : Wd K b F H) (n : Bn b F H H' x y z) (hm : 0 < m) (hq : ∀ r : Int, 0 ≤ r → r < m → ∀ H2, Stp K b F H F H2 → D.rt (.int r) H2) :
    (tSeq (tAsg (tOp bMod (tOp bMul (tOp bAdd (bIx K 1) (tC (.int 1))) (tC (.int 39373))) (tC (.int 1000000007))) (gName 4))
  (tSeq (tAsg (tOp bMod (tOp bMul (tOp bMod (tOp bMul (tVar 4) (tVar 4)) (tC (.int 998244353))) (tC (.int 30011))) (tC (.int 998244353))) (gName 5))
  (tSeq (tIfS (tTest (tOp (rI0 fun i j => .bl (decide (j < i))) (tVar 1) (tC (.int 1000000)))) (tRet (tOp bMod (tOp bAdd (tOp bMul (tVar 5) (tC (.int 1000000007))) (tVar 4)) (tVar 1))) tNext)
    (tRet (tOp bMod (tOp (rI CDiv fun i j => .int (i / j)) (tVar 5) (tC (.int 7))) (tVar 1)))))) D [some (.ref b.b), some (.int m), s2, s3, s4, s5] H' := by
  refine bix1 n rfl ⟨_, _, rfl, rfl, _, _, rfl, rfl, .inr ⟨by decide, by decide⟩, _, _, rfl, rfl, (by show (0 : Int) < _; decide), ?_⟩
  have a0 : 0 ≤ (y + 1) * 39373 % 1000000007 := Int.emod_nonneg _ (by decide)
  have a1 : (y + 1) * 39373 % 1000000007 < 1000000007 := Int.emod_lt_of_pos _ (by decide)
  generalize (y + 1) * 39373 % 1000000007 = first at a0 a1
  refine ⟨_, rfl, _, rfl, _, _, rfl, rfl, .inl ⟨by omega, by omega⟩, _, _, rfl, rfl, (by show (0 : Int) < _; decide), ?_⟩
  have c0 : 0 ≤ first * first % 998244353 := Int.emod_nonneg _ (by decide)
  have c1 : first * first % 998244353 < 998244353 := Int.emod_lt_of_pos _ (by decide)
  generalize first * first % 998244353 = sq at c0 c1
  refine ⟨_, _, rfl, rfl, .inl ⟨by omega, by omega⟩, _, _, rfl, rfl, (by show (0 : Int) < _; decide), ?_⟩
  have d0 : 0 ≤ sq * 30011 % 998244353 := Int.emod_nonneg _ (by decide)
  have d1 : sq * 30011 % 998244353 < 998244353 := Int.emod_lt_of_pos _ (by decide)
  generalize sq * 30011 % 998244353 = second at d0 d1
  refine ⟨_, rfl, _, _, rfl, rfl, _, rfl, ite2 (fun _ => ?_) fun _ => ?_⟩
  · refine ⟨_, rfl, _, _, rfl, rfl, .inl ⟨by omega, by omega⟩, _, rfl, _, _, rfl, rfl, _, rfl, _, _, rfl, rfl, hm, ?_⟩
    exact hq _ (Int.emod_nonneg _ (by omega)) (Int.emod_lt_of_pos _ hm) H' (n.stp w)
  · refine ⟨_, rfl, _, _, rfl, rfl, ⟨by decide, by decide⟩, _, rfl, _, _, rfl, rfl, hm, ?_⟩
    exact hq _ (Int.emod_nonneg _ (by omega)) (Int.emod_lt_of_pos _ hm) H' (n.stp w)
theorem tk_mid {H' : Hp} {m y : Int} {x z : Int} {D : Ends} {s2 s3 s4 s5 : Option V} (w : Wd K b F H) (n : Bn b F H H' x y z) (hm : 0 < m) (hs : m.natAbs.log2 < 9000) (hq : ∀ r : Int, 0 ≤ r → r < m → ∀ H2, Stp K b F H F H2 → D.rt (.int r) H2) :
  (tSeq (tIfS (tTest (tOp (rI0 fun i j => .bl (decide (j < i))) (bIx K 0) (tC (.int 0))))
      (tSeq (tAsg (tOp bMod (bIx K 0) (tVar 1)) (gName 3))
      (tSeq (tAsg (tOp (rI (fun _ j => j ≠ 0 ∧ j.natAbs.log2 < 9000) fun i j => .int (i.fdiv j)) (bIx K 0) (tVar 1)) (gSub (tVar 0) (tC (.int 0)) rSetL))
        (tRet (tVar 3))))
      tNext)
  (tSeq (tAsg (tOp bMod (tOp bMul (tOp bAdd (bIx K 1) (tC (.int 1))) (tC (.int 39373))) (tC (.int 1000000007))) (gName 4))
  (tSeq (tAsg (tOp bMod (tOp bMul (tOp bMod (tOp bMul (tVar 4) (tVar 4)) (tC (.int 998244353))) (tC (.int 30011))) (tC (.int 998244353))) (gName 5))
  (tSeq (tIfS (tTest (tOp (rI0 fun i j => .bl (decide (j < i))) (tVar 1) (tC (.int 1000000)))) (tRet (tOp bMod (tOp bAdd (tOp bMul (tVar 5) (tC (.int 1000000007))) (tVar 4)) (tVar 1))) tNext)
    (tRet (tOp bMod (tOp (rI CDiv fun i j => .int (i / j)) (tVar 5) (tC (.int 7))) (tVar 1))))))) D [some (.ref b.b), some (.int m), s2, s3, s4, s5] H' := by
  refine bix0 n rfl ⟨_, _, rfl, rfl, _, rfl, ite2 (fun hx => ?_) fun _ => tk_tail w n hm hq⟩
  refine bix0 n rfl ⟨_, rfl, _, _, rfl, rfl, hm, ?_⟩
  refine bix0 n rfl ⟨_, rfl, _, _, rfl, rfl, ⟨by omega, hs⟩, ?_⟩
  have e : x.fdiv m = x / m := Int.fdiv_eq_ediv_of_nonneg x (by omega)
  refine ⟨_, rfl, b.b, _, 0, 0, rfl, rfl, n.at', rfl, ?_⟩
  refine ⟨_, rfl, hq _ (Int.emod_nonneg _ (by omega)) (Int.emod_lt_of_pos _ hm) _ (Bn.stp w (n.put ?_ n.y0 n.z0))⟩
  rw [e]
  exact Int.ediv_nonneg n.x0 (by omega)
theorem tk_go {m : Int} {D : Ends} {s2 s3 s4 s5 : Option V} (w : Wd K b F H) (hm : 0 < m) (hs : m.natAbs.log2 < 9000) (hq : ∀ r : Int, 0 ≤ r → r < m → ∀ H2, Stp K b F H F H2 → D.rt (.int r) H2) :
    tkT K D [some (.ref b.b), some (.int m), s2, s3, s4, s5] H := by
  obtain ⟨⟨x, y, z, eb, x0, y0, z0⟩, ec, ens, _⟩ := id w.bag
  have n : Bn b F H H x y z := ⟨eb, fun _ _ => rfl, x0, y0, z0⟩
  refine bix0 n rfl ⟨rfl, _, rfl, ite2 (fun hx => ?_) fun _ => tk_mid w n hm hs hq⟩
  -- the cell
  have fin : ∀ cell : Int, 0 ≤ cell → (tSeq (tAugS (tVar 0) (tC (.int 2)) (tC (.int 1)) rGetL (ipI fun i j => i + j) rSetL)
      (tSeq (tIfS (tTest (tOp (rI0 fun i j => .bl (decide (j ≤ i))) (tVar 2) (tC (.int 1000000000000000000)))) (tAsg (tVar 2) (gSub (tVar 0) (tC (.int 0)) rSetL)) tNext)
        (tAsg (tOp bMod (tOp bAdd (tOp bAdd (tOp bMul (bIx K 1) (tC (.int 48271))) (tOp bMod (tVar 2) (tC (.int 2147483647)))) (tOp bMul (tC (.int 7919)) (bIx K 2))) (tC (.int 2147483647))) (gSub (tVar 0) (tC (.int 1)) rSetL))))
      { D with nx := fun σ H => (tSeq (tIfS (tTest (tOp (rI0 fun i j => .bl (decide (j < i))) (bIx K 0) (tC (.int 0))))
      (tSeq (tAsg (tOp bMod (bIx K 0) (tVar 1)) (gName 3))
      (tSeq (tAsg (tOp (rI (fun _ j => j ≠ 0 ∧ j.natAbs.log2 < 9000) fun i j => .int (i.fdiv j)) (bIx K 0) (tVar 1)) (gSub (tVar 0) (tC (.int 0)) rSetL))
        (tRet (tVar 3))))
      tNext)
  (tSeq (tAsg (tOp bMod (tOp bMul (tOp bAdd (bIx K 1) (tC (.int 1))) (tC (.int 39373))) (tC (.int 1000000007))) (gName 4))
  (tSeq (tAsg (tOp bMod (tOp bMul (tOp bMod (tOp bMul (tVar 4) (tVar 4)) (tC (.int 998244353))) (tC (.int 30011))) (tC (.int 998244353))) (gName 5))
  (tSeq (tIfS (tTest (tOp (rI0 fun i j => .bl (decide (j < i))) (tVar 1) (tC (.int 1000000)))) (tRet (tOp bMod (tOp bAdd (tOp bMul (tVar 5) (tC (.int 1000000007))) (tVar 4)) (tVar 1))) tNext)
    (tRet (tOp bMod (tOp (rI CDiv fun i j => .int (i / j)) (tVar 5) (tC (.int 7))) (tVar 1))))))) D σ H } [some (.ref b.b), some (.int m), some (.int cell), s3, s4, s5] H := by
    intro cell c0
    refine ⟨_, rfl, b.b, _, 2, _, rfl, rfl, eb, rfl, _, _, rfl, rfl, b.b, _, 2, 2, rfl, rfl, eb, rfl, ?_⟩
    have n2 : Bn b F H (upd H b.b (.lst [.int x, .int y, .int (z + 1), .ref b.c])) x y (z + 1) := n.put x0 y0 (by omega)
    have last : ∀ (H3 : Hp) (x3 : Int), Bn b F H H3 x3 y (z + 1) → (tAsg (tOp bMod (tOp bAdd (tOp bAdd (tOp bMul (bIx K 1) (tC (.int 48271))) (tOp bMod (tVar 2) (tC (.int 2147483647)))) (tOp bMul (tC (.int 7919)) (bIx K 2))) (tC (.int 2147483647))) (gSub (tVar 0) (tC (.int 1)) rSetL))
      { D with nx := fun σ H => (tSeq (tIfS (tTest (tOp (rI0 fun i j => .bl (decide (j < i))) (bIx K 0) (tC (.int 0))))
      (tSeq (tAsg (tOp bMod (bIx K 0) (tVar 1)) (gName 3))
      (tSeq (tAsg (tOp (rI (fun _ j => j ≠ 0 ∧ j.natAbs.log2 < 9000) fun i j => .int (i.fdiv j)) (bIx K 0) (tVar 1)) (gSub (tVar 0) (tC (.int 0)) rSetL))
        (tRet (tVar 3))))
      tNext)
  (tSeq (tAsg (tOp bMod (tOp bMul (tOp bAdd (bIx K 1) (tC (.int 1))) (tC (.int 39373))) (tC (.int 1000000007))) (gName 4))
  (tSeq (tAsg (tOp bMod (tOp bMul (tOp bMod (tOp bMul (tVar 4) (tVar 4)) (tC (.int 998244353))) (tC (.int 30011))) (tC (.int 998244353))) (gName 5))
  (tSeq (tIfS (tTest (tOp (rI0 fun i j => .bl (decide (j < i))) (tVar 1) (tC (.int 1000000)))) (tRet (tOp bMod (tOp bAdd (tOp bMul (tVar 5) (tC (.int 1000000007))) (tVar 4)) (tVar 1))) tNext)
    (tRet (tOp bMod (tOp (rI CDiv fun i j => .int (i / j)) (tVar 5) (tC (.int 7))) (tVar 1))))))) D σ H } [some (.ref b.b), some (.int m), some (.int cell), s3, s4, s5] H3 := by
      intro H3 x3 n3
      refine bix1 n3 rfl ⟨_, _, rfl, rfl, .inr ⟨by decide, by decide⟩, _, rfl, _, _, rfl, rfl, (by show (0 : Int) < _; decide), _, _, rfl, rfl, ?_⟩
      refine bix2 n3 rfl ⟨_, _, rfl, rfl, .inl ⟨by decide, by decide⟩, _, _, rfl, rfl, _, _, rfl, rfl, (by show (0 : Int) < _; decide), ?_⟩
      refine ⟨_, rfl, b.b, _, 1, 1, rfl, rfl, n3.at', rfl, ?_⟩
      exact tk_mid w (n3.put n3.x0 (Int.emod_nonneg _ (by decide)) n3.z0) hm hs hq
    refine ⟨_, rfl, _, _, rfl, rfl, _, rfl, ite2 (fun _ => ?_) fun _ => last _ x n2⟩
    refine ⟨_, rfl, _, rfl, b.b, _, 0, 0, rfl, rfl, n2.at', rfl, ?_⟩
    exact last _ cell (n2.put c0 y0 (by omega))
  have hc : H b.c = some (.lst (b.ns.map V.int)) := w.sub _ _ ec
  refine bix2 n rfl (bix3 n rfl ⟨b.c, _, rfl, .inl (SqL.of hc), _, _, rfl, rfl, _, rfl, ite2 (fun hz => ?_) fun _ => fin 0 (Int.le_refl _)⟩)
  have hl : z < (b.ns.length : Int) := by
    have := of_decide_eq_true hz
    rwa [List.length_map] at this
  have hz2 : z.toNat < b.ns.length := by omega
  refine bix3 n rfl (bix2 n rfl ⟨b.c, _, z, .int b.ns[z.toNat], rfl, rfl, SqL.of hc, ?_, fin _ (ens _ (List.getElem_mem hz2))⟩)
  refine at_of (j := z.toNat) (by omega) ?_
  rw [List.getElem?_map, List.getElem?_eq_getElem hz2]
  rfl
end
end Dl
namespace Dl
open PySem PySem.Spec PyProof.Rows L2
/-! ### the bag is made -/
abbrev bAbs : List V → Hp → VK → Prop := fun xs H Q => ∃ i : Int, xs = [.int i] ∧ Q (.int (if i < 0 then -i else i)) H
def bgT (K : PySem.W.Frag) : TS := tRet (tLst (tCons (tC (.int 0)) (tCons (tC (.int 1234567891)) (tCons (tC (.int 0)) (tCons
  (tLc (iList K (tSl (rSlL K) (tVar 0) tNoPart (tPart (tC (.int 63))))) (gName 1) tYes (tCB bAbs (tCons (tVar 1) tNil)) [1]) tNil)))))
def spBag (K : PySem.W.Frag) : Sp := fun vs H Q _ => ∃ (a : Addr) (ns : List Int), vs = [.ref a] ∧ SqL K H a (ns.map V.int) ∧ ns.length ≤ 63 ∧
  ∀ (p c : Addr) (H' : Hp), H' p = some (.lst [.int 0, .int 1234567891, .int 0, .ref c]) → H' c = some (.lst ((ns.map fun n => (n.natAbs : Int)).map V.int)) → c ≠ p → (∀ t, GxR.TabG H t → GxR.TabG H' t) → Q (.ref p) H'
theorem cut63 (ns : List Int) (h : ns.length ≤ 63) : cutV (ns.map V.int) none (some 63) = ns.map V.int := by
  unfold cutV
  rw [HT.sIx_none, List.drop_zero, show HT.sIx (ns.map V.int).length (ns.map V.int).length (some 63) = min 63 (ns.map V.int).length from HT.sIx_nat _ _ 63]
  refine List.take_of_length_le ?_
  rw [List.length_map]
  omega
theorem bg_go {K : PySem.W.Frag} {D : Ends} {H : Hp} {a : Addr} {ns : List Int} {s1 : Option V} (seq : SqL K H a (ns.map V.int)) (hl : ns.length ≤ 63)
    (q : ∀ (p c : Addr) (H' : Hp), H' p = some (.lst [.int 0, .int 1234567891, .int 0, .ref c]) → H' c = some (.lst ((ns.map fun n => (n.natAbs : Int)).map V.int)) → c ≠ p → (∀ t, GxR.TabG H t → GxR.TabG H' t) → D.rt (.ref p) H') : bgT K D [some (.ref a), s1] H := by
  refine ⟨_, rfl, 63, rfl, a, _, rfl, seq, fun s hs => ?_⟩
  rw [cut63 ns hl]
  refine ⟨s, rfl, ⟨_, SqL.of upd_same⟩, fun C hC => ?_⟩
  have sC : s ≠ C := ne_of_none upd_same hC
  refine lc_list (K := K) (xs := ns.map V.int) (fun i H' => H' s = some (.lst (ns.map V.int)) ∧ H' C = some (.lst (((ns.take i).map fun n => (n.natAbs : Int)).map V.int)) ∧ ∀ t, GxR.TabG H t → GxR.TabG H' t) ⟨by rw [upd_ne sC, upd_same], by rw [upd_same]; rfl, fun t z => TabG.up (TabG.up z hs) hC⟩ (fun i H' _ h => SqL.of h.1) (fun i x H' hx h => ?_) fun H' h => ?_
  · have hi : i < ns.length := by
      have := (List.getElem?_eq_some_iff.mp hx).1
      rwa [List.length_map] at this
    rw [List.getElem?_map, List.getElem?_eq_getElem hi] at hx
    cases hx
    refine ⟨rfl, _, rfl, _, rfl, _, h.2.1, ?_, ?_, ?_, fun t z => ?_⟩
    · refine lim_lt ?_
      rw [List.length_map, List.length_map, List.length_take]
      omega
    · rw [upd_ne sC]; exact h.1
    · rw [upd_same, List.take_add_one, List.getElem?_eq_getElem hi, List.map_append, List.map_append]
      have e : (if ns[i] < 0 then -ns[i] else ns[i]) = (ns[i].natAbs : Int) := by split <;> omega
      rw [e]
      rfl
    · obtain ⟨ps, z1, z2⟩ := h.2.2 t z
      exact ⟨ps, by rw [upd_ne (fun e => by rw [e, h.2.1] at z1; cases z1)]; exact z1, z2⟩
  · rw [List.length_map, List.take_length] at h
    refine ⟨by show 4 ≤ sizeLine; decide, fun p hp => q p C _ upd_same ?_ (ne_of_none h.2.1 hp) fun t z => TabG.up (h.2.2 t z) hp⟩
    rw [upd_ne (ne_of_none h.2.1 hp)]
    exact h.2.1
/-! ### the law's own def -/
def lfE (K : PySem.W.Frag) (ts : List Addr) (t : DS) : TS := fun D σ H => ∃ w : Wn, w.b.ts = ts ∧ lfS K w t D σ H
theorem pss_any {X : Cx} {ts : List Addr} {sts : List Stmt} {t : DS} (h : ∀ w : Wn, w.b.ts = ts → DPSs X w sts t) : PSs X sts (lfE X.K ts t) := ⟨fun p s σ H D I ⟨w, e, q⟩ => (h w e).run p s σ H D I q⟩
/-- f(e, ..) over the heap -/
theorem g_call {X : Cx} {CX : CXT} {k : Nat} {f : Addr} {sp : Sp} {E : XK} {x : Str} {e : Expr} {es : List Expr} {p pos : Pos} {t : TA} (Fk : Fg X.prog X.w X.K X.mg X.base CX k f sp) (ag : X.A.guards = some []) (room : Room k X.A) (ps : Passes CX X E) (gl : Gl X x) (gm : X.mg x = some (.ref f)) (kp : PySem.W.keepIn X.K (.ref f) = true)
    (ha : PA X (e :: es) t) (db : (x == ("__debug__" : Str)) = false := by decide) (s1 : starEach (e :: es) X.env = (false, eval e X.env) :: starEach es X.env := by rfl) (s2 : (backTo pos (starEach es X.env)).any (·.1) = false := by rfl) :
    PE X (.Call (.Name x p) (e :: es) [] pos) (fun σ H Q => t σ H fun vs H1 => sp vs H1 Q E) := by
  refine ⟨fun pins s σ H Q I want => wpAny_Call_Name_kw (ld_glob I gl gm ?_ db)⟩
  refine PySem.W.callWith_K (h₀ := X.base) I.ok.mod.kin kp ?_ s1 s2
  exact thn (ha.run pos pins s σ H _ I want) fun us st ⟨vs, H1, I1, rv, q⟩ => ⟨I1.kIn, run_g Fk ag room ps I1 rv q⟩
abbrev lawT (K : PySem.W.Frag) (ts : List Addr) (t : DS) : TS := tSeq (tAsg (fun σ H Q => tCons (tVar 0) tNil σ H fun vs H1 => spBag K vs H1 Q E0) (gName 1)) (lfE K ts t)
def spLaw (K : PySem.W.Frag) (ts : List Addr) : Sp := fun vs H Q _ => (∀ t ∈ ts, GxR.TabG H t) ∧ ∃ (a : Addr) (ns : List Int), vs = [.ref a] ∧ SqL K H a (ns.map V.int) ∧ ns.length ≤ 63 ∧ ∀ H', Q (.bl true) H'
theorem law_ok {ts : List Addr} {P : Program} {w : World} {K : PySem.W.Frag} {mg : Str → Option Value} {base : Heap} {k : Nat} {f : Addr} {fd : FuncData} {x qual : Str} {st : Stmt} {N : List Str} {z0 z1 : Str} {n : Nat} (Fn : L2.Fun K x qual st f fd) (S : FnScope N [z0] (defScope st)) (hN : N.length = n + 2)
    (hb : ∀ (kV doc pm : Value) (an : Option Addr) (cdv ct : Value) (us : List Value), us.length = [z0].length → bindArgs (PySem.W.fnOf x qual (defArgs st) (defBody st) (defScope st) .none kV doc pm an cdv ct) { pos := us, kw := [] } = pure ([z0].zip us))
    (t : DS)
    (hd : ∀ (cdv : Value) (A : Around) (outer : List Env) (s : Shared) (H : Hp) (E : XK), (A.deeper (envOfC qual (defScope st) s.heap.objs.size f cdv)).guards = some [] → Room k (A.deeper (envOfC qual (defScope st) s.heap.objs.size f cdv)) →
      PSs (cxOf (L2.CX P w) P w K mg base N qual (defScope st) f cdv A outer s H E).nox (defBody st) (lawT K ts t))
    (hv : t { nx := fun _ => False, rt := fun dv => dv = .d (.bool true) } (.un :: .bag :: List.replicate n .un)) : Fg P w K mg base (L2.CX P w) (k + 1) f (spLaw K ts) := by
  refine r_def Fn S hb (spLaw K ts) fun cdv A outer s H vs Q E ag room want => ?_
  obtain ⟨htab, a, ns, rfl, seq, hl, q⟩ := want
  refine ⟨rfl, _, hd cdv A outer s H E ag room, ?_⟩
  have e0 : L2.start N [V.ref a] = some (V.ref a) :: none :: List.replicate n none := by
    unfold L2.start
    rw [hN]
    rfl
  rw [e0]
  refine ⟨_, rfl, a, ns, rfl, seq, hl, fun p c H' hp hc ne keep => ?_⟩
  have wd : Wd K ⟨p, c, ns.map fun n => (n.natAbs : Int), ts⟩ (upd (fun _ => none) c (.lst ((ns.map fun n => (n.natAbs : Int)).map V.int))) H' := by
    refine ⟨⟨⟨0, 1234567891, 0, hp, by decide, by decide, by decide⟩, upd_same, fun m hm => ?_, fun t m => ⟨?_, keep t (htab t m)⟩⟩, fun b o h => ?_, upd_ne (Ne.symm ne)⟩
    · obtain ⟨j, _, rfl⟩ := List.mem_map.mp hm
      exact Int.natCast_nonneg _
    · refine upd_ne fun e => ?_
      obtain ⟨ps, z, _⟩ := keep t (htab t m)
      rw [e, hc] at z
      cases z
    · by_cases hb : b = c
      · rw [hb, upd_same] at h; rw [hb, hc]; exact h
      · rw [upd_ne hb] at h; cases h
  refine ⟨⟨_, _, H'⟩, rfl, .un :: .bag :: List.replicate n .un, _, _, ⟨by simp, wd.refl, fun i z e => ?_, fun i j s t a h1 _ m _ => ?_⟩, hv, ⟨fun env σ F H _ _ z => z.elim, fun env σ F H _ _ z => z.elim, fun env σ F H _ _ z => z.elim, fun dv v F H2 _ rs z => ?_⟩⟩
  · match i, e with
    | 0, e => cases e; exact True.intro
    | 1, e => cases e; rfl
    | i + 2, e =>
      have e : (List.replicate n Sl.un)[i]? = some z := e
      rw [List.getElem?_replicate] at e
      split at e
      · cases e; exact True.intro
      · cases e
  · exfalso
    match i, h1 with
    | 0, h1 => cases h1; cases m
    | 1, h1 => cases h1; cases m
    | i + 2, h1 =>
      have h1 : (List.replicate n Sl.un)[i]? = some _ := h1
      rw [List.getElem?_replicate] at h1
      split at h1 <;> cases h1
      cases m
  · subst z
    obtain rfl := rs.blOf
    exact q H2
abbrev sp__law_take : DSp := spTake
end Dl
namespace Dl
open PySem PySem.Spec PyProof.Rows L2
/-! ### loops by what holds of what is left -/
theorem forD_ind {g : DG} {tb : DS} {d : DK} (I : List PyData → List Sl → Prop) (hn : ∀ env, I [] env → d.nx env)
    (hc : ∀ (x : PyData) (xs : List PyData) (env : List Sl) (R : List Sl → Prop), I (x :: xs) env → (∀ e, I xs e → R e) → g x env fun e2 => tb { nx := R, rt := d.rt, bk := d.nx, ct := R } e2) :
    ∀ (xs : List PyData) (env : List Sl), I xs env → forD g tb d xs env
  | [], env, h => hn env h
  | x :: xs, env, h => hc x xs env (forD g tb d xs) h fun e h' => forD_ind I hn hc xs e h'
theorem whD_ind {tc : DTT} {tb : DS} {d : DK} (I : List Sl → Prop) (μ : List Sl → Nat)
    (hs : ∀ (env : List Sl) (R : List Sl → Prop), I env → (∀ e, I e → μ e < μ env → R e) → tc env fun k => if k = true then tb { nx := R, rt := d.rt, bk := d.nx, ct := R } env else d.nx env) {env : List Sl} (h : I env) : tWhD tc tb d env := by
  have main : ∀ (n : Nat) (env : List Sl), μ env < n → I env → whD tc tb d n env := by
    intro n
    induction n with
    | zero => intro env h; omega
    | succ n ih => intro env hm hi; exact hs env (whD tc tb d n) hi fun e he hl => ih e (by omega) he
  exact ⟨μ env + 1, main _ env (Nat.lt_succ_self _) h⟩
theorem lcD_ind {g : DG} {tt : DTT} {te : DT} {env : List Sl} {P : DV → Prop} (I : List PyData → List PyData → Prop) (hn : ∀ acc, I [] acc → P (.fr acc))
    (hc : ∀ (x : PyData) (xs acc : List PyData) (R : List PyData → Prop), I (x :: xs) acc → (∀ a, I xs a → R a) → g x env fun e2 => tt e2 fun c => if c = true then te e2 fun dv => match frz dv with
      | .d y => acc.length < 100000 ∧ R (acc ++ [y])
      | _ => False
    else R acc) : ∀ (xs acc : List PyData), I xs acc → lcD g tt te env xs acc P
  | [], acc, h => hn acc h
  | x :: xs, acc, h => by
    have q := hc x xs acc (fun a => lcD g tt te env xs a P) h fun a h' => lcD_ind I hn hc xs a h'
    exact q
theorem atD {α : Type} {xs : List α} {z : Int} {j : Nat} {v : α} (e : z = (j : Int)) (h : xs[j]? = some v) : atI xs z = some v := by
  subst e
  exact atI_nat h
theorem pick {xs : List PyData} {r : Int} {P : DV → Prop} (h0 : 0 ≤ r) (h1 : r < xs.length) (h : ∀ z, z ∈ xs → P (.d z)) : gIx (.list xs) (.int r) P := by
  have hr : r.toNat < xs.length := by omega
  have ez : r = ((r.toNat : Nat) : Int) := by omega
  have e : atI xs r = some xs[r.toNat] := atD ez (List.getElem?_eq_getElem hr)
  show (match atI xs r with
    | some z => P (.d z)
    | none => False)
  rw [e]
  exact h _ (List.getElem_mem hr)
theorem pickT {xs : List PyData} {r : Int} {P : DV → Prop} (h0 : 0 ≤ r) (h1 : r < xs.length) (h : ∀ z, z ∈ xs → P (.d z)) : gIx (.tuple xs) (.int r) P := by
  have hr : r.toNat < xs.length := by omega
  have ez : r = ((r.toNat : Nat) : Int) := by omega
  have e : atI xs r = some xs[r.toNat] := atD ez (List.getElem?_eq_getElem hr)
  show (match atI xs r with
    | some z => P (.d z)
    | none => False)
  rw [e]
  exact h _ (List.getElem_mem hr)
theorem at0 {α : Type} (x : α) (xs : List α) : atI (x :: xs) 0 = some x := atI_nat (j := 0) rfl
theorem at1 {α : Type} (x y : α) (xs : List α) : atI (x :: y :: xs) 1 = some y := atI_nat (j := 1) rfl
theorem at2 {α : Type} (x y z : α) (xs : List α) : atI (x :: y :: z :: xs) 2 = some z := atI_nat (j := 2) rfl
def isWh : PyData → Bool
  | .int _ => true
  | _ => false
end Dl
namespace Dl
open PySem PySem.Spec PyProof.Rows L2
/-! ### whole numbers and fractions -/
theorem gcd_turn (a b : Int) (ha : 0 ≤ a) (hb : 0 < b) : Int.gcd b (a.fmod b) = Int.gcd a b ∧ 0 ≤ a.fmod b ∧ a.fmod b < b := by
  rw [Int.fmod_eq_emod_of_nonneg a (Int.le_of_lt hb)]
  refine ⟨?_, Int.emod_nonneg _ (by omega), Int.emod_lt_of_pos _ hb⟩
  obtain ⟨m, rfl⟩ := Int.eq_ofNat_of_zero_le ha
  obtain ⟨n, rfl⟩ := Int.eq_ofNat_of_zero_le (Int.le_of_lt hb)
  show Nat.gcd n (m % n) = Nat.gcd m n
  rw [Nat.gcd_comm, ← Nat.gcd_rec, Nat.gcd_comm]
theorem log_lt {n k : Nat} (hk : 0 < k) (h : n < 2 ^ k) : n.log2 < k := by
  rcases Nat.eq_zero_or_pos n with z | z
  · subst z; simpa using hk
  · exact (Nat.log2_lt (by omega)).mpr h
theorem lt_two {n k : Nat} (h : n.log2 < k) : n < 2 ^ k := by
  rcases Nat.eq_zero_or_pos n with z | z
  · subst z; exact Nat.two_pow_pos _
  · exact (Nat.log2_lt (by omega)).mp h
theorem log_le {n k : Nat} (h : n < 2 ^ k) (hk : 0 < k) (hm : k ≤ 9000) : n.log2 < 9000 := Nat.lt_of_lt_of_le (log_lt hk h) hm
theorem two_le {n k m : Nat} (h : n < 2 ^ k) (hk : k ≤ m) : n < 2 ^ m := Nat.lt_of_lt_of_le h (Nat.pow_le_pow_right (by decide) hk)
theorem allD_rep (n : Nat) {k : List PyData → Prop} (h : k (List.replicate n (.bool true))) : allD (List.replicate n (.d (.bool true))) k := by
  induction n generalizing k with
  | zero => exact h
  | succ n ih => exact ih (k := fun xs => k (.bool true :: xs)) h
theorem gcd_pos {t b : Int} (hb : b ≠ 0) : 0 < Int.gcd t b := Int.gcd_pos_of_ne_zero_right _ hb
theorem gcd_le {t b : Int} (hb : b ≠ 0) : Int.gcd t b ≤ b.natAbs := Nat.le_of_dvd (by omega) (Nat.gcd_dvd_right _ _)
theorem mul_log {a b : Int} {m n : Nat} (ha : a.natAbs < 2 ^ m) (hb : b.natAbs < 2 ^ n) (hm : 0 < m) (hn : 0 < n) (h : m + n < 1000000) : a.natAbs.log2 + b.natAbs.log2 < 1000000 := by
  have h1 := log_lt hm ha
  have h2 := log_lt hn hb
  omega
theorem natAbs_mul_lt {a b : Int} {m n : Nat} (ha : a.natAbs < 2 ^ m) (hb : b.natAbs < 2 ^ n) : (a * b).natAbs < 2 ^ (m + n) := by
  rw [Int.natAbs_mul, Nat.pow_add]
  exact Nat.mul_lt_mul'' ha hb
theorem natAbs_add_lt {a b : Int} {m : Nat} (ha : a.natAbs < 2 ^ m) (hb : b.natAbs < 2 ^ m) : (a + b).natAbs < 2 ^ (m + 1) := by
  rw [Nat.pow_succ]
  omega
theorem sgn {z : PyData} (h : z ∈ [PyData.int 1, PyData.int (-1)]) : ∃ s : Int, z = .int s ∧ s.natAbs = 1 := by
  simp only [List.mem_cons, List.not_mem_nil, or_false] at h
  rcases h with rfl | rfl
  · exact ⟨1, rfl, rfl⟩
  · exact ⟨-1, rfl, rfl⟩
theorem small2 (a b : Int) : SeqAt.shaped (.tuple [.int a, .int b]) = true := by
  simp [SeqAt.shaped, PyData.canLay0, PyData.canLayAll0, PyData.depth, PyData.depthAll]
theorem eqv2 (a b c d : Int) : (PyData.tuple [.int a, .int b]).eqv (.tuple [.int c, .int d]) = (decide (a = c) && decide (b = d)) := by
  simp [PyData.eqv, PyData.eqvAll, Bool.beq_eq_decide_eq]
theorem same2 (a b : Int) : (PyData.tuple [.int a, .int b]).eqv (.tuple [.int a, .int b]) = true := by
  simp [PyData.eqv, PyData.eqvAll]
/-- p / q in lowest terms -/
structure Frac (p q : Int) : Prop where
  pos : 0 < q
  low : Int.gcd p q = 1
/-- only one fraction in lowest terms is as much -/
theorem Frac.one {p q u v : Int} (f : Frac p q) (g : Frac u v) (h : p * v = u * q) : p = u ∧ q = v := by
  have hq := f.pos
  have hv := g.pos
  have n1 : p.natAbs * v.natAbs = u.natAbs * q.natAbs := by rw [← Int.natAbs_mul, ← Int.natAbs_mul, h]
  have d1 : q.natAbs ∣ v.natAbs := by
    have z : q.natAbs ∣ p.natAbs * v.natAbs := ⟨u.natAbs, by rw [n1, Nat.mul_comm]⟩
    exact Nat.Coprime.dvd_of_dvd_mul_left (by rw [Nat.Coprime, Nat.gcd_comm]; exact f.low) z
  have d2 : v.natAbs ∣ q.natAbs := by
    have z : v.natAbs ∣ u.natAbs * q.natAbs := ⟨p.natAbs, by rw [← n1, Nat.mul_comm]⟩
    exact Nat.Coprime.dvd_of_dvd_mul_left (by rw [Nat.Coprime, Nat.gcd_comm]; exact g.low) z
  have e : q.natAbs = v.natAbs := Nat.dvd_antisymm d1 d2
  have e2 : q = v := by omega
  subst e2
  exact ⟨Int.eq_of_mul_eq_mul_right (by omega) h, rfl⟩
/-- the parts of a fraction in lowest terms divide those of any that is as much -/
theorem Frac.le {p q t b : Int} (f : Frac p q) (hb : b ≠ 0) (h : t * q = b * p) : q.natAbs ≤ b.natAbs ∧ p.natAbs ≤ t.natAbs := by
  have hq := f.pos
  have n1 : t.natAbs * q.natAbs = b.natAbs * p.natAbs := by rw [← Int.natAbs_mul, ← Int.natAbs_mul, h]
  have d1 : q.natAbs ∣ b.natAbs := by
    have z : q.natAbs ∣ p.natAbs * b.natAbs := ⟨t.natAbs, by rw [Nat.mul_comm p.natAbs, ← n1, Nat.mul_comm]⟩
    exact Nat.Coprime.dvd_of_dvd_mul_left (by rw [Nat.Coprime, Nat.gcd_comm]; exact f.low) z
  refine ⟨Nat.le_of_dvd (by omega) d1, ?_⟩
  obtain ⟨k, hk⟩ := d1
  have e : t.natAbs = k * p.natAbs := by
    refine Nat.eq_of_mul_eq_mul_right (show 0 < q.natAbs by omega) ?_
    rw [n1, hk, Nat.mul_assoc, Nat.mul_comm]
  rw [e]
  refine Nat.le_mul_of_pos_left _ ?_
  rcases Nat.eq_zero_or_pos k with z | z
  · rw [z] at hk; omega
  · exact z
/-- what a top parted by a bottom is, in lowest terms -/
def loT (t b : Int) : Int := if b < 0 then -(t / Int.gcd t b) else t / Int.gcd t b
def loB (t b : Int) : Int := if b < 0 then -(b / Int.gcd t b) else b / Int.gcd t b
theorem lo_ok {t b : Int} (hb : b ≠ 0) : Frac (loT t b) (loB t b) ∧ t * loB t b = b * loT t b := by
  have hp : 0 < Int.gcd t b := gcd_pos hb
  obtain ⟨u, hu⟩ : ((Int.gcd t b : Nat) : Int) ∣ t := Int.gcd_dvd_left _ _
  obtain ⟨v, hv⟩ : ((Int.gcd t b : Nat) : Int) ∣ b := Int.gcd_dvd_right _ _
  have hp' : (0 : Int) < (Int.gcd t b : Nat) := by omega
  have e1 : t / (Int.gcd t b : Nat) = u := Int.ediv_eq_of_eq_mul_right (by omega) hu
  have e2 : b / (Int.gcd t b : Nat) = v := Int.ediv_eq_of_eq_mul_right (by omega) hv
  have co : Int.gcd u v = 1 := by
    have h1 := Nat.coprime_div_gcd_div_gcd (m := t.natAbs) (n := b.natAbs) hp
    have h2 : u.natAbs = t.natAbs / Int.gcd t b := by
      rw [← e1, Int.natAbs_ediv_of_dvd ⟨u, hu⟩, Int.natAbs_natCast]
    have h3 : v.natAbs = b.natAbs / Int.gcd t b := by
      rw [← e2, Int.natAbs_ediv_of_dvd ⟨v, hv⟩, Int.natAbs_natCast]
    show Nat.gcd u.natAbs v.natAbs = 1
    rw [h2, h3]
    exact h1
  have xy : t * v = b * u := by
    conv => lhs; rw [hu]
    conv => rhs; rw [hv]
    rw [Int.mul_assoc, Int.mul_assoc, Int.mul_comm u v]
  unfold loT loB
  rw [e1, e2]
  by_cases hn : b < 0
  · rw [if_pos hn, if_pos hn]
    refine ⟨⟨?_, by rw [Int.neg_gcd, Int.gcd_neg]; exact co⟩, by rw [Int.mul_neg, Int.mul_neg, xy]⟩
    have z : ¬ 0 ≤ v := fun h => by
      have := Int.mul_nonneg (Int.le_of_lt hp') h
      omega
    omega
  · rw [if_neg hn, if_neg hn]
    refine ⟨⟨?_, co⟩, xy⟩
    have z : ¬ v ≤ 0 := fun h => by
      have h2 := Int.mul_nonneg (Int.le_of_lt hp') (show 0 ≤ -v by omega)
      rw [Int.mul_neg] at h2
      omega
    omega
theorem lo_mul {t b p : Int} (hb : b ≠ 0) (hp : p ≠ 0) : loT (t * p) (b * p) = loT t b ∧ loB (t * p) (b * p) = loB t b := by
  obtain ⟨a1, a2⟩ := lo_ok (t := t) hb
  obtain ⟨b1, b2⟩ := lo_ok (t := t * p) (b := b * p) (Int.mul_ne_zero hb hp)
  refine b1.one a1 ?_
  have e : t * loB (t * p) (b * p) = b * loT (t * p) (b * p) := by
    refine Int.eq_of_mul_eq_mul_right hp ?_
    rw [Int.mul_right_comm, b2, Int.mul_right_comm]
  refine Int.eq_of_mul_eq_mul_left hb ?_
  rw [← Int.mul_assoc, ← e, Int.mul_right_comm, a2, Int.mul_assoc]
/-- a fraction, among any data -/
def isFr : PyData → Bool
  | .tuple [.int p, .int q] => decide (0 < q) && decide (Int.gcd p q = 1)
  | _ => false
theorem isFr_of {p q : Int} (f : Frac p q) : isFr (.tuple [.int p, .int q]) = true := by
  simp [isFr, f.pos, f.low]
theorem of_isFr {x : PyData} (h : isFr x = true) : ∃ p q, x = .tuple [.int p, .int q] ∧ Frac p q := by
  unfold isFr at h
  split at h
  · next p q =>
    rw [Bool.and_eq_true, decide_eq_true_eq, decide_eq_true_eq] at h
    exact ⟨p, q, rfl, h.1, h.2⟩
  · cases h
/-- the sum of two fractions, by their bottoms' common part -/
theorem sum_ok {p q u v : Int} (f : Frac p q) (g : Frac u v) {c part top rest : Int} (hc : c = Int.gcd q v) (hpart : part = q / c) (htop : top = p * (v / c) + u * part) (hrest : rest = Int.gcd top c) :
    0 < c ∧ c.natAbs ≤ q.natAbs ∧ c ∣ q ∧ c ∣ v ∧ 0 < rest ∧ rest.natAbs ≤ c.natAbs ∧ rest ∣ top ∧ rest ∣ v ∧ Frac (top / rest) (part * (v / rest)) ∧ (p * v + u * q) * (part * (v / rest)) = (q * v) * (top / rest) := by
  have hq := f.pos
  have hv := g.pos
  have c0 : 0 < Int.gcd q v := gcd_pos (by omega)
  have hcp : 0 < c := by omega
  have dq : c ∣ q := by rw [hc]; exact Int.gcd_dvd_left _ _
  have dv : c ∣ v := by rw [hc]; exact Int.gcd_dvd_right _ _
  have r0 : 0 < Int.gcd top c := gcd_pos (by omega)
  have hrp : 0 < rest := by omega
  have dt : rest ∣ top := by rw [hrest]; exact Int.gcd_dvd_left _ _
  have drc : rest ∣ c := by rw [hrest]; exact Int.gcd_dvd_right _ _
  obtain ⟨a, ha⟩ := dq
  obtain ⟨b, hb⟩ := dv
  obtain ⟨d, hd⟩ := drc
  obtain ⟨e, he⟩ := dt
  have ea : q / c = a := Int.ediv_eq_of_eq_mul_right (by omega) ha
  have eb : v / c = b := Int.ediv_eq_of_eq_mul_right (by omega) hb
  have evr : v / rest = d * b := Int.ediv_eq_of_eq_mul_right (by omega) (by rw [← Int.mul_assoc, ← hd]; exact hb)
  have etr : top / rest = e := Int.ediv_eq_of_eq_mul_right (by omega) he
  rw [eb] at htop
  rw [ea] at hpart
  subst hpart
  have pa : 0 < part := by
    have z : ¬ part ≤ 0 := fun h => by
      have := Int.mul_nonneg (Int.le_of_lt hcp) (show 0 ≤ -part by omega)
      rw [Int.mul_neg] at this
      omega
    omega
  have pb : 0 < b := by
    have z : ¬ b ≤ 0 := fun h => by
      have := Int.mul_nonneg (Int.le_of_lt hcp) (show 0 ≤ -b by omega)
      rw [Int.mul_neg] at this
      omega
    omega
  have pd : 0 < d := by
    have z : ¬ d ≤ 0 := fun h => by
      have := Int.mul_nonneg (Int.le_of_lt hrp) (show 0 ≤ -d by omega)
      rw [Int.mul_neg] at this
      omega
    omega
  -- what has no common part
  have ab : Nat.Coprime part.natAbs b.natAbs := by
    have h1 := Nat.coprime_div_gcd_div_gcd (m := q.natAbs) (n := v.natAbs) c0
    have h2 : q.natAbs / q.natAbs.gcd v.natAbs = part.natAbs := by
      have : q.natAbs = (q.natAbs.gcd v.natAbs) * part.natAbs := by
        conv => lhs; rw [ha, Int.natAbs_mul]
        rw [show c.natAbs = q.natAbs.gcd v.natAbs by rw [hc]; rfl]
      exact Nat.div_eq_of_eq_mul_right c0 this
    have h3 : v.natAbs / q.natAbs.gcd v.natAbs = b.natAbs := by
      have : v.natAbs = (q.natAbs.gcd v.natAbs) * b.natAbs := by
        conv => lhs; rw [hb, Int.natAbs_mul]
        rw [show c.natAbs = q.natAbs.gcd v.natAbs by rw [hc]; rfl]
      exact Nat.div_eq_of_eq_mul_right c0 this
    rw [h2, h3] at h1
    exact h1
  have ap : Nat.Coprime p.natAbs part.natAbs := Nat.Coprime.coprime_dvd_right ⟨c.natAbs, by rw [ha, Int.natAbs_mul, Nat.mul_comm]⟩ (show Nat.Coprime p.natAbs q.natAbs from f.low)
  have ub : Nat.Coprime u.natAbs b.natAbs := Nat.Coprime.coprime_dvd_right ⟨c.natAbs, by rw [hb, Int.natAbs_mul, Nat.mul_comm]⟩ (show Nat.Coprime u.natAbs v.natAbs from g.low)
  have tpart : Int.gcd top part = 1 := by
    rw [htop, Int.gcd_comm, Int.gcd_add_mul_right_right]
    rw [Int.gcd_comm]
    show Nat.gcd (p * b).natAbs part.natAbs = 1
    rw [Int.natAbs_mul]
    exact Nat.Coprime.mul_left ap ab.symm
  have tb : Int.gcd top b = 1 := by
    rw [htop, Int.add_comm, Int.gcd_comm, Int.gcd_add_mul_right_right]
    rw [Int.gcd_comm]
    show Nat.gcd (u * part).natAbs b.natAbs = 1
    rw [Int.natAbs_mul]
    exact Nat.Coprime.mul_left ub ab
  have ed : Nat.Coprime e.natAbs d.natAbs := by
    have h1 := Nat.coprime_div_gcd_div_gcd (m := top.natAbs) (n := c.natAbs) r0
    have er : rest.natAbs = top.natAbs.gcd c.natAbs := by rw [hrest]; rfl
    have h2 : top.natAbs / top.natAbs.gcd c.natAbs = e.natAbs := Nat.div_eq_of_eq_mul_right r0 (by rw [← er]; conv => lhs; rw [he, Int.natAbs_mul])
    have h3 : c.natAbs / top.natAbs.gcd c.natAbs = d.natAbs := Nat.div_eq_of_eq_mul_right r0 (by rw [← er]; conv => lhs; rw [hd, Int.natAbs_mul])
    rw [h2, h3] at h1
    exact h1
  have et : e.natAbs ∣ top.natAbs := ⟨rest.natAbs, by rw [he, Int.natAbs_mul, Nat.mul_comm]⟩
  have ep : Nat.Coprime e.natAbs part.natAbs := Nat.Coprime.coprime_dvd_left et tpart
  have ebb : Nat.Coprime e.natAbs b.natAbs := Nat.Coprime.coprime_dvd_left et tb
  refine ⟨hcp, ?_, ⟨part, ha⟩, ⟨b, hb⟩, hrp, ?_, ⟨e, he⟩, ⟨d * b, by rw [← Int.mul_assoc, ← hd]; exact hb⟩, ⟨?_, ?_⟩, ?_⟩
  · rw [ha, Int.natAbs_mul]
    exact Nat.le_mul_of_pos_right _ (by omega)
  · rw [hd, Int.natAbs_mul]
    exact Nat.le_mul_of_pos_right _ (by omega)
  · rw [evr]
    exact Int.mul_pos pa (Int.mul_pos pd pb)
  · rw [etr, evr]
    show Nat.gcd e.natAbs (part * (d * b)).natAbs = 1
    rw [Int.natAbs_mul, Int.natAbs_mul]
    exact Nat.Coprime.mul_right ep (Nat.Coprime.mul_right ed ebb)
  · rw [etr, evr]
    have h1 : p * v + u * q = c * top := by
      rw [htop, Int.mul_add, hb, ha, ← Int.mul_assoc, ← Int.mul_assoc, ← Int.mul_assoc, Int.mul_comm p c, Int.mul_assoc, Int.mul_comm u c, Int.mul_assoc]
    rw [h1, he]
    have h2 : q * v = (c * part) * (rest * (d * b)) := by
      rw [show rest * (d * b) = v by rw [← Int.mul_assoc, ← hd]; exact hb.symm, ← ha]
    rw [h2]
    simp only [Int.mul_assoc, Int.mul_comm, Int.mul_left_comm]
end Dl
namespace Dl
open PySem PySem.Spec PyProof.Rows L2
/-! ### n.bit_length() -/
def tBitLen (te : DT) : DT := fun env P => te env fun u => rd u fun x => match x with
  | .int i => P (.d (.int (Builtin.Int.intBits i : Nat)))
  | _ => False
theorem d_bitlen {X : Cx} {w : Wn} {e : Expr} {te : DT} {apos pos : Pos} (he : DPE X w e te) (hbase : attributeBase e "bit_length" X.env (eval e X.env) = eval e X.env := by rfl) (hline : (apos.endLine == pos.line) = true := by rfl) : DPE X w (.Call (.Attribute e "bit_length" apos) [] [] pos) (tBitLen te) :=
  pe_weak (pe_bits he hbase hline) fun σ H Q ⟨env, F, P, r, h, q⟩ => ⟨env, F, _, r, h, fun dv v F1 H1 s1 r1 h1 => by
    obtain ⟨x, x1, h1⟩ := rd_ok r1 h1
    split at h1
    · next i => exact ⟨i, x1.int, q (.d (.int _)) _ F1 H1 s1 (.int _) h1⟩
    · exact h1.elim⟩
theorem bits_le {i : Int} {k : Nat} (h : ¬ ((k : Int) < (Builtin.Int.intBits i : Nat))) : i.natAbs < 2 ^ k := by
  unfold Builtin.Int.intBits at h
  split at h
  · next e => rw [show i.natAbs = 0 by simpa using e]; exact Nat.two_pow_pos _
  · exact lt_two (by omega)
/-! ### an index that stands in the text -/
theorem gi0 (x : PyData) (xs : List PyData) (P : DV → Prop) : gIx (.tuple (x :: xs)) (.int 0) P = P (.d x) := by simp only [gIx, at0]
theorem gi1 (x y : PyData) (xs : List PyData) (P : DV → Prop) : gIx (.tuple (x :: y :: xs)) (.int 1) P = P (.d y) := by simp only [gIx, at1]
theorem gi2 (x y z : PyData) (xs : List PyData) (P : DV → Prop) : gIx (.tuple (x :: y :: z :: xs)) (.int 2) P = P (.d z) := by simp only [gIx, at2]
theorem li0 (x : PyData) (xs : List PyData) (P : DV → Prop) : gIx (.list (x :: xs)) (.int 0) P = P (.d x) := by simp only [gIx, at0]
theorem li1 (x y : PyData) (xs : List PyData) (P : DV → Prop) : gIx (.list (x :: y :: xs)) (.int 1) P = P (.d y) := by simp only [gIx, at1]
theorem li2 (x y z : PyData) (xs : List PyData) (P : DV → Prop) : gIx (.list (x :: y :: z :: xs)) (.int 2) P = P (.d z) := by simp only [gIx, at2]
/-- one statement, then the rest: not by reduction, for the kernel's sake -/
theorem sqD (t u : DS) (d : DK) (env : List Sl) : tSeqD t u d env = t { d with nx := u d } env := propext ⟨fun h => h, fun h => h⟩
section
variable (i : Nat) (g1 : G1) (g : G2) (gc : GC) (ta tb te : DT) (t u : DTT) (da : DA) (p q : DS) (d : DK) (env : List Sl) (P : DV → Prop) (B : Bool → Prop)
theorem stE : tSetD i te d env = te env fun dv => stD i dv env d.nx := propext ⟨fun h => h, fun h => h⟩
theorem biE : tBin g ta tb env P = ta env fun u => rd u fun x => tb env fun z => rd z fun y => g x y P := propext ⟨fun h => h, fun h => h⟩
theorem unE : tUnD g1 ta env P = ta env fun u => rd u fun x => g1 x P := propext ⟨fun h => h, fun h => h⟩
theorem caE : tCallD gc da env P = da env fun us => gc us P := propext ⟨fun h => h, fun h => h⟩
theorem tuE : tTupD da env P = da env fun us => allD us fun xs => xs.length ≤ 100000 ∧ P (.d (.tuple xs)) := propext ⟨fun h => h, fun h => h⟩
theorem liE : tLstD da env P = da env fun us => allD us fun xs => xs.length ≤ 100000 ∧ P (.fr xs) := propext ⟨fun h => h, fun h => h⟩
theorem ifE : tIfD t p q d env = t env fun k => if k = true then p d env else q d env := propext ⟨fun h => h, fun h => h⟩
theorem orE : tOrD t u env B = t env fun c => if c = true then B true else u env B := propext ⟨fun h => h, fun h => h⟩
theorem anE : tAndD t u env B = t env fun c => if c = true then u env B else B false := propext ⟨fun h => h, fun h => h⟩
theorem noE : tNotD t env B = t env fun c => B (!c) := propext ⟨fun h => h, fun h => h⟩
theorem tsE : tTst te env B = te env fun u => isB u B := propext ⟨fun h => h, fun h => h⟩
theorem trE : tTru te env B = te env fun u => rd u fun x => truOk x ∧ B (truD x) := propext ⟨fun h => h, fun h => h⟩
theorem itE : tIteD t ta tb env P = t env fun c => if c = true then ta env P else tb env P := propext ⟨fun h => h, fun h => h⟩
theorem cdE (x : PyData) : tCD x env P = P (.d x) := propext ⟨fun h => h, fun h => h⟩
theorem nlE (R : List DV → Prop) : tNilD env R = R [] := propext ⟨fun h => h, fun h => h⟩
theorem coE (tr : DA) (R : List DV → Prop) : tConsD te tr env R = te env fun u => tr env fun us => R (frz u :: us) := propext ⟨fun h => h, fun h => h⟩
theorem usE (sp : DSp) : tUse sp da env P = da env fun us => sp (us.map dat) fun r => okR us r ∧ P r := propext ⟨fun h => h, fun h => h⟩
theorem foE (gg : DG) (ti : DIt) : tForD gg ti p d env = ti env fun xs => forD gg p d xs env := propext ⟨fun h => h, fun h => h⟩
theorem rdE (x : PyData) (R : PyData → Prop) : rd (.d x) R = R x := propext ⟨fun h => h, fun h => h⟩
theorem re1 (x : PyData) : tRetD (fun _ P => P (.d x)) d env = d.rt (.d x) := propext ⟨fun h => h, fun h => h⟩
theorem sdE (x : PyData) (k : List Sl → Prop) : stD i (.d x) env k = k (env.set i (.d x)) := propext ⟨fun h => h, fun h => h⟩
end
theorem reE (te : DT) (d : DK) (env : List Sl) : tRetD te d env = te env fun dv => match dv with
  | .ow _ _ => False
  | .tr _ _ _ => False
  | x => d.rt x := propext ⟨fun h => h, fun h => h⟩
theorem vaE (i : Nat) (env : List Sl) (P : DV → Prop) : tVarD i env P = match env[i]? with
  | some (.d x) => P (.d x)
  | some (.ow l xs) => P (.ow l xs)
  | some (.tr p S x) => P (.tr p S x)
  | some (.raw v) => P (.raw v)
  | some .bag => P .bag
  | _ => False := propext ⟨fun h => h, fun h => h⟩
end Dl
namespace Dl
open PySem PySem.Spec PyProof.Rows L2
/-! ### an empty dict, repr, str -/
section
variable {X : Cx} {w : Wn} {pos : Pos}
def tEmp : DT := fun _ P => P (.d (.dict []))
theorem d_emp : DPE X w (.Dict [] [] pos) tEmp := pe_weak pe_dnewK fun σ H Q ⟨env, F, P, r, h, q⟩ => fun p hp =>
  q (.d (.dict [])) _ _ _ (r.wd.laid hp) (res_d (Rp.dct (kvs := []) upd_same .nil .nil)) h
end
mutual
/-- data without objects of classes -/
def realD : PyData → Bool
  | .none => true
  | .bool _ => true
  | .int _ => true
  | .str _ => true
  | .list xs => realA xs
  | .tuple xs => realA xs
  | .dict kvs => realK kvs
def realA : List PyData → Bool
  | [] => true
  | x :: xs => realD x && realA xs
def realK : List (PyData × PyData) → Bool
  | [] => true
  | (k, x) :: r => (match k with | .int _ => true | .str _ => true | _ => false) && realD x && realK r
end
section
variable {X : Cx} {pins : List (Addr × Obj)} {σ : L2.St} {H : Hp} {s : Shared}
theorem keys_read {h : Heap} {P : Program} {w : World} {K : PySem.W.Frag} {F : Hp} {kvs : List (Key × V)} {vs : List (Key × Value)} (t : KV kvs vs) : ∀ {es : List DictEntry} {ks : List PyData}, Pairs (mixKind P w) es vs → RpA K F (kvs.map fun p => kV p.1) ks → ReadsAll h (es.map (·.key)) ks [] ∧ Vals (kvs.map Prod.snd) (es.map (·.val)) ∧
    ∀ (P : Program) (w : World), PyData.showableAll ks = true → (∀ t ∈ PyData.shownAll ks, t.length ≤ sizeLine) → ∃ bs, ReadAtMost h (PyData.depthAll ks) bs ∧ ReprAllK P w bs h (PyData.depthAll ks) (es.map (·.key)) (PyData.shownAll ks) := by
  induction t with
  | nil =>
    intro es ks p a
    cases p
    cases a
    refine ⟨.nil, .nil, fun P w _ _ => ⟨[], (fun _ m => nomatch m), ?_⟩⟩
    simp only [PyData.shownAll]
    exact .nil
  | @cons x y kvs vs c t ih =>
    intro es ks p a
    obtain ⟨k, v⟩ := x
    obtain ⟨ck, cv⟩ := c
    cases es with
    | nil => cases p
    | cons en es =>
      cases p with
      | cons p1 p2 p3 =>
        cases a with
        | cons a r =>
          obtain ⟨q1, q2, q3⟩ := ih p3 r
          rw [← ck] at p1
          rw [List.map_cons]
          have a : Rp K F (kV k) _ := a
          rcases keyIs_shape p1 with ⟨i, tk, e1, e2⟩ | ⟨z, tk, e1, e2⟩
          · have e1 : k = .inl i := e1
            subst e1
            cases a
            rw [e2]
            refine ⟨.cons (as := []) (Reads.int i tk) q1, .cons (show RelV v en.val by rw [p2]; exact cv) q2, fun P w c z => ?_⟩
            simp only [PyData.showableAll, Bool.and_eq_true] at c
            obtain ⟨bs, b1, b2⟩ := q3 P w c.2 (fun t ht => z t (by simp only [PyData.shownAll]; exact List.mem_cons_of_mem _ ht))
            refine ⟨bs, b1.mono (by simp only [PyData.depthAll]; omega), ?_⟩
            simp only [PyData.depthAll, PyData.shownAll]
            refine .cons ?_ (b2.more_le (fun _ m => m) (Nat.le_max_right _ _))
            simp only [PyData.shown]
            exact .of_is (ReprIs.int tk (by simpa [PyData.showable] using c.1)) _ _ _
          · have e1 : k = .inr z := e1
            subst e1
            cases a
            rw [e2]
            refine ⟨.cons (as := []) (Reads.str z tk) q1, .cons (show RelV v en.val by rw [p2]; exact cv) q2, fun P w c l => ?_⟩
            simp only [PyData.showableAll, Bool.and_eq_true] at c
            obtain ⟨bs, b1, b2⟩ := q3 P w c.2 (fun t ht => l t (by simp only [PyData.shownAll]; exact List.mem_cons_of_mem _ ht))
            refine ⟨bs, b1.mono (by simp only [PyData.depthAll]; omega), ?_⟩
            simp only [PyData.depthAll, PyData.shownAll]
            refine .cons ?_ (b2.more_le (fun _ m => m) (Nat.le_max_right _ _))
            have l0 := l _ (by simp only [PyData.shownAll]; exact List.mem_cons_self ..)
            simp only [PyData.shown] at l0 ⊢
            exact .of_is (ReprIs.str z tk l0) _ _ _
theorem zip_keys {α β : Type} : ∀ {ks : List α} {xs : List β}, ks.length = xs.length → (ks.zip xs).map (·.1) = ks ∧ (ks.zip xs).map (·.2) = xs
  | [], [], _ => ⟨rfl, rfl⟩
  | k :: ks, x :: xs, h => by
    obtain ⟨a, b⟩ := zip_keys (ks := ks) (xs := xs) (by simpa using h)
    exact ⟨by rw [List.zip_cons_cons, List.map_cons, a], by rw [List.zip_cons_cons, List.map_cons, b]⟩
theorem real_zip {ks : List PyData} : ∀ {xs : List PyData}, ks.length = xs.length → realK (ks.zip xs) = true → realA xs = true := by
  induction ks with
  | nil => intro xs h _; cases xs with | nil => rfl | cons => simp at h
  | cons k ks ih =>
    intro xs h e
    cases xs with
    | nil => simp at h
    | cons x xs =>
      simp only [List.zip_cons_cons, realK, Bool.and_eq_true] at e
      simp only [realA, Bool.and_eq_true]
      exact ⟨e.1.2, ih (by simpa using h) e.2⟩
/-! the text of data, from what is tracked -/
mutual
theorem rk_of (I : Inv X pins σ H s) : ∀ {v : V} {d : PyData} {u : Value}, Rp X.K H v d → realD d = true → RelV v u → d.showable = true → d.shown.length ≤ sizeLine →
    ∃ as bs, Reads s.heap u d as ∧ ReadAtMost s.heap d.depth bs ∧ ReprK X.prog X.w bs s.heap d.depth u d.shown
  | _, _, _, .non, _, r, _, _ => by
    cases r
    refine ⟨_, [], .none, (fun _ m => nomatch m), ?_⟩
    simp only [PyData.shown]
    exact .of_is ReprIs.none _ _ _
  | _, _, _, .bl b, _, r, _, _ => by
    cases r
    refine ⟨_, [], .bool b, (fun _ m => nomatch m), ?_⟩
    simp only [PyData.shown]
    exact .of_is (ReprIs.bool b) _ _ _
  | _, _, _, .int i, _, r, c, _ => by
    obtain ⟨t, rfl⟩ := r
    refine ⟨_, [], .int i t, (fun _ m => nomatch m), ?_⟩
    simp only [PyData.shown]
    exact .of_is (ReprIs.int t (by simpa [PyData.showable] using c)) _ _ _
  | _, _, _, .str i, _, r, _, z => by
    obtain ⟨t, rfl⟩ := r
    refine ⟨_, [], .str i t, (fun _ m => nomatch m), ?_⟩
    simp only [PyData.shown] at z ⊢
    exact .of_is (ReprIs.str i t z) _ _ _
  | _, _, _, .lst (a := a) (xs := xs) hs ha, f, r, c, z => by
    cases r
    obtain ⟨its, rv, ⟨o, n, ho, hc, _, hd⟩, _⟩ := I.list (SqL.of hs)
    simp only [PyData.shown] at z
    obtain ⟨as, bs, q1, q2, q3⟩ := rka_of I ha (by simpa only [realD] using f) rv (by simpa [PyData.showable] using c) (fun t ht => Nat.le_trans (listText_mem_le ht) z)
    have rd : Reads s.heap (.ref a) (.list xs) _ := .list ho hc hd q1
    have na : a ∉ bs := not_mem_of_deeper rd (by simp only [PyData.depth]; omega) q2
    refine ⟨_, a :: bs, rd, ReadAtMost.cons rd (by simp only [PyData.depth]; omega) q2, ?_⟩
    simp only [PyData.depth, PyData.shown]
    cases its with
    | nil =>
      cases q1
      simp only [PyData.shownAll, listText_nil]
      exact ReprK.listEmpty ho hc hd
    | cons x l => exact ReprK.list ho hc hd na (by simpa using q3.length_eq) fun i y e => q3.item i y (by simpa using e)
  | _, _, _, .tup (a := a) (xs := xs) hs ha, f, r, c, z => by
    cases r
    obtain ⟨its, rv, ⟨o, ho, hc, n, hd⟩, _⟩ := I.tuple hs
    simp only [PyData.shown] at z
    obtain ⟨as, bs, q1, q2, q3⟩ := rka_of I ha (by simpa only [realD] using f) rv (by simpa [PyData.showable] using c) (fun t ht => Nat.le_trans (tupleText_mem_le ht) z)
    have rd : Reads s.heap (.ref a) (.tuple xs) _ := .tuple ho hc hd q1
    have na : a ∉ bs := not_mem_of_deeper rd (by simp only [PyData.depth]; omega) q2
    refine ⟨_, a :: bs, rd, ReadAtMost.cons rd (by simp only [PyData.depth]; omega) q2, ?_⟩
    simp only [PyData.depth, PyData.shown]
    exact ReprK.tuple ho hc hd na q3
  | _, _, _, .dct (a := a) (kvs := kvs) (ks := ks) (xs := xs) h r1 q1, f, r, c, z => by
    obtain ⟨_, hs, vs, kv, o, es, ep, ho, hc, hd, _, hp, _⟩ := dk_of I.hok h
    cases r
    obtain ⟨k1, k2, k3⟩ := keys_read (h := s.heap) kv hp r1
    have le : ks.length = xs.length := by rw [← r1.len, ← q1.len, List.length_map, List.length_map]
    obtain ⟨z1, z2⟩ := zip_keys le
    simp only [PyData.shown] at z
    obtain ⟨c1, c2⟩ := PyData.showableKv_split (ks.zip xs) (by simpa [PyData.showable] using c)
    obtain ⟨as, b2, m1, m2, m3⟩ := rka_of I q1 (real_zip le (by simpa only [realD] using f)) k2 (by rw [z2] at c2; exact c2) (fun t ht => by
      obtain ⟨p, hp, hl⟩ := PyData.shownKv_val_le (ks.zip xs) t (by rw [z2]; exact ht)
      exact Nat.le_trans hl (Nat.le_trans (dictText_mem_le hp) z))
    obtain ⟨b1, n2, n3⟩ := k3 X.prog X.w (by rw [z1] at c1; exact c1) (fun t ht => by
      obtain ⟨p, hp, hl⟩ := PyData.shownKv_key_le (ks.zip xs) t (by rw [z1]; exact ht)
      exact Nat.le_trans hl (Nat.le_trans (dictText_mem_le hp) z))
    have rd : Reads s.heap (.ref a) (.dict (ks.zip xs)) _ := .dict ho hc.1 hd (by rw [z1]; exact k1) (by rw [z2]; exact m1)
    have e1 : PyData.depthAll ks ≤ PyData.depthKv (ks.zip xs) := by have := PyData.depthAll_keys_le (ks.zip xs); rw [z1] at this; exact this
    have e2 : PyData.depthAll xs ≤ PyData.depthKv (ks.zip xs) := by have := PyData.depthAll_vals_le (ks.zip xs); rw [z2] at this; exact this
    have hb : ReadAtMost s.heap (PyData.depthKv (ks.zip xs)) (b1 ++ b2) := (n2.mono e1).append (m2.mono e2)
    have na : a ∉ b1 ++ b2 := not_mem_of_deeper rd (by simp only [PyData.depth]; omega) hb
    refine ⟨_, a :: (b1 ++ b2), rd, ReadAtMost.cons rd (by simp only [PyData.depth]; omega) hb, ?_⟩
    simp only [PyData.depth, PyData.shown, PyData.shownKv_eq]
    rw [z1, z2]
    exact ReprK.dict ho hc.1 hd hs na (ReprEntriesK.of_two es.toList _ _ (n3.more_le (fun _ m => List.mem_append.mpr (.inl m)) e1) (m3.more_le (fun _ m => List.mem_append.mpr (.inr m)) e2))
  | _, _, _, .obj _ _ _ _ _, f, _, _, _ => by simp [obD, realD, realK] at f
theorem rka_of (I : Inv X pins σ H s) : ∀ {vs : List V} {ds : List PyData} {us : List Value}, RpA X.K H vs ds → realA ds = true → Vals vs us → PyData.showableAll ds = true → (∀ t ∈ PyData.shownAll ds, t.length ≤ sizeLine) →
    ∃ as bs, ReadsAll s.heap us ds as ∧ ReadAtMost s.heap (PyData.depthAll ds) bs ∧ ReprAllK X.prog X.w bs s.heap (PyData.depthAll ds) us (PyData.shownAll ds)
  | _, _, _, .nil, _, r, _, _ => by
    cases r
    refine ⟨_, [], .nil, (fun _ m => nomatch m), ?_⟩
    simp only [PyData.shownAll]
    exact .nil
  | _, _, _, .cons (x := d) (xs := ds) h t, f, r, c, z => by
    cases r with
    | cons r1 r2 =>
      rw [realA, Bool.and_eq_true] at f
      have c' : d.showable = true ∧ PyData.showableAll ds = true := by simpa [PyData.showableAll] using c
      obtain ⟨a1, b1, q1, q2, q3⟩ := rk_of I h f.1 r1 c'.1 (z _ (by simp only [PyData.shownAll]; exact List.mem_cons_self ..))
      obtain ⟨a2, b2, p1, p2, p3⟩ := rka_of I t f.2 r2 c'.2 (fun t ht => z t (by simp only [PyData.shownAll]; exact List.mem_cons_of_mem _ ht))
      refine ⟨_, b1 ++ b2, .cons q1 p1, ?_, ?_⟩
      · simp only [PyData.depthAll]
        exact (q2.mono (Nat.le_max_left _ _)).append (p2.mono (Nat.le_max_right _ _))
      · simp only [PyData.depthAll, PyData.shownAll]
        exact .cons ((q3.more fun _ m => List.mem_append.mpr (.inl m)).level_le (Nat.le_max_left _ _)) (p3.more_le (fun _ m => List.mem_append.mpr (.inr m)) (Nat.le_max_right _ _))
end
end
section
variable {X : Cx} {w : Wn} {pos : Pos}
/-- data whose text may be asked for -/
structure Sh (x : PyData) : Prop where
  real : realD x = true
  show_ : x.showable = true
  deep : x.depth ≤ 63
  len : x.shown.length ≤ 100000
def cRepr : GC := fun us P => one us fun u => rd u fun x => Sh x ∧ P (.d (.str x.shown))
theorem k_repr (ag : X.A.guards = some []) (hu : X.A.units + 64 < cLine) : CallR X (.builtin "repr") (lC X.K w.b cRepr) := by
  intro pins s σ H vs us Q I r h
  obtain ⟨F, dvs, P, wd, ar, g, q⟩ := h
  obtain ⟨u, v, rfl, a, g⟩ := one_ok ar g
  obtain ⟨x, hx, sh, g⟩ := arr_rr a g
  obtain ⟨t, rfl, hr⟩ := vals1 r
  have done : ∀ h' (tk tt : Tok), (∀ b o, s.heap.get? b = some o → h'.get? b = some o) → EP X pins σ Q (.str x.shown tt) { s with heap := h', toks := tk } := fun h' tk tt hk =>
    ⟨.str _, H, I.kept hk, ⟨_, rfl⟩, q _ _ F H wd.refl (res_d (.str _)) g⟩
  have hall := hx.all wd.sub
  have z := lim_le sh.len
  have dp := sh.deep
  have real := sh.real
  have show_ := sh.show_
  clear sh g q hx
  cases hall with
  | non => cases hr; exact PySem.P.repr_of_none (done s.heap _ _ fun _ _ e => e)
  | bl b => cases hr; exact PySem.P.repr_of_bool (done s.heap _ _ fun _ _ e => e)
  | int i => obtain ⟨tk, rfl⟩ := hr; exact PySem.P.repr_of_int (by simpa [PyData.showable] using show_) (done s.heap _ _ fun _ _ e => e)
  | str y => obtain ⟨tk, rfl⟩ := hr; exact PySem.P.repr_of_str (done s.heap _ _ fun _ _ e => e) z
  | @lst p vs xs hs ha =>
    cases hr
    obtain ⟨its, rv, ⟨o, n, ho, hc, _, hd⟩, _⟩ := I.list (SqL.of hs)
    simp only [PyData.shown] at z done
    simp only [PyData.depth] at dp
    obtain ⟨as, bs, q1, q2, q3⟩ := rka_of I ha (by simpa only [realD] using real) rv (by simpa [PyData.showable] using show_) (fun t ht => Nat.le_trans (listText_mem_le ht) z)
    have na : p ∉ bs := not_mem_of_deeper (.list ho hc hd q1) (by simp only [PyData.depth]; omega) q2
    refine call_repr_slot (by omega) ⟨o, ho, hc⟩ PySem.F.slot_list_repr.toG ?_
    cases its with
    | nil =>
      cases q1
      simp only [PyData.shownAll, listText_nil] at done
      exact call_list_repr_empty ⟨o, ho, hc⟩ ho hd ⟨_, _, rfl, done s.heap _ _ fun _ _ e => e⟩
    | cons y l =>
      exact call_list_reprK ho hc hd na (by simpa using q3.length_eq) (fun i y e => q3.item i y (by simpa using e)) ag (fun b _ => Clear.nil b) (by show X.A.units + 1 + _ < cLine; omega) (fun _ _ e => e) (fun h' u tk hk => ⟨_, _, rfl, done h' tk u hk⟩) z
  | @tup p vs xs hs ha =>
    cases hr
    obtain ⟨its, rv, ⟨o, ho, hc, n, hd⟩, _⟩ := I.tuple hs
    simp only [PyData.shown] at z done
    simp only [PyData.depth] at dp
    obtain ⟨as, bs, q1, q2, q3⟩ := rka_of I ha (by simpa only [realD] using real) rv (by simpa [PyData.showable] using show_) (fun t ht => Nat.le_trans (tupleText_mem_le ht) z)
    have na : p ∉ bs := not_mem_of_deeper (.tuple ho hc hd q1) (by simp only [PyData.depth]; omega) q2
    refine call_repr_slot (by omega) ⟨o, ho, hc⟩ PySem.F.slot_tuple_repr ?_
    exact call_tuple_reprK ho hc hd na q3 ag (fun b _ => Clear.nil b) (by show X.A.units + 1 + _ < cLine; omega) (fun _ _ e => e) (fun h' u tk hk => ⟨_, _, rfl, done h' tk u hk⟩) z
  | @dct p kvs ks xs h r1 q1 =>
    cases hr
    obtain ⟨_, hs, vs, kv, o, es, ep, ho, hc, hd, _, hp, _⟩ := dk_of I.hok h
    obtain ⟨k1, k2, k3⟩ := keys_read (h := s.heap) kv hp r1
    have le : ks.length = xs.length := by rw [← r1.len, ← q1.len, List.length_map, List.length_map]
    obtain ⟨z1, z2⟩ := zip_keys le
    simp only [PyData.shown] at z done
    simp only [PyData.depth] at dp
    obtain ⟨c1, c2⟩ := PyData.showableKv_split (ks.zip xs) (by simpa [PyData.showable] using show_)
    obtain ⟨as, b2, m1, m2, m3⟩ := rka_of I q1 (real_zip le (by simpa only [realD] using real)) k2 (by rw [z2] at c2; exact c2) (fun t ht => by
      obtain ⟨p, hp, hl⟩ := PyData.shownKv_val_le (ks.zip xs) t (by rw [z2]; exact ht)
      exact Nat.le_trans hl (Nat.le_trans (dictText_mem_le hp) z))
    obtain ⟨b1, n2, n3⟩ := k3 X.prog X.w (by rw [z1] at c1; exact c1) (fun t ht => by
      obtain ⟨p, hp, hl⟩ := PyData.shownKv_key_le (ks.zip xs) t (by rw [z1]; exact ht)
      exact Nat.le_trans hl (Nat.le_trans (dictText_mem_le hp) z))
    have rd : Reads s.heap (.ref p) (.dict (ks.zip xs)) _ := .dict ho hc.1 hd (by rw [z1]; exact k1) (by rw [z2]; exact m1)
    have e1 : PyData.depthAll ks ≤ PyData.depthKv (ks.zip xs) := by have := PyData.depthAll_keys_le (ks.zip xs); rw [z1] at this; exact this
    have e2 : PyData.depthAll xs ≤ PyData.depthKv (ks.zip xs) := by have := PyData.depthAll_vals_le (ks.zip xs); rw [z2] at this; exact this
    have hb : ReadAtMost s.heap (PyData.depthKv (ks.zip xs)) (b1 ++ b2) := (n2.mono e1).append (m2.mono e2)
    have na : p ∉ b1 ++ b2 := not_mem_of_deeper rd (by simp only [PyData.depth]; omega) hb
    simp only [PyData.shownKv_eq] at z done
    rw [z1, z2] at z done
    refine call_repr_slot (by omega) ⟨o, ho, hc.1⟩ PySem.F.slot_dict_repr ?_
    exact call_dict_reprK ho hc.1 hd hs na (ReprEntriesK.of_two es.toList _ _ (n3.more_le (fun _ m => List.mem_append.mpr (.inl m)) e1) (m3.more_le (fun _ m => List.mem_append.mpr (.inr m)) e2)) ag (fun b _ => Clear.nil b) (by show X.A.units + 1 + _ < cLine; omega) (fun _ _ e => e) (fun h' u tk hk => ⟨_, _, rfl, done h' tk u hk⟩) z
  | obj => simp [obD, realD, realK] at real
def cStr : GC := fun us P => one us fun u => rd u fun x => match x with
  | .int i => i.natAbs.log2 < 1920 ∧ P (.d (.str (toString i)))
  | .str z => P (.d (.str z))
  | _ => False
theorem k_str : CallR X (.type "str") (lC X.K w.b cStr) := by
  intro pins s σ H vs us Q I r h
  obtain ⟨F, dvs, P, wd, ar, g, q⟩ := h
  obtain ⟨u, v, rfl, a, g⟩ := one_ok ar g
  obtain ⟨x, hx, g⟩ := arr_rr a g
  split at g
  · cases hx.int
    exact call_str_int pins s σ H _ us Q I r ⟨_, rfl, g.1, q _ _ F H wd.refl (res_d (.str _)) g.2⟩
  · cases hx.str
    exact SkE.call_str_str pins s σ H _ us Q I r ⟨_, rfl, q _ _ F H wd.refl (res_d (.str _)) g⟩
  · exact g.elim
end
/-! ### data whose text is short -/
structure Sn (n k : Nat) (x : PyData) : Prop where
  real : realD x = true
  show_ : x.showable = true
  deep : x.depth ≤ n
  len : x.shown.length ≤ k
theorem Sn.sh {n k : Nat} {x : PyData} (h : Sn n k x) (hn : n ≤ 63 := by decide) (hk : k ≤ 100000 := by decide) : Sh x := ⟨h.real, h.show_, Nat.le_trans h.deep hn, Nat.le_trans h.len hk⟩
theorem Sn.up {n k m l : Nat} {x : PyData} (h : Sn n k x) (hn : n ≤ m := by decide) (hk : k ≤ l := by decide) : Sn m l x := ⟨h.real, h.show_, Nat.le_trans h.deep hn, Nat.le_trans h.len hk⟩
theorem sn_int {i : Int} {j : Nat} (h : i.natAbs < 2 ^ j) (hj : 0 < j := by decide) (hk : j < 1920 := by decide) : Sn 0 (j + 1) (.int i) := by
  have l := log_lt hj h
  refine ⟨by simp only [realD], by simp only [PyData.showable, decide_eq_true_eq]; omega, by simp [PyData.depth], ?_⟩
  show (Str.ofString (toString i)).length ≤ j + 1
  rw [PySem.ofString_length]; exact PySem.int_text_length_le hj l
theorem sn_all {n k : Nat} : ∀ {xs : List PyData}, (∀ x ∈ xs, Sn n k x) → realA xs = true ∧ PyData.showableAll xs = true ∧ PyData.depthAll xs ≤ n ∧ ((PyData.shownAll xs).map (·.length)).sum ≤ xs.length * k ∧ (PyData.shownAll xs).length = xs.length
  | [], _ => by simp [realA, PyData.showableAll, PyData.depthAll, PyData.shownAll]
  | x :: xs, h => by
    obtain ⟨a, b, c, d, e⟩ := sn_all (xs := xs) fun y hy => h y (List.mem_cons_of_mem _ hy)
    have z := h x (List.mem_cons_self ..)
    refine ⟨by rw [realA, z.real, a]; rfl, by rw [PyData.showableAll, z.show_, b]; rfl, ?_, ?_, ?_⟩
    · have := z.deep
      simp only [PyData.depthAll]; omega
    · have := z.len
      simp only [PyData.shownAll, List.map_cons, List.sum_cons, List.length_cons, Nat.add_mul]; omega
    · simp only [PyData.shownAll, List.length_cons, e]
theorem sn_tup {n k m : Nat} {xs : List PyData} (h : ∀ x ∈ xs, Sn n k x) (hm : xs.length ≤ m := by simp) : Sn (n + 1) (m * (k + 2) + 3) (.tuple xs) := by
  obtain ⟨a, b, c, d, e⟩ := sn_all h
  refine ⟨by rw [realD, a], by rw [PyData.showable, b], by simp only [PyData.depth]; omega, ?_⟩
  have q := tupleText_len_le (PyData.shownAll xs)
  have r : xs.length * (k + 2) ≤ m * (k + 2) := Nat.mul_le_mul_right _ hm
  rw [Nat.mul_add] at r
  show (tupleText (PyData.shownAll xs)).length ≤ _
  omega
theorem sn_lst {n k m : Nat} {xs : List PyData} (h : ∀ x ∈ xs, Sn n k x) (hm : xs.length ≤ m := by simp) : Sn (n + 1) (m * (k + 2) + 3) (.list xs) := by
  obtain ⟨a, b, c, d, e⟩ := sn_all h
  refine ⟨by rw [realD, a], by rw [PyData.showable, b], by simp only [PyData.depth]; omega, ?_⟩
  have q := listText_len_le (PyData.shownAll xs)
  have r : xs.length * (k + 2) ≤ m * (k + 2) := Nat.mul_le_mul_right _ hm
  rw [Nat.mul_add] at r
  show (listText (PyData.shownAll xs)).length ≤ _
  omega
theorem sn_bool (b : Bool) : Sn 0 5 (.bool b) := by cases b <;> exact ⟨by simp only [realD], by simp only [PyData.showable], by simp [PyData.depth], by decide⟩
theorem sn_none : Sn 0 4 .none := ⟨by simp only [realD], by simp only [PyData.showable], by simp [PyData.depth], by decide⟩
theorem sn_str {x : Str} {k : Nat} (h : (reprText x).length ≤ k) : Sn 0 k (.str x) := ⟨by simp only [realD], by simp only [PyData.showable], by simp [PyData.depth], h⟩
theorem sh_emp : Sh (.dict []) := ⟨by decide, by decide, by decide, by decide⟩
end Dl
namespace Dl
open PySem PySem.Spec PyProof.Rows L2
/-! ### what no run takes back: a relation of states that every single step keeps -/
structure Kept (r : Shared → Shared → Prop) : Prop where
  same : ∀ s, r s s
  thn : ∀ {a b c}, r a b → r b c → r a c
  heap : ∀ s (h : Heap), r s { s with heap := h }
  toks : ∀ s (n : Tok), r s { s with toks := n }
  drawn : ∀ s (d : Drawn), r s { s with drawn := d }
  os : ∀ s (o : OsState), r s { s with os := o }
  more : ∀ s (x : GenState), r s { s with gens := s.gens.push x }
  put : ∀ s (g : Nat) (x : GenState), r s (s.setGen g x)
section
variable {r : Shared → Shared → Prop} {M : Model} {Γ : PySem.Ctx} {p : Pos} {s s' : Shared}
theorem kept_run (k : Kept r) {t : Sem Fin} {fs : List Frame} {e : End} (h : Runs M Γ p t fs s e s') : r s s' := by
  induction h
  case done => exact k.same _
  case raise => exact k.same _
  case yield => exact k.same _
  case update ih => exact k.thn (k.heap _ _) ih
  case alloc ih => exact k.thn (k.heap _ _) ih
  case fresh ih => exact k.thn (k.toks _ _) ih
  case choose ih => exact k.thn (k.drawn _ _) ih
  case os ih => exact k.thn (k.os _ _) ih
  case newGen ih => exact k.thn (k.more _ _) ih
  case call i1 i2 => exact k.thn i1 i2
  case resumeFresh i1 i2 => exact k.thn (k.thn (k.put _ _ _) i1) (k.thn (k.put _ _ _) i2)
  case resumeSuspended i1 i2 => exact k.thn (k.thn (k.put _ _ _) i1) (k.thn (k.put _ _ _) i2)
  case resumeThrowFresh ih => exact k.thn (k.put _ _ _) ih
  case segRet i1 i2 => exact k.thn i1 i2
  case segGen i1 i2 => exact k.thn i1 (k.thn (k.put _ _ _) i2)
  case segSuspGen i1 i2 => exact k.thn i1 (k.thn (k.put _ _ _) i2)
  all_goals assumption
theorem kept_wake (k : Kept r) {g : Nat} {q : Resume} {res : GenResult} (h : Wakes M Γ p g q s res s') : r s s' := by
  unfold Wakes at h
  split at h
  · exact h.elim
  · split at h
    · obtain ⟨e₁, s₁, hr, _, _, rfl⟩ := h
      exact k.thn (k.thn (k.put _ _ _) (kept_run k hr)) (k.put _ _ _)
    · rw [h.2]; exact k.same _
    · rw [h.2]; exact k.put _ _ _
  · obtain ⟨e₁, s₁, hr, _, _, rfl⟩ := h
    exact k.thn (k.thn (k.put _ _ _) (kept_run k hr)) (k.put _ _ _)
  · rw [h.2]; exact k.same _
  · rw [h.2]; exact k.same _
theorem kept_wp {α : Type} (k : Kept r) (s₀ : Shared) (t : Sem α) : ∀ {Q : α → Pos → Shared → Prop} {E : Value → Pos → Shared → Prop} {p : Pos} {s : Shared}, r s₀ s → Sem.wp M Γ t Q E p s → Sem.wp M Γ t (fun a p' s' => r s₀ s' ∧ Q a p' s') (fun e p' s' => r s₀ s' ∧ E e p' s') p s := by
  induction t <;> intro Q E p s hr h
  case pure => exact ⟨hr, h⟩
  case raise => exact ⟨hr, h⟩
  case load ih => exact let ⟨o, ho, h⟩ := h; ⟨o, ho, ih o hr h⟩
  case update ih => exact ⟨h.1, ih () (k.thn hr (k.heap _ _)) h.2⟩
  case alloc ih => exact ih _ (k.thn hr (k.heap _ _)) h
  case fresh ih => exact ih _ (k.thn hr (k.toks _ _)) h
  case choose ih => exact ⟨h.1, ih _ (k.thn hr (k.drawn _ _)) h.2⟩
  case os ih => exact ih _ (k.thn hr (k.os _ _)) h
  case call ih => exact let ⟨x, s', hx, h⟩ := h; ⟨x, s', hx, ih x (k.thn hr (kept_run k hx)) h⟩
  case genState ih => exact let ⟨x, hx, h⟩ := h; ⟨x, hx, ih _ hr h⟩
  case newGen ih => exact ih _ (k.thn hr (k.more _ _)) h
  case resume ih => exact let ⟨x, s', hx, h⟩ := h; ⟨x, s', hx, ih x (k.thn hr (kept_wake k hx)) h⟩
  all_goals first | exact h.elim | (rename_i ih; exact ih _ hr h)
theorem kept_any {α : Type} {A : Around} {t : Sem α} {Q : α → Shared → Prop} {E : Value → Shared → Prop} (k : Kept r) (h : wpAny M A t Q E s) : wpAny M A t (fun a s' => r s s' ∧ Q a s') (fun e s' => r s s' ∧ E e s') s :=
  fun Γ p hΓ => kept_wp k s t (k.same s) (h Γ p hΓ)
end
/-- generators are never taken away -/
theorem kept_gens : Kept fun a b => a.gens.size ≤ b.gens.size where
  same := fun _ => Nat.le_refl _
  thn := Nat.le_trans
  heap := fun _ _ => Nat.le_refl _
  toks := fun _ _ => Nat.le_refl _
  drawn := fun _ _ => Nat.le_refl _
  os := fun _ _ => Nat.le_refl _
  more := fun s x => by
    show s.gens.size ≤ (s.gens.push x).size
    rw [Array.size_push]
    exact Nat.le_succ _
  put := fun s g x => by
    show s.gens.size ≤ (s.gens.setIfInBounds g x).size
    rw [Array.size_setIfInBounds]
    exact Nat.le_refl _
end Dl
namespace Dl
open PySem PySem.Spec PyProof.Rows L2
/-! ### a generator expression whose element may call, walked by all() -/
section
variable {prog : Program} {w : World} {A : Around}
/-- item i is handed out; J stands behind it, whatever the table of generators becomes -/
def gY (n₀ : Nat) (F : Nat → Value → Prop) (J : Nat → Shared → Prop) : Protocol := fun n _ v s k =>
  ∃ i, i < n₀ ∧ n + i + 1 = n₀ ∧ F i v ∧ J (i + 1) s ∧ ∀ gs, AllBare gs → k (.send .none) { s with gens := gs }
def gR (D : Shared → Prop) : GenEnd := fun n _ r s => r = .ok .next ∧ n = 0 ∧ D s
/-- where the element stands -/
abbrev loopA (A : Around) (elt tg iter : Expr) (scope : Scope) (pos : Pos) (I : Addr) (cenv : Env) : Around :=
  A.over (.compLoop (.GeneratorExp elt [⟨tg, iter, [], 0⟩] scope pos) 0 (.ref I) .none cenv) []
structure GLoop (prog : Program) (w : World) (A : Around) (elt tg iter : Expr) (scope : Scope) (pos : Pos) (I : Addr) (cenv : Env) (n₀ : Nat) (F : Nat → Value → Prop) (J : Nat → Shared → Prop) (D : Shared → Prop) : Prop where
  gens : ∀ i s gs, J i s → AllBare gs → J i { s with gens := gs }
  turn : ∀ i s E, i < n₀ → J i s → wpAny (model prog w) (loopA A elt tg iter scope pos I cenv) (pyNext (.ref I)) (fun o s₁ => ∃ v, o = some v ∧
    wpAny (model prog w) (loopA A elt tg iter scope pos I cenv) (letOwnedTupleGo tg (.ref I) v) (fun _ s₂ =>
      wpAny (model prog w) (loopA A elt tg iter scope pos I cenv) (assign tg cenv v) (fun _ s₃ =>
        wpAny (model prog w) (loopA A elt tg iter scope pos I cenv) (eval elt cenv) (fun y s₄ => F i y ∧ J (i + 1) s₄) E s₃) E s₂) E s₁) E s
  done : ∀ s E, J n₀ s → wpAny (model prog w) (loopA A elt tg iter scope pos I cenv) (pyNext (.ref I)) (fun o s₁ => o = none ∧ D s₁) E s
  self : ∀ (A' : Around) s Q E, J 0 s → Q (.ref I) s → wpAny (model prog w) A' (pyIter (.ref I)) Q E s
section
variable {elt tg iter : Expr} {scope : Scope} {pos : Pos} {I : Addr} {cenv : Env} {n₀ : Nat} {F : Nat → Value → Prop} {J : Nat → Shared → Prop} {D : Shared → Prop}
theorem seg_gl (hco : cenv.scope.isCoroutine = false) (L : GLoop prog w A elt tg iter scope pos I cenv n₀ F J D) :
    ∀ (k i : Nat) (s₀ s : Shared), k + i = n₀ → J i s →
      Seg (model prog w) A (gR D) (gY n₀ F J) k s₀ (.compLoop (.GeneratorExp elt [⟨tg, iter, [], 0⟩] scope pos) 0 (.ref I) .none cenv)
        ((model prog w).den (.compLoop (.GeneratorExp elt [⟨tg, iter, [], 0⟩] scope pos) 0 (.ref I) .none cenv)) [] s := by
  intro k
  induction k with
  | zero =>
    intro i s₀ s e j
    have : i = n₀ := by omega
    subst this
    show Seg _ A _ _ _ s₀ _ ((compTurn (.GeneratorExp elt [⟨tg, iter, [], 0⟩] scope pos) 0 (.ref I) .none cenv).onRaise (leaving cenv)) [] s
    rw [compTurn_gen, Sem.onRaise_eq_wrap]
    refine seg_bind_wrap (wpAny_standAt ?_)
    refine seg_bind_wrap (wpAny_mono (L.done s _ j) (fun o s₁ q => ?_) fun _ _ z => z)
    obtain ⟨rfl, q⟩ := q
    exact seg_end (.ok .next) ⟨rfl, rfl, q⟩
  | succ k ih =>
    intro i s₀ s e j
    have hi : i < n₀ := by omega
    show Seg _ A _ _ _ s₀ _ ((compTurn (.GeneratorExp elt [⟨tg, iter, [], 0⟩] scope pos) 0 (.ref I) .none cenv).onRaise (leaving cenv)) [] s
    rw [compTurn_gen, Sem.onRaise_eq_wrap]
    refine seg_bind_wrap (wpAny_standAt ?_)
    refine seg_bind_wrap (wpAny_mono (L.turn i s _ hi j) (fun o s₁ q => ?_) fun _ _ z => z)
    obtain ⟨v, rfl, q⟩ := q
    refine seg_bind_wrap (wpAny_mono q (fun _ s₂ q => ?_) fun _ _ z => z)
    refine seg_bind_wrap (wpAny_mono q (fun _ s₂ q => ?_) fun _ _ z => z)
    refine seg_bind_wrap (wpAny_pure ?_)
    simp only [if_true]
    have hy : ∀ u, yieldOut cenv u = yieldValue u := fun u => by simp only [yieldOut, hco, Bool.false_eq_true, if_false]
    simp only [hy]
    rw [Sem.bind_eq_wrap', Sem.bind_eq_wrap', Sem.wrap_wrap, Sem.wrap_wrap]
    refine seg_wrap (wpAny_mono q (fun y s₃ r => ?_) fun _ _ z => z)
    refine seg_at (seg_yield rfl rfl rfl ⟨i, hi, by omega, r.1, r.2, fun gs hb => ?_⟩)
    exact seg_again rfl (ih (i + 1) _ _ (by omega) (L.gens _ _ gs r.2 hb))
theorem seg_gs (hco : cenv.scope.isCoroutine = false) (L : GLoop prog w A elt tg iter scope pos I cenv n₀ F J D) (s₀ s : Shared) (j : J 0 s) :
    Seg (model prog w) A (gR D) (gY n₀ F J) n₀ s₀ (.compStart (.GeneratorExp elt [⟨tg, iter, [], 0⟩] scope pos) 0 (.ref I) .none cenv)
      ((model prog w).den (.compStart (.GeneratorExp elt [⟨tg, iter, [], 0⟩] scope pos) 0 (.ref I) .none cenv)) [] s := by
  have loop := seg_gl hco L n₀ 0 s₀ s (by omega) j
  show Seg _ A _ _ _ s₀ _ ((compStart (.GeneratorExp elt [⟨tg, iter, [], 0⟩] scope pos) 0 (.ref I) .none cenv).onRaise (leaving cenv)) [] s
  unfold compStart
  rw [Sem.onRaise_eq_wrap]
  refine seg_bind_wrap (wpAny_askSetting ?_)
  split
  · exact seg_again rfl loop
  · first
      | exact seg_bind_wrap (wpAny_rule (seg_bind_wrap (wpAny_standAt (seg_bind_wrap (L.self _ s _ _ j (seg_again rfl loop))))))
      | (refine seg_bind_wrap (wpAny_rule ?_); show Seg _ A _ _ _ s₀ _ ((standAt iter.pos >>= _).wrap _ _ _ _) [] s; exact seg_bind_wrap (wpAny_standAt (seg_bind_wrap (L.self _ s _ _ j (seg_again rfl loop)))))
end
theorem bare_put {s : Shared} {g : Nat} {x : GenState} (h : AllBare s.gens) (hx : x.bare = true) : AllBare (s.setGen g x).gens := fun y hy => by
  rcases Array.mem_or_eq_of_mem_setIfInBounds hy with q | q
  · exact h y q
  · rw [q]; exact hx
theorem put_at {s : Shared} {g : Nat} {x : GenState} (h : g < s.gens.size) : (s.setGen g x).gens[g]? = some x := by
  show (s.gens.setIfInBounds g x)[g]? = some x
  simp [h]
/-- the generator g at a, about to tell its item j; c: how its text is reached -/
structure GAt (prog : Program) (w : World) (A : Around) (a : Addr) (g n₀ : Nat) (F : Nat → Value → Prop) (J : Nat → Shared → Prop) (D : Shared → Prop) (j : Nat) (s : Shared) : Prop where
  inv : J j s
  go : ∃ gs, s.gens[g]? = some gs ∧ ∀ gs', AllBare gs' → gs.Goes (model prog w) A.in1 (gR D) (gY n₀ F J) (n₀ - j) (.send .none) { s with gens := gs' }
/-- what all() has of such a generator -/
structure GAll (A : Around) (a : Addr) (g : Nat) (J : Nat → Shared → Prop) (D : Shared → Prop) : Prop where
  hh : A.handled = none
  room : A.depth < recursionLimit
  obj : ∀ j s, J j s → s.heap.IsGen a g ∧ s.heap.NoLimit ∧ AllBare s.gens
  gens : ∀ j s gs, J j s → AllBare gs → J j { s with gens := gs }
  bare : ∀ s, D s → AllBare s.gens
section
variable {a : Addr} {g n₀ j : Nat} {F : Nat → Value → Prop} {J : Nat → Shared → Prop} {D : Shared → Prop} {s : Shared} {Q : Option Value → Shared → Prop} {E : Value → Shared → Prop}
theorem gnext_item (L : GAll A a g J D) (hj : j < n₀) (h : GAt prog w A a g n₀ F J D j s) (hQ : ∀ v s', F j v → GAt prog w A a g n₀ F J D (j + 1) s' → Q (some v) s') : wpAny (model prog w) A (pyNext (.ref a)) Q E s := by
  obtain ⟨hi, gs, hgs, hgo⟩ := h
  obtain ⟨o1, o2, o3⟩ := L.obj _ _ hi
  have hg : g < s.gens.size := by
    rcases Nat.lt_or_ge g s.gens.size with z | z
    · exact z
    · rw [Array.getElem?_eq_none z] at hgs; cases hgs
  obtain ⟨m, hm⟩ : ∃ m, n₀ - j = m + 1 := ⟨n₀ - j - 1, by omega⟩
  refine wpAny_mono (kept_any (Q := fun o s' => s.gens.size ≤ s'.gens.size → Q o s') (E := E) kept_gens ?_) (fun _ _ x => x.2 x.1) fun _ _ x => x.2
  have hgo1 := hgo (s.setGen g .running).gens (bare_put o3 rfl)
  rw [hm] at hgo1
  refine wpAny_pyNext_genexpQ (P := fun n _ s₁ => n = 0 ∧ D s₁) L.hh o2 L.room o1 hgs hgo1 (fun v s₁ gs' hb hv => ?_) fun s₁ hp h' hk => ?_
  · obtain ⟨i, hi, e, hF, hJ, hk⟩ := hv
    have : i = j := by omega
    subst this
    intro hz
    have hz1 : g < s₁.gens.size := by
      have : (s₁.setGen g gs').gens.size = s₁.gens.size := Array.size_setIfInBounds
      omega
    have b1 := (L.obj _ _ hJ).2.2
    refine hQ v _ hF ⟨L.gens _ _ _ hJ (bare_put b1 hb), gs', put_at hz1, fun gs2 hb2 => ?_⟩
    have q := hk gs2 hb2
    have e2 : n₀ - (i + 1) = m := by omega
    rw [e2]
    exact q
  · exact absurd hp.1 (Nat.succ_ne_zero m)
theorem gnext_done (L : GAll A a g J D) (h : GAt prog w A a g n₀ F J D n₀ s) (hQ : ∀ s₁ gs h', D s₁ → AllBare gs → (∀ b o, s₁.heap.get? b = some o → h'.get? b = some o) → Q none { s₁ with gens := gs, heap := h' }) : wpAny (model prog w) A (pyNext (.ref a)) Q E s := by
  obtain ⟨hi, gs, hgs, hgo⟩ := h
  obtain ⟨o1, o2, o3⟩ := L.obj _ _ hi
  have hgo1 := hgo (s.setGen g .running).gens (bare_put o3 rfl)
  rw [Nat.sub_self] at hgo1
  refine wpAny_pyNext_genexpQ (P := fun n _ s₁ => n = 0 ∧ D s₁) L.hh o2 L.room o1 hgs hgo1 (fun v s₁ gs' hb hv => ?_) fun s₁ hp h' hk => ?_
  · obtain ⟨i, hi, e, _, _, hk⟩ := hv
    exact (hk _ AllBare.empty : False).elim
  · exact hQ s₁ _ h' hp.2 (bare_put (L.bare _ hp.2) rfl) hk
/-- all(): to the end, or to the first item that is false -/
theorem gall_loop {tr : Nat → Bool} {R : Result → Shared → Prop} (L : GAll A.in1 a g J D) (hF : ∀ i v, F i v → v = .bool (tr i)) : ∀ (k i : Nat) (s : Shared), n₀ - i = k → i ≤ n₀ → GAt prog w A.in1 a g n₀ F J D i s →
    (∀ j s', i ≤ j → j < n₀ → tr j = false → J (j + 1) s' → R (.ok (.ret (.bool false))) s') → ((∀ j, i ≤ j → j < n₀ → tr j = true) → ∀ s₁ gs h', D s₁ → AllBare gs → (∀ b o, s₁.heap.get? b = some o → h'.get? b = some o) → R (.ok (.ret (.bool true))) { s₁ with gens := gs, heap := h' }) →
    codeAny (model prog w) A (.builtin "all.loop" ⟨[.ref a], []⟩) R s := by
  intro k
  induction k with
  | zero =>
    intro i s hk hi h _ hT
    have hin : i = n₀ := by omega
    subst hin
    refine codeAny_builtin PySem.F.entry_all_loop ?_
    rw [Around.under_plainId PySem.F.plain_all_loop _]
    show wpAny _ A.in1 (pyNext (.ref a) >>= _) _ _ s
    refine wpAny_bind (gnext_done L h fun s₁ gs h' hd hb hk => ?_)
    refine wpAny_bind (wpAny_rule (wpAny_pure ?_))
    exact hT (fun j h1 h2 => absurd h2 (Nat.not_lt.mpr h1)) s₁ gs h' hd hb hk
  | succ k ih =>
    intro i s hk hi h hN hT
    have hlt : i < n₀ := by omega
    refine codeAny_builtin PySem.F.entry_all_loop ?_
    rw [Around.under_plainId PySem.F.plain_all_loop _]
    show wpAny _ A.in1 (pyNext (.ref a) >>= _) _ _ s
    refine wpAny_bind (gnext_item L hlt h fun v s' hv h' => ?_)
    have := hF i v hv
    subst this
    refine wpAny_bind (wpAny_holding (wpAny_truthy_bool ?_))
    refine wpAny_bind (wpAny_letGo ?_)
    cases hb : tr i with
    | true =>
      simp only [if_true]
      refine wpAny_pure ⟨plainId_quiet PySem.F.plain_all_loop _, ih (i + 1) _ (by omega) hlt h' (fun j s'' h1 h2 => hN j s'' (by omega) h2) fun q s₁ gs hh hd hbb hkk => ?_⟩
      refine hT (fun j h1 h2 => ?_) s₁ gs hh hd hbb hkk
      by_cases e : j = i
      · rw [e]; exact hb
      · exact q j (by omega) h2
    | false =>
      simp only [Bool.false_eq_true, if_false]
      refine wpAny_bind (wpAny_rule (wpAny_pure ?_))
      exact hN i s' (Nat.le_refl _) hlt hb h'.inv
theorem gall_call {tr : Nat → Bool} {Q : Value → Shared → Prop} (L : GAll A.in1 a g J D) (hF : ∀ i v, F i v → v = .bool (tr i)) (h : GAt prog w A.in1 a g n₀ F J D 0 s)
    (hN : ∀ j s', j < n₀ → tr j = false → J (j + 1) s' → Q (.bool false) s') (hT : (∀ j, j < n₀ → tr j = true) → ∀ s₁ gs h', D s₁ → AllBare gs → (∀ b o, s₁.heap.get? b = some o → h'.get? b = some o) → Q (.bool true) { s₁ with gens := gs, heap := h' }) :
    wpAny (model prog w) A (call (.builtin "all") [.ref a]) Q E s := by
  refine call_function_tree PySem.F.kind_all PySem.F.plain_all PySem.F.entry_all (PySem.F.args_all1 _) ?_
  unfold Builtin.«all»
  refine wpAny_bind (m := oneArg "all" _) (wpAny_pure ?_)
  refine wpAny_bind (wpAny_pyIter_gen (L.obj _ _ h.inv).1 ?_)
  exact wpAny_pure ⟨plainId_quiet PySem.F.plain_all_loop _, gall_loop L hF n₀ 0 s rfl (Nat.zero_le _) h (fun j s' _ h2 h3 h4 => hN j s' h2 h3 h4) fun q => hT fun j h2 => q j (Nat.zero_le _) h2⟩
end
end
end Dl
namespace Dl
open PySem PySem.Spec PyProof.Rows L2
/-! ### the frame of a generator expression -/
abbrev gEnv (X : Cx) (s : Shared) (scope : Scope) (code : Value) (bi : Addr) : Env := genEnv scope (cloFrom X.env.cells scope.names []) s.heap.objs.size code bi X.env
abbrev gCx (X : Cx) (s : Shared) (H : Hp) (N : List Str) (scope : Scope) (code : Value) (bi : Addr) (A' : Around) (fp : List Addr) : Cx :=
  { X with A := A', N := N, s_0 := s, H_0 := H, env := gEnv X s scope code bi, outer := X.stack, stack := gEnv X s scope code bi :: X.stack, ex := fp, fn := fun _ => false, calm := true, pn := [], xe := fun _ _ => False }
section
variable {X : Cx} {pins : List (Addr × Obj)} {σ : L2.St} {H : Hp} {s : Shared}
theorem gen_start {A' : Around} {fp : List Addr} {N : List Str} {σ' : L2.St} {scope : Scope} {code : Value} {bi : Addr} {h5 : Heap} {gs : Array GenState} {tk : Tok} {m : Str → Option Value} {pins2 : List (Addr × Obj)}
    (I : Inv X pins σ H s) (hk : scope.kind = .function) (hcell : ∀ y ∈ scope.names, y.2 ≠ .cell) (hfree : ∀ y ∈ scope.names, y.2 = .free → ∃ c, X.env.cells.lookup y.1 = some c)
    (hbi : bi = builtinsNs) (hA : A'.handled = none) (hf : A'.frames = some (gEnv X s scope code bi :: X.stack)) (hfp : ∀ b ∈ fp, FpOk X pins H b ∧ b < s.heap.objs.size)
    (kp : ∀ b o, s.heap.get? b = some o → h5.get? b = some o) (hns : h5.Ns s.heap.objs.size m) (hb : AllBare gs) (hlen : σ'.length = N.length)
    (hσ : ∀ (i : Nat) (y : Str) (v : V), N[i]? = some y → σ'[i]? = some (some v) → scope.names.lookup y = some .free ∧ ∃ c u, X.env.cells.lookup y = some c ∧ s.heap.IsCell c (some u) ∧ RelV v u)
    (hp : ∀ p ∈ pins2, h5.get? p.1 = some p.2 ∧ H p.1 = none ∧ p.1 ≠ s.heap.objs.size ∧ p.1 ∉ frs X.stack ∧ ∀ v, p.2.data ≠ .cell v) :
    Inv (gCx X s H N scope code bi A' fp) pins2 σ' H { s with heap := h5, gens := gs, toks := tk } := by
  have cm : ∀ {y c}, (y, c) ∈ cloFrom X.env.cells scope.names [] → X.env.cells.lookup y = some c ∧ c < s.heap.objs.size := fun {y c} hm => by
    rcases cloFrom_mem hm with hm | ⟨h1, rfl⟩
    · cases hm
    · obtain ⟨c, hc⟩ := hfree _ h1 rfl
      rw [hc]
      obtain ⟨w, z⟩ := I.cell _ _ hc
      exact ⟨rfl, z.lt⟩
  have mem : ∀ {y c}, (cloFrom X.env.cells scope.names []).lookup y = some c → X.env.cells.lookup y = some c ∧ c < s.heap.objs.size := fun {y c} e => cm (PySem.mem_of_lookup e)
  have look : ∀ {y}, scope.names.lookup y = some .free → ∃ c, (cloFrom X.env.cells scope.names []).lookup y = some c ∧ X.env.cells.lookup y = some c := fun {y} hl => by
    obtain ⟨c', e'⟩ := mem_lookup (cloFrom_has (cells := X.env.cells) (acc := []) (PySem.mem_of_lookup hl))
    exact ⟨c', e', (mem e').1⟩
  have ok : (gCx X s H N scope code bi A' fp).Ok := by
    refine ⟨I.ok.mod, hk, I.ok.glob, hbi, Nat.le_refl _, fun y z c e1 e2 => I.ok.inj y z c (mem e1).1 (mem e2).1, fun y hy => ?_, fun y c z _ => (Bool.false_ne_true z).elim, fun _ => hA, hf, .inr ⟨rfl, rfl⟩, fun b hb => ⟨?_, fun y c e z => ?_⟩, I.bs, Nat.le_trans I.ok.bsz I.sz, fun b o e hb => ?_, fun b hb z => ?_, I.stack, I.stkFree⟩
    · rcases hy with hy | hy
      · exact absurd rfl (hcell _ (PySem.mem_of_lookup (show scope.names.lookup y = some .cell from hy)))
      · obtain ⟨c, h1, _⟩ := look (show scope.names.lookup y = some .free from hy)
        exact ⟨c, h1⟩
    · exact Nat.ne_of_lt (hfp b hb).2
    · exact (hfp b hb).1.2.2.2.2.1 y c (mem e).1 z
    · rcases (hfp b hb).1.2.2.2.1 with z | z
      · exact I.ok.noex b o e z
      · exact absurd (Nat.lt_of_lt_of_le (Heap.lt_size e) (Nat.le_trans I.ok.bsz z)) (Nat.lt_irrefl _)
    · rcases List.mem_cons.mp (I.stkSub b z) with z | z
      · exact (hfp b hb).1.2.1 z
      · exact (hfp b hb).1.2.2.1 z
  refine ⟨ok, rfl, hb, Un.kept kp, ⟨m, hns, fun i y v e1 e2 e3 => ?_⟩, fun y c e => ?_, I.hok.fresh (Nat.le_refl _), fun y c e => I.freeC y c (mem e).1, fun p hq => hp p (by simpa using hq), I.hok.kept kp, hlen⟩
  · obtain ⟨q, c, u, h1, ⟨o, h2, h3⟩, h4⟩ := hσ i y v e1 e2
    obtain ⟨c', g1, g2⟩ := look q
    rw [h1] at g2; cases g2
    exact ⟨u, h4, .inr ⟨.inr q, c, g1, o, kp _ _ h2, h3⟩⟩
  · obtain ⟨w, o, h2, h3⟩ := I.cell y c (mem e).1
    exact ⟨w, o, kp _ _ h2, h3⟩
/-- what the frame of a generator expression leaves to the def that made it -/
theorem gen_back {A' : Around} {fp : List Addr} {N : List Str} {σ' : L2.St} {scope : Scope} {code : Value} {bi : Addr} {pins2 : List (Addr × Obj)} {H' : Hp} {s' : Shared}
    (I : Inv X pins σ H s) (hfp : ∀ b ∈ fp, FpOk X pins H b) (J : Inv (gCx X s H N scope code bi A' fp) pins2 σ' H' s') : Inv X pins σ H' s' :=
  I.call' (ch := fp) J.os J.base J.hok J.bare fun b hb => ⟨(hfp b hb).2.2.2.1, (hfp b hb).2.1, (hfp b hb).2.2.2.2.1, (hfp b hb).2.2.2.2.2⟩
end
end Dl
namespace Dl
open PySem PySem.Spec PyProof.Rows L2
/-! ### a generator expression's loop, by the words of its frame -/
section
variable {X : Cx} {P : Program} {w : World} {K : PySem.W.Frag}
/-- between two items: the frame stands, the iterator's own objects are pinned, W is what is known -/
def GJ (X : Cx) (p₀ : List (Addr × Obj)) (fp : List Addr) (tn : Nat → Heap → Prop) (W : Nat → L2.St → Hp → Prop) (i : Nat) (s : Shared) : Prop :=
  ∃ σ H, Inv X p₀ σ H s ∧ (∀ b ∈ fp, FpOk X p₀ H b) ∧ tn i s.heap ∧ W i σ H
def GD (X : Cx) (p₀ : List (Addr × Obj)) (W : Nat → L2.St → Hp → Prop) (n₀ : Nat) (s : Shared) : Prop := ∃ σ H, Inv X p₀ σ H s ∧ W n₀ σ H
theorem inv_gens {pins : List (Addr × Obj)} {σ : L2.St} {H : Hp} {s : Shared} (I : Inv X pins σ H s) {gs : Array GenState} (h : AllBare gs) : Inv X pins σ H { s with gens := gs } :=
  ⟨I.ok, I.os, h, I.base, I.loc, I.cell, I.free, I.freeC, I.pin, I.hok, I.len⟩
theorem gx_loop {A : Around} {elt tg iter : Expr} {scope : Scope} {pos : Pos} {it : Addr} {n₀ : Nat} {tr : Nat → Bool} {p₀ : List (Addr × Obj)} {fp : List Addr} {tn : Nat → Heap → Prop} {J : It} {W : Nat → L2.St → Hp → Prop} {g : TG} {te : TE}
    (hA : X.A = loopA A elt tg iter scope pos it X.env) (hc : X.calm = true) (T : Turn X.prog X.w X.K tg J fp it tn) (hxe : ∀ e s, ¬ X.xe e s) (hg : PG X tg g) (he : PE X elt te) (hex : ∀ b ∈ fp, b ∈ X.ex)
    (hgo : ∀ i σ H, i < n₀ → W i σ H → J.go i H) (hstop : ∀ σ H, W n₀ σ H → J.stop n₀ H)
    (hstep : ∀ i σ H x H2, i < n₀ → W i σ H → J.yld i H x H2 → g x σ H2 fun σ' H3 => te σ' H3 fun v H4 => v = .bl (tr i) ∧ W (i + 1) σ' H4) :
    GLoop X.prog X.w A elt tg iter scope pos it X.env n₀ (fun i v => v = .bool (tr i)) (GJ X p₀ fp tn W) (GD X p₀ W n₀) where
  gens := fun i s gs ⟨σ, H, I, f, t, k⟩ hb => ⟨σ, H, inv_gens I hb, f, t, k⟩
  turn := fun i s E hi ⟨σ, H, I, f, t, k⟩ => by
    rw [← hA]
    refine wpAny_mono (T.item X rfl rfl rfl hc i p₀ s σ H E I f t (hgo i σ H hi k)) (fun o s1 q => ?_) fun _ _ z => z
    obtain ⟨u, rfl, q⟩ := q
    refine ⟨u, rfl, wpAny_mono q (fun _ s2 q => ?_) fun _ _ z => z⟩
    obtain ⟨x, H2, I2, rx, hy, t2, hn⟩ := q
    have f2 : ∀ b ∈ fp, FpOk X p₀ H2 b := fun b hb => ⟨hn b hb, (f b hb).2⟩
    have I3 := Inv.pinned I2 f2 (T.obj _ _ t2)
    refine wpAny_mono (hg.run _ _ _ _ x u _ I3 rx (hstep i σ H x H2 hi k hy)) (fun _ s3 q => ?_) fun e s' z => (hxe e s' z).elim
    obtain ⟨σ', H3, I4, q⟩ := q
    refine wpAny_mono (he.run _ _ _ _ _ I4 q) (fun y s4 q => ?_) fun e s' z => (hxe e s' z).elim
    obtain ⟨v, H4, I5, ry, rfl, k4⟩ := q
    have at_ : ∀ b ∈ fp, ∀ o, s2.heap.get? b = some o → s4.heap.get? b = some o ∧ H4 b = none := fun b hb o e => by
      obtain ⟨h1, h2, _⟩ := I5.pin (b, o) (List.mem_append_right _ (List.mem_append_right _ (mem_pinsAt hb e)))
      exact ⟨h1, h2⟩
    refine ⟨ry, σ', H4, I5.unpinned, fun b hb => ⟨?_, (f b hb).2⟩, T.keep _ _ _ t2 fun b hb o e => (at_ b hb o e).1, k4⟩
    obtain ⟨o, e, _⟩ := T.obj _ _ t2 b hb
    exact (at_ b hb o e).2
  done := fun s E ⟨σ, H, I, f, t, k⟩ => by
    rw [← hA]
    refine wpAny_mono (T.done X rfl rfl rfl hc n₀ p₀ s σ H E I f t (hstop σ H k)) (fun o s1 q => ?_) fun _ _ z => z
    exact ⟨q.1, σ, H, q.2, k⟩
  self := fun A' s Q E ⟨σ, H, I, f, t, k⟩ hq => T.self A' 0 s Q E t hq
end
end Dl
namespace Dl
open PySem PySem.Spec PyProof.Rows L2
/-! ### all(element for target in source), the element may call -/
section
variable {X : Cx} {pins : List (Addr × Obj)} {σ : L2.St} {H : Hp} {s : Shared}
/-- what a generator expression's words come to -/
structure GWords (X : Cx) (N : List Str) (elt tg : Expr) (scope : Scope) (n₀ : Nat) (tr : Nat → Bool) (J : It) (W : Nat → L2.St → Hp → Prop) (g : TG) (te : TE) : Prop where
  go : ∀ i σ H, i < n₀ → W i σ H → J.go i H
  stop : ∀ σ H, W n₀ σ H → J.stop n₀ H
  step : ∀ i σ H x H2, i < n₀ → W i σ H → J.yld i H x H2 → g x σ H2 fun σ' H3 => te σ' H3 fun v H4 => v = .bl (tr i) ∧ W (i + 1) σ' H4
/-- the generator g has been made at a, in the state s5; what stands behind all() of it -/
def GReady (X : Cx) (pins : List (Addr × Obj)) (σ : L2.St) (n₀ : Nat) (tr : Nat → Bool) (W : Nat → L2.St → Hp → Prop) (a : Addr) (s5 : Shared) : Prop :=
  ∃ (g : Nat) (J : Nat → Shared → Prop) (D : Shared → Prop), GAll X.A.in1 a g J D ∧ GAt X.prog X.w X.A.in1 a g n₀ (fun i v => v = .bool (tr i)) J D 0 s5 ∧
    (∀ j s', J j s' → ∃ σ' H', Inv X pins σ H' s' ∧ W j σ' H') ∧ (∀ s', D s' → ∃ σ' H', Inv X pins σ H' s' ∧ W n₀ σ' H')
theorem gen_made {N : List Str} {σ' : L2.St} {elt tg iter : Expr} {scope : Scope} {pos : Pos} {code : Value} {it : Addr} {fp : List Addr} {tn : Nat → Heap → Prop} {J : It} {n₀ : Nat} {tr : Nat → Bool} {W : Nat → L2.St → Hp → Prop} {g : TG} {te : TE} {h' : Heap} {k : Nat}
    (hr : Room k X.A) (I : Inv X pins σ H s) (hkind : scope.kind = .function) (hco : scope.isCoroutine = false) (hcell : ∀ y ∈ scope.names, y.2 ≠ .cell) (hfree : ∀ y ∈ scope.names, y.2 = .free → ∃ c, X.env.cells.lookup y.1 = some c)
    (hlen : σ'.length = N.length) (hσ : ∀ (i : Nat) (y : Str) (v : V), N[i]? = some y → σ'[i]? = some (some v) → scope.names.lookup y = some .free ∧ ∃ c u, X.env.cells.lookup y = some c ∧ s.heap.IsCell c (some u) ∧ RelV v u)
    (T : Turn X.prog X.w X.K tg J fp it tn) (st : tn 0 s.heap) (hf : ∀ b ∈ fp, FpOk X pins H b) (hw : W 0 σ' H) (G : GWords X N elt tg scope n₀ tr J W g te)
    (hbody : ∀ (A' : Around), A' = loopA X.A.in1.in1 elt tg iter scope pos it (gEnv X s scope code builtinsNs) → PG (gCx X s H N scope code builtinsNs A' fp) tg g ∧ PE (gCx X s H N scope code builtinsNs A' fp) elt te)
    (hns : h'.Ns s.heap.objs.size (fun y => if y = ".0" then some (.ref it) else none)) (hsb : Heap.SameBut s.heap.objs.size (s.heap.push { cls := .type "frame", data := .dict #[] }) h') :
    GReady X pins σ n₀ tr W h'.objs.size { s with
      gens := s.gens.push (.fresh (.compStart (.GeneratorExp elt [⟨tg, iter, [], 0⟩] scope pos) 0 (.ref it) .none (gEnv X s scope code builtinsNs))),
      toks := s.toks + 1 + 1 + 1,
      heap := h'.push { cls := .type "generator", data := .fields #[.int s.gens.size 0, .str "<genexpr>" (s.toks + 1), .str (X.env.qual ++ "<genexpr>") (s.toks + 1 + 1)] } } := by
  have kp1 : ∀ b o, s.heap.get? b = some o → h'.get? b = some o := fun b o e => hsb.extBut b o (Nat.ne_of_lt (Heap.lt_size e)) (Heap.get?_push_of_some _ e)
  have sz : h'.objs.size = s.heap.objs.size + 1 := by rw [hsb.1, Heap.size_push]
  generalize hgo : ({ cls := .type "generator", data := .fields #[.int s.gens.size 0, .str "<genexpr>" (s.toks + 1), .str (X.env.qual ++ "<genexpr>") (s.toks + 1 + 1)] } : Obj) = go
  have kp : ∀ b o, s.heap.get? b = some o → (h'.push go).get? b = some o := fun b o e => Heap.get?_push_of_some _ (kp1 b o e)
  have lt : ∀ b ∈ fp, b < s.heap.objs.size := fun b hb => by
    obtain ⟨o, e, _⟩ := T.obj _ _ st b hb
    exact Heap.lt_size e
  have ha : (h'.push go).get? h'.objs.size = some go := Heap.get?_push_size _ (by rw [← hgo]; rfl)
  obtain ⟨A', hA⟩ : ∃ A', A' = loopA X.A.in1.in1 elt tg iter scope pos it (gEnv X s scope code builtinsNs) := ⟨_, rfl⟩
  have hA1 : A'.handled = none := by rw [hA]; exact hr.hd
  have hA2 : A'.frames = some (gEnv X s scope code builtinsNs :: X.stack) := by
    have e : X.A.in1.in1.frames = some X.stack := I.ok.frames
    rw [hA]
    simp [loopA, Around.over, I.ok.frames, pushEnvs, Code.envs, Code.isFrame, Code.env?, envsOf]
  have hst : h'.objs.size ∉ frs X.stack := fun z => by
    obtain ⟨_, o, ho, _⟩ := I.stack.mem z
    exact absurd (Heap.lt_size ho) (by rw [sz]; exact Nat.not_lt.mpr (Nat.le_succ _))
  have I2 := gen_start (σ' := σ') (N := N) (code := code) (pins2 := [(h'.objs.size, go)]) (gs := s.gens.push (.fresh (.compStart (.GeneratorExp elt [⟨tg, iter, [], 0⟩] scope pos) 0 (.ref it) .none (gEnv X s scope code builtinsNs)))) (tk := s.toks + 1 + 1 + 1)
    I hkind hcell hfree rfl hA1 hA2 (fun b hb => ⟨hf b hb, lt b hb⟩) kp (hns.push _) (I.bare.push rfl) hlen hσ (fun p hp => by
      have e : p = (h'.objs.size, go) := by simpa using hp
      subst e
      exact ⟨ha, I.hok.fresh (by rw [sz]; exact Nat.le_succ _), by rw [sz]; exact Nat.succ_ne_self _, hst, fun v z => by rw [← hgo] at z; cases z⟩)
  obtain ⟨hg, he⟩ := hbody A' hA
  have hp : ∀ b ∈ fp, b ≠ h'.objs.size := fun b hb => Nat.ne_of_lt (by rw [sz]; exact Nat.lt_succ_of_lt (lt b hb))
  have f2 : ∀ b ∈ fp, FpOk (gCx X s H N scope code builtinsNs A' fp) [(h'.objs.size, go)] H b := fun b hb => by
    refine ⟨(hf b hb).1, Nat.ne_of_lt (lt b hb), fun z => ?_, .inl hb, fun x c e => ?_, fun p hq => ?_⟩
    · rcases List.mem_cons.mp (I.stkSub b z) with z | z
      · exact (hf b hb).2.1 z
      · exact (hf b hb).2.2.1 z
    · refine (hf b hb).2.2.2.2.1 x c ?_
      have e : (cloFrom X.env.cells scope.names []).lookup x = some c := e
      rcases cloFrom_mem (PySem.mem_of_lookup e) with hm | ⟨h1, rfl⟩
      · cases hm
      · obtain ⟨c, hc⟩ := hfree _ h1 rfl
        rw [hc]
        rfl
    · have e : p = (h'.objs.size, go) := by simpa using hq
      rw [e]
      exact Ne.symm (hp b hb)
  have L := gx_loop (X := gCx X s H N scope code builtinsNs A' fp) (A := X.A.in1.in1) (tr := tr) (p₀ := [(h'.objs.size, go)]) (scope := scope) (pos := pos) (iter := iter) hA rfl T (fun _ _ z => z) hg he (fun b hb => hb) G.go G.stop G.step
  refine ⟨s.gens.size, _, _, ⟨hr.hd, ?_, fun j s' q => ?_, L.gens, fun s' q => ?_⟩, ⟨⟨σ', H, I2, f2, T.keep _ _ _ st fun b hb o e => kp b o e, hw⟩, _, Array.getElem?_push_size .., fun gs' hb => ⟨rfl, seg_gs hco L _ _ ⟨σ', H, inv_gens I2 hb, f2, T.keep _ _ _ st fun b hb o e => kp b o e, hw⟩⟩⟩, fun j s' q => ?_, fun s' q => ?_⟩
  · have := hr.dp
    show X.A.depth < _
    omega
  · obtain ⟨σ1, H1, I1, _⟩ := q
    obtain ⟨e, _⟩ := I1.pin (h'.objs.size, go) (by simp)
    refine ⟨?_, I1.nolimit, I1.bare⟩
    subst hgo
    exact ⟨_, _, _, e, rfl, rfl, rfl⟩
  · obtain ⟨σ1, H1, I1, _⟩ := q
    exact I1.bare
  · obtain ⟨σ1, H1, I1, _, _, k1⟩ := q
    exact ⟨σ1, H1, gen_back I hf I1, k1⟩
  · obtain ⟨σ1, H1, I1, k1⟩ := q
    exact ⟨σ1, H1, gen_back I hf I1, k1⟩
end
end Dl
namespace Dl
open PySem PySem.Spec PyProof.Rows L2 GxR
section
variable {X : Cx}
/-- what the frame's slots are at first: the targets' are free, the others hold what is captured -/
def capS (n : Nat) (σ : L2.St) (caps : List Nat) : L2.St := List.replicate n none ++ caps.map fun j => (σ[j]?).getD none
def isFree (sc : Scope) (y : Str) : Bool := match sc.names.lookup y with
  | some .free => true
  | _ => false
def isCell (sc : Scope) (y : Str) : Bool := match sc.names.lookup y with
  | some .cell => true
  | _ => false
theorem isFree_of {sc : Scope} {y : Str} (h : isFree sc y = true) : sc.names.lookup y = some .free := by
  unfold isFree at h
  split at h
  · assumption
  · cases h
theorem isCell_of {sc : Scope} {y : Str} (h : isCell sc y = true) : sc.names.lookup y = some .cell := by
  unfold isCell at h
  split at h
  · assumption
  · cases h
/-- the captured names: in the frame behind the targets, in the def at caps -/
def capOk (N M : List Str) (n : Nat) (caps : List Nat) (sc so : Scope) : Bool :=
  decide (N.length = n + caps.length) && (List.range caps.length).all fun i => match N[n + i]?, caps[i]? with
    | some y, some j => (match M[j]? with
      | some z => z == y
      | none => false) && isFree sc y && isCell so y
    | _, _ => false
/-- all(element for target in source); behind it the def's table of codes may have grown -/
def tAllX (X : Cx) (N : List Str) (n : Nat) (caps : List Nat) (P : Addr) (elt tg : Expr) (scope : Scope) (g : TG) (te : TE) (wi : TI) : TE := fun σ H Q => wi σ H fun J H1 => TabG H1 P ∧ ∀ H2, Tabbed P H1 H2 →
  ∃ (n₀ : Nat) (tr : Nat → Bool) (W : Nat → L2.St → Hp → Prop), W 0 (capS n σ caps) H2 ∧ GWords X N elt tg scope n₀ tr J W g te ∧
    (∀ j σ' H', j < n₀ → tr j = false → W (j + 1) σ' H' → Q (.bl false) H') ∧ ((∀ j, j < n₀ → tr j = true) → ∀ σ' H', W n₀ σ' H' → Q (.bl true) H')
theorem cap_cells {pins : List (Addr × Obj)} {σ : L2.St} {H : Hp} {s : Shared} {N : List Str} {n : Nat} {caps : List Nat} {scope : Scope} (I : Inv X pins σ H s) (hc : capOk N X.N n caps scope X.env.scope = true) :
    (capS n σ caps).length = N.length ∧ ∀ (i : Nat) (y : Str) (v : V), N[i]? = some y → (capS n σ caps)[i]? = some (some v) → scope.names.lookup y = some .free ∧ ∃ c u, X.env.cells.lookup y = some c ∧ s.heap.IsCell c (some u) ∧ RelV v u := by
  unfold capOk at hc
  rw [Bool.and_eq_true] at hc
  have hl := of_decide_eq_true hc.1
  refine ⟨by simp [capS, hl], fun i y v e1 e2 => ?_⟩
  unfold capS at e2
  by_cases hi : i < n
  · rw [List.getElem?_append_left (by simpa using hi), List.getElem?_replicate, if_pos hi] at e2
    cases e2
  · rw [List.getElem?_append_right (by simp; omega), List.length_replicate, List.getElem?_map] at e2
    cases hj : caps[i - n]? with
    | none => rw [hj] at e2; cases e2
    | some j =>
      rw [hj, Option.map_some] at e2
      have hlt := (List.getElem?_eq_some_iff.mp hj).1
      have q := List.all_eq_true.mp hc.2 (i - n) (List.mem_range.mpr hlt)
      rw [show n + (i - n) = i by omega, e1, hj] at q
      simp only [Bool.and_eq_true] at q
      obtain ⟨⟨q1, q2⟩, q3⟩ := q
      have e3 : σ[j]? = some (some v) := by
        cases z : σ[j]? with
        | none => rw [z] at e2; cases e2
        | some o => rw [z] at e2; cases e2; rfl
      have e4 : X.N[j]? = some y := by
        cases z : X.N[j]? with
        | none => rw [z] at q1; cases q1
        | some z' => rw [z] at q1; rw [eq_of_beq q1]
      obtain ⟨m, _, h2⟩ := I.loc
      obtain ⟨u, ru, look⟩ := h2 j y v e4 e3 (.inr (.inl (isCell_of q3)))
      refine ⟨isFree_of q2, ?_⟩
      rcases look with ⟨k, _⟩ | ⟨_, c, k1, k2⟩
      · have k : X.env.scope.names.lookup y = some .local := k
        rw [isCell_of q3] at k
        cases k
      · exact ⟨c, u, k1, k2, ru⟩
theorem pe_allX {c P : Addr} {elt tg iter : Expr} {p pos gpos : Pos} {scope : Scope} {N : List Str} {n : Nat} {caps : List Nat} {wi : TI} {k : Nat} {g : TG} {te : TE}
    (hr : Room k X.A) (hg : Gl X "all") (hm : X.mg "all" = none) (hb : bootBuiltins "all" = some (.builtin "all")) (TB : TabB X.base X.mg c P) (hcode : X.env.code = .ref c)
    (hkind : scope.kind = .function) (hco : scope.isCoroutine = false) (hcell : ∀ y ∈ scope.names, y.2 ≠ .cell) (hdot : scope.names.lookup (".0" : Str) = some NameKind.local) (hfree : ∀ y ∈ scope.names, y.2 = .free → ∃ c, X.env.cells.lookup y.1 = some c)
    (hcap : capOk N X.N n caps scope X.env.scope = true) (hi : PI X tg iter wi) (hs : ∀ v, genFold iter X.env v = pure v)
    (hbody : ∀ (s : Shared) (H : Hp) (code : Value) (it : Addr) (fp : List Addr) (A' : Around), A' = loopA X.A.in1.in1 elt tg iter scope gpos it (gEnv X s scope code builtinsNs) → PG (gCx X s H N scope code builtinsNs A' fp) tg g ∧ PE (gCx X s H N scope code builtinsNs A' fp) elt te)
    (he : starEach [.GeneratorExp elt [⟨tg, iter, [], 0⟩] scope gpos] X.env = (false, eval (.GeneratorExp elt [⟨tg, iter, [], 0⟩] scope gpos) X.env) :: starEach [] X.env := by rfl) :
    PE X (.Call (.Name "all" p) [.GeneratorExp elt [⟨tg, iter, [], 0⟩] scope gpos] [] pos) (tAllX X N n caps P elt tg scope g te wi) := by
  refine ⟨fun pins s σ H Q I h => ?_⟩
  refine wpAny_Call_Name_kw (ld_blt I hg hm hb ?_)
  refine PyProof.Rows.callWith_builtin1 ?_ he (by rfl)
  rw [he]
  show wpAny _ _ (spliced ((false, eval (.GeneratorExp elt [⟨tg, iter, [], 0⟩] scope gpos) X.env) :: backTo pos (starEach [] X.env))) _ _ s
  refine Calls.spliced_cons ?_
  refine wpAny_GeneratorExp_make hco (closure_ok hfree) hcell hdot hkind (by have := hr.dp; omega) ?_ hs
  refine wpAny_mono (hi.run pins s σ H _ I h) (fun xv s1 q => ?_) fun _ _ z => z
  refine wpAny_mono q (fun itv s2 q => ?_) fun _ _ z => z
  obtain ⟨it, fp, tn, J, H1, rfl, I1, T, st, hf, ⟨ps, hP, ht⟩, q⟩ := q
  refine ⟨I1.nolimit, ?_⟩
  have hPs : s2.heap.get? P = some { cls := .none, data := .fields ps } := I1.hok P _ hP
  have cd : PySem.W.CodeHd s2.heap c P := TB.code.keeps fun b u e => I1.bk b u e
  have cont : ∀ (code : Value) (h3 : Heap) (tk : Nat) (ps' : Array Value), Heap.ExtBut P s2.heap h3 → h3.get? P = some { cls := .none, data := .fields ps' } → (∃ more, ps' = ps ++ more) → TriplesOk ps'.toList →
      wpAny (model X.prog X.w) X.A (builtinsFor X.env.globals X.env.builtins) (fun bi s₄ => ∀ h' : Heap, h'.Ns s₄.heap.objs.size (fun y => if y = ".0" then some (.ref it) else none) → Heap.SameBut s₄.heap.objs.size (s₄.heap.push { cls := .type "frame", data := .dict #[] }) h' →
          wpAny (model X.prog X.w) X.A (spliced (backTo pos (starEach [] X.env)) >>= fun x => pure (Value.ref h'.objs.size :: x)) (fun us s' => wpAny (model X.prog X.w) X.A (call (.builtin "all") us) (EP X pins σ Q) X.xe s') X.xe { s₄ with
            gens := s₄.gens.push (.fresh (.compStart (.GeneratorExp elt [⟨tg, iter, [], 0⟩] scope gpos) 0 (.ref it) .none (genEnv scope (cloFrom X.env.cells scope.names []) s₄.heap.objs.size code bi X.env))),
            toks := s₄.toks + 1 + 1 + 1,
            heap := h'.push { cls := .type "generator", data := .fields #[.int s₄.gens.size 0, .str "<genexpr>" (s₄.toks + 1), .str (X.env.qual ++ "<genexpr>") (s₄.toks + 1 + 1)] } }) X.xe { s2 with heap := h3, toks := tk } := by
    intro code h3 tk ps' hx hP3 hmore ht3
    obtain ⟨more, em⟩ := hmore
    obtain ⟨bm, ob, e1, e2, e3, e4, e5, e6, e7, e8⟩ := TB.bm
    have keep3 : ∀ b u, b ≠ P → s2.heap.get? b = some u → h3.get? b = some u := fun b u hb e => hx b u hb e
    refine wpAny_builtinsFor (m := X.mg) (by rw [I1.ok.glob]; exact (I1.mod.glob.keeps I1.bk).extBut hx TB.gP) e1 e2 (keep3 _ _ e4 (I1.bk _ _ e5)) e6 e7 e8 ?_
    intro h' hns hsb
    have I3 := inv_tab (more := more) (h' := h3) (g' := s2.gens) (d' := s2.drawn) (t' := tk) I1 hP (fun b o hb e => keep3 b o hb e) (by rw [← em]; exact hP3) I1.bare
    have tabd : Tabbed P H1 (upd H1 P (.tbl (ps ++ more))) := ⟨⟨ps ++ more, upd_same, by rw [← em]; exact ht3⟩, fun b hb => upd_ne hb⟩
    obtain ⟨n₀, tr, W, w0, G, qf, qt⟩ := q _ tabd
    have ne : ∀ b ∈ fp, b ≠ P := fun b hb z => by
      have := (hf b hb).1
      rw [z, hP] at this
      cases this
    have f3 : ∀ b ∈ fp, FpOk X pins (upd H1 P (.tbl (ps ++ more))) b := fun b hb => ⟨by rw [upd_ne (ne b hb)]; exact (hf b hb).1, (hf b hb).2⟩
    have st3 : tn 0 h3 := T.keep _ _ _ st fun b hb o e => keep3 b o (ne b hb) e
    have R := gen_made (pos := gpos) (iter := iter) (code := code) (σ' := capS n σ caps) hr I3 hkind hco hcell hfree (cap_cells I3 hcap).1 (cap_cells I3 hcap).2 T st3 f3 w0 G (fun A' hA => hbody _ _ _ _ _ A' hA) hns hsb
    obtain ⟨g', J', D', L, Gt, bj, bd⟩ := R
    refine wpAny_bind (Calls.spliced_nil (wpAny_pure ?_))
    refine gall_call L (fun i v e => e) Gt (fun j s' hj ht' hJ => ?_) fun hall s1' gs h2 hD hb2 hk2 => ?_
    · obtain ⟨σ', H', I', w'⟩ := bj _ _ hJ
      exact ⟨.bl false, H', I', rfl, qf j σ' H' hj ht' w'⟩
    · obtain ⟨σ', H', I', w'⟩ := bd _ hD
      exact ⟨.bl true, H', inv_gens (I'.kept hk2) hb2, rfl, qt hall σ' H' w'⟩
  cases hcf : codeAmong gpos ps.toList with
  | none =>
    refine wpAny_genexprCodeX hcode (cd.code hPs ht) (cd.tab hPs) hcf fun c' h' tk hx hge hlt hco' _ htab' _ => ?_
    obtain ⟨o1, vs, f1, tf, fl, tg', inF, tx, tt, op, _, _, _, _, _, _, _, _, _, htr, _⟩ := hco'
    exact cont _ h' tk _ hx htab'.2 ⟨_, rfl⟩ htr
  | some cv =>
    refine wpAny_genexprCode_hit hcode (cd.code hPs ht) hcf ?_
    exact cont cv s2.heap s2.toks ps (Heap.ExtBut.refl _ _) hPs ⟨#[], by simp⟩ ht
end
end Dl
namespace Dl
open PySem PySem.Spec PyProof.Rows L2
/-! ### fractions with bounds -/
/-- a fraction in lowest terms whose parts are below 2 ^ k -/
structure Fk (k : Nat) (p q : Int) : Prop where
  f : Frac p q
  t : p.natAbs < 2 ^ k
  b : q.natAbs < 2 ^ k
theorem Fk.up {k m : Nat} {p q : Int} (h : Fk k p q) (hk : k ≤ m := by decide) : Fk m p q := ⟨h.f, two_le h.t hk, two_le h.b hk⟩
theorem Fk.pos {k : Nat} {p q : Int} (h : Fk k p q) : 0 < q := h.f.pos
theorem sum_lt {k m : Nat} {p q u v : Int} (p1 : p.natAbs < 2 ^ k) (q1 : q.natAbs < 2 ^ k) (u1 : u.natAbs < 2 ^ m) (v1 : v.natAbs < 2 ^ m) : (p * v + u * q).natAbs < 2 ^ (k + m + 1) := by
  have h1 := natAbs_mul_lt p1 v1
  have h2 := natAbs_mul_lt u1 q1
  rw [Nat.add_comm m k] at h2
  exact natAbs_add_lt h1 h2
theorem dif_lt {k m : Nat} {p q u v : Int} (p1 : p.natAbs < 2 ^ k) (q1 : q.natAbs < 2 ^ k) (u1 : u.natAbs < 2 ^ m) (v1 : v.natAbs < 2 ^ m) : (p * v - u * q).natAbs < 2 ^ (k + m + 1) := by
  rw [Int.sub_eq_add_neg, ← Int.neg_mul]
  exact sum_lt p1 q1 (by rw [Int.natAbs_neg]; exact u1) v1
/-- a fraction that is another one in lowest terms -/
theorem fk_of {k : Nat} {t b s r : Int} (f : Frac s r) (hb : b ≠ 0) (e : t * r = b * s) (ht : t.natAbs < 2 ^ k) (hb2 : b.natAbs < 2 ^ k) : Fk k s r := by
  obtain ⟨l1, l2⟩ := f.le hb e
  exact ⟨f, Nat.lt_of_le_of_lt l2 ht, Nat.lt_of_le_of_lt l1 hb2⟩
theorem frac_same {t b s r s' r' : Int} (k : Frac s r) (k' : Frac s' r') (hb : b ≠ 0) (h : t * r = b * s) (h' : t * r' = b * s') : s' = s ∧ r' = r := by
  refine k'.one k (Int.eq_of_mul_eq_mul_left hb ?_)
  rw [← Int.mul_assoc, ← h', ← Int.mul_assoc, ← h, Int.mul_right_comm]
theorem mul_ne {q v : Int} (h : 0 < q) (g : 0 < v) : q * v ≠ 0 := Int.ne_of_gt (Int.mul_pos h g)
/-- the order of two fractions: -1, 0, 1 -/
def cmpT (p q u v : Int) : Int := if p * v < u * q then -1 else if u * q < p * v then 1 else 0
/-- data that is itself when asked by == -/
def selfEq : PyData → Prop
  | .int _ => True
  | .str _ => True
  | .bool _ => True
  | x => SeqAt.shaped x = true ∧ x.eqv x = true
theorem gEqv_self {x : PyData} {P : DV → Prop} (h : selfEq x) (q : P (.d (.bool true))) : gEqv id x x P := by
  cases x with
  | int i => simpa [gEqv] using q
  | str i => simpa [gEqv] using q
  | bool i => simpa [gEqv] using q
  | none => obtain ⟨a, b⟩ := h; exact ⟨a, a, by rw [b]; exact q⟩
  | list xs => obtain ⟨a, b⟩ := h; exact ⟨a, a, by rw [b]; exact q⟩
  | tuple xs => obtain ⟨a, b⟩ := h; exact ⟨a, a, by rw [b]; exact q⟩
  | dict xs => obtain ⟨a, b⟩ := h; exact ⟨a, a, by rw [b]; exact q⟩
theorem self2 (a b : Int) : selfEq (.tuple [.int a, .int b]) := ⟨small2 a b, same2 a b⟩
theorem sh2 {a b : Int} {j : Nat} (ha : a.natAbs < 2 ^ j) (hb : b.natAbs < 2 ^ j) (h0 : 0 < j := by decide) (hj : j < 1920 := by decide) : Sh (.tuple [.int a, .int b]) :=
  (sn_tup (m := 2) fun z hz => by
    simp only [List.mem_cons, List.not_mem_nil, or_false] at hz
    rcases hz with rfl | rfl
    · exact sn_int (j := j) ha h0 hj
    · exact sn_int (j := j) hb h0 hj).sh (by decide) (by omega)
/-! ### xs[::-1] of a list -/
section
variable {X : Cx} {w : Wn} {e : Expr} {te : DT}
theorem RpA.rev {K : PySem.W.Frag} {F : Hp} {vs : List V} {xs : List PyData} (r : RpA K F vs xs) : RpA K F vs.reverse xs.reverse := by
  induction vs generalizing xs with
  | nil => cases r; exact .nil
  | cons v vs ih =>
    cases r with
    | cons h t =>
      rw [List.reverse_cons, List.reverse_cons]
      exact (ih t).app (.cons h .nil)
def tRevD (te : DT) : DT := fun env P => te env fun u => rd u fun x => match x with
  | .list xs => P (.fr xs.reverse)
  | _ => False
theorem d_rev {k p1 p2 p3 pos} (he : DPE X w e te) : DPE X w (.Subscript e (.Slice none none (some (.UnaryOp .USub (.Constant (.int 1) k p1) p2)) p3) pos) (tRevD te) :=
  pe_weak (pe_revL he) fun σ H Q ⟨env, F, P, r, h, q⟩ => ⟨env, F, _, r, h, fun dv v F1 H1 s1 r1 h1 => by
    obtain ⟨x, x1, h1⟩ := rd_ok r1 h1
    split at h1
    · next xs =>
      obtain ⟨m, vs, rfl, e, ra⟩ := x1.lst s1.sub
      exact ⟨m, vs, rfl, SqL.of e, res_new s1.wd ra.rev (fun dv v F4 H4 s4 r4 h4 => q dv v F4 H4 (s1.trans s4) (r4.early s1) h4) h1⟩
    · exact h1.elim⟩
theorem rvE (te : DT) (env : List Sl) (P : DV → Prop) : tRevD te env P = te env fun u => rd u fun x => match x with
  | .list xs => P (.fr xs.reverse)
  | _ => False := propext ⟨fun h => h, fun h => h⟩
end
end Dl
namespace Dl
open PySem PySem.Spec PyProof.Rows L2 GxR
/-! ### all(element for x in source) as a reading -/
theorem loop_guards {A : Around} {elt tg iter : Expr} {scope : Scope} {pos : Pos} {I : Addr} {cenv : Env} (h : A.guards = some []) : (loopA A.in1.in1 elt tg iter scope pos I cenv).guards = some [] := by
  have e : A.in1.in1.guards = some [] := h
  simp [loopA, Around.over, e, pushGuards, Code.guards, Code.isGuard, guardsOf]
theorem loop_room {A : Around} {k : Nat} {elt tg iter : Expr} {scope : Scope} {pos : Pos} {I : Addr} {cenv : Env} (h : Room (k + 1) A) : Room k (loopA A.in1.in1 elt tg iter scope pos I cenv) := by
  obtain ⟨hd, dp, un⟩ := h
  refine ⟨hd, ?_, ?_⟩
  · have e : (loopA A.in1.in1 elt tg iter scope pos I cenv).depth ≤ A.depth + 3 := by
      simp [loopA, Around.over, frameCount, Code.weight, Code.isFrame, Code.frames, Around.in1, Code.isCreation, Code.isGuard, Code.isCaller]
      try omega
    omega
  · have e : (loopA A.in1.in1 elt tg iter scope pos I cenv).units ≤ A.units + 16 := by
      simp [loopA, Around.over, unitsOf, Code.cUnits, Code.isFrame, Code.frames, Around.in1]
      try omega
    omega
def capSl : Option Sl → Sl
  | some (.d x) => .d x
  | some (.raw v) => .raw v
  | some .bag => .bag
  | _ => .un
def capD (env : List Sl) (caps : List Nat) : List Sl := caps.map fun j => capSl env[j]?
def tAll1 (it : DIt) (te : DT) (caps : List Nat) : DT := fun env P => it env fun xs => ∃ f : PyData → Bool, (∀ x ∈ xs, te (.d x :: capD env caps) fun dv => dv = .d (.bool (f x))) ∧ P (.d (.bool (xs.all f)))
def lfF (K : PySem.W.Frag) (ts : List Addr) (t : DT) : TE := fun σ H Q => ∃ w : Wn, w.b.ts = ts ∧ lf K w t σ H Q
def lfH (K : PySem.W.Frag) (ts : List Addr) (g : DG) : TG := fun v σ H Q => ∃ w : Wn, w.b.ts = ts ∧ lfG K w g v σ H Q
theorem pe_F {Y : Cx} {ts : List Addr} {e : Expr} {t : DT} (h : ∀ w : Wn, w.b.ts = ts → DPE Y w e t) : PE Y e (lfF Y.K ts t) := ⟨fun p s σ H Q I ⟨w, q, z⟩ => (h w q).run p s σ H Q I z⟩
theorem pg_H {Y : Cx} {ts : List Addr} {tg : Expr} {g : DG} (h : ∀ w : Wn, w.b.ts = ts → PG Y tg (lfG Y.K w g)) : PG Y tg (lfH Y.K ts g) := by
  constructor
  intros
  obtain ⟨w, q, z⟩ := ‹lfH _ _ _ _ _ _ _›
  obtain ⟨h1⟩ := h w q
  first | exact h1 _ _ _ _ _ _ _ ‹_› ‹_› z | exact h1 _ _ _ _ _ _ _ _ ‹_› ‹_› z
def trD (xs : List PyData) (f : PyData → Bool) (i : Nat) : Bool := match xs[i]? with
  | some x => f x
  | none => false
section
variable {X : Cx} {w : Wn}
theorem cap_rel {K : PySem.W.Frag} {b : Bg} {F₀ H₀ F H F1 H1 : Hp} {env : List Sl} {σ : L2.St} {caps : List Nat} (r : Rel K b F₀ H₀ env σ F H) (w1 : Wd K b F1 H1) (e1 : Same F F1) : Rel K b F1 H1 (.un :: capD env caps) (capS 1 σ caps) F1 H1 := by
  refine ⟨by simp [capS, capD], w1.refl, fun i s h => ?_, fun i j s t a h1 _ m _ => ?_⟩
  · cases i with
    | zero => cases h; exact True.intro
    | succ i =>
      rw [List.getElem?_cons_succ] at h
      unfold capD at h
      rw [List.getElem?_map] at h
      have eS : (capS 1 σ caps)[i + 1]? = (caps[i]?).map fun j => (σ[j]?).getD none := by simp [capS]
      rw [eS]
      cases hj : caps[i]? with
      | none => rw [hj] at h; cases h
      | some j =>
        rw [hj, Option.map_some] at h
        rw [Option.map_some]
        unfold capSl at h
        split at h
        · next x ex =>
          cases h
          obtain ⟨v, e, q⟩ := r.at' j _ ex
          exact ⟨v, by rw [e]; rfl, q.up e1⟩
        · next v ex =>
          cases h
          have e := r.at' j _ ex
          show some _ = some (some v)
          rw [show σ[j]? = some (some v) from e]; rfl
        · next ex =>
          cases h
          have e := r.at' j _ ex
          show some _ = some (some (V.ref b.b))
          rw [show σ[j]? = some (some (V.ref b.b)) from e]; rfl
        · cases h; exact True.intro
  · exfalso
    cases i with
    | zero => cases h1; cases m
    | succ i =>
      rw [List.getElem?_cons_succ] at h1
      unfold capD at h1
      rw [List.getElem?_map] at h1
      cases hj : caps[i]? with
      | none => rw [hj] at h1; cases h1
      | some j =>
        rw [hj, Option.map_some] at h1
        unfold capSl at h1
        split at h1 <;> cases h1 <;> cases m
theorem tab_stp {K : PySem.W.Frag} {b : Bg} {F H H2 : Hp} {P : Addr} (w1 : Wd K b F H) (hP : P ∈ b.ts) (t : Tabbed P H H2) : Stp K b F H F H2 := by
  obtain ⟨⟨qs, e2, k2⟩, rest⟩ := t
  have fP := (w1.bag.2.2.2 P hP).1
  obtain ⟨ps, e1, k1⟩ := (w1.bag.2.2.2 P hP).2
  obtain ⟨vs, eb⟩ := w1.bag.lst
  have nb : b.b ≠ P := fun z => by rw [z, e1] at eb; cases eb
  refine ⟨fun a o _ nt h => ?_, w1.bag.up (fun _ _ h => h) (rest _ nb) (fun t _ h1 h2 => ⟨h1, ?_⟩), fun _ _ h => h, fun a o h => ?_, w1.fb, fun _ h _ => h, fun a rs ne h => ?_⟩
  · rw [rest a (fun z => by rw [z, e1] at h; exact nt ps (Option.some.inj h).symm)]; exact h
  · by_cases z : t = P
    · rw [z]; exact ⟨qs, e2, k2⟩
    · obtain ⟨rs, z1, z2⟩ := h2
      exact ⟨rs, by rw [rest t z]; exact z1, z2⟩
  · rw [rest a (fun z => by rw [z, fP] at h; cases h)]; exact w1.sub a o h
  · by_cases z : a = P
    · rw [z]; exact ⟨qs, e2, fun _ => k2⟩
    · exact ⟨rs, by rw [rest a z]; exact h, fun q => q⟩
theorem d_all1 {ts : List Addr} {c P : Addr} {elt iter : Expr} {x : Str} {p pos gpos px : Pos} {scope : Scope} {N : List Str} {caps : List Nat} {it : DIt} {te : DT} {k : Nat}
    (ht : w.b.ts = ts) (hr : Room k X.A) (hg : Gl X "all") (hm : X.mg "all" = none) (TB : TabB X.base X.mg c P) (hcode : X.env.code = .ref c) (hP : P ∈ ts)
    (hkind : scope.kind = .function) (hco : scope.isCoroutine = false) (hcell : ∀ y ∈ scope.names, y.2 ≠ .cell) (hdot : scope.names.lookup (".0" : Str) = some NameKind.local) (hfree : ∀ y ∈ scope.names, y.2 = .free → ∃ c, X.env.cells.lookup y.1 = some c)
    (hcap : capOk N X.N 1 caps scope X.env.scope = true) (hN : N.Nodup) (hx : N[0]? = some x) (hl : scope.names.lookup x = some .local)
    (hi : PI X (.Name x px) iter (lfI X.K w it)) (hs : ∀ v, genFold iter X.env v = pure v)
    (hbody : ∀ (s : Shared) (H : Hp) (code : Value) (I : Addr) (fp : List Addr) (A' : Around), A' = loopA X.A.in1.in1 elt (.Name x px) iter scope gpos I (gEnv X s scope code builtinsNs) → ∀ w' : Wn, w'.b.ts = ts → DPE (gCx X s H N scope code builtinsNs A' fp) w' elt te)
    (hb : bootBuiltins "all" = some (.builtin "all") := by decide +kernel)
    (he : starEach [.GeneratorExp elt [⟨.Name x px, iter, [], 0⟩] scope gpos] X.env = (false, eval (.GeneratorExp elt [⟨.Name x px, iter, [], 0⟩] scope gpos) X.env) :: starEach [] X.env := by rfl) :
    DPE X w (.Call (.Name "all" p) [.GeneratorExp elt [⟨.Name x px, iter, [], 0⟩] scope gpos] [] pos) (tAll1 it te caps) := by
  refine pe_weak (pe_allX (N := N) (n := 1) (caps := caps) (g := lfH X.K ts (gnD 0)) (te := lfF X.K ts te) hr hg hm hb TB hcode hkind hco hcell hdot hfree hcap hi hs (fun s H code I fp A' hA => ⟨pg_H fun w' _ => dg_name (X := gCx X s H N scope code builtinsNs A' fp) hN hx (.inl hl) (.inr hl), pe_F fun w' hw => hbody s H code I fp A' hA w' hw⟩) he) fun σ H Q ⟨env, F, R, r, h, q⟩ => ?_
  refine ⟨env, F, _, r, h, fun xs J F1 H1 s1 wl h1 => ?_⟩
  obtain ⟨f, hf, hR⟩ := h1
  have pt : P ∈ w.b.ts := by rw [ht]; exact hP
  refine ⟨(s1.bag.2.2.2 P pt).2, fun H2 tb => ?_⟩
  have s2 := tab_stp s1.wd pt tb
  obtain ⟨G, Y, wk, hG, hY⟩ := wl.ex
  refine ⟨xs.length, trD xs f, fun _ σ' H' => ∃ s0 F', RelW X.K ⟨w.b, F1, H2⟩ (s0 :: capD env caps) σ' F' H', ⟨.un, F1, cap_rel r s2.wd s1.ex⟩, ⟨fun i σ' H' hi' k => ?_, fun σ' H' k => ?_, fun i σ' H' v H3 hi' k y => ?_⟩, fun j σ' H' hj hf' k => ?_, fun hall σ' H' k => ?_⟩
  · obtain ⟨s0, F', rel⟩ := k
    exact wk.goes i H' hi' (hG F' H' rel.st.ex rel.st.wd)
  · obtain ⟨s0, F', rel⟩ := k
    exact wk.stops H' (hG F' H' rel.st.ex rel.st.wd)
  · obtain ⟨s0, F', rel⟩ := k
    have yy := wk.yields i H' v H3 hi' (hG F' H' rel.st.ex rel.st.wd) y
    obtain ⟨F3, x', s3, ex, rx⟩ := hY i F' H' v H3 rel.st.ex rel.st.wd yy
    refine ⟨⟨w.b, F1, H2⟩, ht, _, F3, x', fun e => e = .d x' :: capD env caps, rel.step s3, rx, rfl, fun env' σ2 F4 H4 rel2 _ he2 => ?_⟩
    subst he2
    have hx' : x' ∈ xs := List.mem_of_getElem? ex
    refine ⟨⟨w.b, F1, H2⟩, ht, _, F4, _, rel2, hf x' hx', fun dv v5 F5 H5 s5 r5 h5 => ?_⟩
    subst h5
    refine ⟨?_, .d x', F5, rel2.step s5⟩
    rw [r5.blOf]
    unfold trD
    rw [ex]
  · obtain ⟨s0, F', rel⟩ := k
    have e : xs.all f = false := by
      rw [List.all_eq_false]
      unfold trD at hf'
      rw [List.getElem?_eq_getElem hj] at hf'
      exact ⟨xs[j], List.getElem_mem hj, by simp only at hf'; simp [hf']⟩
    rw [e] at hR
    exact q (.d (.bool false)) (.bl false) F' H' ((s1.trans s2).trans rel.st) (Rp.bl false) hR
  · obtain ⟨s0, F', rel⟩ := k
    have e : xs.all f = true := by
      rw [List.all_eq_true]
      intro x' hx'
      obtain ⟨j, hj, rfl⟩ := List.getElem_of_mem hx'
      have := hall j hj
      unfold trD at this
      rw [List.getElem?_eq_getElem hj] at this
      exact this
    rw [e] at hR
    exact q (.d (.bool true)) (.bl true) F' H' ((s1.trans s2).trans rel.st) (Rp.bl true) hR
end
theorem alE {it : DIt} {te : DT} {caps : List Nat} {env : List Sl} {P : DV → Prop} : tAll1 it te caps env P = it env fun xs => ∃ f : PyData → Bool, (∀ x ∈ xs, te (.d x :: capD env caps) fun dv => dv = .d (.bool (f x))) ∧ P (.d (.bool (xs.all f))) := propext ⟨fun h => h, fun h => h⟩
/-! ### the top's tables -/
section
variable {K : PySem.W.Frag} {h : Heap} {cs : List (Addr × Addr)}
theorem tabs_nil : Tabs K h [] := ⟨fun _ z => absurd z List.not_mem_nil, fun _ z => absurd z List.not_mem_nil, fun _ z => absurd z List.not_mem_nil⟩
theorem tabs_cons {q : Program} {lo : List Str} {mean : ExcName → Option Value} {mg mb : Str → Option Value} {d : DefRec} {x : Str} {f c P : Addr} {oc oq : Value} {od oe : Option Addr} {fd : FuncData} {sl sk : Array (Option Value)} {vs : Array Value}
    (T : PyProof.Rows.Top q lo mean mg mb h) (X : K.In h) (nt : PySem.W.noTabs K = true) (hr : (recsOf q).find? (fun e => e.name == x) = some d)
    (a : PySem.W.nsIn K mainGlobals x = some (some (.ref f))) (l : K.lookup f = some ⟨oc, od, .func fd, sl⟩) (r : fd.code = .ref c) (k : K.lookup c = some ⟨oq, oe, .fields vs, sk⟩) (v : vs[11]? = some (.ref P)) (t : Tabs K h cs) : Tabs K h ((c, P) :: cs) := by
  have ti : PySem.W.tabIn K x = some (c, P) := by
    unfold PySem.W.tabIn
    rw [a]
    simp only [l, r, k, v]
  obtain ⟨hd, em⟩ := PySem.W.tab_of T X hr ti
  have no : K.lookup P = none := by
    cases e : K.lookup P with
    | none => rfl
    | some o =>
      have z := X _ _ e
      rw [em] at z
      cases z
      have q2 := List.all_eq_true.mp nt _ (PySem.W.mem_of_lookupK e)
      cases q2
  refine ⟨fun p hp => ?_, fun p hp => ?_, fun p hp => ?_⟩
  · rcases List.mem_cons.mp hp with rfl | hp
    · exact em
    · exact t.emp p hp
  · rcases List.mem_cons.mp hp with rfl | hp
    · exact hd
    · exact t.head p hp
  · rcases List.mem_cons.mp hp with rfl | hp
    · exact no
    · exact t.out p hp
end
end Dl
namespace Dl
open PySem PySem.Spec PyProof.Rows L2 GxR
def noFree (sc : Scope) : Bool := sc.names.all fun y => match y.2 with
  | .free => false
  | _ => true
theorem hfree0 {sc : Scope} {cells : List (Str × Addr)} (h : noFree sc = true) : ∀ y ∈ sc.names, y.2 = .free → ∃ c, cells.lookup y.1 = some c := fun y hy e => by
  have q := List.all_eq_true.mp h y hy
  rw [e] at q
  cases q
/-! ### one statement by itself: what is behind it stays a name -/
theorem seqG {t u : DS} {d : DK} {env : List Sl} (h : ∀ R : List Sl → Prop, (∀ e, u d e → R e) → t { d with nx := R } env) : tSeqD t u d env := h (u d) fun _ z => z
/-! ### data that may be asked by == -/
structure Ly (n : Nat) (x : PyData) : Prop where
  lay : x.canLay0 = true
  deep : x.depth ≤ n
theorem Ly.up {n m : Nat} {x : PyData} (h : Ly n x) (hn : n ≤ m := by decide) : Ly m x := ⟨h.lay, Nat.le_trans h.deep hn⟩
theorem ly_int (i : Int) : Ly 0 (.int i) := ⟨by simp only [PyData.canLay0], by simp [PyData.depth]⟩
theorem ly_bool (i : Bool) : Ly 0 (.bool i) := ⟨by simp only [PyData.canLay0], by simp [PyData.depth]⟩
theorem ly_none : Ly 0 .none := ⟨by simp only [PyData.canLay0], by simp [PyData.depth]⟩
theorem ly_str {x : Str} (h : x.cps.all (fun c => decide (c < 0x110000)) = true := by decide +kernel) (e : (PyData.str x).canLay0 = true := by decide +kernel) : Ly 0 (.str x) := ⟨e, by simp [PyData.depth]⟩
theorem ly_all {n : Nat} : ∀ {xs : List PyData}, (∀ x ∈ xs, Ly n x) → PyData.canLayAll0 xs = true ∧ PyData.depthAll xs ≤ n
  | [], _ => by simp [PyData.canLayAll0, PyData.depthAll]
  | x :: xs, h => by
    obtain ⟨a, b⟩ := ly_all (xs := xs) fun y hy => h y (List.mem_cons_of_mem _ hy)
    have z := h x (List.mem_cons_self ..)
    refine ⟨by rw [PyData.canLayAll0, z.lay, a]; rfl, ?_⟩
    have := z.deep
    simp only [PyData.depthAll]; omega
theorem ly_lst {n : Nat} {xs : List PyData} (h : ∀ x ∈ xs, Ly n x) : Ly (n + 1) (.list xs) := by
  obtain ⟨a, b⟩ := ly_all h
  exact ⟨by rw [PyData.canLay0, a], by simp only [PyData.depth]; omega⟩
theorem ly_tup {n : Nat} {xs : List PyData} (h : ∀ x ∈ xs, Ly n x) : Ly (n + 1) (.tuple xs) := by
  obtain ⟨a, b⟩ := ly_all h
  exact ⟨by rw [PyData.canLay0, a], by simp only [PyData.depth]; omega⟩
theorem Ly.shaped {n : Nat} {x : PyData} (h : Ly n x) (hn : n ≤ 64 := by decide) : SeqAt.shaped x = true := by
  have := h.deep
  simp only [SeqAt.shaped, h.lay, Bool.true_and, decide_eq_true_eq]; omega
theorem Ly.self {n : Nat} {x : PyData} (h : Ly n x) : x.eqv x = true := SeqAt.eqv_refl x h.lay
theorem Ly.selfEq {n : Nat} {x : PyData} (h : Ly n x) (hn : n ≤ 64 := by decide) : selfEq x := by
  cases x <;> first | exact True.intro | exact ⟨h.shaped hn, h.self⟩
theorem ly2 (a b : Int) : Ly 1 (.tuple [.int a, .int b]) := ly_tup fun z hz => by
  simp only [List.mem_cons, List.not_mem_nil, or_false] at hz
  rcases hz with rfl | rfl <;> exact ly_int _
/-! ### x in ys, of flat things -/
def toV : PyData → V
  | .bool b => .bl b
  | .int i => .int i
  | .str x => .str x
  | _ => .non
def flP : PyData → Bool
  | .none => true
  | .bool _ => true
  | .int _ => true
  | .str _ => true
  | _ => false
def gMemF (f : Bool → Bool) : G2 := fun x y P => match y with
  | .list ys => flP x = true ∧ ys.all flP = true ∧ P (.d (.bool (f (inV (toV x) (ys.map toV)))))
  | .tuple ys => flP x = true ∧ ys.all flP = true ∧ P (.d (.bool (f (inV (toV x) (ys.map toV)))))
  | _ => False
abbrev gMem : G2 := gMemF id
abbrev gNMem : G2 := gMemF not
section
variable {X : Cx} {w : Wn}
theorem flat_v {K : PySem.W.Frag} {F : Hp} {v : V} {x : PyData} (h : Rp K F v x) (f : flP x = true) : v = toV x ∧ flatV v = true := by
  cases h <;> first | exact ⟨rfl, rfl⟩ | (simp only [flP] at f; cases f)
theorem flat_vs {K : PySem.W.Frag} {F : Hp} : ∀ {vs : List V} {xs : List PyData}, RpA K F vs xs → xs.all flP = true → vs = xs.map toV ∧ vs.all flatV = true
  | _, _, .nil, _ => ⟨rfl, rfl⟩
  | _, _, .cons h t, f => by
    rw [List.all_cons, Bool.and_eq_true] at f
    obtain ⟨a, b⟩ := flat_v h f.1
    obtain ⟨c, d⟩ := flat_vs t f.2
    exact ⟨by rw [List.map_cons, ← a, ← c], by rw [List.all_cons, b, d]; rfl⟩
theorem Rr.flat {K : PySem.W.Frag} {b : Bg} {F H : Hp} {v : V} {x : PyData} (h : Rr K b F H v x) (f : flP x = true) : v = toV x ∧ flatV v = true := by
  cases h with
  | d h => exact flat_v h f
  | o => simp only [flP] at f; cases f
theorem o_in : OpR X (compareOp .In) (lR X.K w.b gMem) := by
  intro pins s σ H x y v u Q I rx ry h
  obtain ⟨F, dx, dy, P, wd, hx, hy, g, q⟩ := h
  unfold gMem gMemF at g
  split at g
  · obtain ⟨l, vs, rfl, e1, r1⟩ := hy.lst wd.sub
    obtain ⟨rfl, f1⟩ := hx.flat g.1
    obtain ⟨rfl, f2⟩ := flat_vs r1 g.2.1
    exact op_in_seq pins s σ H _ _ v u Q I rx ry ⟨l, _, rfl, .inl (SqL.of e1), f1, f2, q _ _ F H wd.refl (res_d (.bl _)) g.2.2⟩
  · obtain ⟨l, vs, rfl, e1, r1⟩ := hy.tup wd.sub
    obtain ⟨rfl, f1⟩ := hx.flat g.1
    obtain ⟨rfl, f2⟩ := flat_vs r1 g.2.1
    exact op_in_seq pins s σ H _ _ v u Q I rx ry ⟨l, _, rfl, .inr e1, f1, f2, q _ _ F H wd.refl (res_d (.bl _)) g.2.2⟩
  · exact g.elim
theorem o_nin : OpR X (compareOp .NotIn) (lR X.K w.b gNMem) := by
  intro pins s σ H x y v u Q I rx ry h
  obtain ⟨F, dx, dy, P, wd, hx, hy, g, q⟩ := h
  unfold gNMem gMemF at g
  split at g
  · obtain ⟨l, vs, rfl, e1, r1⟩ := hy.lst wd.sub
    obtain ⟨rfl, f1⟩ := hx.flat g.1
    obtain ⟨rfl, f2⟩ := flat_vs r1 g.2.1
    exact op_notIn_seq pins s σ H _ _ v u Q I rx ry ⟨l, _, rfl, .inl (SqL.of e1), f1, f2, q _ _ F H wd.refl (res_d (.bl _)) g.2.2⟩
  · obtain ⟨l, vs, rfl, e1, r1⟩ := hy.tup wd.sub
    obtain ⟨rfl, f1⟩ := hx.flat g.1
    obtain ⟨rfl, f2⟩ := flat_vs r1 g.2.1
    exact op_notIn_seq pins s σ H _ _ v u Q I rx ry ⟨l, _, rfl, .inr e1, f1, f2, q _ _ F H wd.refl (res_d (.bl _)) g.2.2⟩
  · exact g.elim
/-! ### tuple(xs) -/
def cTuple : GC := fun us P => one us fun u => rd u fun x => match x with
  | .list xs => P (.d (.tuple xs))
  | .tuple xs => P (.d (.tuple xs))
  | _ => False
theorem k_tuple : CallR X (.type "tuple") (lC X.K w.b cTuple) := by
  intro pins s σ H vs us Q I r h
  obtain ⟨F, dvs, P, wd, ar, g, q⟩ := h
  obtain ⟨u, v, rfl, a, g⟩ := one_ok ar g
  obtain ⟨x, hx, g⟩ := arr_rr a g
  split at g
  · obtain ⟨l, vs, rfl, e, r1⟩ := hx.lst wd.sub
    exact call_tuple_of pins s σ H _ us Q I r ⟨l, vs, rfl, .inl ⟨SqL.of e, res_newT wd r1 q g⟩⟩
  · obtain ⟨l, vs, rfl, e, r1⟩ := hx.tup wd.sub
    refine call_tuple_of pins s σ H _ us Q I r ⟨l, vs, rfl, .inr ⟨e, ?_⟩⟩
    cases hx with
    | d h => exact q _ _ F H wd.refl (res_d h) g
  · exact g.elim
end
/-! ### xs[i], i from either end -/
theorem pickN {xs : List PyData} {r : Int} {P : DV → Prop} (h0 : -(xs.length : Int) ≤ r) (h1 : r < xs.length) (h : ∀ z, z ∈ xs → P (.d z)) : gIx (.list xs) (.int r) P := by
  by_cases hr : 0 ≤ r
  · exact pick hr h1 h
  · have e : ixN xs.length r = some (r + xs.length).toNat := by
      unfold ixN
      rw [if_neg hr, if_pos (by omega)]
      try (congr 1; omega)
    have hl : (r + xs.length).toNat < xs.length := by omega
    have e2 : atI xs r = some xs[(r + xs.length).toNat] := by
      unfold atI
      rw [e]
      exact List.getElem?_eq_getElem hl
    show (match atI xs r with
      | some z => P (.d z)
      | none => False)
    rw [e2]
    exact h _ (List.getElem_mem hl)
/-! ### slices -/
theorem mem_cut {x : PyData} {xs : List PyData} {lo hi : Option Int} (h : x ∈ cutD xs lo hi) : x ∈ xs := List.mem_of_mem_drop (List.mem_of_mem_take h)
theorem cut_from (xs : List PyData) (j : Nat) : cutD xs (some (j : Int)) none = xs.drop j := by
  unfold cutD
  rw [HT.sIx_none, HT.sIx_nat]
  by_cases h : j ≤ xs.length
  · rw [Nat.min_eq_left h, List.take_of_length_le (by simp)]
  · rw [Nat.min_eq_right (by omega), List.drop_of_length_le (Nat.le_refl _), List.drop_of_length_le (by omega), List.take_nil]
theorem cut_to (xs : List PyData) (j : Nat) : cutD xs none (some (j : Int)) = xs.take j := by
  unfold cutD
  rw [HT.sIx_none, HT.sIx_nat, List.drop_zero, Nat.sub_zero]
  by_cases h : j ≤ xs.length
  · rw [Nat.min_eq_left h]
  · rw [Nat.min_eq_right (by omega), List.take_of_length_le (Nat.le_refl _), List.take_of_length_le (by omega)]
end Dl
namespace Dl
open PySem PySem.Spec PyProof.Rows L2
/-! ### fractions over one bottom -/
/-- p / q, in lowest terms, is n / D -/
structure Nu (D n p q : Int) : Prop where
  f : Frac p q
  e : n * q = D * p
theorem Nu.one {D n p q u v : Int} (hD : D ≠ 0) (a : Nu D n p q) (b : Nu D n u v) : p = u ∧ q = v := by
  refine a.f.one b.f (Int.eq_of_mul_eq_mul_left hD ?_)
  rw [← Int.mul_assoc, ← a.e, ← Int.mul_assoc, ← b.e, Int.mul_right_comm]
theorem Nu.le {D n p q : Int} (hD : D ≠ 0) (a : Nu D n p q) : q.natAbs ≤ D.natAbs ∧ p.natAbs ≤ n.natAbs := a.f.le hD a.e
theorem Nu.dvd {D n p q : Int} (a : Nu D n p q) : q ∣ D := by
  have h : q ∣ D * p := ⟨n, by rw [← a.e, Int.mul_comm]⟩
  have h2 : q.natAbs ∣ D.natAbs * p.natAbs := by rw [← Int.natAbs_mul]; exact Int.natAbs_dvd_natAbs.mpr h
  have c : Nat.Coprime q.natAbs p.natAbs := by
    have := a.f.low
    rw [Int.gcd_comm] at this
    exact this
  exact Int.natAbs_dvd_natAbs.mp (Nat.Coprime.dvd_of_dvd_mul_right c h2)
theorem Nu.of {D p q : Int} (f : Frac p q) (h : q ∣ D) : Nu D (p * (D / q)) p q := by
  refine ⟨f, ?_⟩
  obtain ⟨c, rfl⟩ := h
  rw [Int.mul_ediv_cancel_left _ (Int.ne_of_gt f.pos), Int.mul_right_comm, Int.mul_comm p q, Int.mul_right_comm]
/-- a sum of two, of any bottoms -/
theorem nu_sum {D n m p q u v s r : Int} (hq : 0 < q) (hv : 0 < v) (a : n * q = D * p) (b : m * v = D * u) (f : Frac s r) (h : (p * v + u * q) * r = (q * v) * s) : Nu D (n + m) s r := by
  refine ⟨f, Int.eq_of_mul_eq_mul_left (mul_ne hq hv) ?_⟩
  have e1 : q * v * ((n + m) * r) = (n * q) * (v * r) + (m * v) * (q * r) := by
    rw [Int.add_mul, Int.mul_add]
    congr 1 <;> ac_rfl
  have e2 : q * v * (D * s) = D * ((q * v) * s) := by ac_rfl
  rw [e1, e2, ← h, a, b, Int.add_mul, Int.mul_add]
  congr 1 <;> ac_rfl
theorem Nu.plus {D n m p q u v s r : Int} (a : Nu D n p q) (b : Nu D m u v) (f : Frac s r) (h : (p * v + u * q) * r = (q * v) * s) : Nu D (n + m) s r := nu_sum a.f.pos b.f.pos a.e b.e f h
theorem nu_low {D n p q s r : Int} (hq : 0 < q) (a : n * q = D * p) (f : Frac s r) (h : p * r = q * s) : Nu D n s r := by
  refine ⟨f, Int.eq_of_mul_eq_mul_left (Int.ne_of_gt hq) ?_⟩
  have e1 : q * (n * r) = (n * q) * r := by ac_rfl
  have e2 : q * (D * s) = D * (q * s) := by ac_rfl
  rw [e1, e2, ← h, a, Int.mul_assoc]
theorem nu_zero {D : Int} : Nu D 0 0 1 := ⟨⟨by decide, by decide⟩, by simp⟩
/-- fractions, as data, by what they are over one bottom -/
inductive NuL (D : Int) : List Int → List PyData → Prop
  | nil : NuL D [] []
  | cons {n p q : Int} {ns : List Int} {xs : List PyData} (a : Nu D n p q) (t : NuL D ns xs) : NuL D (n :: ns) (.tuple [.int p, .int q] :: xs)
namespace NuL
variable {D : Int}
theorem len : ∀ {ns : List Int} {xs : List PyData}, NuL D ns xs → ns.length = xs.length
  | _, _, .nil => rfl
  | _, _, .cons _ t => congrArg (· + 1) (len t)
theorem take : ∀ (k : Nat) {ns : List Int} {xs : List PyData}, NuL D ns xs → NuL D (ns.take k) (xs.take k)
  | 0, _, _, _ => .nil
  | _ + 1, _, _, .nil => .nil
  | k + 1, _, _, .cons a t => .cons a (take k t)
theorem drop : ∀ (k : Nat) {ns : List Int} {xs : List PyData}, NuL D ns xs → NuL D (ns.drop k) (xs.drop k)
  | 0, _, _, h => h
  | _ + 1, _, _, .nil => .nil
  | k + 1, _, _, .cons _ t => drop k t
theorem app : ∀ {ns ms : List Int} {xs ys : List PyData}, NuL D ns xs → NuL D ms ys → NuL D (ns ++ ms) (xs ++ ys)
  | _, _, _, _, .nil, h => h
  | _, _, _, _, .cons a t, h => .cons a (app t h)
theorem fr : ∀ {ns : List Int} {xs : List PyData}, NuL D ns xs → ∀ x ∈ xs, isFr x = true
  | _, _, .nil, _, h => absurd h List.not_mem_nil
  | _, _, .cons a t, x, h => by
    rcases List.mem_cons.mp h with rfl | h
    · exact isFr_of a.f
    · exact fr t x h
end NuL
/-- how far all of them go together -/
def aS : List Int → Nat
  | [] => 0
  | n :: ns => n.natAbs + aS ns
theorem aS_app (a b : List Int) : aS (a ++ b) = aS a + aS b := by
  induction a with
  | nil => simp [aS]
  | cons n a ih => simp only [List.cons_append, aS, ih]; omega
theorem aS_mem {n : Int} : ∀ {ns : List Int}, n ∈ ns → n.natAbs ≤ aS ns
  | [], h => absurd h List.not_mem_nil
  | m :: ns, h => by
    rcases List.mem_cons.mp h with rfl | h
    · simp only [aS]; omega
    · have := aS_mem h; simp only [aS]; omega
theorem aS_sum : ∀ (ns : List Int), ns.sum.natAbs ≤ aS ns
  | [] => by simp [aS]
  | n :: ns => by
    have := aS_sum ns
    simp only [List.sum_cons, aS]; omega
theorem aS_le {b : Nat} : ∀ {ns : List Int}, (∀ n ∈ ns, n.natAbs ≤ b) → aS ns ≤ ns.length * b
  | [], _ => by simp [aS]
  | n :: ns, h => by
    have h1 := h n (List.mem_cons_self ..)
    have h2 := aS_le (ns := ns) fun m hm => h m (List.mem_cons_of_mem _ hm)
    simp only [aS, List.length_cons, Nat.add_mul]; omega
/-- the sums of two lists, place by place -/
def addZ : List Int → List Int → List Int
  | a :: as, b :: bs => (a + b) :: addZ as bs
  | _, _ => []
theorem addZ_sum : ∀ {as bs : List Int}, as.length ≤ bs.length → (addZ as bs).sum + (bs.drop as.length).sum = as.sum + bs.sum
  | [], bs, _ => by cases bs <;> simp [addZ]
  | a :: as, [], h => by simp at h
  | a :: as, b :: bs, h => by
    have := addZ_sum (as := as) (bs := bs) (by simpa using h)
    simp only [addZ, List.sum_cons, List.length_cons, List.drop_succ_cons]
    omega
theorem addZ_aS : ∀ {as bs : List Int}, as.length ≤ bs.length → aS (addZ as bs) + aS (bs.drop as.length) ≤ aS as + aS bs
  | [], bs, _ => by cases bs <;> simp [addZ, aS]
  | a :: as, [], h => by simp at h
  | a :: as, b :: bs, h => by
    have := addZ_aS (as := as) (bs := bs) (by simpa using h)
    simp only [addZ, aS, List.length_cons, List.drop_succ_cons]
    omega
/-! ### what a fraction is over D, as data -/
def numD (D : Int) : PyData → Int
  | .tuple [.int p, .int q] => p * (D / q)
  | _ => 0
def totD (D : Int) : List PyData → Int
  | [] => 0
  | x :: xs => numD D x + totD D xs
theorem totD_map (D : Int) : ∀ xs, (xs.map (numD D)).sum = totD D xs
  | [] => rfl
  | x :: xs => by simp only [List.map_cons, List.sum_cons, totD, totD_map D xs]
theorem totD_app (D : Int) : ∀ xs ys, totD D (xs ++ ys) = totD D xs + totD D ys
  | [], ys => by simp [totD]
  | x :: xs, ys => by simp only [List.cons_append, totD, totD_app D xs ys]; omega
theorem totD_rev (D : Int) : ∀ xs, totD D xs.reverse = totD D xs
  | [] => rfl
  | x :: xs => by simp only [List.reverse_cons, totD_app, totD, totD_rev D xs]; omega
/-- a fraction whose bottom divides D, its top not too far -/
def FrD (k : Nat) (D : Int) (x : PyData) : Prop := ∃ p q : Int, x = .tuple [.int p, .int q] ∧ Frac p q ∧ q ∣ D ∧ p.natAbs < 2 ^ k
theorem FrD.nu {k : Nat} {D : Int} : ∀ {xs : List PyData}, (∀ x ∈ xs, FrD k D x) → NuL D (xs.map (numD D)) xs
  | [], _ => .nil
  | x :: xs, h => by
    obtain ⟨p, q, rfl, f, d, _⟩ := h x (List.mem_cons_self ..)
    exact .cons (Nu.of f d) (FrD.nu fun y hy => h y (List.mem_cons_of_mem _ hy))
theorem FrD.num {k m : Nat} {D : Int} {x : PyData} (h : FrD k D x) (hD : D.natAbs < 2 ^ m) : (numD D x).natAbs < 2 ^ (k + m) := by
  obtain ⟨p, q, rfl, f, d, hp⟩ := h
  have hq := f.pos
  refine natAbs_mul_lt hp (Nat.lt_of_le_of_lt ?_ hD)
  obtain ⟨c, rfl⟩ := d
  rw [Int.mul_ediv_cancel_left _ (Int.ne_of_gt hq), Int.natAbs_mul]
  exact Nat.le_mul_of_pos_left _ (by omega)
theorem FrD.up {k m : Nat} {D E : Int} {x : PyData} (h : FrD k D x) (hk : k ≤ m) (hD : D ∣ E) : FrD m E x := by
  obtain ⟨p, q, e, f, d, hp⟩ := h
  exact ⟨p, q, e, f, Int.dvd_trans d hD, two_le hp hk⟩
theorem FrD.fk {k : Nat} {D : Int} {x : PyData} (h : FrD k D x) (hD0 : D ≠ 0) (hD : D.natAbs < 2 ^ k) : ∃ p q : Int, x = .tuple [.int p, .int q] ∧ Fk k p q := by
  obtain ⟨p, q, e, f, d, hp⟩ := h
  exact ⟨p, q, e, f, hp, Nat.lt_of_le_of_lt (Nat.le_of_dvd (by omega) (Int.natAbs_dvd_natAbs.mpr d)) hD⟩
end Dl
namespace Dl
open PySem PySem.Spec PyProof.Rows L2
/-! ### a constant of the module that is data -/
theorem d_globC {X : Cx} {w : Wn} {pos : Pos} {x : Str} {u : Value} {v : V} {d : PyData} (hg : Gl X x) (hm : X.mg x = some u) (r : RelV v u) (e : ∀ F, Rp X.K F v d) (hd : (x == ("__debug__" : Str)) = false := by decide) : DPE X w (.Name x pos) (tCD d) :=
  pe_weak (pe_glob hg hm r hd) fun σ H Q ⟨env, F, P, rl, h, q⟩ => q (.d d) _ F H rl.wd.refl (e F) h
theorem con_tup {K : PySem.W.Frag} {a : Addr} {od : Option Addr} {its : Array Value} {n : Nat} {sl : Array (Option Value)} {vs : List V} {xs : List PyData} (l : K.lookup a = some ⟨.type "tuple", od, .seq its n, sl⟩) (z : its.size ≤ 100000) (v : Vals vs its.toList) (r : ∀ F, RpA K F vs xs) : ∀ F, Rp K F (.ref a) (.tuple xs) :=
  fun F => .tup (.inr ⟨_, its, n, l, rfl, rfl, lim_le z, v⟩) (r F)
/-! ### an if by itself: what is in its branches stays a name -/
theorem ifG {t : DTT} {p q : DS} {d : DK} {env : List Sl} (h : ∀ A B : Prop, (p d env → A) → (q d env → B) → t env fun k => if k = true then A else B) : tIfD t p q d env := h _ _ (fun z => z) fun z => z
end Dl
namespace Dl
open PySem PySem.Spec PyProof.Rows L2
/-! ### more of fractions over one bottom -/
theorem nu_scale {c Q p s r : Int} (f : Frac s r) (h : p * r = Q * s) : Nu (c * Q) (c * p) s r := ⟨f, by rw [Int.mul_assoc, h, Int.mul_assoc]⟩
theorem Nu.cast {D D' n n' s r : Int} (a : Nu D n s r) (h1 : D = D') (h2 : n = n') : Nu D' n' s r := h1 ▸ h2 ▸ a
theorem nu_le {D n m p q u v : Int} (hD : 0 < D) (a : Nu D n p q) (b : Nu D m u v) (h : n ≤ m) : p * v ≤ u * q := by
  refine Int.le_of_mul_le_mul_left ?_ hD
  have e1 : D * (p * v) = n * (q * v) := by rw [← Int.mul_assoc, ← a.e, Int.mul_assoc]
  have e2 : D * (u * q) = m * (q * v) := by rw [← Int.mul_assoc, ← b.e, Int.mul_assoc, Int.mul_comm v q]
  rw [e1, e2]
  exact Int.mul_le_mul_of_nonneg_right h (Int.le_of_lt (Int.mul_pos a.f.pos b.f.pos))
theorem frac_abs {p q : Int} (f : Frac p q) : Frac (p.natAbs : Int) q := ⟨f.pos, by have := f.low; unfold Int.gcd at this ⊢; rw [Int.natAbs_natCast]; exact this⟩
/-- a fraction, bounds of its top and its bottom -/
structure Fb (k m : Nat) (p q : Int) : Prop where
  f : Frac p q
  t : p.natAbs < 2 ^ k
  b : q.natAbs < 2 ^ m
theorem Fb.fk {k m j : Nat} {p q : Int} (h : Fb k m p q) (h1 : k ≤ j := by decide) (h2 : m ≤ j := by decide) : Fk j p q := ⟨h.f, two_le h.t h1, two_le h.b h2⟩
theorem Fb.up {k m j i : Nat} {p q : Int} (h : Fb k m p q) (h1 : k ≤ j := by decide) (h2 : m ≤ i := by decide) : Fb j i p q := ⟨h.f, two_le h.t h1, two_le h.b h2⟩
theorem fb_of {k m : Nat} {t b s r : Int} (f : Frac s r) (hb : b ≠ 0) (e : t * r = b * s) (ht : t.natAbs < 2 ^ k) (hb2 : b.natAbs < 2 ^ m) : Fb k m s r := by
  obtain ⟨l1, l2⟩ := f.le hb e
  exact ⟨f, Nat.lt_of_le_of_lt l2 ht, Nat.lt_of_le_of_lt l1 hb2⟩
theorem sum_ltb {k m i j : Nat} {p q u v : Int} (p1 : p.natAbs < 2 ^ k) (q1 : q.natAbs < 2 ^ i) (u1 : u.natAbs < 2 ^ m) (v1 : v.natAbs < 2 ^ j) (n : Nat) (h1 : k + j ≤ n := by decide) (h2 : m + i ≤ n := by decide) : (p * v + u * q).natAbs < 2 ^ (n + 1) :=
  natAbs_add_lt (two_le (natAbs_mul_lt p1 v1) h1) (two_le (natAbs_mul_lt u1 q1) h2)
/-- a worth between two ends: k sixteenths of the way -/
def midT (X Y k : Int) : Int := 16 * X + (Y - X) * k
theorem mid_le {X Y k : Int} (h : X ≤ Y) (k0 : 0 ≤ k) (k1 : k ≤ 16) : 16 * X ≤ midT X Y k ∧ midT X Y k ≤ 16 * Y := by
  have h1 : 0 ≤ (Y - X) * k := Int.mul_nonneg (by omega) k0
  have h2 : (Y - X) * k ≤ (Y - X) * 16 := Int.mul_le_mul_of_nonneg_left k1 (by omega)
  unfold midT
  omega
end Dl
namespace Dl
open PySem PySem.Spec PyProof.Rows L2
/-! ### a, b, c = x, y, z -/
theorem hu65 {k : Nat} {A : Around} (r : Room k A) : A.units + 65 < cLine := by have := r.un; omega
section
variable {X : Cx} {w : Wn} {pos : Pos}
def tPar3D (i j l : Nat) (ta : DA) : DS := fun d env => ta env fun us => allD us fun xs => match xs with
  | [x, y, z] => d.nx (((env.set i (.d x)).set j (.d y)).set l (.d z))
  | _ => False
theorem ds_par3 {i j l : Nat} {x y z : Str} {a b c : Expr} {ta : DA} {px py pz pt : Pos} {kt k2 pt2}
    (base : PS X (.Assign [.Tuple [.Name x px, .Name y py, .Name z pz] kt pt] (.Tuple [a, b, c] k2 pt2) pos) (tPar3 i j l (lfA X.K w ta))) :
    DPS X w (.Assign [.Tuple [.Name x px, .Name y py, .Name z pz] kt pt] (.Tuple [a, b, c] k2 pt2) pos) (tPar3D i j l ta) :=
  ps_weak base fun D σ H ⟨env, F, d, r, h, fit⟩ => ⟨env, F, _, r, h, fun dvs vs F1 H1 s1 r1 h1 => by
    obtain ⟨xs, ra, h1⟩ := allD_ok r1 h1
    split at h1
    · next x y z =>
      cases ra with
      | cons a1 t =>
        cases t with
        | cons a2 t =>
          cases t with
          | cons a3 t =>
            cases t
            refine ⟨_, _, _, rfl, fit.nx _ _ F1 H1 (((((r.step s1).put i (z := .d x) ⟨_, rfl, a1⟩ ?_).put j (z := .d y) ⟨_, rfl, a2⟩ ?_)).put l (z := .d z) ⟨_, rfl, a3⟩ ?_) s1.ex h1⟩
            · intro a m; cases m
            · intro a m; cases m
            · intro a m; cases m
    · exact h1.elim⟩
/-! ### xs.index(y) -/
mutual
theorem dp_of {K : PySem.W.Frag} {H : Hp} : ∀ (x : PyData) (v : V), flatD x = true → Rp K H v x → Dp K H v x
  | .none, _, _, h => by cases h; exact .non
  | .bool b, _, _, h => by cases h; exact .bl _
  | .int b, _, _, h => by cases h; exact .int _
  | .str b, _, _, h => by cases h; exact .str _
  | .list xs, _, f, h => by
    cases h with
    | lst e r => exact .lst (SqL.of e) (dpa_of xs _ (by simpa only [flatD] using f) r)
  | .tuple xs, _, f, h => by
    cases h with
    | tup e r => exact .tup e (dpa_of xs _ (by simpa only [flatD] using f) r)
  | .dict _, _, f, _ => by simp only [flatD] at f; cases f
theorem dpa_of {K : PySem.W.Frag} {H : Hp} : ∀ (xs : List PyData) (vs : List V), flatA xs = true → RpA K H vs xs → DpAll K H vs xs
  | [], _, _, h => by cases h; exact .nil
  | x :: xs, _, f, h => by
    cases h with
    | cons a t =>
      rw [flatA, Bool.and_eq_true] at f
      exact .cons (dp_of x _ f.1 a) (dpa_of xs _ f.2 t)
end
def tIdxD (te : DT) (ta : DA) : DT := fun env P => te env fun u => rd u fun x => match x with
  | .list xs => ta env fun us => one us fun z => rd z fun y => SeqAt.shaped (.list xs) = true ∧ SeqAt.shaped y = true ∧ ∃ (j : Nat) (z : PyData), xs[j]? = some z ∧ z.eqv y = true ∧ (∀ m z', m < j → xs[m]? = some z' → z'.eqv y = false) ∧ P (.d (.int (j : Nat)))
  | _ => False
theorem d_index {o e : Expr} {te : DT} {ta : DA} {apos : Pos} (he : DPE X w o te) (ha : DPA X w [e] ta)
    (base : ∀ {to : TE} {t : TA}, PE X o to → PA X [e] t → PE X (.Call (.Attribute o "index" apos) [e] [] pos) (tBM X.K "list" (rIndexD X.K) to t)) : DPE X w (.Call (.Attribute o "index" apos) [e] [] pos) (tIdxD te ta) :=
  pe_weak (base he ha) fun σ H Q ⟨env, F, P, r, h, q⟩ => ⟨env, F, _, r, h, fun dv v F1 H1 s1 r1 h1 => by
    obtain ⟨x, x1, h1⟩ := rd_ok r1 h1
    split at h1
    · next xs =>
      obtain ⟨l, vs, rfl, e1, ra⟩ := x1.lst s1.sub
      refine ⟨.inl ⟨rfl, vs, SqL.of e1⟩, env, F1, _, r.step s1, h1, fun dvs us F2 H2 s2 ar h2 => ?_⟩
      obtain ⟨z, u, rfl, a, h2⟩ := one_ok ar h2
      obtain ⟨y, hy, g1, g2, j, z, g3, g4, g5, g6⟩ := arr_rr a h2
      have x2 := (x1.step s2).all s2.sub
      exact ⟨l, u, y, xs, j, z, rfl, rfl, dp_of _ _ (flat_of_can _ (SeqAt.canLay_of_shaped g1)) x2, dp_of _ _ (flat_of_can _ (SeqAt.canLay_of_shaped g2)) (hy.all s2.sub), g1, g2, g3, g4, g5, q (.d (.int (j : Nat))) _ F2 H2 (s1.trans s2) (Rp.int _) g6⟩
    · exact h1.elim⟩
/-! ### xs.insert(i, y) -/
abbrev rInsert : V → List V → Hp → VK → Prop := fun x vs H Q => ∃ (l : Addr) (xs : List V) (i : Int) (y : V), x = .ref l ∧ vs = [.int i, y] ∧ H l = some (.lst xs) ∧ xs.length < sizeLine ∧ 0 ≤ i ∧ i < 2 ^ 63 ∧ Q .non (upd H l (.lst (xs.take i.toNat ++ [y] ++ xs.drop i.toNat)))
def tInsD (i : Nat) (ta tb : DT) : DS := fun d env => match env[i]? with
  | some (.ow l xs) => xs.length < 100000 ∧ ta env fun u => match u with
    | .d (.int k) => (0 ≤ k ∧ k < 100000) ∧ tb env fun dv => match frz dv with
      | .d x => d.nx (env.set i (.ow l (xs.take k.toNat ++ [x] ++ xs.drop k.toNat)))
      | _ => False
    | _ => False
  | _ => False
theorem ds_ins {i : Nat} {e : Expr} {ta tb : DT} (base : PE X e (tBM X.K "list" rInsert (tVar i) (tCons (lf X.K w ta) (tCons (lf X.K w tb) tNil)))) (hs : swapsWith e none pos.line X.env = pure false := by rfl) : DPS X w (.Expr e pos) (tInsD i ta tb) :=
  ps_weak (ps_expr base hs) fun D σ H ⟨env, F, d, r, h, fit⟩ => by
    unfold tInsD at h
    split at h
    · next l xs ei =>
      obtain ⟨e1, _, _, _, vs, hl, _⟩ := r.at' i _ ei
      obtain ⟨hz, h⟩ := h
      refine ⟨_, e1, .inl ⟨rfl, vs, SqL.of hl⟩, env, F, _, r, h, fun dv v F1 H1 s1 r1 h1 => ?_⟩
      split at h1
      · next k =>
        obtain ⟨⟨k0, k1⟩, h1⟩ := h1
        have ev := r1.intOf
        subst ev
        refine ⟨env, F1, _, r.step s1, h1, fun dv v F2 H2 s2 r2 h2 => ?_⟩
        obtain ⟨F3, s3, a3⟩ := frz_ok s2 r2
        have r3 := (r.step s1).step s3
        obtain ⟨_, _, _, _, us, hl2, q2⟩ := r3.at' i _ ei
        split at h2
        · next x ex =>
          rw [ex] at a3
          refine ⟨l, us, k, v, rfl, rfl, hl2, by rw [q2.len]; exact lim_lt hz, k0, by omega, ?_⟩
          exact fit.nx _ _ F3 _ (r3.wrt ei (((q2.take _).app (.cons a3 .nil)).app (q2.drop _))) (s1.ex.trans s3.ex) h2
        · exact h2.elim
      · exact h1.elim
    · exact h.elim
theorem ixE (te : DT) (ta : DA) (env : List Sl) (P : DV → Prop) : tIdxD te ta env P = te env fun u => rd u fun x => match x with
  | .list xs => ta env fun us => one us fun z => rd z fun y => SeqAt.shaped (.list xs) = true ∧ SeqAt.shaped y = true ∧ ∃ (j : Nat) (z : PyData), xs[j]? = some z ∧ z.eqv y = true ∧ (∀ m z', m < j → xs[m]? = some z' → z'.eqv y = false) ∧ P (.d (.int (j : Nat)))
  | _ => False := propext ⟨fun h => h, fun h => h⟩
end
end Dl
namespace Dl
open PySem PySem.Spec PyProof.Rows L2
/-! ### a generator expression's captured names -/
def freeIn (sc so : Scope) : Bool := sc.names.all fun y => match y.2 with
  | .free => isCell so y.1
  | _ => true
theorem hfreeC {sc so : Scope} {qual : Str} {L f : Addr} {cd : Value} (h : freeIn sc so = true) : ∀ y ∈ sc.names, y.2 = .free → ∃ c, (envOfC qual so L f cd).cells.lookup y.1 = some c := fun y hy e => by
  have q := List.all_eq_true.mp h y hy
  rw [e] at q
  have z := PySem.W.cellsFrom_some so.names (L + 1) [] (.inl (isCell_of q))
  exact Option.isSome_iff_exists.mp z
section
variable {X : Cx} {w : Wn} {e : Expr} {te : DT} {pos : Pos}
/-! ### slices of tuples and of texts -/
def tSlT (te : DT) (lo hi : DO) : DT := fun env P => te env fun u => rd u fun x => lo env fun l => hi env fun h => match x with
  | .tuple xs => P (.d (.tuple (cutD xs l h)))
  | _ => False
theorem cut_all {xs : List PyData} {lo hi : Option Int} (h : HT.sIx xs.length 0 lo = 0 ∧ HT.sIx xs.length xs.length hi = xs.length) : cutD xs lo hi = xs := by
  unfold cutD
  rw [h.1, h.2, List.drop_zero, Nat.sub_zero, List.take_length]
theorem d_slT {lo hi : Option Expr} {tl th : DO} {p2 : Pos} (he : DPE X w e te) (hl : PO X lo (lfO X.K w tl)) (hh : PO X hi (lfO X.K w th)) : DPE X w (.Subscript e (.Slice lo hi none p2) pos) (tSlT te tl th) :=
  pe_weak (pe_slice sl_tupA he hl hh) fun σ H Q ⟨env, F, P, r, h, q⟩ => ⟨env, F, _, r, h, fun dv v F1 H1 s1 r1 h1 => by
    obtain ⟨x, x1, h1⟩ := rd_ok r1 h1
    refine ⟨env, F1, _, r.step s1, h1, fun l F2 H2 s2 h2 => ⟨env, F2, _, (r.step s1).step s2, h2, fun u F3 H3 s3 h3 => ?_⟩⟩
    have s13 := (s1.trans s2).trans s3
    split at h3
    · next xs =>
      have x3 := (x1.step s2).step s3
      obtain ⟨m, vs, rfl, e, ra⟩ := x3.tup s3.sub
      refine ⟨m, vs, rfl, e, fun hz => ?_, fun hz => res_newT s3.wd (cut_rp ra l u) (fun dv v F4 H4 s4 r4 h4 => q dv v F4 H4 (s13.trans s4) (r4.early s13) h4) h3⟩
      rw [ra.len] at hz
      rw [cut_all hz] at h3
      cases x3 with
      | d x3 => exact q (.d (.tuple xs)) _ F3 H3 s13 x3 h3
    · exact h3.elim⟩
def tSlS (te : DT) (lo hi : DO) : DT := fun env P => te env fun u => rd u fun x => lo env fun l => hi env fun h => match x with
  | .str z => z.length ≤ 100000 ∧ P (.d (.str (cutS z l h)))
  | _ => False
theorem d_slS {lo hi : Option Expr} {tl th : DO} {p2 : Pos} (he : DPE X w e te) (hl : PO X lo (lfO X.K w tl)) (hh : PO X hi (lfO X.K w th)) : DPE X w (.Subscript e (.Slice lo hi none p2) pos) (tSlS te tl th) :=
  pe_weak (pe_slice sl_str he hl hh) fun σ H Q ⟨env, F, P, r, h, q⟩ => ⟨env, F, _, r, h, fun dv v F1 H1 s1 r1 h1 => by
    obtain ⟨x, x1, h1⟩ := rd_ok r1 h1
    refine ⟨env, F1, _, r.step s1, h1, fun l F2 H2 s2 h2 => ⟨env, F2, _, (r.step s1).step s2, h2, fun u F3 H3 s3 h3 => ?_⟩⟩
    split at h3
    · next z =>
      cases x1.str
      exact ⟨z, rfl, lim_le h3.1, q (.d (.str _)) _ F3 H3 ((s1.trans s2).trans s3) (Rp.str _) h3.2⟩
    · exact h3.elim⟩
/-! ### sorted of numbers -/
def cSorted : GC := fun us P => one us fun u => rd u fun x => match x with
  | .list xs => ∃ ns : List Int, xs = ns.map PyData.int ∧ ∀ ms : List Int, ms.Perm ns → ms.Pairwise (· ≤ ·) → P (.fr (ms.map PyData.int))
  | _ => False
theorem k_sorted : CallR X (.builtin "sorted") (lC X.K w.b cSorted) := by
  intro pins s σ H vs us Q I r h
  obtain ⟨F, dvs, P, wd, ar, g, q⟩ := h
  obtain ⟨u, v, rfl, a, g⟩ := one_ok ar g
  obtain ⟨x, hx, g⟩ := arr_rr a g
  split at g
  · obtain ⟨ns, rfl, g⟩ := g
    obtain ⟨l, vs, rfl, e, r1⟩ := hx.lst wd.sub
    have ev := r1.ofInts
    subst ev
    exact cr_sortedI pins s σ H _ us Q I r ⟨l, ns, rfl, SqL.of e, fun ms p h1 h2 hp => res_new wd (RpA.ints ms) q (g ms h1 h2) p hp⟩
  · exact g.elim
/-! ### tuples of numbers by < -/
def gLtT : G2 := fun x y P => match x, y with
  | .tuple xs, .tuple ys => ∃ ns ms : List Int, xs = ns.map PyData.int ∧ ys = ms.map PyData.int ∧ P (.d (.bool (HT.lexLt ns ms)))
  | _, _ => False
theorem o_ltT (hu : X.A.units < cLine) : OpR X (compareOp .Lt) (lR X.K w.b gLtT) := by
  intro pins s σ H x y v u Q I rx ry h
  obtain ⟨F, dx, dy, P, wd, hx, hy, g, q⟩ := h
  unfold gLtT at g
  split at g
  · obtain ⟨ns, ms, rfl, rfl, g⟩ := g
    obtain ⟨l, vs, rfl, e1, r1⟩ := hx.tup wd.sub
    obtain ⟨m, us, rfl, e2, r2⟩ := hy.tup wd.sub
    have z1 := r1.ofInts
    have z2 := r2.ofInts
    subst z1 z2
    exact op_ltT hu pins s σ H _ _ v u Q I rx ry ⟨l, m, ns, ms, rfl, rfl, e1, e2, q _ _ F H wd.refl (res_d (.bl _)) g⟩
  · exact g.elim
/-! ### x in ys, of nested data -/
def gMemD : G2 := fun x y P => match y with
  | .list ys => SeqAt.shaped x = true ∧ SeqAt.shaped (.list ys) = true ∧ P (.d (.bool (ys.any fun z => z.eqv x)))
  | _ => False
theorem o_inD (hu : X.A.units + 65 < cLine) : OpR X (compareOp .In) (lR X.K w.b gMemD) := by
  intro pins s σ H x y v u Q I rx ry h
  obtain ⟨F, dx, dy, P, wd, hx, hy, g, q⟩ := h
  unfold gMemD at g
  split at g
  · obtain ⟨g1, g2, g3⟩ := g
    exact op_inD hu pins s σ H _ _ v u Q I rx ry ⟨_, _, dp_of _ _ (flat_of_can _ (SeqAt.canLay_of_shaped g1)) (hx.all wd.sub), dp_of _ _ (flat_of_can _ (SeqAt.canLay_of_shaped g2)) (hy.all wd.sub), g1, g2, q _ _ F H wd.refl (res_d (.bl _)) g3⟩
  · exact g.elim
end
end Dl
namespace Dl
open PySem PySem.Spec PyProof.Rows L2
section
variable {X : Cx} {w : Wn} {pos : Pos}
/-! ### {'a': 1} -/
def tDict1 (s : Str) (i : Int) : DT := fun _ P => P (.d (.dict [(.str s, .int i)]))
theorem d_dict1 {s : Str} {i : Int} {j1 j2} {p1 p2 : Pos} : DPE X w (.Dict [some (.Constant (.str s) j1 p1)] [.Constant (.int i) j2 p2] pos) (tDict1 s i) :=
  pe_weak (pe_disp (pps_cons pe_str pe_int pps_nil) rfl rfl (by simp) (by simp)) fun σ H Q ⟨env, F, P, r, h, q⟩ => fun p hp => by
    refine ⟨upd_same, [(Sum.inr s, V.int i)], rfl, by simp, ?_⟩
    have e : ∀ o2 : HO, upd (upd H p (.dK [])) p o2 = upd H p o2 := fun o2 => by
      funext a
      by_cases z : a = p
      · rw [z, upd_same, upd_same]
      · rw [upd_ne z, upd_ne z, upd_ne z]
    rw [e]
    have st := r.wd.laid (o := .dK (mergeK [] [(Sum.inr s, V.int i)])) hp
    refine q (.d (.dict [(.str s, .int i)])) _ _ _ st ?_ h
    exact Rp.dct (kvs := [(Sum.inr s, V.int i)]) (ks := [.str s]) (xs := [.int i]) upd_same (.cons (.str s) .nil) (.cons (.int i) .nil)
/-! ### sep.join(xs) -/
theorem RpA.ofStrs {K : PySem.W.Frag} {F : Hp} : ∀ {vs : List V} {ns : List Str}, RpA K F vs (ns.map PyData.str) → vs = ns.map V.str
  | _, [], .nil => rfl
  | _, n :: ns, .cons h t => by
    cases h
    rw [RpA.ofStrs t]
    rfl
def tJoin (to te : DT) : DT := fun env P => to env fun u => rd u fun x => match x with
  | .str a => te env fun v => rd v fun y => match y with
    | .list zs => ∃ ys : List Str, zs = ys.map PyData.str ∧ (ys.map (·.length)).sum + ys.length * a.length ≤ 100000 ∧ P (.d (.str (Txt.join a ys)))
    | _ => False
  | _ => False
theorem d_join {o e : Expr} {to te : DT} {apos : Pos} (ho : DPE X w o to) (he : DPE X w e te)
    (base : ∀ {t1 t2 : TE}, PE X o t1 → PE X e t2 → PE X (.Call (.Attribute o "join" apos) [e] [] pos) (tM1 (fun x xs H Q => ∃ a p, ∃ ys : List Str, x = .str a ∧ xs = [.ref p] ∧ (SqL X.K H p (ys.map V.str) ∨ SqT X.K H p (ys.map V.str)) ∧ (ys.map (·.length)).sum + ys.length * a.length ≤ 16777216 ∧ Q (.str (Txt.join a ys)) H) t1 t2)) :
    DPE X w (.Call (.Attribute o "join" apos) [e] [] pos) (tJoin to te) :=
  pe_weak (base ho he) fun σ H Q ⟨env, F, P, r, h, q⟩ => ⟨env, F, _, r, h, fun dv v F1 H1 s1 r1 h1 => by
    obtain ⟨x, x1, h1⟩ := rd_ok r1 h1
    split at h1
    · next a =>
      cases x1.str
      refine ⟨⟨a, rfl⟩, env, F1, _, r.step s1, h1, fun dv2 v2 F2 H2 s2 r2 h2 => ?_⟩
      obtain ⟨y, y1, h2⟩ := rd_ok r2 h2
      split at h2
      · next zs =>
        obtain ⟨ys, rfl, g1, g2⟩ := h2
        obtain ⟨l, vs, rfl, e1, ra⟩ := y1.lst s2.sub
        have ev := ra.ofStrs
        subst ev
        exact ⟨a, l, ys, rfl, rfl, .inl (SqL.of e1), by omega, q (.d (.str _)) _ F2 H2 (s1.trans s2) (Rp.str _) g2⟩
      · exact h2.elim
    · exact h1.elim⟩
theorem pickS {z : Str} {r : Int} {P : DV → Prop} (hz : z.length ≤ 100000) (h0 : 0 ≤ r) (h1 : r < z.cps.toList.length) (h : ∀ c, c ∈ z.cps.toList → P (.d (.str ⟨#[c]⟩))) : gIx (.str z) (.int r) P := by
  have hr : r.toNat < z.cps.toList.length := by omega
  have ez : r = ((r.toNat : Nat) : Int) := by omega
  have e : atI z.cps.toList r = some z.cps.toList[r.toNat] := atD ez (List.getElem?_eq_getElem hr)
  refine ⟨hz, ?_⟩
  rw [e]
  exact h _ (List.getElem_mem hr)
end
end Dl
namespace Dl
open PySem PySem.Spec PyProof.Rows L2
/-! ### refusals: a promise with two ends -/
/-- what is wished of an exception: its class by its name in the module, its one field's name and datum -/
abbrev XD := Str → Str → PyData → Prop
abbrev DSpX := List DV → (DV → Prop) → XD → Prop
/-- what leaves a def by an exception, in the data's words; one without a field is told by no name and None -/
structure XEnd (mg : Str → Option Value) (K : PySem.W.Frag) (b : Bg) (F H : Hp) (E : XK) (R : XD) : Prop where
  fl : ∀ c C n x v d F' H', mg c = some (.ref C) → Stp K b F H F' H' → H' d = some (.xd [(n, v)]) → Rp K F' v x → R c n x → E (.ref C) (some d) H'
  no : ∀ c C F' H', mg c = some (.ref C) → Stp K b F H F' H' → R c "" .none → E (.ref C) none H'
theorem XEnd.later {mg : Str → Option Value} {K : PySem.W.Frag} {b : Bg} {F H F1 H1 : Hp} {E : XK} {R : XD} (h : XEnd mg K b F H E R) (st : Stp K b F H F1 H1) : XEnd mg K b F1 H1 E R :=
  ⟨fun c C n x v d F' H' hc s hd rp hr => h.fl c C n x v d F' H' hc (st.trans s) hd rp hr, fun c C F' H' hc s hr => h.no c C F' H' hc (st.trans s) hr⟩
theorem XEnd.none {mg : Str → Option Value} {K : PySem.W.Frag} {b : Bg} {F H : Hp} {E : XK} : XEnd mg K b F H E fun _ _ _ => False := ⟨fun _ _ _ _ _ _ _ _ _ _ _ _ h => h.elim, fun _ _ _ _ _ _ h => h.elim⟩
/-- the same at the caller's slots -/
def XEnS (mg : Str → Option Value) (K : PySem.W.Frag) (w : Wn) (E : L2.St → XK) (R : List Sl → XD) : Prop := ∀ env σ F H, RelW K w env σ F H → XEnd mg K w.b F H (E σ) (R env)
theorem XEnd.at {mg : Str → Option Value} {K : PySem.W.Frag} {w : Wn} {E : XK} {R : XD} (h : XEnd mg K w.b w.F w.H E R) : XEnS mg K w (fun _ => E) fun _ => R := fun env σ F H r => h.later r.st
def PmX (mg : Str → Option Value) (K : PySem.W.Frag) (ts : List Addr) (sp : DSpX) : Sp := fun vs H Q E => ∃ b F dvs P R, b.ts = ts ∧ Wd K b F H ∧ Paired (AgR K b F) dvs vs ∧ sp dvs P R ∧ (∀ dv v F' H', Stp K b F H F' H' → Res K b H F' H' dv v → P dv → Q v H') ∧ XEnd mg K b F H E R
def tUseX (sp : DSpX) (R : List Sl → XD) (t : DA) : DT := fun env P => t env fun us => anyOw us = [] ∧ sp (us.map dat) P (R env)
section
variable {X : Cx} {w : Wn} {CX : CXT} {k : Nat} {f : Addr} {E : L2.St → XK} {R : List Sl → XD} {ds : DSpX} {x : Str} {p pos : Pos} {e : Expr} {es : List Expr} {t : DA}
theorem d_useX {ts : List Addr} (Fk : Fg X.prog X.w X.K X.mg X.base (L2.CX X.prog X.w) k f (PmX X.mg X.K ts ds)) (ht : w.b.ts = ts) (ag : X.A.guards = some []) (room : Room k X.A) (ps : ∀ σ, PassesAt (L2.CX X.prog X.w) X σ (E σ)) (hE : XEnS X.mg X.K w E R) (gl : Gl X x) (gm : X.mg x = some (.ref f)) (kp : PySem.W.keepIn X.K (.ref f) = true)
    (ha : DPA X w (e :: es) t) (db : (x == ("__debug__" : Str)) = false := by decide) (s1 : starEach (e :: es) X.env = (false, eval e X.env) :: starEach es X.env := by rfl) (s2 : (backTo pos (starEach es X.env)).any (·.1) = false := by rfl) :
    DPE X w (.Call (.Name x p) (e :: es) [] pos) (tUseX ds R t) := by
  have base : PE X (.Call (.Name x p) (e :: es) [] pos) (fun σ H Q => lfA X.K w t σ H fun vs H1 => PmX X.mg X.K ts ds vs H1 Q (E σ)) := by
    refine ⟨fun pins s σ H Q I want => wpAny_Call_Name_kw (ld_glob I gl gm ?_ db)⟩
    refine PySem.W.callWith_K (h₀ := X.base) I.ok.mod.kin kp ?_ s1 s2
    exact thn (ha.run pos pins s σ H _ I want) fun us st ⟨vs, H1, I1, rv, q⟩ => ⟨I1.kIn, wpAny_call (codeAny_mono (Fk X.A X.stack st H1 us vs Q (E σ) ag room I1.env0 rv q) fun res s2 got => by
      match res, got with
      | .error u, got => exact ps σ pins H1 st u s2 I1 got
      | .ok (.ret u), got => exact I1.after got)⟩
  refine pe_weak base fun σ H Q ⟨env, F, P, r, h, q⟩ => ⟨env, F, _, r, h, fun dvs vs F1 H1 st ar h1 => ?_⟩
  obtain ⟨em, h1⟩ := h1
  have e1 : opn (anyOw dvs) F1 H1 = F1 := by
    funext a
    unfold opn
    rw [em, if_neg (by simp)]
  have hs : Same F1 (opn (anyOw dvs) F1 H1) := by rw [e1]; exact fun _ _ z => z
  have ad := args_dat ar hs (fun l hl => hl)
  rw [e1] at ad
  exact ⟨w.b, F1, _, _, _, ht, st.wd, ad, h1, fun dv v F2 H2 s2 rs hp => q dv v F2 H2 (st.trans s2) (rs.early st) hp, (hE env σ F H r).later st⟩
/-- raise C(e), C the class of name c in the module, of one field n -/
def tRaiseX (R : List Sl → XD) (c n : Str) (te : DT) : DS := fun _ env => te env fun u => match u with
  | .d x => R env c n x
  | _ => False
end
/-! ### a def that may refuse -/
section
variable {P : Program} {w : World} {K : PySem.W.Frag} {mg : Str → Option Value} {base : Heap} {k : Nat} {f : Addr} {fd : FuncData}
theorem d_defX {ts : List Addr} {x qual : Str} {st : Stmt} {N ps : List Str} (Fn : L2.Fun K x qual st f fd) (S : FnScope N ps (defScope st))
    (hb : ∀ (kV doc pm : Value) (an : Option Addr) (cdv ct : Value) (us : List Value), us.length = ps.length → bindArgs (PySem.W.fnOf x qual (defArgs st) (defBody st) (defScope st) .none kV doc pm an cdv ct) { pos := us, kw := [] } = pure (ps.zip us))
    (sp : DSpX) (t : XD → DS)
    (hd : ∀ (cdv : Value) (A : Around) (outer : List Env) (s : Shared) (H : Hp) (E : XK) (R : XD) (wn : Wn), fd.code = cdv → wn.b.ts = ts → XEnd mg K wn.b wn.F wn.H E R → (A.deeper (envOfC qual (defScope st) s.heap.objs.size f cdv)).guards = some [] → Room k (A.deeper (envOfC qual (defScope st) s.heap.objs.size f cdv)) →
      Takes (cxOf (L2.CX P w) P w K mg base N qual (defScope st) f cdv A outer s H E) (fun cls d _ H => E cls d H) → DPSs (cxOf (L2.CX P w) P w K mg base N qual (defScope st) f cdv A outer s H E) wn (defBody st) (t R))
    (hv : ∀ dvs Q R, sp dvs Q R → dvs.length = ps.length ∧ t R { nx := fun _ => Q (.d .none), rt := Q } (startD N dvs)) : Fg P w K mg base (L2.CX P w) (k + 1) f (PmX mg K ts sp) := by
  intro A outer s H us vs Q E ag room e0 rv want
  obtain ⟨b, F, dvs, R0, R, ht, wd, ar, hsp, q, hE⟩ := want
  obtain ⟨hlen, hread⟩ := hv dvs R0 R hsp
  obtain ⟨oc, od, kV, doc, pm, an, cdv, ct, osl, rfl, lk, hcd⟩ := Fn.ex
  have hvl : vs.length = ps.length := (Paired.length ar).symm.trans hlen
  have hul : us.length = ps.length := rv.length.symm.trans hvl
  refine StX.run_bnd (N := N) (ps := ps) lk hcd S room e0 (G := fun xs H2 => xs = vs ∧ H2 = H) (fun A' Ex Q' h => ?_) fun s2 H2 xs g room2 => ?_
  · rw [hb kV doc pm an cdv ct us hul]
    exact wpAny_pure (h s H vs us e0 Un.refl rfl (fun _ _ z => z) rv hvl ⟨rfl, rfl⟩)
  · obtain ⟨rfl, rfl⟩ := g
    refine ⟨_, hd cdv A outer s2 _ E R ⟨b, F, _⟩ rfl ht hE (guards_in ag _) room2 (takes_of rfl rfl rfl rfl), startD N dvs, F, _, rel_start wd ar, hread, ?_⟩
    refine ⟨fun env σ F' H' r _ z => ?_, fun env σ F' H' r _ z => z, fun env σ F' H' r _ z => z, fun dv v F' H' st rs z => q dv v F' H' st rs z⟩
    exact q (.d .none) .non F' H' r.st Rp.non z
end
end Dl
namespace Dl
open PySem PySem.Spec PyProof.Rows L2
/-! ### a refusal of one field made, and raised -/
def spIni (C : Addr) (n : Str) : Sp := fun vs H Q _ => ∃ a y, vs = [.ref a, y] ∧ H a = some (exo a C none) ∧ ∀ dx, H dx = none → dx ≠ a → Q .non (upd (upd H dx (exd dx [(n, y)])) a (exo a C (some dx)))
section
variable {P : Program} {w : World} {K : PySem.W.Frag} {mg : Str → Option Value} {base : Heap} {f C : Addr} {fd : FuncData}
theorem ini_ok {n qual : Str} {st : Stmt} {p1 p2 p3 p4 : Pos} (Fn : L2.Fun K "__init__" qual st f fd) (S : FnScope ["self", n] ["self", n] (defScope st)) (T : OexC K C) (hno : PySem.W.findIn K (.ref C) n = some none) (hne : n ≠ "self") (hn2 : (n == ("__debug__" : Str)) = false) (hn3 : (n == ("__classdict__" : Str)) = false)
    (hv0 : Vis (defScope st) ("self" : Str)) (hv1 : Vis (defScope st) n) (hb : defBody st = [.Assign [.Attribute (.Name "self" p1) n p2] (.Name n p3) p4]) :
    FnOk P w K mg base (L2.CX P w) 1 f fd ["self", n] (spIni C n) := by
  refine Fn.okX S (fun vs H Q E ⟨a, y, e, _⟩ => by rw [e]; rfl) fun cdv A outer s H vs Q E hr hsp => ?_
  obtain ⟨a, y, rfl, ha, q⟩ := hsp
  rw [hb]
  refine ⟨_, pss_one (ps_ost (pv 0 (hv := hv0)) (pv 1 (hv := hv1) (hd := hn2) (hcd := hn3))), ?_⟩
  exact ⟨y, rfl, .ref a, rfl, a, C, rfl, T, hno, .inl ⟨ha, q⟩⟩
end
section
variable {X : Cx} {w : Wn} {E : L2.St → XK} {R : List Sl → XD} {C fI : Addr} {fd : FuncData} {n x : Str} {a : Expr} {te : DT} {p pos pos2 : Pos} {k : Nat}
/-- raise C(e) -/
theorem ds_raise1 (hc : X.calm = true) (tk : Takes X (fun cls d σ H => E σ cls d H)) (T : OexC X.K C) (iC : PySem.W.findIn X.K (.ref C) "__init__" = some (some (.ref fI))) (tI : PySem.W.typeIn X.K (.ref fI) = some (.type "function"))
    (F1 : FnOk X.prog X.w X.K X.mg X.base (L2.CX X.prog X.w) k fI fd ["self", n] (spIni C n)) (hr : Room (k + 1) X.A) (hb : Binds X.K fd ["self", n] []) (hg : Gl X x) (hm : X.mg x = some (.ref C)) (he : DPE X w a te) (hE : XEnS X.mg X.K w E R)
    (hps : Passes (L2.CX X.prog X.w) X (fun _ _ _ => False)) (hdb : (x == ("__debug__" : Str)) = false := by decide) (hs : starEach [a] X.env = [(false, eval a X.env)] := by rfl) (hpl : (backTo pos (starEach [] X.env)).any (·.1) = false := by rfl) :
    DPS X w (.Raise (some (.Call (.Name x p) [a] [] pos)) none pos2) (tRaiseX R x n te) :=
  ps_weak (L2.ps_raise hc tk (pmk_oex T iC tI F1 hr hb .nil hps hg hm (pa_cons he pa_nil hs) hdb hs hpl)) fun D σ H ⟨env, F, d, r, h, fit⟩ => ⟨env, F, _, r, h, fun dv v F1 H1 s1 r1 h1 => by
    split at h1
    · next y =>
      refine ⟨by simp, fun a ha => ⟨a, v, rfl, upd_same, fun dx hd ne => ⟨rfl, dx, [(n, v)], upd_same, ?_, ?_, ?_⟩⟩⟩
      · rw [upd_ne ne]; exact upd_same
      · rw [upd_ne ne] at hd; exact hd
      · have hd1 : H1 dx = none := by rw [upd_ne ne] at hd; exact hd
        have e : upd (del (upd (upd (upd H1 a (exo a C none)) dx (exd dx [(n, v)])) a (exo a C (some dx))) a) dx (.xd [(n, v)]) = upd H1 dx (.xd [(n, v)]) := by
          funext z
          by_cases z1 : z = dx
          · rw [z1, upd_same, upd_same]
          · rw [upd_ne z1, upd_ne z1]
            by_cases z2 : z = a
            · rw [z2, del_same, ha]
            · rw [del_ne z2, upd_ne z2, upd_ne z1, upd_ne z2]
        rw [e]
        exact (hE env σ F H r).fl x C n y v dx F1 _ hm (s1.trans (s1.wd.laidM (o := .xd [(n, v)]) hd1)) upd_same r1 h1
    · exact h1.elim⟩
end
end Dl
namespace Dl
open PySem PySem.Spec PyProof.Rows L2
/-! ### a def that takes any number of arguments and may refuse -/
theorem d_starX {ts : List Addr} {P : Program} {w : World} {K : PySem.W.Frag} {mg : Str → Option Value} {base : Heap} {k : Nat} {f : Addr} {fd : FuncData} {x qual pv : Str} {st : Stmt} {N : List Str} (Fn : L2.Fun K x qual st f fd) (S : FnScope N [pv] (defScope st))
    (hb : ∀ (kV doc pm : Value) (an : Option Addr) (cdv ct : Value) (us : List Value), bindArgs (PySem.W.fnOf x qual (defArgs st) (defBody st) (defScope st) .none kV doc pm an cdv ct) { pos := us, kw := [] } = (newTuple us >>= fun t => pure [(pv, t)]))
    (sp : DSpX) (t : XD → DS)
    (hd : ∀ (cdv : Value) (A : Around) (outer : List Env) (s : Shared) (H : Hp) (E : XK) (R : XD) (wn : Wn), fd.code = cdv → wn.b.ts = ts → XEnd mg K wn.b wn.F wn.H E R → (A.deeper (envOfC qual (defScope st) s.heap.objs.size f cdv)).guards = some [] → Room k (A.deeper (envOfC qual (defScope st) s.heap.objs.size f cdv)) →
      Takes (cxOf (L2.CX P w) P w K mg base N qual (defScope st) f cdv A outer s H E) (fun cls d _ H => E cls d H) → DPSs (cxOf (L2.CX P w) P w K mg base N qual (defScope st) f cdv A outer s H E) wn (defBody st) (t R))
    (hv : ∀ dvs Q R, sp dvs Q R → allD dvs fun xs => xs.length ≤ 100000 ∧ t R { nx := fun _ => Q (.d .none), rt := Q } (startD N [.d (.tuple xs)])) : Fg P w K mg base (L2.CX P w) (k + 1) f (PmX mg K ts sp) := by
  intro A outer s H us vs Q E ag room e0 rv want
  obtain ⟨b, F, dvs, R0, R, ht, wd, ar, hsp, q, hE⟩ := want
  have ar2 : Paired (ArR K b F H) dvs vs := by
    clear rv hsp q hE
    induction ar with
    | nil => exact .nil
    | @cons dv v _ _ a t ih =>
      refine .cons ?_ ih
      cases dv with
      | d x => exact a
      | raw u => exact a
      | bag => exact a
      | fr x => exact a.elim
      | ow l x => exact a.elim
      | ft x => exact a.elim
      | tr p S x => exact a.elim
  obtain ⟨xs, rx, hz, hread⟩ := allD_ok ar2 (hv dvs R0 R hsp)
  obtain ⟨oc, od, kV, doc, pm, an, cdv, ct, osl, rfl, lk, hcd⟩ := Fn.ex
  have hn : H s.heap.objs.size = none := e0.hok.fresh (Nat.le_refl _)
  have hvl : vs.length ≤ sizeLine := by rw [rx.len]; exact lim_le hz
  have hul : us.length ≤ sizeLine := by rw [← rv.length]; exact hvl
  refine StX.run_bnd (N := N) (ps := [pv]) lk hcd S room e0 (G := fun ys H2 => ∃ p, H p = none ∧ ys = [V.ref p] ∧ H2 = upd H p (.tup vs)) (fun A' Ex Q' h => ?_) fun s2 H2 ys g room2 => ?_
  · rw [hb kV doc pm an cdv ct us]
    refine wpAny_bind (wpAny_newTuple (wpAny_pure ?_) hul)
    have new : ObjOk P w (upd H s.heap.objs.size (.tup vs)) (s.heap.push ({ cls := .type "tuple", data := .seq us.toArray } : Obj)) s.heap.objs.size (.tup vs) := ⟨hvl, us, rv, ⟨_, Heap.get?_push_size _ rfl, rfl, _, rfl⟩⟩
    have un := StX.un_laid (fs := frs outer) (s := s) (o := ({ cls := .type "tuple", data := .seq us.toArray } : Obj)) (u := .tup vs) hn
    exact h _ _ [V.ref s.heap.objs.size] [Value.ref s.heap.objs.size] (StX.env0_laid e0 new) un rfl (fun e s' => StX.cxUp outer s H _ _ E e s' un (fun c o q => Heap.get?_push_of_some _ q) rfl) (.cons rfl .nil) rfl ⟨_, hn, rfl, rfl⟩
  · obtain ⟨p, hp, rfl, rfl⟩ := g
    have stp := wd.laid (o := .tup vs) hp
    have ra : Rp K (upd F p (.tup vs)) (.ref p) (.tuple xs) := Rp.tup (SqT.of upd_same) (rx.up stp.ex)
    refine ⟨_, hd cdv A outer s2 _ E R ⟨b, upd F p (.tup vs), upd H p (.tup vs)⟩ rfl ht (hE.later stp) (guards_in ag _) room2 (takes_of rfl rfl rfl rfl), startD N [.d (.tuple xs)], upd F p (.tup vs), _, rel_start stp.wd (.cons ra .nil), hread, ?_⟩
    refine ⟨fun env σ F' H' r _ z => ?_, fun env σ F' H' r _ z => z, fun env σ F' H' r _ z => z, fun dv v F' H' st' rs z => q dv v F' H' (stp.trans st') (rs.early stp) z⟩
    exact q (.d .none) .non F' H' (stp.trans r.st) Rp.non z
end Dl
namespace Dl
open PySem PySem.Spec PyProof.Rows L2
/-! ### try .. except C as n -/
def noOw (env : List Sl) : Prop := ∀ (i : Nat) (s : Sl), env[i]? = some s → slA s = []
section
variable {K : PySem.W.Frag} {b : Bg} {F₀ H₀ F₁ H₁ F H : Hp} {env : List Sl} {σ : L2.St}
theorem Rel.reroot (r : Rel K b F₀ H₀ env σ F H) (no : noOw env) : Rel K b F H env σ F H := by
  refine ⟨r.len, r.st.wd.refl, fun i s h => ?_, fun i j s t a h1 _ m _ => by rw [no i s h1] at m; cases m⟩
  have q := r.at' i s h
  cases s with
  | ow l xs => exact absurd (no i _ h) (by simp [slA])
  | tr p S x =>
    obtain ⟨v, e, nd, k, mr, q⟩ := q
    have e0 : S = [] := no i _ h
    subst e0
    exact ⟨v, e, nd, (fun a m => by cases m), mr, q⟩
  | _ => exact q
theorem Rel.unroot (s : Stp K b F₀ H₀ F₁ H₁) (r : Rel K b F₁ H₁ env σ F H) : Rel K b F₀ H₀ env σ F H := by
  refine ⟨r.len, s.trans r.st, fun i z h => ?_, r.own⟩
  have q := r.at' i z h
  cases z with
  | ow l xs =>
    obtain ⟨q1, q2, q3, q4, q5⟩ := q
    exact ⟨q1, s.back q4 q2, q3, q4, q5⟩
  | tr p S x =>
    obtain ⟨v, e, nd, k, mr, q⟩ := q
    exact ⟨v, e, nd, fun a m => ⟨s.back (k a m).2.2 (k a m).1, (k a m).2⟩, mr, q⟩
  | _ => exact q
end
theorem Fit.root {K : PySem.W.Frag} {w : Wn} {F₁ H₁ : Hp} {d : DK} {D : Ends} (st : Stp K w.b w.F w.H F₁ H₁) (f : Fit K w F₁ d D) : Fit K ⟨w.b, F₁, H₁⟩ F₁ d D :=
  ⟨fun env σ F H r z => f.nx env σ F H (Rel.unroot st r) z, fun env σ F H r z => f.bk env σ F H (Rel.unroot st r) z, fun env σ F H r z => f.ct env σ F H (Rel.unroot st r) z, fun dv v F H s r z => f.rt dv v F H (st.trans s) (Res.early st r) z⟩
/-- the ends behind a suite: the exception's name is forgotten -/
def forgotD (i : Nat) (d : DK) : DK := { nx := fun e => d.nx (e.set i .un), rt := d.rt, bk := fun e => d.bk (e.set i .un), ct := fun e => d.ct (e.set i .un) }
def forgotE (i : Nat) (D : Ends) : Ends := { nx := fun σ' H' => D.nx (σ'.set i none) H', rt := D.rt, bk := fun σ' H' => D.bk (σ'.set i none) H', ct := fun σ' H' => D.ct (σ'.set i none) H' }
theorem Fit.forget {K : PySem.W.Frag} {w : Wn} {F₁ : Hp} {d : DK} {D : Ends} (i : Nat) (f : Fit K w F₁ d D) : Fit K w F₁ (forgotD i d) (forgotE i D) :=
  ⟨fun env σ F H r z h => f.nx _ _ F H (r.forget i) z h, fun env σ F H r z h => f.bk _ _ F H (r.forget i) z h, fun env σ F H r z h => f.ct _ _ F H (r.forget i) z h, f.rt⟩
abbrev DSuite := Addr → Str → Str → PyData → DS
/-- what the body's exceptions are wished -/
def rIn (i : Nat) (cs : List (Str × Str)) (exm : Str → Bool) (tS : DSuite) (R : List Sl → XD) (d : DK) : List Sl → XD := fun env c n x => (c, n) ∈ cs ∧ (exm c = true → noOw env ∧ ∀ a, tS a c n x (forgotD i d) (env.set i (.raw (.ref a)))) ∧ (exm c = false → R env c n x)
def tTryAs (i : Nat) (cs : List (Str × Str)) (exm : Str → Bool) (tS : DSuite) (R : List Sl → XD) (tB : (List Sl → XD) → DS) : DS := fun d env => noOw env ∧ tB (rIn i cs exm tS R d) d env
section
variable {X : Cx} {w : Wn} {E : L2.St → XK} {R : List Sl → XD} {x n : Str} {cv : Value} {i : Nat} {body suite : List Stmt} {b₀ : Stmt} {np pos pos' : Pos}
def sufT (X : Cx) (w : Wn) (cs : List (Str × Str)) (tS : DSuite) : Addr → Value → Option Addr → TS := fun a cls d D σ H => ∃ c C nf y v dd F, Wd X.K w.b F H ∧ (c, nf) ∈ cs ∧ cls = .ref C ∧ X.mg c = some (.ref C) ∧ d = some dd ∧ H dd = some (.xd [(nf, v)]) ∧ Rp X.K F v y ∧ lfS X.K ⟨w.b, F, H⟩ (tS a c nf y) D σ H
theorem ds_tryAs {cs : List (Str × Str)} {exm : Str → Bool} {tS : DSuite} {tB : (List Sl → XD) → DS}
    (hs : X.stack = X.env :: X.outer) (hf : X.env.frame = some X.env.locals) (hN : X.N.Nodup) (hi : X.N[i]? = some n) (hln : X.env.kindOf n = some .local) (hc : Names X x cv) (tk : Takes X (fun cls d σ H => E σ cls d H)) (hE : XEnS X.mg X.K w E R)
    (hnm : ∀ q ∈ cs, q.2 ≠ "")
    (hexm : ∀ q ∈ cs, ∀ C, X.mg q.1 = some (.ref C) → PySem.W.exmOne X.K (.ref C) cv = some (exm q.1))
    (hb : ∀ (pn : List (Addr × Obj)) (xe : Value → Shared → Prop) (E' : L2.St → XK) (Rin : List Sl → XD) (w' : Wn), w'.b = w.b → Takes (X.tr pn xe) (fun cls d σ H => E' σ cls d H) → XEnS X.mg X.K w' E' Rin → DPSs (X.tr pn xe) w' body (tB Rin))
    (hsu : ∀ (a : Addr) (oe : Obj) (pn : List (Addr × Obj)) (c : Str) (C : Addr) (nf : Str) (y : PyData) (v : V) (dd : Addr) (w' : Wn), w'.b = w.b → (c, nf) ∈ cs → X.mg c = some (.ref C) → Wd X.K w'.b w'.F w'.H → w'.H dd = some (.xd [(nf, v)]) → Rp X.K w'.F v y → Zc (.ref C) (some dd) oe → (∃ vs, oe.data = .fields vs) → DPSs (X.suite a ((a, oe) :: pn)) w' (b₀ :: suite) (tS a c nf y)) :
    DPS X w (.Try body [.ExceptHandler (some (.Name x np)) (some n) (b₀ :: suite) pos'] [] [] pos) (tTryAs i cs exm tS R tB) := by
  refine ps_weak (L2.ps_try_as (tb := fun W D σ H => ∃ w' Rin, w'.b = w.b ∧ XEnS X.mg X.K w' (fun σ cls d H => W cls d σ H) Rin ∧ lfS X.K w' (tB Rin) D σ H) (ts := sufT X w cs tS) hs hf hN hi hln hc tk (fun W pn xe tkW _ => ⟨fun p s σ H D I ⟨w', Rin, e, hx, q⟩ => (hb pn xe _ Rin w' e tkW hx).run p s σ H D I q⟩)
    (fun a oe cls d pn hz hfl => ⟨fun p s σ H D I ⟨c, C, nf, y, v, dd, F, ew, e0, e1, e2, e3, e4, e5, q⟩ => by
      subst e1 e3
      exact (hsu a oe pn c C nf y v dd ⟨w.b, F, H⟩ rfl e0 e2 ew e4 e5 hz hfl).run p s σ H D I q⟩)) fun D σ H ⟨env, F, d, r, ⟨no, h⟩, fit⟩ => ?_
  refine ⟨⟨w.b, F, H⟩, rIn i cs exm tS R d, rfl, fun env2 σ2 F2 H2 r2 => ⟨fun c C nf y v dd F3 H3 hc3 s3 h3 rp ⟨hcs, q1, q2⟩ => ?_, fun c C F3 H3 hc3 s3 ⟨hcs, _⟩ => absurd rfl (hnm _ hcs)⟩, env, F, d, r.reroot no, h, fit.root r.st⟩
  refine ⟨exm c, hexm (c, nf) hcs C hc3, fun hb1 a ha => ?_, fun hb1 => ?_⟩
  · obtain ⟨no2, q⟩ := q1 hb1
    refine ⟨c, C, nf, y, v, dd, F3, s3.wd, hcs, rfl, hc3, rfl, h3, rp, env2.set i (.raw (.ref a)), F3, forgotD i d, ?_, q a, ?_⟩
    · have z := (r2.step s3).reroot no2
      exact z.put i (z := .raw (.ref a)) (v := .ref a) rfl (fun a m => by cases m)
    · have st2 : Stp X.K w.b w.F w.H F3 H3 := (r.st.trans r2.st).trans s3
      exact ((fit.up (r2.st.trans s3).ex).root st2).forget i
  · exact (hE env2 σ2 F2 H2 (Rel.unroot r.st r2)).fl c C nf y v dd F3 H3 hc3 s3 h3 rp (q2 hb1)
/-! try .. except C: -/
def rOn (cs : List Str) (exm : Str → Bool) (tS : DS) (R : List Sl → XD) (d : DK) : List Sl → XD := fun env c n x => c ∈ cs ∧ (exm c = true → noOw env ∧ tS d env) ∧ (exm c = false → R env c n x)
def tTryOnly (cs : List Str) (exm : Str → Bool) (tS : DS) (R : List Sl → XD) (tB : (List Sl → XD) → DS) : DS := fun d env => noOw env ∧ tB (rOn cs exm tS R d) d env
def sufO (X : Cx) (w : Wn) (tS : DS) : Addr → Value → Option Addr → TS := fun _ _ _ D σ H => ∃ F, Wd X.K w.b F H ∧ lfS X.K ⟨w.b, F, H⟩ tS D σ H
theorem ds_tryOnly {cs : List Str} {exm : Str → Bool} {tS : DS} {tB : (List Sl → XD) → DS}
    (hs : X.stack = X.env :: X.outer) (hf : X.env.frame = some X.env.locals) (hc : Names X x cv) (tk : Takes X (fun cls d σ H => E σ cls d H)) (hE : XEnS X.mg X.K w E R)
    (hexm : ∀ c ∈ cs, ∀ C, X.mg c = some (.ref C) → PySem.W.exmOne X.K (.ref C) cv = some (exm c))
    (hb : ∀ (pn : List (Addr × Obj)) (xe : Value → Shared → Prop) (E' : L2.St → XK) (Rin : List Sl → XD) (w' : Wn), w'.b = w.b → Takes (X.tr pn xe) (fun cls d σ H => E' σ cls d H) → XEnS X.mg X.K w' E' Rin → DPSs (X.tr pn xe) w' body (tB Rin))
    (hsu : ∀ (a : Addr) (oe : Obj) (pn : List (Addr × Obj)) (w' : Wn), w'.b = w.b → DPSs (X.suite a ((a, oe) :: pn)) w' (b₀ :: suite) tS) :
    DPS X w (.Try body [.ExceptHandler (some (.Name x np)) none (b₀ :: suite) pos'] [] [] pos) (tTryOnly cs exm tS R tB) := by
  refine ps_weak (L2.ps_try_only (tb := fun W D σ H => ∃ w' Rin, w'.b = w.b ∧ XEnS X.mg X.K w' (fun σ cls d H => W cls d σ H) Rin ∧ lfS X.K w' (tB Rin) D σ H) (ts := sufO X w tS) hs hf hc tk (fun W pn xe tkW _ => ⟨fun p s σ H D I ⟨w', Rin, e, hx, q⟩ => (hb pn xe _ Rin w' e tkW hx).run p s σ H D I q⟩)
    (fun a oe cls d pn hz hfl => ⟨fun p s σ H D I ⟨F, ew, q⟩ => (hsu a oe pn ⟨w.b, F, H⟩ rfl).run p s σ H D I q⟩)) fun D σ H ⟨env, F, d, r, ⟨no, h⟩, fit⟩ => ?_
  have one : ∀ (env2 : List Sl) (σ2 : L2.St) (F2 H2 : Hp), RelW X.K ⟨w.b, F, H⟩ env2 σ2 F2 H2 → ∀ (c : Str) (C : Addr) (nf : Str) (y : PyData) (dd : Option Addr) (F3 H3 : Hp), X.mg c = some (.ref C) → Stp X.K w.b F2 H2 F3 H3 → rOn cs exm tS R d env2 c nf y →
      (exm c = false → E σ2 (.ref C) dd H3) → wOnly X.K cv (sufO X w tS) (fun cls d σ H => E σ cls d H) D (.ref C) dd σ2 H3 := fun env2 σ2 F2 H2 r2 c C nf y dd F3 H3 hc3 s3 ⟨hcs, q1, q2⟩ out => by
    refine ⟨exm c, hexm c hcs C hc3, fun hb1 a ha => ?_, fun hb1 => out hb1⟩
    obtain ⟨no2, q⟩ := q1 hb1
    have st2 : Stp X.K w.b w.F w.H F3 H3 := (r.st.trans r2.st).trans s3
    exact ⟨F3, s3.wd, env2, F3, d, (r2.step s3).reroot no2, q, (fit.up (r2.st.trans s3).ex).root st2⟩
  refine ⟨⟨w.b, F, H⟩, rOn cs exm tS R d, rfl, fun env2 σ2 F2 H2 r2 => ⟨fun c C nf y v dd F3 H3 hc3 s3 h3 rp k => ?_, fun c C F3 H3 hc3 s3 k => ?_⟩, env, F, d, r.reroot no, h, fit.root r.st⟩
  · exact one env2 σ2 F2 H2 r2 c C nf y (some dd) F3 H3 hc3 s3 k fun hb1 => (hE env2 σ2 F2 H2 (Rel.unroot r.st r2)).fl c C nf y v dd F3 H3 hc3 s3 h3 rp (k.2.2 hb1)
  · exact one env2 σ2 F2 H2 r2 c C "" .none none F3 H3 hc3 s3 k fun hb1 => (hE env2 σ2 F2 H2 (Rel.unroot r.st r2)).no c C F3 H3 hc3 s3 (k.2.2 hb1)
end
end Dl
namespace Dl
open PySem PySem.Spec PyProof.Rows L2
/-! ### in an except suite: e.f and isinstance(e, C) -/
section
variable {X : Cx} {w : Wn} {a C dd : Addr} {oe : Obj} {pn : List (Addr × Obj)} {n x : Str} {i : Nat} {y : PyData} {v : V} {p pos p2 : Pos} {e2 : Expr}
theorem xd_stays {K : PySem.W.Frag} {b : Bg} {F₀ H₀ F H : Hp} {fs : List (Str × V)} (st : Stp K b F₀ H₀ F H) (wd : Wd K b F₀ H₀) (h : H₀ dd = some (.xd fs)) : H dd = some (.xd fs) := by
  refine st.keep dd _ (fun e => ?_) (fun ps e => by cases e) h
  obtain ⟨vs, eb⟩ := wd.bag.lst
  rw [e, eb] at h; cases h
def tAtX (i : Nat) (a : Addr) (y : PyData) : DT := fun env P => env[i]? = some (.raw (.ref a)) ∧ P (.d y)
theorem d_atX (T : XfC X.K C) (hno : PySem.W.findIn X.K (.ref C) n = some none) (hz : Zc (.ref C) (some dd) oe) (hf : ∃ vs, oe.data = .fields vs) (wd : Wd X.K w.b w.F w.H) (hd : w.H dd = some (.xd [(n, v)])) (rp : Rp X.K w.F v y)
    (he : PE (X.suite a ((a, oe) :: pn)) e2 (tVar i)) (hb : attributeBase e2 n X.env (eval e2 X.env) = eval e2 X.env := by rfl) : DPE (X.suite a ((a, oe) :: pn)) w (.Attribute e2 n pos) (tAtX i a y) :=
  pe_weak (pe_xf T hno hz hf he hb) fun σ H Q ⟨env, F, P, r, ⟨e, h⟩, q⟩ => ⟨.ref a, r.at' i _ e, rfl, rfl, dd, [(n, v)], v, rfl, xd_stays r.st wd hd, by simp [List.lookup], q (.d y) v F H r.wd.refl (rp.up r.st.ex) h⟩
def rIsX (K : PySem.W.Frag) (D a dd : Addr) : List V → Hp → VK → Prop := fun xs H Q => ∃ (fs : List (Str × V)) (c : V) (cv : Value) (b : Bool), H dd = some (.xd fs) ∧ xs = [.ref a, c] ∧ (∀ u, RelV c u → u = cv) ∧ PySem.W.kitOne K (.ref D) cv = some b ∧ Q (.bl b) H
theorem call_isX (T : ExcC X.K C) (hz : Zc (.ref C) (some dd) oe) (hf : ∃ vs, oe.data = .fields vs) : CallR (X.suite a ((a, oe) :: pn)) (.builtin "isinstance") (rIsX X.K C a dd) := by
  intro pins s σ H xs us Q I r h
  obtain ⟨fs, c, cv, b, hdd, rfl, hcv, e, q⟩ := h
  cases r with
  | cons rx rr =>
    cases rr with
    | cons rt rr =>
      cases rr
      cases rx
      have ec := hcv _ rt
      subst ec
      obtain ⟨hget, _⟩ := I.pin (a, oe) (List.mem_append.mpr (.inl List.mem_cons_self))
      obtain ⟨vs, hv⟩ := hf
      have hx : ObjOk X.prog X.w H s.heap dd (.xd fs) := I.hok dd _ hdd
      obtain ⟨mA, hns, hr⟩ := hx
      obtain ⟨od, ho, hl⟩ := lookIn_ns hns
      have J : PySem.W.InstAt s.heap a oe C (some od) := ⟨hget, hz.1, by unfold PySem.W.notCls; rw [hv] <;> rfl, by rw [hz.2]; exact ho⟩
      have hcl : (PySem.W.clsIn X.K C).isSome = true := by
        obtain ⟨cd, hc, _⟩ := PySem.W.any_some T.hd
        rw [hc]; rfl
      exact PySem.W.kia_one (PySem.W.kitx_exc hcl T.hg T.hk T.hs T.ha T.hn T.ht T.hm) I.kIn J e (fun z => nomatch z) fun tk => ⟨.bl b, H, I.kept (t' := tk) fun _ _ z => z, rfl, q⟩
def tIsX (i : Nat) (a : Addr) (b : Bool) : DT := fun env P => env[i]? = some (.raw (.ref a)) ∧ P (.d (.bool b))
theorem d_isX {c : V} {cv : Value} {b : Bool} {x1 x2 : Str} {p1 p3 : Pos} (T : ExcC X.K C) (hz : Zc (.ref C) (some dd) oe) (hf : ∃ vs, oe.data = .fields vs) (wd : Wd X.K w.b w.F w.H) {fs : List (Str × V)} (hd : w.H dd = some (.xd fs))
    (gl : Gl (X.suite a ((a, oe) :: pn)) "isinstance") (gm : X.mg "isinstance" = none) (he : PE (X.suite a ((a, oe) :: pn)) (.Name x1 p1) (tVar i)) (hc : PE (X.suite a ((a, oe) :: pn)) (.Name x2 p3) (tC c)) (hcv : ∀ u, RelV c u → u = cv) (hk : PySem.W.kitOne X.K (.ref C) cv = some b) : DPE (X.suite a ((a, oe) :: pn)) w (.Call (.Name "isinstance" p) [.Name x1 p1, .Name x2 p3] [] pos) (tIsX i a b) := by
  refine pe_weak (pe_callB (call_isX T hz hf) gl gm (by decide +kernel) (pa_cons he (pa_cons hc pa_nil))) fun σ H Q ⟨env, F, P, r, ⟨e, h⟩, q⟩ => ?_
  exact ⟨.ref a, r.at' i _ e, fs, c, cv, b, xd_stays r.st wd hd, rfl, hcv, hk, q (.d (.bool b)) (.bl b) F H r.wd.refl (Rp.bl b) h⟩
end
end Dl
namespace Dl
open PySem PySem.Spec PyProof.Rows L2
/-! ### readings of what may refuse, for the walk -/
section
variable {sp : DSpX} {R : List Sl → XD} {t : DA} {env : List Sl} {P : DV → Prop} {c n : Str} {te : DT} {d : DK}
theorem uxE : tUseX sp R t env P = t env fun us => anyOw us = [] ∧ sp (us.map dat) P (R env) := propext ⟨fun h => h, fun h => h⟩
def isDt : DV → (PyData → Prop) → Prop
  | .d x, k => k x
  | .fr _, _ => False
  | .ow _ _, _ => False
  | .raw _, _ => False
  | .bag, _ => False
  | .ft _, _ => False
  | .tr _ _ _, _ => False
theorem raE : tRaiseX R c n te d env = te env fun u => isDt u (R env c n) := by
  unfold tRaiseX
  congr 1
  funext u
  cases u <;> rfl
theorem isE (i : Nat) (a : Addr) (b : Bool) : tIsX i a b env P = (env[i]? = some (.raw (.ref a)) ∧ P (.d (.bool b))) := propext ⟨fun h => h, fun h => h⟩
theorem axE (i : Nat) (a : Addr) (y : PyData) : tAtX i a y env P = (env[i]? = some (.raw (.ref a)) ∧ P (.d y)) := propext ⟨fun h => h, fun h => h⟩
end
theorem noOw_ok (env : List Sl) (h : env.all (fun s => match s with | .ow _ _ => false | .tr _ _ _ => false | _ => true) = true) : noOw env := fun i s e => by
  have := List.all_eq_true.mp h _ (List.mem_of_getElem? e)
  cases s <;> first | rfl | cases this
/-- a list taken apart into names -/
def gtLD (n : Nat) (gs : DGs) : DG := fun x env k => match x with
  | .list xs => xs.length = n ∧ gs xs env k
  | _ => False
theorem dg_lst {X : Cx} {w : Wn} {pos : Pos} {es : List Expr} {k n : Nat} {gs : DGs} (hc : X.calm = true) (h : PGs X es (lfGs X.K w gs)) (hn : (assignEach es X.env).length = n := by rfl) (hst : (assignEach es X.env).findIdx? (fun x => x.fst) = none := by rfl) : PG X (.Tuple es k pos) (lfG X.K w (gtLD n gs)) := by
  refine pg_weak (pg_lst hc h hn hst) fun v σ H Q ⟨env, F, x, k, r, rx, h, q⟩ => ?_
  cases x with
  | list xs =>
    cases rx with
    | lst e1 r1 => exact ⟨_, _, rfl, SqL.of (r.st.sub _ _ e1), by rw [r1.len]; exact h.1, env, F, xs, k, r, r1, h.2, q⟩
  | _ => exact h.elim
/-- enumerate of truths, from k on -/
def enumF (k : Nat) : List Bool → List PyData
  | [] => []
  | b :: bs => .tuple [.int (k : Nat), .bool b] :: enumF (k + 1) bs
/-- the first that is False -/
def fstF (k : Nat) : List Bool → Option Nat
  | [] => none
  | b :: bs => if b then fstF (k + 1) bs else some k
theorem enumF_from : ∀ (k : Nat) (bs : List Bool), ((bs.map PyData.bool).zipIdx k).map (fun p => PyData.tuple [.int (p.2 : Nat), p.1]) = enumF k bs
  | _, [] => rfl
  | k, b :: bs => by
    rw [List.map_cons, List.zipIdx_cons, List.map_cons, enumF_from (k + 1) bs]
    rfl
theorem enumF_eq (bs : List Bool) : enumD (bs.map PyData.bool) = enumF 0 bs := enumF_from 0 bs
theorem allD_bools (bs : List Bool) {k : List PyData → Prop} (h : k (bs.map .bool)) : allD (bs.map fun b => DV.d (.bool b)) k := by
  induction bs generalizing k with
  | nil => exact h
  | cons b bs ih =>
    rw [List.map_cons]
    unfold allD
    refine ih (k := fun xs => k (.bool b :: xs)) ?_
    exact h
theorem mem_rngD {lo : Int} {n : Nat} {x : PyData} (h : x ∈ rngD lo n) : ∃ i : Nat, i < n ∧ x = .int (lo + (i : Nat)) := by
  unfold rngD at h
  obtain ⟨j, hj, rfl⟩ := List.mem_map.mp h
  exact ⟨j, List.mem_range.mp hj, rfl⟩
/-- a list comprehension without a condition: what holds of each item -/
theorem lc_all {g : DG} {te : DT} {env : List Sl} {P : DV → Prop} (Pr : PyData → Prop) {xs : List PyData} (hl : xs.length ≤ 100000)
    (hend : ∀ ys : List PyData, ys.length = xs.length → (∀ y ∈ ys, Pr y) → P (.fr ys))
    (hstep : ∀ x ∈ xs, ∀ R : PyData → Prop, (∀ y, Pr y → R y) → g x env fun e2 => te e2 fun dv => match frz dv with
      | .d y => R y
      | _ => False) : lcD g (fun _ P => P true) te env xs [] P := by
  refine lcD_ind (fun zs acc => (∀ z ∈ zs, z ∈ xs) ∧ (∀ y ∈ acc, Pr y) ∧ acc.length + zs.length = xs.length) (fun acc hI => ?_) (fun x zs acc R hI hR => ?_) _ _ ⟨fun _ z => z, fun _ h => absurd h List.not_mem_nil, by simp⟩
  · obtain ⟨_, ha, e⟩ := hI
    exact hend acc (by simpa using e) ha
  · obtain ⟨hz, ha, e⟩ := hI
    rw [List.length_cons] at e
    refine hstep x (hz x (List.mem_cons_self ..)) (fun y => acc.length < 100000 ∧ R (acc ++ [y])) fun y hy => ⟨by omega, hR _ ⟨fun z hm => hz z (List.mem_cons_of_mem _ hm), fun z hm => ?_, by rw [List.length_append, List.length_singleton]; omega⟩⟩
    rcases List.mem_append.mp hm with hm | hm
    · exact ha z hm
    · rw [List.mem_singleton.mp hm]; exact hy
/-- .. where the items' values are known -/
theorem lc_map {g : DG} {te : DT} {env : List Sl} {P : DV → Prop} (f : PyData → PyData) {xs : List PyData} (hl : xs.length ≤ 100000)
    (hend : P (.fr (xs.map f)))
    (hstep : ∀ x ∈ xs, ∀ R : PyData → Prop, R (f x) → g x env fun e2 => te e2 fun dv => match frz dv with
      | .d y => R y
      | _ => False) : lcD g (fun _ P => P true) te env xs [] P := by
  refine lcD_ind (fun zs acc => (∀ z ∈ zs, z ∈ xs) ∧ acc ++ zs.map f = xs.map f) (fun acc hI => ?_) (fun x zs acc R hI hR => ?_) _ _ ⟨fun _ z => z, rfl⟩
  · obtain ⟨_, e⟩ := hI
    rw [List.map_nil, List.append_nil] at e
    rw [e]; exact hend
  · obtain ⟨hz, e⟩ := hI
    have e2 := congrArg List.length e
    simp only [List.length_append, List.length_map, List.length_cons] at e2
    refine hstep x (hz x (List.mem_cons_self ..)) (fun y => acc.length < 100000 ∧ R (acc ++ [y])) ⟨by omega, hR _ ⟨fun z hm => hz z (List.mem_cons_of_mem _ hm), ?_⟩⟩
    rw [← e, List.map_cons, List.append_assoc]
    rfl
theorem sn_emp : Sn 1 2 (.dict []) := ⟨by decide, by decide, by decide, by decide⟩
end Dl
namespace Dl
open PySem PySem.Spec PyProof.Rows L2
/-! ### raise C() -/
section
variable {X : Cx} {w : Wn} {E : L2.St → XK} {R : List Sl → XD} {C : Addr} {bmB : List Value} {B newId initId : String} {x : Str} {p pos pos2 : Pos}
theorem mk_bare (F : ExcBaseFacts B newId initId bmB) (q : PySem.W.excIn X.K C bmB newId = true) (gC : X.mg x = some (.ref C)) (kC : PySem.W.keepIn X.K (.ref C) = true) (r : Raises X (.ref C)) (hg : Gl X x)
    (hdb : (x == ("__debug__" : Str)) = false := by decide) : PMk X (.Call (.Name x p) [] [] pos) (fun _ H Q => Q (.ref C) none H) := by
  intro pins s σ H Q I h
  refine wpAny_Call_Name_kw (ld_glob I hg gC ?_ hdb)
  refine PySem.W.callWith_K0 I.kIn kC ?_
  obtain ⟨bm, N, nm, qn, bs, hdct, sn, sub, ab, col, dd, k0, k1, k2, k3, k5, mN, hC, hN, hni, T⟩ := exc_obj I.kIn q
  refine wpAny_call_exc_subT F T hC hN hni (fun h' e hm => ?_) (Nat.zero_le _)
  exact mk_of I hm r h (I.hok.gone hm.new)
def tRaise0 (R : List Sl → XD) (c : Str) : DS := fun _ env => R env c "" .none
theorem ds_raise0 (hc : X.calm = true) (tk : Takes X (fun cls d σ H => E σ cls d H)) (F : ExcBaseFacts B newId initId bmB) (q : PySem.W.excIn X.K C bmB newId = true) (hm : X.mg x = some (.ref C)) (kC : PySem.W.keepIn X.K (.ref C) = true) (r : Raises X (.ref C)) (hg : Gl X x)
    (hE : XEnS X.mg X.K w E R) (hdb : (x == ("__debug__" : Str)) = false := by decide) : DPS X w (.Raise (some (.Call (.Name x p) [] [] pos)) none pos2) (tRaise0 R x) :=
  ps_weak (L2.ps_raise hc tk (mk_bare F q hm kC r hg hdb)) fun D σ H ⟨env, F, d, r, h, fit⟩ => (hE env σ F H r).no x C F H hm r.wd.refl h
end
/-! ### objects of classes of the module -/
theorem fld_get {fs : List (Str × V)} {K : PySem.W.Frag} {F : Hp} {f : Str} {y : PyData} : ∀ {ds : List (Str × PyData)} {vs : List V}, ds.map (fun p => fs.lookup p.1) = vs.map some → RpA K F vs (ds.map Prod.snd) → ds.lookup f = some y → ∃ v, fs.lookup f = some v ∧ Rp K F v y
  | [], _, _, _, e => by simp at e
  | (n, x) :: ds, [], h, _, _ => by simp at h
  | (n, x) :: ds, v :: vs, h, .cons a t, e => by
    simp only [List.map_cons, List.cons.injEq] at h
    rw [List.lookup_cons] at e
    by_cases hn : f = n
    · subst hn
      simp only [beq_self_eq_true] at e
      cases e
      exact ⟨v, h.1, a⟩
    · have : (f == n) = false := by simpa using hn
      rw [this] at e
      exact fld_get h.2 t e
theorem obD_inj {c c' : Str} {ds ds' : List (Str × PyData)} (e : obD c ds = obD c' ds') : c = c' ∧ ds = ds' := by
  unfold obD at e
  injection e with e
  injection e with e1 e2
  injection e1 with _ e1
  injection e1 with e1
  refine ⟨e1, ?_⟩
  have inj : ∀ {a b : Str × PyData}, (PyData.str a.1, a.2) = (PyData.str b.1, b.2) → a = b := fun {a b} z => by
    obtain ⟨a1, a2⟩ := a
    obtain ⟨b1, b2⟩ := b
    simp only [Prod.mk.injEq, PyData.str.injEq] at z
    rw [z.1, z.2]
  exact List.map_inj_right (fun a b z => inj z) |>.mp e2
/-- what an object is, where it is known -/
theorem ob_of {K : PySem.W.Frag} {F : Hp} {v : V} {c : Str} {ds : List (Str × PyData)} (h : Rp K F v (obD c ds)) : ∃ a C dx fs vs, v = .ref a ∧ F a = some (.ins C dx fs) ∧ ObC K c C ∧ ds.map (fun p => fs.lookup p.1) = vs.map some ∧ (∀ n, n ∉ ds.map Prod.fst → fs.lookup n = none) ∧ RpA K F vs (ds.map Prod.snd) := by
  generalize e : obD c ds = z at h
  cases h with
  | @dct a kvs ks xs h r q =>
    exfalso
    have z := dct_isOb (xs := xs) r
    rw [← e, obD_isOb] at z
    cases z
  | obj h hc hn ho r =>
    obtain ⟨rfl, rfl⟩ := obD_inj e
    exact ⟨_, _, _, _, _, rfl, h, hc, hn, ho, r⟩
  | _ => cases e
section
variable {X : Cx} {w : Wn} {e : Expr} {te : DT} {f : Str} {pos : Pos}
/-- e.f, e an object of one of the classes cs -/
def tFldD (cs : List Str) (f : Str) (te : DT) : DT := fun env P => te env fun u => ∃ c ds y, u = .d (obD c ds) ∧ c ∈ cs ∧ ds.lookup f = some y ∧ P (.d y)
theorem d_fld {cs : List Str} (hcs : ∀ c ∈ cs, ∀ C, ObC X.K c C → NoAttr X.K C f) (he : DPE X w e te) (hb : attributeBase e f X.env (eval e X.env) = eval e X.env := by rfl) : DPE X w (.Attribute e f pos) (tFldD cs f te) :=
  pe_weak (pe_fld he hb) fun σ H Q ⟨env, F, P, r, h, q⟩ => ⟨env, F, _, r, h, fun dv v F1 H1 s1 r1 ⟨c, ds, y, e1, hc, hl, h1⟩ => by
    subst e1
    obtain ⟨a, C, dx, fs, vs, rfl, ha, ob, hn, ho, q1⟩ := ob_of (show Rp X.K F1 v (obD c ds) from r1)
    obtain ⟨v2, l2, q2⟩ := fld_get hn q1 hl
    exact ⟨a, C, dx, fs, v2, rfl, s1.sub _ _ ha, ob.cls, hcs c hc C ob, l2, q (.d y) v2 F1 H1 s1 q2 h1⟩⟩
/-- self.f = e in an __init__: f is new -/
def tOstD (cs : List Str) (i : Nat) (f : Str) (te : DT) : DS := fun d env => te env fun dv => match frz dv, env[i]? with
  | .d x, some (.tr false S y) => ∃ c ds, y = obD c ds ∧ c ∈ cs ∧ f ∉ ds.map Prod.fst ∧ ds.length < 900 ∧ d.nx (env.set i (.tr false S (obD c (ds ++ [(f, x)]))))
  | _, _ => False
theorem putF_new {f : Str} {v : V} : ∀ {fs : List (Str × V)}, fs.lookup f = none → putF f v fs = fs ++ [(f, v)]
  | [], _ => rfl
  | (n, u) :: fs, h => by
    rw [List.lookup_cons] at h
    by_cases hn : f = n
    · subst hn
      simp at h
    · have e1 : (f == n) = false := by simpa using hn
      rw [e1] at h
      unfold putF
      have e2 : (n == f) = false := by simpa using fun z : n = f => hn z.symm
      first
        | (rw [e1]; simp only [Bool.false_eq_true, if_false, List.cons_append, putF_new h])
        | (rw [e2]; simp only [Bool.false_eq_true, if_false, List.cons_append, putF_new h])
        | (rw [if_neg (fun z => hn z.symm), putF_new h]; rfl)
        | (rw [if_neg hn, putF_new h]; rfl)
theorem lookup_app {f : Str} {v : V} {fs : List (Str × V)} (h : fs.lookup f = none) (n : Str) : (fs ++ [(f, v)]).lookup n = if n = f then some v else fs.lookup n := by
  induction fs with
  | nil =>
    rw [List.nil_append, List.lookup_cons]
    by_cases e : n = f
    · subst e; simp
    · have : (n == f) = false := by simpa using e
      rw [this, if_neg e]
  | cons p fs ih =>
    rw [List.lookup_cons] at h
    rw [List.cons_append, List.lookup_cons, List.lookup_cons]
    by_cases e1 : f == p.1
    · rw [e1] at h; cases h
    · have e1' : (f == p.1) = false := by simpa using e1
      rw [e1'] at h
      by_cases e2 : n == p.1
      · rw [e2]
        have : n ≠ f := fun z => by subst z; rw [e1'] at e2; cases e2
        rw [if_neg this]
      · have e2' : (n == p.1) = false := by simpa using e2
        rw [e2']
        exact ih h
theorem ot_ob {K : PySem.W.Frag} {F H : Hp} {S : List Addr} {v : V} {c : Str} {ds : List (Str × PyData)} (h : Ot K F H false S v (obD c ds)) (hS : S ≠ []) : ∃ a C dx T fs vs, S = a :: dx :: T ∧ v = .ref a ∧ H a = some (.ins C dx fs) ∧ H dx = some (.own a) ∧ ObC K c C ∧
    ds.map (fun p => fs.lookup p.1) = vs.map some ∧ (∀ n, n ∉ ds.map Prod.fst → fs.lookup n = none) ∧ fs.length = ds.length ∧ OtA K F H false T vs (ds.map Prod.snd) := by
  generalize e : obD c ds = z at h
  cases h with
  | leaf r n => exact absurd rfl hS
  | lst => cases e
  | tup => cases e
  | @dct a S kvs ks xs h r q =>
    exfalso
    have z := dct_isOb (xs := xs) r
    rw [← e, obD_isOb] at z
    cases z
  | obj h hd hc hn ho hl r =>
    obtain ⟨rfl, rfl⟩ := obD_inj e
    exact ⟨_, _, _, _, _, _, rfl, rfl, h, hd, hc, hn, ho, hl, r⟩
theorem OtA.snoc {K : PySem.W.Frag} {F H : Hp} {v : V} {x : PyData} (h : Rp K F v x) : ∀ {T : List Addr} {vs : List V} {xs : List PyData}, OtA K F H false T vs xs → OtA K F H false T (vs ++ [v]) (xs ++ [x])
  | _, _, _, .nil => .cons (S := []) (T := []) (.leaf h fun z => nomatch z) .nil
  | _, _, _, .cons (S := S) (T := T) a t => .cons a (OtA.snoc h t)
theorem ds_ost {cs : List Str} {i : Nat} {o : Expr} {pos' : Pos} (hcs : ∀ c ∈ cs, ∀ C, ObC X.K c C → NoAttr X.K C f) (ho : PE X o (tVar i)) (he : DPE X w e te) (hs : swapsWith e (some (.Attribute o f pos')) pos.line X.env = pure false := by rfl) :
    DPS X w (.Assign [.Attribute o f pos'] e pos) (tOstD cs i f te) :=
  ps_weak (ps_fld ho he hs) fun D σ H ⟨env, F, d, r, h, fit⟩ => ⟨env, F, _, r, h, fun dv v F1 H1 s1 r1 h1 => by
    obtain ⟨F2, s2, a2⟩ := frz_ok s1 r1
    have r2 := r.step s2
    split at h1
    · next x S y ex ei =>
      rw [ex] at a2
      obtain ⟨c, ds, rfl, hc, hf, hlen, h1⟩ := h1
      obtain ⟨u, e1, nd, k, mr, q⟩ := r2.at' i _ ei
      obtain ⟨a, C, dx, T, fs, vs, rfl, rfl, ha, hd, ob, hn, ho', hl, qa⟩ := ot_ob q (mr rfl)
      have hf0 := ho' f hf
      have ne : dx ≠ a := fun z => by rw [z, ha] at hd; cases hd
      refine ⟨.ref a, e1, a, C, dx, fs, rfl, ha, ob.cls, hcs c hc C ob, by omega, ?_⟩
      rw [putF_new hf0]
      have nodT : a ∉ T ∧ dx ∉ T := by
        have n1 := List.nodup_cons.mp nd
        exact ⟨fun m => n1.1 (List.mem_cons_of_mem _ m), (List.nodup_cons.mp n1.2).1⟩
      refine fit.nx _ _ F2 _ (r2.wrtS ei (s' := .tr false (a :: dx :: T) (obD c (ds ++ [(f, x)]))) (fun b o n hb => by rw [upd_ne (fun z => n (by rw [z]; exact List.mem_cons_self ..))]; exact hb)
        ⟨.ref a, e1, nd, k, fun _ z => by (cases z), .obj upd_same (by rw [upd_ne ne]; exact hd) ob (vs := vs ++ [v]) ?_ (fun n hn' => ?_) (by simp [hl]) ?_⟩ fun b m => .inl m) s2.ex h1
      · rw [List.map_append, List.map_append, ← hn]
        have e1 : ds.map (fun p => (fs ++ [(f, v)]).lookup p.1) = ds.map (fun p => fs.lookup p.1) := List.map_congr_left fun p hp => by
          rw [lookup_app hf0, if_neg (fun z => hf (by rw [← z]; exact List.mem_map_of_mem hp))]
        rw [e1]
        show _ ++ [(fs ++ [(f, v)]).lookup f] = _ ++ [some v]
        rw [lookup_app hf0, if_pos rfl]
      · rw [List.map_append, List.mem_append, not_or] at hn'
        rw [lookup_app hf0, if_neg (fun z => hn'.2 (by rw [z]; simp))]
        exact ho' n hn'.1
      · rw [List.map_append]
        refine OtA.snoc a2 (OtA.up (fun _ _ z => z) (fun b m o hb => ?_) qa)
        rw [upd_ne (fun z => nodT.1 (by rw [← z]; exact m))]
        exact hb
    · exact h1.elim⟩
end
/-! a def __init__, and C(..) -/
abbrev DSpI := List DV → (List (Str × PyData) → Prop) → XD → Prop
def PmI (mg : Str → Option Value) (K : PySem.W.Frag) (ts : List Addr) (c : Str) (sp : DSpI) : Sp := fun vs H Q E => ∃ b F H1 x dx C dvs vs' P R, vs = .ref x :: vs' ∧ H = upd (upd H1 dx (.own x)) x (.ins C dx []) ∧ H1 x = none ∧ H1 dx = none ∧ dx ≠ x ∧ ObC K c C ∧ b.ts = ts ∧ Wd K b F H1 ∧ Paired (AgR K b F) dvs vs' ∧ sp dvs P R ∧
  (∀ ds F' H', Stp K b F H1 F' H' → Rp K F' (.ref x) (obD c ds) → P ds → Q .non H') ∧ XEnd mg K b F H1 E R
section
variable {P : Program} {w : World} {K : PySem.W.Frag} {mg : Str → Option Value} {base : Heap} {k : Nat} {f : Addr} {fd : FuncData}
theorem d_init {ts : List Addr} {c x0 qual : Str} {st : Stmt} {N ps : List Str} (Fn : L2.Fun K x0 qual st f fd) (S : FnScope N ps (defScope st))
    (hb : ∀ (kV doc pm : Value) (an : Option Addr) (cdv ct : Value) (us : List Value), us.length = ps.length → bindArgs (PySem.W.fnOf x0 qual (defArgs st) (defBody st) (defScope st) .none kV doc pm an cdv ct) { pos := us, kw := [] } = pure (ps.zip us))
    (sp : DSpI) (t : XD → DS)
    (hd : ∀ (cdv : Value) (A : Around) (outer : List Env) (s : Shared) (H : Hp) (E : XK) (R : XD) (wn : Wn), fd.code = cdv → wn.b.ts = ts → XEnd mg K wn.b wn.F wn.H E R → (A.deeper (envOfC qual (defScope st) s.heap.objs.size f cdv)).guards = some [] → Room k (A.deeper (envOfC qual (defScope st) s.heap.objs.size f cdv)) →
      Takes (cxOf (L2.CX P w) P w K mg base N qual (defScope st) f cdv A outer s H E) (fun cls d _ H => E cls d H) → DPSs (cxOf (L2.CX P w) P w K mg base N qual (defScope st) f cdv A outer s H E) wn (defBody st) (t R))
    (hv : ∀ dvs Q R x dx, sp dvs Q R → dvs.length + 1 = ps.length ∧ t R { nx := fun env => ∃ ds, env[0]? = some (.tr false [x, dx] (obD c ds)) ∧ Q ds, rt := fun _ => False } ((startD N (.d .none :: dvs)).set 0 (.tr false [x, dx] (obD c [])))) : Fg P w K mg base (L2.CX P w) (k + 1) f (PmI mg K ts c sp) := by
  intro A outer s H us vs Q E ag room e0 rv want
  obtain ⟨b, F, H1, x, dx, C, dvs, vs', R0, R, rfl, rfl, hx, hdx, ne, ob, ht, wd, ar, hsp, q, hE⟩ := want
  obtain ⟨hlen, hread⟩ := hv dvs R0 R x dx hsp
  obtain ⟨oc, od, kV, doc, pm, an, cdv, ct, osl, rfl, lk, hcd⟩ := Fn.ex
  have hvl : (V.ref x :: vs').length = ps.length := by rw [List.length_cons, ← Paired.length ar]; exact hlen
  have hul : us.length = ps.length := rv.length.symm.trans hvl
  refine StX.run_bnd (N := N) (ps := ps) lk hcd S room e0 (G := fun xs H2 => xs = V.ref x :: vs' ∧ H2 = upd (upd H1 dx (.own x)) x (.ins C dx [])) (fun A' Ex Q' h => ?_) fun s2 H2 xs g room2 => ?_
  · rw [hb kV doc pm an cdv ct us hul]
    exact wpAny_pure (h s _ (V.ref x :: vs') us e0 Un.refl rfl (fun _ _ z => z) rv hvl ⟨rfl, rfl⟩)
  · obtain ⟨rfl, rfl⟩ := g
    have s1 := wd.laidM (o := .own x) hdx
    have s2' := s1.wd.laidM (p := x) (o := .ins C dx []) (by rw [upd_ne (Ne.symm ne)]; exact hx)
    have st0 : Stp K b F H1 F (upd (upd H1 dx (.own x)) x (.ins C dx [])) := s1.trans s2'
    have fx : ∀ {a : Addr}, H1 a = none → F a = none ∧ a ≠ b.b := fun {a} ha => by
      refine ⟨?_, fun e => ?_⟩
      · cases e : F a with
        | none => rfl
        | some o => rw [wd.sub _ _ e] at ha; cases ha
      · obtain ⟨us, eb⟩ := wd.bag.lst
        rw [← e, ha] at eb; cases eb
    have r0 : Rel K b F _ (startD N (.d .none :: dvs)) (start N (V.non :: vs')) F _ := rel_start st0.wd (.cons (show AgR K b F (.d .none) V.non from Rp.non) ar)
    have r1 : Rel K b F H1 (startD N (.d .none :: dvs)) (start N (V.non :: vs')) F (upd (upd H1 dx (.own x)) x (.ins C dx [])) := Rel.unroot st0 r0
    have r2 := r1.put 0 (z := .tr false [x, dx] (obD c [])) (v := .ref x) ⟨.ref x, rfl, by simp [ne.symm], fun a m => ?_, fun _ z => (nomatch z), .obj upd_same (by rw [upd_ne ne]; exact upd_same) ob (vs := []) rfl (fun _ _ => rfl) rfl .nil⟩ (fun a m j t nj ej m2 => ?_)
    · have e1 : (start N (V.non :: vs')).set 0 (some (.ref x)) = start N (V.ref x :: vs') := by
        unfold L2.start
        simp
      rw [e1] at r2
      refine ⟨_, hd cdv A outer s2 _ E R ⟨b, F, H1⟩ rfl ht hE (guards_in ag _) room2 (takes_of rfl rfl rfl rfl), _, F, _, r2, hread, ?_⟩
      refine ⟨fun env σ F' H' r _ ⟨ds, z1, z2⟩ => ?_, fun env σ F' H' r _ z => z.elim, fun env σ F' H' r _ z => z.elim, fun dv v F' H' st rs z => z.elim⟩
      obtain ⟨v, ev, nd, kk, mr, qq⟩ := r.at' 0 _ z1
      have st := r.st.freezeT kk qq.there
      have up : Same F' (opn [x, dx] F' H') := opn_same fun l m => (kk l m).2.1
      have q1 := qq.open up fun _ m => m
      obtain ⟨a, C', dx', T, fs, ws, eS, rfl, _⟩ := ot_ob qq (by simp)
      cases eS
      exact q ds _ H' st q1 z2
    · simp only [List.mem_cons, List.not_mem_nil, or_false] at m
      rcases m with rfl | rfl
      · exact ⟨hx, fx hx⟩
      · exact ⟨hdx, fx hdx⟩
    · obtain ⟨z, _⟩ := slA_ok (r0.at' j t ej) a m2
      simp only [slA, List.mem_cons, List.not_mem_nil, or_false] at m
      rcases m with rfl | rfl
      · rw [upd_same] at z; cases z
      · rw [upd_ne ne, upd_same] at z; cases z
end
end Dl
namespace Dl
open PySem PySem.Spec PyProof.Rows L2
section
variable {X : Cx} {w : Wn} {k : Nat} {f C : Addr} {E : L2.St → XK} {R : List Sl → XD} {x m : Str} {p pos apos : Pos} {e o : Expr} {es : List Expr} {t : DA} {te : DT}
theorem args_flat {K : PySem.W.Frag} {b : Bg} {F H : Hp} {dvs : List DV} {vs : List V} (ar : Paired (ArR K b F H) dvs vs) (em : anyOw dvs = []) : Paired (AgR K b F) (dvs.map dat) vs := by
  have e1 : opn (anyOw dvs) F H = F := by rw [em, opn_nil]
  have hs : Same F (opn (anyOw dvs) F H) := by rw [e1]; exact fun _ _ z => z
  have ad := args_dat ar hs (fun l hl => hl)
  rw [e1] at ad
  exact ad
/-- C(..), C the class of name c in the module, with an __init__ of its own -/
def tMakeD (sp : DSpI) (c : Str) (R : List Sl → XD) (t : DA) : DT := fun env P => t env fun us => anyOw us = [] ∧ sp (us.map dat) (fun ds => P (.d (obD c ds))) (R env)
theorem d_make {ts : List Addr} {sp : DSpI} (M : Mk X.K C f) (ob : ObC X.K x C) (Fk : Fg X.prog X.w X.K X.mg X.base (L2.CX X.prog X.w) k f (PmI X.mg X.K ts x sp)) (ht : w.b.ts = ts) (ag : X.A.guards = some []) (room : Room (k + 1) X.A) (ps : ∀ σ, PassesAt (L2.CX X.prog X.w) X σ (E σ)) (hE : XEnS X.mg X.K w E R) (gl : Gl X x) (gm : X.mg x = some (.ref C))
    (ha : DPA X w (e :: es) t) (db : (x == ("__debug__" : Str)) = false := by decide) (s1 : starEach (e :: es) X.env = (false, eval e X.env) :: starEach es X.env := by rfl) (s2 : (backTo pos (starEach es X.env)).any (·.1) = false := by rfl) :
    DPE X w (.Call (.Name x p) (e :: es) [] pos) (tMakeD sp x R t) := by
  have base : PE X (.Call (.Name x p) (e :: es) [] pos) (fun σ H Q => lfA X.K w t σ H fun vs H1 => ∀ y dx, H1 y = none → H1 dx = none → dx ≠ y → PmI X.mg X.K ts x sp (.ref y :: vs) (upd (upd H1 dx (.own y)) y (.ins C dx [])) (fun v H2 => v = .non ∧ Q (.ref y) H2) (E σ)) := by
    refine ⟨fun pins s σ H Q I want => wpAny_Call_Name_kw (ld_glob I gl gm ?_ db)⟩
    refine PySem.W.callWith_K (h₀ := X.base) I.ok.mod.kin M.kp ?_ s1 s2
    refine thn (ha.run pos pins s σ H _ I want) fun us st ⟨vs, H1, I1, rv, q⟩ => ⟨I1.kIn, ?_⟩
    have hq := q (st.heap.objs.size + 1) st.heap.objs.size (I1.hok.fresh (Nat.le_succ _)) (I1.hok.fresh (Nat.le_refl _)) (Nat.ne_of_lt (Nat.lt_succ_self _))
    have I2 := Inv.made (C := C) I1
    have r2 : Vals (V.ref (st.heap.objs.size + 1) :: vs) (Value.ref (st.heap.objs.size + 1) :: us) := .cons rfl rv
    have hg : (X.A.under (.builtin "type.__call__" ⟨.ref C :: us, []⟩)).guards = some [] := by
      first | exact ag | (simp [Around.under, ag]) | (unfold Around.under; exact ag)
    refine wpAny_call (make_map (f := f) I1.kIn M.makes M.init (beq_iff_eq.mp M.fn) (codeAny_mono (Fk _ X.stack _ _ (Value.ref (st.heap.objs.size + 1) :: us) (V.ref (st.heap.objs.size + 1) :: vs) _ (E σ) hg (room.make C us []) (I2.env0.make C us []) r2 hq) fun r s' hq' => ?_))
    match r, hq' with
    | .error u, got => exact ps σ pins _ _ u s' I2 got
    | .ok (.ret u), got =>
      obtain ⟨v, H', I3, rv, ev, q3⟩ := I2.after got
      subst ev
      exact ⟨rv, ⟨V.ref (st.heap.objs.size + 1), H', I3, rfl, q3⟩⟩
  refine pe_weak base fun σ H Q ⟨env, F, P, r, h, q⟩ => ⟨env, F, _, r, h, fun dvs vs F1 H1 st ar ⟨em, h1⟩ y dx hy hdx ne => ?_⟩
  refine ⟨w.b, F1, H1, y, dx, C, _, vs, _, _, rfl, rfl, hy, hdx, ne, ob, ht, st.wd, args_flat ar em, h1, fun ds F' H' s3 rp hp => ⟨rfl, q (.d (obD x ds)) (.ref y) F' H' (st.trans s3) rp hp⟩, (hE env σ F H r).later st⟩
/-- o.m(..), o an object of the class of name c -/
def tMethX (c m : Str) (sp : DSpX) (R : List Sl → XD) (te : DT) (t : DA) : DT := fun env P => te env fun u => ∃ ds, u = .d (obD c ds) ∧ m ∉ ds.map Prod.fst ∧ t env fun us => anyOw us = [] ∧ sp (.d (obD c ds) :: us.map dat) P (R env)
theorem d_methX {ts : List Addr} {c : Str} {sp : DSpX} {pl : Sem Bool} (he : DPE X w o te) (cl : ∀ D, ObC X.K c D → D = C) (hm : Meth X.K C m f) (hc : Cls X.K C)
    (Fk : Fg X.prog X.w X.K X.mg X.base (L2.CX X.prog X.w) k f (PmX X.mg X.K ts sp)) (ht : w.b.ts = ts) (ag : X.A.guards = some []) (room : Room k X.A) (ps : ∀ σ, PassesAt (L2.CX X.prog X.w) X σ (E σ)) (hE : XEnS X.mg X.K w E R) (ha : DPA X w (e :: es) t)
    (e1 : starEach (e :: es) X.env = (false, eval e X.env) :: starEach es X.env := by rfl) (e2 : (backTo pos (starEach es X.env)).any (·.1) = false := by rfl)
    (htx : eval (.Call (.Attribute o m apos) (e :: es) [] pos) X.env = (do
      let ov ← eval o X.env
      standAt apos.atName
      let (g, first) ← holding [ov] (getMethod ov m pl)
      callWith pos g first (backTo pos (starEach (e :: es) X.env)) (backToKw pos (keywordEach [] X.env))) := by rfl) : DPE X w (.Call (.Attribute o m apos) (e :: es) [] pos) (tMethX c m sp R te t) := by
  have base : PE X (.Call (.Attribute o m apos) (e :: es) [] pos) (fun σ H Q => lf X.K w te σ H fun y H1 => ∃ a dx fs, y = .ref a ∧ H1 a = some (.ins C dx fs) ∧ fs.lookup m = none ∧ lfA X.K w t σ H1 fun vs H2 => PmX X.mg X.K ts sp (y :: vs) H2 Q (E σ)) := by
    refine ⟨fun pins s σ H Q I h => ?_⟩
    refine PySem.W.methodCall_KW (pl := pl) (thn (he.run pins s σ H _ I h) fun u s1 ⟨y, H1, I1, rx, a, dx, fs, ex, ea, l, q⟩ => ?_) htx
    subst ex
    obtain rfl : u = Value.ref a := rx
    refine getmeth_ok I1 ea hc hm l ?_
    refine PySem.W.callWith_K (first := [.ref a]) (h₀ := X.base) I.ok.mod.kin hm.kp (thn (ha.run pos pins s1 σ H1 _ I1 q) fun us st ⟨vs, H2, I2, rv, q2⟩ => ⟨I2.kIn, ?_⟩) e1 e2
    refine wpAny_call (codeAny_mono (Fk X.A X.stack st H2 (.ref a :: us) (.ref a :: vs) Q (E σ) ag room I2.env0 (.cons rfl rv) q2) fun res s2 got => ?_)
    match res, got with
    | .error u, got => exact ps σ pins H2 st u s2 I2 got
    | .ok (.ret u), got => exact I2.after got
  refine pe_weak base fun σ H Q ⟨env, F, P, r, h, q⟩ => ⟨env, F, _, r, h, fun dv v F1 H1 s1 r1 ⟨ds, e1, hm', h1⟩ => ?_⟩
  subst e1
  obtain ⟨a, D, dx, fs, vs0, rfl, ha, ob, hn', ho, _⟩ := ob_of (show Rp X.K F1 v (obD c ds) from r1)
  cases cl D ob
  refine ⟨a, dx, fs, rfl, s1.sub _ _ ha, ho m hm', env, F1, _, r.step s1, h1, fun dvs vs F2 H2 s2 ar ⟨em, h2⟩ => ?_⟩
  exact ⟨w.b, F2, _, _, _, ht, s2.wd, .cons (show AgR X.K w.b F2 (.d (obD c ds)) (.ref a) from Rp.up s2.ex r1) (args_flat ar em), h2, fun dv v F' H' s3 rs hp => q dv v F' H' ((s1.trans s2).trans s3) (rs.early (s1.trans s2)) hp, (hE env σ F H r).later (s1.trans s2)⟩
theorem d_methX0 {ts : List Addr} {c : Str} {sp : DSpX} {pl : Sem Bool} (he : DPE X w o te) (cl : ∀ D, ObC X.K c D → D = C) (hm : Meth X.K C m f) (hc : Cls X.K C)
    (Fk : Fg X.prog X.w X.K X.mg X.base (L2.CX X.prog X.w) k f (PmX X.mg X.K ts sp)) (ht : w.b.ts = ts) (ag : X.A.guards = some []) (room : Room k X.A) (ps : ∀ σ, PassesAt (L2.CX X.prog X.w) X σ (E σ)) (hE : XEnS X.mg X.K w E R)
    (htx : eval (.Call (.Attribute o m apos) [] [] pos) X.env = (do
      let ov ← eval o X.env
      standAt apos.atName
      let (g, first) ← holding [ov] (getMethod ov m pl)
      callWith pos g first (backTo pos (starEach [] X.env)) (backToKw pos (keywordEach [] X.env))) := by rfl) : DPE X w (.Call (.Attribute o m apos) [] [] pos) (tMethX c m sp R te tNilD) := by
  have base : PE X (.Call (.Attribute o m apos) [] [] pos) (fun σ H Q => lf X.K w te σ H fun y H1 => ∃ a dx fs, y = .ref a ∧ H1 a = some (.ins C dx fs) ∧ fs.lookup m = none ∧ PmX X.mg X.K ts sp [y] H1 Q (E σ)) := by
    refine ⟨fun pins s σ H Q I h => ?_⟩
    refine PySem.W.methodCall_KW (pl := pl) (thn (he.run pins s σ H _ I h) fun u s1 ⟨y, H1, I1, rx, a, dx, fs, ex, ea, l, q⟩ => ?_) htx
    subst ex
    obtain rfl : u = Value.ref a := rx
    refine getmeth_ok I1 ea hc hm l ?_
    refine PySem.W.callWith_K0 (first := [.ref a]) I1.kIn hm.kp ?_
    refine wpAny_call (codeAny_mono (Fk X.A X.stack s1 H1 [.ref a] [.ref a] Q (E σ) ag room I1.env0 (.cons rfl .nil) q) fun res s2 got => ?_)
    match res, got with
    | .error u, got => exact ps σ pins H1 s1 u s2 I1 got
    | .ok (.ret u), got => exact I1.after got
  refine pe_weak base fun σ H Q ⟨env, F, P, r, h, q⟩ => ⟨env, F, _, r, h, fun dv v F1 H1 s1 r1 ⟨ds, e1, hm', h1⟩ => ?_⟩
  subst e1
  obtain ⟨a, D, dx, fs, vs0, rfl, ha, ob, hn', ho, _⟩ := ob_of (show Rp X.K F1 v (obD c ds) from r1)
  cases cl D ob
  obtain ⟨_, h1⟩ := h1
  exact ⟨a, dx, fs, rfl, s1.sub _ _ ha, ho m hm', w.b, F1, _, _, _, ht, s1.wd, .cons (show AgR X.K w.b F1 (.d (obD c ds)) (.ref a) from r1) .nil, h1, fun dv v F' H' s3 rs hp => q dv v F' H' (s1.trans s3) (rs.early s1) hp, (hE env σ F H r).later s1⟩
/-- a promise without refusals, as one with them -/
def xOf (sp : DSp) : DSpX := fun us P _ => sp us P
theorem fg_x {P : Program} {w : World} {K : PySem.W.Frag} {mg : Str → Option Value} {base : Heap} {CX : CXT} {k : Nat} {f : Addr} {ts : List Addr} {sp : DSp} (h : Fg P w K mg base CX k f (Pm K ts sp)) : Fg P w K mg base CX k f (PmX mg K ts (xOf sp)) :=
  fun A outer s H us vs Q E ag room e0 rv ⟨b, F, dvs, P, R, e, wd, ar, hsp, q, _⟩ => h A outer s H us vs Q E ag room e0 rv ⟨b, F, dvs, P, e, wd, ar, hsp, q⟩
theorem ps_at {X : Cx} {CX : CXT} {E : XK} (h : Passes CX X E) : ∀ σ, PassesAt CX X σ E := fun σ pins H s e s' I got => h pins σ H s e s' I got
/-- one of two classes -/
def tEith (t u : DT) : DT := fun env P => t env P ∨ u env P
theorem d_eith {e : Expr} {t u : DT} (h : DPE X w e t) (g : DPE X w e u) : DPE X w e (tEith t u) := ⟨fun pins s σ H Q I ⟨env, F, P, r, z, q⟩ => by
  rcases z with z | z
  · exact h.run pins s σ H Q I ⟨env, F, P, r, z, q⟩
  · exact g.run pins s σ H Q I ⟨env, F, P, r, z, q⟩⟩
/-- isinstance(o, D), o an object of one of the classes cs -/
def tIsC (cs : List Str) (d : Str) (te : DT) : DT := fun env P => te env fun u => ∃ c ds, u = .d (obD c ds) ∧ c ∈ cs ∧ P (.d (.bool (c == d)))
theorem d_isC {cs : List Str} {d x2 : Str} {D : Addr} {p2 : Pos} (hcs : ∀ c ∈ cs, ∀ C, ObC X.K c C → PySem.W.kitOne X.K (.ref C) (.ref D) = some (c == d)) (gl : Gl X "isinstance") (gm : X.mg "isinstance" = none) (he : DPE X w o te) (hg : Gl X x2) (hm : X.mg x2 = some (.ref D))
    (hdb : (x2 == ("__debug__" : Str)) = false := by decide) (s1 : starEach [o, .Name x2 p2] X.env = (false, eval o X.env) :: starEach [.Name x2 p2] X.env := by rfl) : DPE X w (.Call (.Name "isinstance" p) [o, .Name x2 p2] [] pos) (tIsC cs d te) := by
  have hx : PE X (.Name x2 p2) (tC (.ref D)) := pe_glob (v := .ref D) hg hm rfl hdb
  refine pe_weak (pe_callB call_isi gl gm (by decide +kernel) (pa_cons he (pa_cons hx pa_nil) s1) (he := s1)) fun σ H Q ⟨env, F, P, r, h, q⟩ => ?_
  refine ⟨env, F, _, r, h, fun dv v F1 H1 st r1 ⟨c, ds, e1, hc, h1⟩ => ?_⟩
  subst e1
  obtain ⟨a, C, dx, fs, vs0, rfl, ha, ob, hn', ho, _⟩ := ob_of (show Rp X.K F1 v (obD c ds) from r1)
  exact ⟨_, _, _, _, _, rfl, .own D, .base (.ins (st.sub _ _ ha) ob.cls ob.ha ob.hn ob.ht ob.hm), hcs c hc C ob, q (.d (.bool (c == d))) _ F1 H1 st (Rp.bl _) h1⟩
/-! constant dicts of the module, keys texts -/
structure KCon (K : PySem.W.Frag) (w : World) (d : Addr) (ds : List (Str × PyData)) : Prop where
  ex : ∃ (es : Array DictEntry) (n : Nat), KDict K w d es n
  look : ∀ z, match ds.lookup z with
    | some y => ∃ u v, PySem.W.nsIn K d z = some (some u) ∧ RelV v u ∧ ∀ F, Rp K F v y
    | none => PySem.W.nsIn K d z = some none
/-- e in D -/
def tInK (ks : List (Str × PyData)) (te : DT) : DT := fun env P => te env fun u => ∃ z, u = .d (.str z) ∧ P (.d (.bool (ks.lookup z).isSome))
theorem d_inK {ks : List (Str × PyData)} {d : Addr} {p2 : Pos} {x2 : Str} (D : KCon X.K X.w d ks) (he : DPE X w o te) (hg : Gl X x2) (hm : X.mg x2 = some (.ref d)) (hdb : (x2 == ("__debug__" : Str)) = false := by decide)
    (hmk : behindInMarks .In (.Name x2 p2) = false := by first | exact nomark _ | rfl) : DPE X w (.Compare o [.In] [.Name x2 p2] pos) (tInK ks te) := by
  obtain ⟨⟨es, n, kd⟩, lk⟩ := D
  have hx : PE X (.Name x2 p2) (tC (.ref d)) := pe_glob (v := .ref d) hg hm rfl hdb
  refine pe_weak (pe_cmpR (op_in_kd kd) he hx hmk) fun σ H Q ⟨env, F, P, r, h, q⟩ => ?_
  refine ⟨env, F, _, r, h, fun dv v F1 H1 st r1 ⟨z, e1, h1⟩ => ?_⟩
  subst e1
  cases (show Rp X.K F1 v (.str z) from r1)
  have := lk z
  cases e : ks.lookup z with
  | some y =>
    rw [e] at this h1
    obtain ⟨u, v, h3, _⟩ := this
    exact ⟨z, some u, rfl, rfl, h3, q (.d (.bool true)) _ F1 H1 st (Rp.bl _) h1⟩
  | none =>
    rw [e] at this h1
    exact ⟨z, none, rfl, rfl, this, q (.d (.bool false)) _ F1 H1 st (Rp.bl _) h1⟩
/-- D[e] -/
def tItK (ks : List (Str × PyData)) (te : DT) : DT := fun env P => te env fun u => ∃ z y, u = .d (.str z) ∧ ks.lookup z = some y ∧ P (.d y)
theorem d_itK {ks : List (Str × PyData)} {d : Addr} {p2 : Pos} {x2 : Str} (D : KCon X.K X.w d ks) (hg : Gl X x2) (hm : X.mg x2 = some (.ref d)) (he : DPE X w o te) (hs : PlainIx o := by exact fun _ _ => rfl) (hdb : (x2 == ("__debug__" : Str)) = false := by decide) : DPE X w (.Subscript (.Name x2 p2) o pos) (tItK ks te) := by
  obtain ⟨⟨es, n, kd⟩, lk⟩ := D
  have hx : PE X (.Name x2 p2) (tC (.ref d)) := pe_glob (v := .ref d) hg hm rfl hdb
  refine pe_weak (pe_ix ix_kdict hx he hs) fun σ H Q ⟨env, F, P, r, h, q⟩ => ?_
  refine ⟨env, F, _, r, h, fun dv v F1 H1 st r1 ⟨z, y, e1, e2, h1⟩ => ?_⟩
  subst e1
  cases (show Rp X.K F1 v (.str z) from r1)
  have := lk z
  rw [e2] at this
  obtain ⟨u, v0, h3, h4, h5⟩ := this
  exact ⟨d, z, v0, rfl, rfl, ⟨es, n, u, kd.at_, kd.lit, h3, h4⟩, q (.d y) v0 F1 H1 st (h5 F1) h1⟩
end
end Dl
namespace Dl
open PySem PySem.Spec PyProof.Rows L2
/-! ### xs.count(k), whole numbers -/
section
variable {X : Cx} {w : Wn}
theorem ints_are {K : PySem.W.Frag} {F : Hp} : ∀ {ns : List Int} {vs : List V} {us : List Value}, RpA K F vs (ns.map .int) → Vals vs us → PyProof.Rows.IntsAre us ns
  | [], _, _, .nil, .nil => .nil
  | n :: ns, _, _, .cons a t, .cons b r => by
    cases a
    obtain ⟨t0, rfl⟩ := b
    exact .cons n t0 (ints_are t r)
def rCountI (K : PySem.W.Frag) : V → List V → Hp → VK → Prop := fun x xs H Q => ∃ (a : Addr) (F : Hp) (vs : List V) (ns : List Int) (k : Int), x = .ref a ∧ xs = [.int k] ∧ SqL K H a vs ∧ RpA K F vs (ns.map .int) ∧ Q (.int (ns.count k : Nat)) H
theorem mt_countI : MtR X "list.count" (rCountI X.K) := by
  intro pins s σ H x xs v us Q I rx rxs h
  obtain ⟨a, F, vs, ns, k, rfl, rfl, hs, ra, q⟩ := h
  cases rx
  obtain ⟨u, rfl, ru⟩ := rxs.one
  obtain ⟨t, rfl⟩ := ru
  obtain ⟨its, rv, ⟨⟨cls, dd, data, sls⟩, n, ho, hc, hdn, hdt⟩, hlen⟩ := I.list hs
  simp only at hc hdt
  subst hc hdt
  exact PyProof.Rows.count_list_ints (vs := its) ⟨_, ho, rfl, n, rfl⟩ (ints_are ra rv) ⟨.int (ns.count k : Nat), H, I.tok _, ⟨_, rfl⟩, q⟩
def tCntD (te : DT) (ta : DA) : DT := fun env P => te env fun u => rd u fun x => match x with
  | .list xs => ta env fun us => one us fun z => rd z fun y => ∃ (ns : List Int) (k : Int), xs = ns.map .int ∧ y = .int k ∧ P (.d (.int (ns.count k : Nat)))
  | _ => False
theorem d_count {o e : Expr} {te : DT} {ta : DA} {apos pos : Pos} (he : DPE X w o te) (ha : DPA X w [e] ta)
    (base : ∀ {to : TE} {t : TA}, PE X o to → PA X [e] t → PE X (.Call (.Attribute o "count" apos) [e] [] pos) (tBM X.K "list" (rCountI X.K) to t)) : DPE X w (.Call (.Attribute o "count" apos) [e] [] pos) (tCntD te ta) :=
  pe_weak (base he ha) fun σ H Q ⟨env, F, P, r, h, q⟩ => ⟨env, F, _, r, h, fun dv v F1 H1 s1 r1 h1 => by
    obtain ⟨x, x1, h1⟩ := rd_ok r1 h1
    split at h1
    · next xs =>
      obtain ⟨l, vs, rfl, e1, ra⟩ := x1.lst s1.sub
      refine ⟨.inl ⟨rfl, vs, SqL.of e1⟩, env, F1, _, r.step s1, h1, fun dvs us F2 H2 s2 ar h2 => ?_⟩
      obtain ⟨z, u, rfl, a, h2⟩ := one_ok ar h2
      obtain ⟨y, hy, ns, k, rfl, rfl, g⟩ := arr_rr a h2
      have x2 := (x1.step s2).all s2.sub
      cases x2 with
      | lst e2 ra2 =>
        cases hy.int
        exact ⟨l, H2, _, ns, k, rfl, rfl, SqL.of e2, ra2, q (.d (.int (ns.count k : Nat))) _ F2 H2 (s1.trans s2) (Rp.int _) g⟩
    · exact h1.elim⟩
/-! ### a list times a number -/
def gMulL : G2 := fun x y P => match x, y with
  | .list xs, .int k => 0 ≤ k ∧ k < 1000 ∧ xs.length * k.toNat ≤ 100000 ∧ P (.fr (List.replicate k.toNat xs).flatten)
  | _, _ => False
theorem rpa_rep {F : Hp} {vs : List V} {xs : List PyData} (r : RpA X.K F vs xs) : ∀ k : Nat, RpA X.K F (List.replicate k vs).flatten (List.replicate k xs).flatten
  | 0 => .nil
  | k + 1 => by
    rw [List.replicate_succ, List.replicate_succ, List.flatten_cons, List.flatten_cons]
    exact r.app (rpa_rep r k)
theorem o_mulL : OpR X (binaryOp .Mult) (lR X.K w.b gMulL) := by
  intro pins s σ H x y v u Q I rx ry h
  obtain ⟨F, dx, dy, P, wd, hx, hy, g, q⟩ := h
  unfold gMulL at g
  split at g
  · next xs k =>
    cases hy.int
    obtain ⟨l, vs, rfl, e1, r1⟩ := hx.lst wd.sub
    obtain ⟨h1, h2, h3, g⟩ := g
    exact op_rep pins s σ H _ _ v u Q I rx ry ⟨l, k, vs, rfl, rfl, e1, by omega, by omega, by rw [r1.len]; exact lim_le h3, res_new wd (rpa_rep r1 k.toNat) q g⟩
  · exact g.elim
end
end Dl
namespace Dl
open PySem PySem.Spec PyProof.Rows L2
/-! ### a law's end, the facts of the module told by names -/
theorem law_endX {l : PySem.W.OpenLaw} {k : Nat} {q : Program} {loose : List Str} {XP : (Str → Option Value) → Heap → Prop} {YP : World → Heap → Prop} {d : DefRec} {sp : PySem.W.Frag → List Addr → Sp}
    (hn : l.most = some 63) (hdf : d.params.defaults = []) (room : Room k callerA) (ag : callerA.guards = some [])
    (F : ∀ (w : World) (mg mb : Str → Option Value) (lo : List Str) (mean : ExcName → Option Value) (fa : Addr) (h : Heap), YP w h → PyProof.Rows.Top q lo mean mg mb h → mg d.name = some (.ref fa) →
      ∃ (K : PySem.W.Frag) (cs : List (Addr × Addr)), K.In h ∧ Tabs K h cs ∧ ∀ base : Heap, K.In base → base.Ns mainGlobals mg → (∀ p ∈ cs, GxR.TabB base mg p.1 p.2) → Fg l.prog w K mg base (L2.CX l.prog w) k fa (sp K (cs.map Prod.snd)))
    (hsp : ∀ (K : PySem.W.Frag) (H : Hp) (a : Addr) (ns : List Int) (ts : List Addr), ns.length ≤ 63 → (∀ t ∈ ts, GxR.TabG H t) → SqL K H a (ns.map V.int) → sp K ts [.ref a] H (fun v _ => v = .bl true) E0) :
    PySem.W.WalkO q loose XP YP l.row.toRowW d [] (fun f vs => PySem.call f vs) := by
  refine Att.attach_callB hn hdf fun w s0 st mg mb fa o pm cd doc a vs ns G Y ho hd hcd hmg hobj hints hlen hbits hg => ?_
  obtain ⟨K, cs, kin, T, fg⟩ := F w mg mb _ _ fa _ Y G.T hmg
  obtain ⟨H, base, seq, tabs, e0, kb, nb, tb, old⟩ := opening (P := l.prog) (w := w) kin G.T.g G.T.b G.T.builtins G.T.nolimit hg hobj hints (Nat.le_trans hlen (by decide)) T G.T.bmain
  have tg : ∀ t ∈ cs.map Prod.snd, GxR.TabG H t := fun t ht => by
    obtain ⟨p, hp, rfl⟩ := List.mem_map.mp ht
    exact ⟨#[], tabs p hp, by simp [TriplesOk]⟩
  refine codeAny_mono (fg base kb nb tb callerA [] st H [.ref a] [.ref a] _ _ ag room e0 (.cons rfl .nil) (hsp _ H a ns _ hlen tg seq)) fun r s2 got => ?_
  match r, got with
  | .error e, got =>
    obtain ⟨_, _, _, _, _, _, _, _, _, _, _, _, z⟩ := got
    exact z.elim
  | .ok (.ret u), got =>
    obtain ⟨v, H', os, bare, un, ok', rv, e⟩ := got
    subst e
    obtain rfl : u = Value.bool true := rv
    exact ⟨rfl, old H' _ un ok', os, bare⟩
section
variable {fa : List He.Fa} {fn : List He.DefD} {ts : List He.Tab} {tf : List He.Defn} {ex : PySem.W.Frag → Bool} {w : World} {h : Heap} {K : PySem.W.Frag}
theorem tabsX (X : K.In h) (c : He.SaysX fa fn ts tf ex w h K) : Tabs K h (tf.map (He.cT K)) := by
  refine ⟨fun p hp => ?_, fun p hp => ?_, fun p hp => ?_⟩ <;> obtain ⟨d, hd, rfl⟩ := List.mem_map.mp hp
  · exact c.empty d hd
  · exact PySem.W.codeHd_of_K X (c.hd d hd)
  · exact c.out d hd
theorem fun_ofD {x qual : Str} {st : Stmt} {f : Addr} {fd : FuncData} (F : FunD K x qual (defArgs st) (defBody st) (defScope st) [] [] f fd) : L2.Fun K x qual st f fd := by
  obtain ⟨oc, od, dV, kV, doc, pm, an, cdv, ct, osl, e, lk, cd, dv, _⟩ := F.ex
  rcases dv with ⟨_, rfl⟩ | ⟨z, _⟩
  · exact ⟨⟨oc, od, kV, doc, pm, an, cdv, ct, osl, e, lk, cd⟩, F.kp⟩
  · exact absurd rfl z
theorem code_ofD {p : He.Defn} {x qual : Str} {st : Stmt} {fd : FuncData} (F : FunD K x qual (defArgs st) (defBody st) (defScope st) [] [] (He.fAd K p) fd) : fd.code = .ref (He.cT K p).1 := by
  obtain ⟨oc, od, dV, kV, doc, pm, an, cdv, ct, osl, e, lk, cd, dv, _⟩ := F.ex
  subst e
  obtain ⟨c, rfl⟩ := He.codeIn_ref cd
  exact congrArg Value.ref (He.codeOf_eq lk rfl).symm
end
/-! ### a constant dict of the module, told by its keys and its values -/
inductive DatE (K : PySem.W.Frag) : List (Str × He.Dv) → List (Str × PyData) → Prop
  | nil : DatE K [] []
  | cons {x : Str} {v : He.Dv} {y : PyData} {kvs : List (Str × He.Dv)} {ds : List (Str × PyData)} (h : ∀ F, Rp K F (v.v K) y) (r : DatE K kvs ds) : DatE K ((x, v) :: kvs) ((x, y) :: ds)
section
variable {K : PySem.W.Frag} {w : World} {d : Addr}
theorem DatE.get {z : Str} : ∀ {kvs : List (Str × He.Dv)} {ds : List (Str × PyData)}, DatE K kvs ds → (match ds.lookup z with
    | some y => ∃ v, (z, v) ∈ kvs ∧ ∀ F, Rp K F (v.v K) y
    | none => z ∉ kvs.map Prod.fst)
  | _, _, .nil => by simp
  | (x, v) :: kvs, (_, y) :: ds, .cons h r => by
    have ih := DatE.get (z := z) r
    rw [List.lookup_cons]
    by_cases e : z = x
    · subst e
      simp only [beq_self_eq_true]
      exact ⟨v, List.mem_cons_self .., h⟩
    · have e1 : (z == x) = false := by simpa using e
      rw [e1]
      cases q : ds.lookup z with
      | some y' =>
        rw [q] at ih
        obtain ⟨v', m, r'⟩ := ih
        exact ⟨v', List.mem_cons_of_mem _ m, r'⟩
      | none =>
        rw [q] at ih
        simp only [List.map_cons, List.mem_cons, not_or]
        exact ⟨e, ih⟩
theorem keys_none {P : Params} {z : Str} : ∀ {es : List DictEntry} {ks : List Str}, es.map He.keyOf = He.keysIn P ks → z ∉ ks → es.find? (fun e => e.key.isStr z) = none ∧ es.any (·.refKey) = false
  | [], _, _, _ => ⟨rfl, rfl⟩
  | e :: r, [], h, _ => by cases h
  | e :: r, k :: ks, h, n => by
    have h1 : He.keyOf e :: r.map He.keyOf = some (k, PyData.keyHash P k) :: He.keysIn P ks := h
    injection h1 with h2 h3
    rw [List.mem_cons, not_or] at n
    obtain ⟨i1, i2⟩ := keys_none h3 n.2
    unfold He.keyOf at h2
    split at h2
    · next x t q =>
      obtain ⟨h5, _⟩ := Prod.mk.inj (Option.some.inj h2)
      subst h5
      have hr : e.refKey = false := by
        unfold DictEntry.refKey
        rw [q]
      have hs : e.key.isStr z = false := by
        rw [q]
        show (x == z) = false
        simpa using fun q : x = z => n.1 q.symm
      exact ⟨by rw [List.find?_cons, hs]; exact i1, by rw [List.any_cons, hr, i2]; rfl⟩
    · cases h2
theorem kcon_of {ks : List Str} {kvs : List (Str × He.Dv)} {ds : List (Str × PyData)} (h : He.dicW K d = some (He.keysIn w.params ks)) (hk : kvs.map Prod.fst = ks) (hv : He.valsB K d kvs = true) (hd : DatE K kvs ds) : KCon K w d ds := by
  obtain ⟨es, n, kd⟩ := He.dicW_ok h
  refine ⟨⟨es, n, kd⟩, fun z => ?_⟩
  have g := hd.get (z := z)
  cases e : ds.lookup z with
  | some y =>
    rw [e] at g
    obtain ⟨v, m, r⟩ := g
    obtain ⟨u, e1, e2⟩ := He.valsB_ok hv m
    exact ⟨u, _, e1, e2, r⟩
  | none =>
    rw [e] at g
    rw [hk] at g
    have e1 : es.toList.map He.keyOf = He.keysIn w.params ks := by
      unfold He.dicW at h
      rw [kd.at_] at h
      dsimp only at h
      split at h
      · exact Option.some.inj h
      · cases h
    obtain ⟨i1, i2⟩ := keys_none e1 g
    unfold PySem.W.nsIn
    rw [kd.at_]
    simp only [i1, i2]
    rfl
end
theorem tabW {fa : List He.Fa} {fn : List He.DefD} {ts : List He.Tab} {w : World} {K : PySem.W.Frag} (c : He.SaysT fa fn ts w K) (i : Nat) {t : He.Tab} (h : ts[i]? = some t := by rfl) : He.dicW K (t.1 K) = some (He.keysIn w.params t.2) := by
  have e : ts.map (fun t => He.dicW K (t.1 K)) = ts.map fun t => some (He.keysIn w.params t.2) := congrArg (fun z : He.AlT => z.2) c
  have e2 := congrArg (fun l => l[i]?) e
  simp only [List.getElem?_map, h, Option.map_some, Option.some.injEq] at e2
  exact e2
/-! ### a class of refusals -/
section
variable {K : PySem.W.Frag} {C : Addr}
def oexB (K : PySem.W.Frag) (C : Addr) : Bool := match K.lookup C with
  | some o => (match o.cls, o.data, o.slots.toList with
    | .type c, .cls cd, [_, _, _, _, some (.builtin n), _] => (match cd.mro with
      | .ref b :: bm => decide (c = "type") && (decide (b = C) && (decide (n = "ValueError.__new__") && (!cd.hasDel && (cd.hasDict && PySem.HandSPX.refsVE bm))))
      | _ => false)
    | _, _, _ => false)
  | none => false
theorem oexB_ok (h : oexB K C = true) (sa : PySem.W.findIn K (.ref C) "__setattr__" = some (some (.builtin "object.__setattr__"))) (eC : PySem.W.subIn K (.ref C) (.type "BaseException") = some true) (tC : PySem.W.typeIn K (.ref C) = some (.type "type")) (kC : PySem.W.keepIn K (.ref C) = true) : OexC K C := by
  refine ⟨?_, sa, eC, tC, kC⟩
  unfold oexB at h
  split at h
  · next o ho =>
    split at h
    · next c cd n a1 a2 a3 a4 a6 e1 e2 e3 =>
      split at h
      · next b bm em =>
        simp only [Bool.and_eq_true, decide_eq_true_eq, Bool.not_eq_true'] at h
        obtain ⟨rfl, rfl, rfl, z1, z2, z3⟩ := h
        obtain ⟨oc, od, dt, ⟨sl⟩⟩ := o
        obtain ⟨nm, bs, mro, ns, qn, hd, sn, sub, ab, col, del⟩ := cd
        dsimp only at e1 e2 e3 em z1 z2
        subst e1 e2 e3 em z1 z2
        exact ⟨nm, qn, ns, bs, bm, sn, sub, ab, col, od, _, _, _, _, _, ho, z3⟩
      · cases h
    · cases h
  · cases h
end
/-! ### the one class of a name -/
section
variable {K : PySem.W.Frag} {c d f : Str} {C D : Addr}
theorem ObC.uniq (a : ObC K c C) (b : ObC K c D) : D = C := by
  have e := a.name.symm.trans b.name
  cases e
  rfl
theorem na1 (a : ObC K c C) (n : NoAttr K C f) : ∀ c' ∈ [c], ∀ D, ObC K c' D → NoAttr K D f := fun c' m D b => by
  cases List.mem_singleton.mp m
  rw [a.uniq b]
  exact n
theorem is1 {E : Addr} {r : Bool} (a : ObC K c C) (h : PySem.W.kitOne K (.ref C) (.ref E) = some r) (e : (c == d) = r := by decide) : ∀ c' ∈ [c], ∀ D, ObC K c' D → PySem.W.kitOne K (.ref D) (.ref E) = some (c' == d) := fun c' m D b => by
  cases List.mem_singleton.mp m
  rw [a.uniq b, e]
  exact h
end
/-! ### a constant tuple of the module, told by its values -/
theorem tup_ofB {K : PySem.W.Frag} {x : Str} {vs : List He.Dv} {xs : List PyData} (h : He.tupB K x vs = true) (r : ∀ F, RpA K F (vs.map (He.Dv.v K)) xs) : ∀ F, Rp K F (.ref (He.ga K x)) (.tuple xs) := fun F => .tup (He.tupB_ok h F) (r F)
def okI (b : PySem.W.Frag → Bool) : PySem.W.Frag → Bool := b
theorem exsAt {bs : List (PySem.W.Frag → Bool)} {K : PySem.W.Frag} (h : (bs.all fun b => b K) = true) (i : Nat) {b : PySem.W.Frag → Bool} (e : bs[i]? = some b := by rfl) : b K = true := List.all_eq_true.mp h b (List.mem_of_getElem? e)
/-! ### the readings unfolded -/
section
variable {te : DT} {da : DA} {env : List Sl} {P : DV → Prop} {d : DK} {c m f x : Str} {cs : List Str} {R : List Sl → XD}
theorem mkE (sp : DSpI) : tMakeD sp c R da env P = da env fun us => anyOw us = [] ∧ sp (us.map dat) (fun ds => P (.d (obD c ds))) (R env) := propext ⟨fun h => h, fun h => h⟩
theorem meE (sp : DSpX) : tMethX c m sp R te da env P = te env fun u => ∃ ds, u = .d (obD c ds) ∧ m ∉ ds.map Prod.fst ∧ da env fun us => anyOw us = [] ∧ sp (.d (obD c ds) :: us.map dat) P (R env) := propext ⟨fun h => h, fun h => h⟩
theorem flE : tFldD cs f te env P = te env fun u => ∃ c ds y, u = .d (obD c ds) ∧ c ∈ cs ∧ ds.lookup f = some y ∧ P (.d y) := propext ⟨fun h => h, fun h => h⟩
theorem icE : tIsC cs x te env P = te env fun u => ∃ c ds, u = .d (obD c ds) ∧ c ∈ cs ∧ P (.d (.bool (c == x))) := propext ⟨fun h => h, fun h => h⟩
theorem inE (ks : List (Str × PyData)) : tInK ks te env P = te env fun u => ∃ z, u = .d (.str z) ∧ P (.d (.bool (ks.lookup z).isSome)) := propext ⟨fun h => h, fun h => h⟩
theorem ikE (ks : List (Str × PyData)) : tItK ks te env P = te env fun u => ∃ z y, u = .d (.str z) ∧ ks.lookup z = some y ∧ P (.d y) := propext ⟨fun h => h, fun h => h⟩
theorem xoE (sp : DSp) (us : List DV) (R : XD) : xOf sp us P R = sp us P := propext ⟨fun h => h, fun h => h⟩
theorem r0E : tRaise0 R c d env = R env c "" .none := propext ⟨fun h => h, fun h => h⟩
theorem osE (i : Nat) : tOstD cs i f te d env = te env fun dv => match frz dv, env[i]? with
  | .d x, some (.tr false S y) => ∃ c ds, y = obD c ds ∧ c ∈ cs ∧ f ∉ ds.map Prod.fst ∧ ds.length < 900 ∧ d.nx (env.set i (.tr false S (obD c (ds ++ [(f, x)]))))
  | _, _ => False := propext ⟨fun h => h, fun h => h⟩
theorem cnE : tCntD te da env P = te env fun u => rd u fun x => match x with
  | .list xs => da env fun us => one us fun z => rd z fun y => ∃ (ns : List Int) (k : Int), xs = ns.map .int ∧ y = .int k ∧ P (.d (.int (ns.count k : Nat)))
  | _ => False := propext ⟨fun h => h, fun h => h⟩
theorem mulLE (xs : List PyData) (k : Int) : gMulL (.list xs) (.int k) P = (0 ≤ k ∧ k < 1000 ∧ xs.length * k.toNat ≤ 100000 ∧ P (.fr (List.replicate k.toNat xs).flatten)) := propext ⟨fun h => h, fun h => h⟩
end
end Dl
namespace Dl
open PySem PySem.Spec PyProof.Rows L2
/-! ### lists of whole numbers -/
abbrev IL (ns : List Int) : List PyData := ns.map PyData.int
theorem il_flat : ∀ ns : List Int, (IL ns).all flP = true
  | [] => rfl
  | n :: ns => by
    show (flP (.int n) && (IL ns).all flP) = true
    rw [il_flat ns]
    rfl
theorem inV_int (n : Int) : ∀ ns : List Int, inV (toV (.int n)) ((IL ns).map toV) = decide (n ∈ ns)
  | [] => rfl
  | m :: ns => by
    show (eqV (.int m) (.int n) || inV (toV (.int n)) ((IL ns).map toV)) = _
    rw [inV_int n ns]
    show ((m == n) || _) = _
    by_cases e : m = n
    · subst e; simp
    · have e1 : (m == n) = false := by simpa using e
      have e2 : (n = m) = False := by simpa using fun z : n = m => e z.symm
      rw [e1, Bool.false_or]
      simp [e2]
theorem adj_pw {r : Int → Int → Prop} (tr : ∀ a b c, r a b → r b c → r a c) : ∀ ns : List Int, (∀ i (h : i + 1 < ns.length), r ns[i] ns[i + 1]) → ns.Pairwise r
  | [], _ => .nil
  | [a], _ => .cons (fun _ h => by cases h) .nil
  | a :: b :: l, h => by
    have ih := adj_pw tr (b :: l) fun i hi => h (i + 1) (by simpa using hi)
    have ab : r a b := h 0 (by simp)
    refine .cons (fun x hx => ?_) ih
    rcases List.mem_cons.mp hx with rfl | hx
    · exact ab
    · exact tr _ _ _ ab (List.rel_of_pairwise_cons ih hx)
theorem pw_adj {r : Int → Int → Prop} {ns : List Int} (h : ns.Pairwise r) (i : Nat) (hi : i + 1 < ns.length) : r ns[i] ns[i + 1] := List.pairwise_iff_getElem.mp h i (i + 1) (by omega) hi (by omega)
/-- the test of neighbours, as a bool over the places -/
def adjF (r : Int → Int → Bool) (ns : List Int) : PyData → Bool
  | .int i => r (ns.getD (i - 1).toNat 0) (ns.getD i.toNat 0)
  | _ => false
theorem adj_all (r : Int → Int → Bool) (tr : ∀ a b c, r a b = true → r b c = true → r a c = true) (ns : List Int) : (rngD 1 (ns.length - 1)).all (adjF r ns) = decide (ns.Pairwise fun a b => r a b = true) := by
  have e : (rngD 1 (ns.length - 1)).all (adjF r ns) = true ↔ ns.Pairwise fun a b => r a b = true := by
    rw [List.all_eq_true]
    constructor
    · intro h
      refine adj_pw tr ns fun i hi => ?_
      have z : r (ns.getD ((1 + (i : Nat) : Int) - 1).toNat 0) (ns.getD (1 + (i : Nat) : Int).toNat 0) = true := h (.int (1 + (i : Nat))) (by
        unfold rngD
        exact List.mem_map.mpr ⟨i, List.mem_range.mpr (by omega), rfl⟩)
      have e1 : ((1 + (i : Int)) - 1).toNat = i := by omega
      have e2 : (1 + (i : Int)).toNat = i + 1 := by omega
      rw [e1, e2] at z
      simpa [List.getD_eq_getElem?_getD, List.getElem?_eq_getElem (show i < ns.length by omega), List.getElem?_eq_getElem hi] using z
    · intro h x hx
      obtain ⟨i, hi, rfl⟩ := mem_rngD hx
      show r (ns.getD ((1 + (i : Nat) : Int) - 1).toNat 0) (ns.getD (1 + (i : Nat) : Int).toNat 0) = true
      have e1 : ((1 + (i : Int)) - 1).toNat = i := by omega
      have e2 : (1 + (i : Int)).toNat = i + 1 := by omega
      rw [e1, e2]
      have z := pw_adj h i (by omega)
      simpa [List.getD_eq_getElem?_getD, List.getElem?_eq_getElem (show i < ns.length by omega), List.getElem?_eq_getElem (show i + 1 < ns.length by omega)] using z
  by_cases h : ns.Pairwise fun a b => r a b = true
  · rw [decide_eq_true h]; exact e.mpr h
  · rw [decide_eq_false h]
    cases q : (rngD 1 (ns.length - 1)).all (adjF r ns) with
    | false => rfl
    | true => exact absurd (e.mp q) h
theorem rise_all (ns : List Int) : (rngD 1 (ns.length - 1)).all (adjF (fun a b => decide (a < b)) ns) = decide (ns.Pairwise (· < ·)) := by
  rw [adj_all _ (fun a b c h1 h2 => by simp only [decide_eq_true_eq] at *; omega)]
  simp only [decide_eq_true_eq]
theorem asc_all (ns : List Int) : (rngD 1 (ns.length - 1)).all (adjF (fun a b => decide (a ≤ b)) ns) = decide (ns.Pairwise (· ≤ ·)) := by
  rw [adj_all _ (fun a b c h1 h2 => by simp only [decide_eq_true_eq] at *; omega)]
  simp only [decide_eq_true_eq]
/-- a rising list has each number once, an ascending one with each number once rises -/
theorem rise_count {ns : List Int} (h : ns.Pairwise (· ≤ ·)) : ns.Pairwise (· < ·) ↔ ∀ x ∈ ns, ns.count x ≤ 1 := by
  constructor
  · intro r x hx
    have nd : ns.Nodup := List.Pairwise.imp (fun h z => by omega) r
    exact List.nodup_iff_count.mp nd x
  · intro c
    have nd : ns.Nodup := List.nodup_iff_count.mpr fun x => by
      by_cases m : x ∈ ns
      · exact c x m
      · rw [List.count_eq_zero_of_not_mem m]; omega
    exact (List.pairwise_and_iff.mpr ⟨h, nd⟩).imp fun ⟨a, b⟩ => by omega
theorem atIL {ns : List Int} {i : Int} (h0 : 0 ≤ i) (h1 : i < ns.length) : atI (IL ns) i = some (.int (ns.getD i.toNat 0)) := by
  refine atD (j := i.toNat) (by omega) ?_
  rw [List.getElem?_map, List.getD_eq_getElem?_getD, List.getElem?_eq_getElem (show i.toNat < ns.length by omega)]
  rfl
theorem ixIL {ns : List Int} {i : Int} {P : DV → Prop} (h0 : 0 ≤ i) (h1 : i < ns.length) : gIx (.list (IL ns)) (.int i) P = P (.d (.int (ns.getD i.toNat 0))) := by
  simp only [gIx, atIL h0 h1]
theorem ixIT {ns : List Int} {i : Int} {P : DV → Prop} (h0 : 0 ≤ i) (h1 : i < ns.length) : gIx (.tuple (IL ns)) (.int i) P = P (.d (.int (ns.getD i.toNat 0))) := by
  simp only [gIx, atIL h0 h1]
theorem atN {α : Type} {xs : List α} (h : xs ≠ []) : atI xs (-1) = some (xs.getLast h) := by
  have l := List.length_pos_iff.mpr h
  unfold atI ixN
  rw [if_neg (by decide), if_pos (by omega)]
  show xs[((-1 : Int) + xs.length).toNat]? = _
  rw [show ((-1 : Int) + xs.length).toNat = xs.length - 1 by omega, ← List.getLast?_eq_getElem?, List.getLast?_eq_some_getLast h]
theorem ixNL {ns : List Int} {P : DV → Prop} (h : ns ≠ []) : gIx (.list (IL ns)) (.int (-1)) P = P (.d (.int (ns.getLast h))) := by
  have e := atN (xs := IL ns) (by simpa using h)
  simp only [gIx, e, List.getLast_map]
theorem ixNT {ns : List Int} {P : DV → Prop} (h : ns ≠ []) : gIx (.tuple (IL ns)) (.int (-1)) P = P (.d (.int (ns.getLast h))) := by
  have e := atN (xs := IL ns) (by simpa using h)
  simp only [gIx, e, List.getLast_map]
theorem adj_rng {ns : List Int} : ((IL ns).length - 1 : Nat) = ns.length - 1 := by rw [List.length_map]
theorem rng_len {ns : List Int} : (((IL ns).length : Int) - 1).toNat = ns.length - 1 := by rw [List.length_map]; omega
theorem il_len (ns : List Int) : (IL ns).length = ns.length := List.length_map ..
theorem nf1 {m f : Str} {y : PyData} (h : (m == f) = false) : m ∉ List.map Prod.fst [(f, y)] := by
  intro z
  rw [List.map_cons, List.map_nil, List.mem_singleton] at z
  rw [z] at h
  simp at h
theorem mem_it {p : Int} {ms : List Int} {P : DV → Prop} {f : Bool → Bool} (h : P (.d (.bool (f (decide (p ∈ ms)))))) : gMemF f (.int p) (.tuple (IL ms)) P := ⟨rfl, il_flat ms, by rw [inV_int]; exact h⟩
theorem mem_il {p : Int} {ms : List Int} {P : DV → Prop} {f : Bool → Bool} (h : P (.d (.bool (f (decide (p ∈ ms)))))) : gMemF f (.int p) (.list (IL ms)) P := ⟨rfl, il_flat ms, by rw [inV_int]; exact h⟩
/-- a test of a number, as a test of data -/
def onI (f : Int → Bool) : PyData → Bool
  | .int i => f i
  | _ => false
theorem all_onI (f : Int → Bool) (ns : List Int) : (IL ns).all (onI f) = ns.all f := by
  rw [List.all_map]
  rfl
/-! comprehensions that keep some -/
section
variable {g : DG} {tt : DTT} {te : DT} {env : List Sl} {P : DV → Prop}
theorem lc_filter (f : PyData → Bool) {xs : List PyData} (hl : xs.length ≤ 100000) (hend : P (.fr (xs.filter f)))
    (hstep : ∀ x ∈ xs, ∀ (acc : List PyData) (R : List PyData → Prop), acc.length < 100000 → (f x = true → R (acc ++ [x])) → (f x = false → R acc) → g x env fun e2 => tt e2 fun c => if c = true then te e2 fun dv => match frz dv with
      | .d y => acc.length < 100000 ∧ R (acc ++ [y])
      | _ => False
    else R acc) : lcD g tt te env xs [] P := by
  refine lcD_ind (fun zs acc => (∀ z ∈ zs, z ∈ xs) ∧ acc ++ zs.filter f = xs.filter f ∧ acc.length + zs.length ≤ xs.length) (fun acc hI => ?_) (fun x zs acc R hI hR => ?_) _ _ ⟨fun _ z => z, rfl, by simp⟩
  · obtain ⟨_, e, _⟩ := hI
    rw [List.filter_nil, List.append_nil] at e
    rw [e]
    exact hend
  · obtain ⟨h1, e, h2⟩ := hI
    rw [List.length_cons] at h2
    refine hstep x (h1 x (List.mem_cons_self ..)) acc R (by omega) (fun q => hR _ ⟨fun z hz => h1 z (List.mem_cons_of_mem _ hz), ?_, ?_⟩) fun q => hR _ ⟨fun z hz => h1 z (List.mem_cons_of_mem _ hz), ?_, by omega⟩
    · rw [List.filter_cons_of_pos q] at e
      rw [List.append_assoc]
      exact e
    · rw [List.length_append, List.length_singleton]; omega
    · rw [List.filter_cons_of_neg (by simpa using q)] at e
      exact e
theorem lc_sub {xs : List PyData} (hl : xs.length ≤ 100000) (hend : ∀ ys : List PyData, ys.Sublist xs → P (.fr ys))
    (hstep : ∀ x ∈ xs, ∀ (acc : List PyData) (R : List PyData → Prop), acc.length < 100000 → R (acc ++ [x]) → R acc → g x env fun e2 => tt e2 fun c => if c = true then te e2 fun dv => match frz dv with
      | .d y => acc.length < 100000 ∧ R (acc ++ [y])
      | _ => False
    else R acc) : lcD g tt te env xs [] P := by
  refine lcD_ind (fun zs acc => (acc ++ zs).Sublist xs) (fun acc hI => ?_) (fun x zs acc R hI hR => ?_) _ _ (List.Sublist.refl _)
  · rw [List.append_nil] at hI
    exact hend _ hI
  · have hl2 := hI.length_le
    rw [List.length_append, List.length_cons] at hl2
    refine hstep x (hI.subset (by simp)) acc R (by omega) (hR _ ?_) (hR _ ?_)
    · rw [List.append_assoc]
      exact hI
    · exact List.Sublist.trans (List.Sublist.append (List.Sublist.refl _) (List.sublist_cons_self ..)) hI
end
theorem sub_il {ys : List PyData} {ms : List Int} (h : ys.Sublist (IL ms)) : ∃ ns : List Int, ns.Sublist ms ∧ ys = IL ns := by
  obtain ⟨ns, h1, h2⟩ := List.sublist_map_iff.mp h
  exact ⟨ns, h1, h2⟩
theorem cut_il {ms : List Int} (j : Nat) : cutD (IL ms) none (some (j : Int)) = IL (ms.take j) := by
  rw [cut_to]
  exact List.map_take.symm
theorem cut_last {ms : List Int} (h : ms ≠ []) : cutD (IL ms) (some (-1)) none = IL [ms.getLast h] := by
  have l := List.length_pos_iff.mpr h
  have e := il_len ms
  unfold cutD
  have e1 : HT.sIx (IL ms).length 0 (some (-1)) = ms.length - 1 := by
    show (if (-1 : Int) < 0 then ((-1 : Int) + ((IL ms).length : Int)).toNat else min (-1 : Int).toNat (IL ms).length) = _
    rw [if_pos (by decide)]
    omega
  have e2 : HT.sIx (IL ms).length (IL ms).length none = ms.length := e
  rw [e1, e2, ← List.map_drop]
  have z : ms.drop (ms.length - 1) = [ms.getLast h] := by
    have q := List.dropLast_concat_getLast h
    have q2 : (ms.dropLast ++ [ms.getLast h]).drop (ms.length - 1) = [ms.getLast h] := by
      rw [show ms.length - 1 = ms.dropLast.length by rw [List.length_dropLast], List.drop_left]
    rw [q] at q2
    exact q2
  rw [z, show ms.length - (ms.length - 1) = 1 by omega]
  rfl
theorem ixN_last {n : Nat} (h : 0 < n) : ixN n (-1) = some (n - 1) := by
  unfold ixN
  rw [if_neg (by decide), if_pos (by omega)]
  congr 1
  omega
theorem ixN_nat {n : Nat} {r : Int} (h0 : 0 ≤ r) (h1 : r < n) : ixN n r = some r.toNat := by
  unfold ixN
  rw [if_pos h0, if_pos h1]
theorem il_set (ns : List Int) (j : Nat) (v : Int) : (IL ns).set j (.int v) = IL (ns.set j v) := List.map_set.symm
theorem il_app (ns : List Int) (v : Int) : IL ns ++ [.int v] = IL (ns ++ [v]) := (List.map_append (f := PyData.int) (l₁ := ns) (l₂ := [v])).symm
theorem mem_set {ns : List Int} {j : Nat} {v : Int} {P : Int → Prop} (h : ∀ n ∈ ns, P n) (hv : P v) : ∀ n ∈ ns.set j v, P n := fun n hn => by
  rcases List.mem_or_eq_of_mem_set hn with m | rfl
  · exact h n m
  · exact hv
end Dl
/-! ### sorted of any data that can be compared; the least and the greatest of a list; dicts that a slot owns -/
namespace Dl
open PySem PySem.Spec PyProof.Rows L2 PySem.W
section
variable {K : PySem.W.Frag} {F : Hp}
/-- a value of the interpreter that stands for data -/
def RvD (K : PySem.W.Frag) (F : Hp) (u : Value) (x : PyData) : Prop := ∃ v : V, RelV v u ∧ Rp K F v x
theorem each_rv : ∀ {vs : List V} {xs : List PyData} {us : List Value}, RpA K F vs xs → Vals vs us → EachIs (RvD K F) us xs
  | _, _, _, .nil, .nil => .nil
  | _, _, _, .cons h t, .cons r q => .cons ⟨_, r, h⟩ (each_rv t q)
theorem rv_each : ∀ {us : List Value} {xs : List PyData}, EachIs (RvD K F) us xs → ∃ vs : List V, Vals vs us ∧ RpA K F vs xs
  | _, _, .nil => ⟨[], .nil, .nil⟩
  | _, _, .cons ⟨v, r, h⟩ t => by
    obtain ⟨vs, q1, q2⟩ := rv_each t
    exact ⟨v :: vs, .cons r q1, .cons h q2⟩
theorem reads_each {h : Heap} : ∀ {us : List Value} {xs : List PyData} {as : List Addr}, ReadsAll h us xs as → EachIs (fun v b => ∃ as, Reads h v b as) us xs
  | _, _, _, .nil => .nil
  | _, _, _, .cons h t => .cons ⟨_, h⟩ (reads_each t)
end
/-! sorted(xs) -/
def cSortG : GC := fun us P => one us fun u => rd u fun x => match x with
  | .list xs => flatA xs = true ∧ AllAlike xs ∧ Sortable xs ∧ xs.length ≤ 100000 ∧ (∀ x ∈ xs, x.depth ≤ 50) ∧ ∀ ys : List PyData, ys.Perm xs → ys.Pairwise (fun a b => dataLt b a = false) → P (.fr ys)
  | _ => False
theorem data_sorted (xs : List PyData) : (xs.mergeSort (dataLe false fun b => b)).Pairwise (fun a b => dataLt b a = false) := by
  have h := sort_pairwise (sortLe_total (listOrd itemOrd) false fun b : PyData => keyToks b) xs
  refine h.imp fun {a b} e => ?_
  have e' : (!dataLt b a) = true := e
  cases q : dataLt b a with
  | false => rfl
  | true => rw [q] at e'; cases e'
section
variable {X : Cx} {w : Wn}
theorem k_sortG (hu : X.A.units + 64 < cLine) : CallR X (.builtin "sorted") (lC X.K w.b cSortG) := by
  intro pins s σ H vs us Q I r h
  obtain ⟨F, dvs, P, wd, ar, g, q⟩ := h
  obtain ⟨u, v, rfl, a, g⟩ := one_ok ar g
  obtain ⟨x, hx, g⟩ := arr_rr a g
  split at g
  · next xs =>
    obtain ⟨hf, hal, hso, hl, hd, g⟩ := g
    obtain ⟨l, vs, rfl, e, r1⟩ := hx.lst wd.sub
    obtain ⟨its, rv, pl, hz⟩ := I.list (SqL.of e)
    rw [Vals.ref1 r]
    have e1 := each_rv r1 rv
    obtain ⟨as, ra⟩ := rpa_reads I xs vs its hf (r1.up wd.sub) rv
    have e2 := reads_each ra
    have em : xs.map (fun b => b) = xs := List.map_id' xs
    refine sorted_data (β := PyData) (enc := fun b => b) (R := RvD X.K F) pl.isList e1 e2 (by rw [em]; exact hal) (by rw [em]; exact hso) (lim_le hl) (fun b hb => by have := hd b hb; omega) fun out ho eo => ?_
    obtain ⟨ws, w1, w2⟩ := rv_each eo
    obtain ⟨ep, he'⟩ := PyProof.Rows.sortedAll_at s.heap its out.toArray
    have hlen : ws.length ≤ sizeLine := by rw [w1.length, ho]; exact lim_le hl
    exact ⟨.ref _, upd H (s.heap.objs.size + 1) (.lst ws), I.laid (t' := s.toks) (fun _ _ => PyProof.Rows.sortedAll_old) (Nat.le_succ _) ⟨hlen, out, ep, w1, he'⟩, rfl,
      res_new wd w2 q (g _ (List.mergeSort_perm ..) (data_sorted xs)) _ (I.hok.fresh (Nat.le_succ _))⟩
  · exact g.elim
end
/-! min(xs), max(xs) -/
def cMinL (le : Int → Int → Prop) : GC := fun us P => one us fun u => rd u fun x => match x with
  | .list xs => ∃ ns : List Int, xs = ns.map PyData.int ∧ 0 < ns.length ∧ ∀ m, m ∈ ns → (∀ y, y ∈ ns → le m y) → P (.d (.int m))
  | _ => False
section
variable {X : Cx} {w : Wn}
theorem k_minL (hc : X.calm = true) : CallR X (.builtin "min") (lC X.K w.b (cMinL fun m y => m ≤ y)) := by
  intro pins s σ H vs us Q I r h
  obtain ⟨F, dvs, P, wd, ar, g, q⟩ := h
  obtain ⟨u, v, rfl, a, g⟩ := one_ok ar g
  obtain ⟨x, hx, g⟩ := arr_rr a g
  split at g
  · obtain ⟨ns, rfl, hn, g⟩ := g
    obtain ⟨l, vs, rfl, e, r1⟩ := hx.lst wd.sub
    have ev := r1.ofInts
    subst ev
    exact cr_min hc pins s σ H _ us Q I r ⟨l, ns, rfl, SqL.of e, hn, fun m h1 h2 => q _ _ F H wd.refl (res_d (.int m)) (g m h1 h2)⟩
  · exact g.elim
theorem k_maxL (hc : X.calm = true) : CallR X (.builtin "max") (lC X.K w.b (cMinL fun m y => y ≤ m)) := by
  intro pins s σ H vs us Q I r h
  obtain ⟨F, dvs, P, wd, ar, g, q⟩ := h
  obtain ⟨u, v, rfl, a, g⟩ := one_ok ar g
  obtain ⟨x, hx, g⟩ := arr_rr a g
  split at g
  · obtain ⟨ns, rfl, hn, g⟩ := g
    obtain ⟨l, vs, rfl, e, r1⟩ := hx.lst wd.sub
    have ev := r1.ofInts
    subst ev
    exact cr_max hc pins s σ H _ us Q I r ⟨l, ns, rfl, SqL.of e, hn, fun m h1 h2 => q _ _ F H wd.refl (res_d (.int m)) (g m h1 h2)⟩
  · exact g.elim
end
/-! ### a dict that a slot owns: its keys numbers and texts, what it holds never changes itself -/
def kD : Key → PyData
  | .inl i => .int i
  | .inr z => .str z
abbrev dK (kvs : List (Key × PyData)) : PyData := .dict (kvs.map fun p => (kD p.1, p.2))
def lkD (kvs : List (Key × PyData)) (k : Key) : Option PyData := (kvs.find? fun p => decide (p.1 = k)).map (·.2)
def ptD (kvs : List (Key × PyData)) (k : Key) (x : PyData) : List (Key × PyData) :=
  if (kvs.any fun p => decide (p.1 = k)) = true then kvs.map (fun p => if p.1 = k then (p.1, x) else p) else kvs ++ [(k, x)]
def allN (kvs : List (Key × PyData)) : Bool := kvs.all fun p => noL p.2
/-- the same keys, and what they hold -/
def KVp (K : PySem.W.Frag) (F : Hp) : List (Key × V) → List (Key × PyData) → Prop := Paired fun p q => p.1 = q.1 ∧ Rp K F p.2 q.2
theorem kD_eq {K : PySem.W.Frag} {F : Hp} {k j : Key} (h : Rp K F (kV k) (kD j)) : k = j := by
  cases k with
  | inl i => cases j with
    | inl m => cases h; rfl
    | inr z => cases h
  | inr x => cases j with
    | inl m => cases h
    | inr z => cases h; rfl
theorem kD_rp {K : PySem.W.Frag} {F : Hp} (k : Key) : Rp K F (kV k) (kD k) := by
  cases k with
  | inl i => exact .int i
  | inr z => exact .str z
mutual
theorem noL_leaf {K : PySem.W.Frag} {F H : Hp} {dp : Bool} : ∀ {S : List Addr} {v : V} {x : PyData}, noL x = true → Ot K F H dp S v x → S = [] ∧ Rp K F v x
  | _, _, _, _, .leaf r _ => ⟨rfl, r⟩
  | _, _, _, n, .lst _ _ => by simp only [noL] at n; cases n
  | _, _, _, n, .tup h r => by
    obtain ⟨e, q⟩ := noLs_leaf (by simpa only [noL] using n) r
    exact ⟨e, .tup h q⟩
  | _, _, _, n, .dct _ _ _ => by simp only [noL] at n; cases n
  | _, _, _, n, .obj _ _ _ _ _ _ _ => by simp only [obD, noL] at n; cases n
theorem noLs_leaf {K : PySem.W.Frag} {F H : Hp} {dp : Bool} : ∀ {S : List Addr} {v : List V} {x : List PyData}, noLs x = true → OtA K F H dp S v x → S = [] ∧ RpA K F v x
  | _, _, _, _, .nil => ⟨rfl, .nil⟩
  | _, _, _, n, .cons h t => by
    rw [noLs, Bool.and_eq_true] at n
    obtain ⟨e1, q1⟩ := noL_leaf n.1 h
    obtain ⟨e2, q2⟩ := noLs_leaf n.2 t
    rw [e1, e2]
    exact ⟨rfl, .cons q1 q2⟩
end
theorem kvp_of {K : PySem.W.Frag} {F : Hp} : ∀ {us : List (Key × V)} {kvs : List (Key × PyData)}, RpA K F (us.map fun p => kV p.1) (kvs.map fun p => kD p.1) → RpA K F (us.map Prod.snd) (kvs.map Prod.snd) → KVp K F us kvs
  | [], [], _, _ => .nil
  | [], _ :: _, r, _ => by rw [List.map_nil, List.map_cons] at r; cases r
  | _ :: _, [], r, _ => by rw [List.map_nil, List.map_cons] at r; cases r
  | p :: us, q :: kvs, r, t => by
    rw [List.map_cons, List.map_cons] at r t
    cases r with
    | cons r1 r2 => cases t with
      | cons t1 t2 => exact .cons ⟨kD_eq r1, t1⟩ (kvp_of r2 t2)
theorem kvp_to {K : PySem.W.Frag} {F : Hp} {us : List (Key × V)} {kvs : List (Key × PyData)} (h : KVp K F us kvs) : RpA K F (us.map fun p => kV p.1) (kvs.map fun p => kD p.1) ∧ RpA K F (us.map Prod.snd) (kvs.map Prod.snd) := by
  unfold KVp at h
  induction h with
  | nil => exact ⟨.nil, .nil⟩
  | cons h t ih =>
    obtain ⟨e, r⟩ := h
    rw [List.map_cons, List.map_cons, List.map_cons, List.map_cons, e]
    exact ⟨.cons (kD_rp _) ih.1, .cons r ih.2⟩
theorem zip_dK (kvs : List (Key × PyData)) : ∀ {ks xs : List PyData}, ks.zip xs = kvs.map (fun p => (kD p.1, p.2)) → ks.length = xs.length → ks = kvs.map (fun p => kD p.1) ∧ xs = kvs.map Prod.snd := by
  induction kvs with
  | nil =>
    intro ks xs h hl
    cases ks with
    | nil => cases xs with
      | nil => exact ⟨rfl, rfl⟩
      | cons x xs => cases hl
    | cons k ks => cases xs with
      | nil => cases hl
      | cons x xs => cases h
  | cons p kvs ih =>
    intro ks xs h hl
    cases ks with
    | nil => cases h
    | cons k ks => cases xs with
      | nil => cases h
      | cons x xs =>
        rw [List.zip_cons_cons, List.map_cons] at h
        obtain ⟨h1, h2⟩ := List.cons.inj h
        obtain ⟨e1, e2⟩ := Prod.mk.inj h1
        obtain ⟨q1, q2⟩ := ih h2 (by simpa using hl)
        rw [List.map_cons, List.map_cons, ← q1, ← q2, e1, e2]
        exact ⟨rfl, rfl⟩
theorem allN_s : ∀ {kvs : List (Key × PyData)}, allN kvs = true → noLs (kvs.map Prod.snd) = true
  | [], _ => rfl
  | p :: kvs, h => by
    unfold allN at h
    rw [List.all_cons, Bool.and_eq_true] at h
    rw [List.map_cons, noLs, h.1, allN_s h.2]
    rfl
/-- what an owned dict is -/
theorem ot_dK {K : PySem.W.Frag} {F H : Hp} {S : List Addr} {v : V} {kvs : List (Key × PyData)} (h : Ot K F H true S v (dK kvs)) (hn : allN kvs = true) : ∃ a us, v = .ref a ∧ S = [a] ∧ H a = some (.dK us) ∧ KVp K F us kvs := by
  unfold dK at h
  generalize hd : PyData.dict (kvs.map fun p => (kD p.1, p.2)) = d at h
  cases h with
  | leaf r n =>
    have := n rfl
    rw [← hd] at this
    simp only [noL] at this
    cases this
  | lst => cases hd
  | tup => cases hd
  | @dct a S us ks xs h r q =>
    obtain ⟨e1, e2⟩ := zip_dK kvs (PyData.dict.inj hd).symm (by have a := r.len; have b := q.len; rw [List.length_map] at a b; omega)
    subst e1
    subst e2
    obtain ⟨e, q⟩ := noLs_leaf (allN_s hn) q
    rw [e]
    exact ⟨a, us, rfl, rfl, h, kvp_of r q⟩
  | obj =>
    have e := PyData.dict.inj hd
    cases kvs with
    | nil => cases e
    | cons p kvs =>
      rw [List.map_cons] at e
      obtain ⟨e1, _⟩ := List.cons.inj e
      have e2 := (Prod.mk.inj e1).1
      cases hp : p.1 with
      | inl i => rw [hp] at e2; cases e2
      | inr z => rw [hp] at e2; cases e2
theorem dK_ot {K : PySem.W.Frag} {F H : Hp} {a : Addr} {us : List (Key × V)} {kvs : List (Key × PyData)} (h : H a = some (.dK us)) (q : KVp K F us kvs) (hn : allN kvs = true) : Ot K F H true [a] (.ref a) (dK kvs) := by
  obtain ⟨q1, q2⟩ := kvp_to q
  have e : (kvs.map fun p => kD p.1).zip (kvs.map Prod.snd) = kvs.map fun p => (kD p.1, p.2) := by
    clear q q1 q2 hn
    induction kvs with
    | nil => rfl
    | cons p kvs ih => rw [List.map_cons, List.map_cons, List.map_cons, List.zip_cons_cons, ih]
  have leafs : ∀ {vs : List V} {xs : List PyData}, noLs xs = true → RpA K F vs xs → OtA K F H true [] vs xs := by
    intro vs
    induction vs with
    | nil => intro xs _ r; cases r; exact .nil
    | cons v vs ih =>
      intro xs n r
      cases r with
      | cons h t =>
        rw [noLs, Bool.and_eq_true] at n
        exact OtA.cons (S := []) (T := []) (.leaf h fun _ => n.1) (ih n.2 t)
  have := Ot.dct h q1 (leafs (allN_s hn) q2)
  rw [e] at this
  exact this
theorem KVp.get {K : PySem.W.Frag} {F : Hp} {us : List (Key × V)} {kvs : List (Key × PyData)} (h : KVp K F us kvs) (k : Key) : match lkD kvs k with
    | some x => ∃ v, valV us k = some v ∧ Rp K F v x
    | none => valV us k = none := by
  unfold KVp at h
  induction h with
  | nil => exact valV_nil
  | @cons p q ps qs h t ih =>
    obtain ⟨h1, h2⟩ := h
    unfold lkD
    rw [List.find?_cons]
    by_cases e : p.1 = k
    · rw [decide_eq_true (h1.symm.trans e)]
      exact ⟨p.2, valV_pos e, h2⟩
    · rw [decide_eq_false (fun z => e (h1.trans z)), valV_neg e]
      exact ih
theorem KVp.some {K : PySem.W.Frag} {F : Hp} {us : List (Key × V)} {kvs : List (Key × PyData)} (h : KVp K F us kvs) {k : Key} {x : PyData} (e : lkD kvs k = some x) : ∃ v, valV us k = some v ∧ Rp K F v x := by
  have q := h.get k
  rw [e] at q
  exact q
theorem KVp.is {K : PySem.W.Frag} {F : Hp} {us : List (Key × V)} {kvs : List (Key × PyData)} (h : KVp K F us kvs) (k : Key) : (valV us k).isSome = (lkD kvs k).isSome := by
  have q := h.get k
  split at q
  · next x e =>
    obtain ⟨v, e2, _⟩ := q
    rw [e, e2]
    rfl
  · next e =>
    rw [e, q]
    rfl
theorem KVp.put {K : PySem.W.Frag} {F : Hp} {us : List (Key × V)} {kvs : List (Key × PyData)} (h : KVp K F us kvs) (k : Key) {v : V} {x : PyData} (r : Rp K F v x) : KVp K F (putK us k v) (ptD kvs k x) := by
  have ea : (us.any fun p => decide (p.1 = k)) = (kvs.any fun p => decide (p.1 = k)) := by
    unfold KVp at h
    induction h with
    | nil => rfl
    | cons h t ih => rw [List.any_cons, List.any_cons, ih, h.1]
  unfold putK ptD
  rw [ea]
  by_cases e : (kvs.any fun p => decide (p.1 = k)) = true
  · rw [if_pos e, if_pos e]
    clear e ea
    unfold KVp at h ⊢
    induction h with
    | nil => exact .nil
    | @cons p q ps qs h t ih =>
      obtain ⟨h1, h2⟩ := h
      rw [List.map_cons, List.map_cons]
      refine .cons ?_ ih
      by_cases e : p.1 = k
      · rw [if_pos e, if_pos (h1.symm.trans e)]
        exact ⟨h1, r⟩
      · rw [if_neg e, if_neg (fun z => e (h1.trans z))]
        exact ⟨h1, h2⟩
  · rw [if_neg e, if_neg e]
    unfold KVp at h ⊢
    exact Paired.snoc h ⟨rfl, r⟩
theorem KVp.up {K : PySem.W.Frag} {F F' : Hp} (e : Same F F') {us : List (Key × V)} {kvs : List (Key × PyData)} (h : KVp K F us kvs) : KVp K F' us kvs := Paired.mapP h fun _ _ z => ⟨z.1, z.2.up e⟩
theorem allN_put {kvs : List (Key × PyData)} {k : Key} {x : PyData} (h : allN kvs = true) (hx : noL x = true) : allN (ptD kvs k x) = true := by
  unfold allN at h ⊢
  rw [List.all_eq_true] at h ⊢
  unfold ptD
  intro p hp
  split at hp
  · obtain ⟨q, hq, rfl⟩ := List.mem_map.mp hp
    split
    · exact hx
    · exact h q hq
  · rcases List.mem_append.mp hp with m | m
    · exact h p m
    · rw [List.mem_singleton.mp m]
      exact hx
section
variable {X : Cx} {w : Wn} {pos : Pos} {o e ei ev : Expr} {te tv : DT} {i : Nat}
/-- {}, to be owned by a slot -/
def tEmpT : DT := fun _ P => P (.ft (dK []))
theorem d_empT : DPE X w (.Dict [] [] pos) tEmpT := pe_weak pe_dnewK fun σ H Q ⟨env, F, P, r, h, q⟩ => fun p hp => by
  have wd := r.wd
  obtain ⟨vs, eb⟩ := wd.bag.lst
  have pb : p ≠ w.b.b := fun e => by rw [e, eb] at hp; cases hp
  have fp : F p = none := by
    cases e : F p with
    | none => rfl
    | some o => rw [wd.sub _ _ e] at hp; cases hp
  refine q (.ft (dK [])) _ F _ (wd.laidM hp) ⟨[p], List.nodup_cons.mpr ⟨List.not_mem_nil, .nil⟩, fun a m => ?_, dK_ot (us := []) upd_same .nil rfl⟩ h
  cases List.mem_singleton.mp m
  exact ⟨hp, fp, pb⟩
def keyD : DV → Option Key
  | .d (.int i) => some (.inl i)
  | .d (.str z) => some (.inr z)
  | .d .none => none
  | .d (.bool _) => none
  | .d (.list _) => none
  | .d (.tuple _) => none
  | .d (.dict _) => none
  | .fr _ => none
  | .ft _ => none
  | .ow _ _ => none
  | .tr _ _ _ => none
  | .raw _ => none
  | .bag => none
theorem keyD_ok {K : PySem.W.Frag} {b : Bg} {Hz F H : Hp} {dv : DV} {v : V} {k : Key} (r : Res K b Hz F H dv v) (e : keyD dv = some k) : v = kV k := by
  unfold keyD at e
  split at e <;> first | (cases e; done) | skip
  · cases e
    cases (show Rp K F v _ from r)
    rfl
  · cases e
    cases (show Rp K F v _ from r)
    rfl
/-- the dict in a slot -/
def slD (env : List Sl) (i : Nat) (kvs : List (Key × PyData)) : Prop := ∃ S, env[i]? = some (.tr true S (dK kvs)) ∧ allN kvs = true
theorem slD_ok {K : PySem.W.Frag} {b : Bg} {F₀ H₀ F H : Hp} {env : List Sl} {σ : L2.St} {kvs : List (Key × PyData)} (r : Rel K b F₀ H₀ env σ F H) (h : slD env i kvs) : ∃ a us, σ[i]? = some (some (.ref a)) ∧ env[i]? = some (.tr true [a] (dK kvs)) ∧ H a = some (.dK us) ∧ KVp K F us kvs ∧ allN kvs = true ∧ H₀ a = none ∧ F a = none ∧ a ≠ b.b := by
  obtain ⟨S, e, hn⟩ := h
  obtain ⟨v, e1, nd, k, _, q⟩ := r.at' i _ e
  obtain ⟨a, us, rfl, rfl, ha, kv⟩ := ot_dK q hn
  exact ⟨a, us, e1, e, ha, kv, hn, k a (List.mem_singleton.mpr rfl)⟩
/-- e in d -/
def tInT (i : Nat) (te : DT) : DT := fun env P => te env fun u => ∃ k kvs, keyD u = some k ∧ slD env i kvs ∧ P (.d (.bool (lkD kvs k).isSome))
theorem d_inT (hu : X.A.units + 64 < cLine) (he : DPE X w e te) (ho : PE X o (tVar i)) (hm : behindInMarks .In o = false := by first | exact nomark _ | rfl) : DPE X w (.Compare e [.In] [o] pos) (tInT i te) :=
  pe_weak (pe_cmp (pc_din (by omega) he ho) hm) fun σ H Q ⟨env, F, P, r, h, q⟩ => ⟨env, F, _, r, h, fun dv v F1 H1 s1 r1 h1 => by
    obtain ⟨k, kvs, ek, sd, h1⟩ := h1
    obtain rfl := keyD_ok r1 ek
    obtain ⟨a, us, e1, _, ha, kv, _⟩ := slD_ok (r.step s1) sd
    refine ⟨.ref a, e1, a, valV us k, rfl, DGet.k ha, ?_⟩
    rw [kv.is k]
    exact q (.d (.bool _)) _ F1 H1 s1 (Rp.bl _) h1⟩
theorem dt_inT (hu : X.A.units + 64 < cLine) (he : DPE X w e te) (ho : PE X o (tVar i)) (hm : behindInMarks .In o = false := by first | exact nomark _ | rfl) : DPT X w (.Compare e [.In] [o] pos) (tTst (tInT i te)) :=
  pt_weak (pt_cmp (pc_din (by omega) he ho) hm) fun σ H Q ⟨env, F, P, r, h, q⟩ => ⟨env, F, _, r, h, fun dv v F1 H1 s1 r1 h1 => by
    obtain ⟨k, kvs, ek, sd, h1⟩ := h1
    obtain rfl := keyD_ok r1 ek
    obtain ⟨a, us, e1, _, ha, kv, _⟩ := slD_ok (r.step s1) sd
    refine ⟨.ref a, e1, a, valV us k, rfl, DGet.k ha, ?_⟩
    rw [kv.is k]
    exact ⟨_, rfl, q _ F1 H1 s1 h1⟩⟩
/-- d[e] -/
def tGetT (i : Nat) (te : DT) : DT := fun env P => ∃ kvs, slD env i kvs ∧ te env fun u => ∃ k x, keyD u = some k ∧ lkD kvs k = some x ∧ P (.d x)
theorem d_getT (hu : X.A.units + 64 < cLine) (ho : PE X o (tVar i)) (he : DPE X w e te) (hs : NoSl e) : DPE X w (.Subscript o e pos) (tGetT i te) :=
  pe_weak (pe_dget (by omega) ho he hs) fun σ H Q ⟨env, F, P, r, ⟨kvs, sd, h⟩, q⟩ => by
    obtain ⟨a, us, e1, _⟩ := slD_ok r sd
    refine ⟨.ref a, e1, env, F, _, r, h, fun dv v F1 H1 s1 r1 h1 => ?_⟩
    obtain ⟨k, x, ek, lk, h1⟩ := h1
    obtain rfl := keyD_ok r1 ek
    obtain ⟨a', us', e1', _, ha, kv, _⟩ := slD_ok (r.step s1) sd
    rw [e1] at e1'
    cases e1'
    obtain ⟨v, ev, rv⟩ := kv.some lk
    exact ⟨a, v, rfl, by rw [← ev]; exact DGet.k ha, q (.d x) v F1 H1 s1 rv h1⟩
/-- d[k] = e -/
def tPutT (i : Nat) (tk tv : DT) : DS := fun d env => ∃ kvs, slD env i kvs ∧ kvs.length < 100000 ∧ tv env fun u => tk env fun z => ∃ k, keyD z = some k ∧ match frz u with
  | .d x => noL x = true ∧ ∀ S, d.nx (env.set i (.tr true S (dK (ptD kvs k x))))
  | _ => False
theorem kvp_len {K : PySem.W.Frag} {F : Hp} {us : List (Key × V)} {kvs : List (Key × PyData)} (h : KVp K F us kvs) : us.length = kvs.length := Paired.length h
theorem ds_putT {pos' : Pos} (hu : X.A.units + 64 < cLine) (ho : PE X o (tVar i)) (he : DPE X w e te) (hv : DPE X w ev tv) (hs : swapsWith ev (some (.Subscript o e pos')) pos.line X.env = pure false := by rfl) :
    DPS X w (.Assign [.Subscript o e pos'] ev pos) (tPutT i te tv) :=
  ps_weak (ps_dput (by omega) ho he hv hs) fun D σ H ⟨env, F, d, r, ⟨kvs, sd, hl, h⟩, fit⟩ => ⟨env, F, _, r, h, fun dv v F1 H1 s1 r1 h1 => by
    obtain ⟨a, us, e1, ei, _⟩ := slD_ok r sd
    obtain ⟨F2, s2, a2⟩ := frz_ok s1 r1
    have r2 := r.step s2
    refine ⟨.ref a, e1, env, F2, _, r2, h1, fun dv2 v2 F3 H3 s3 r3 h3 => ?_⟩
    obtain ⟨k, ek, h3⟩ := h3
    obtain rfl := keyD_ok r3 ek
    have a3 := a2.step s3
    split at h3
    · next x ex =>
      rw [ex] at a3
      obtain ⟨nx, h3⟩ := h3
      have r4 := r2.step s3
      obtain ⟨a', us', e1', ei', ha, kv, hn, h0, hf, ne⟩ := slD_ok r4 sd
      rw [e1] at e1'
      cases e1'
      refine ⟨a, _, rfl, DPut.k ha (by rw [kvp_len kv]; exact lim_lt hl), ?_⟩
      have hn' := allN_put (k := k) hn nx
      have nd : [a].Nodup := List.nodup_cons.mpr ⟨List.not_mem_nil, .nil⟩
      have r5 : RelW X.K w (env.set i (.tr true [a] (dK (ptD kvs k x)))) σ F3 (upd H3 a (.dK (putK us' k v))) := r4.wrtS ei' (fun b o n hb => by rw [upd_ne (fun z => n (by rw [z]; exact List.mem_singleton.mpr rfl))]; exact hb)
        ⟨.ref a, e1, nd, fun b m => by cases List.mem_singleton.mp m; exact ⟨h0, hf, ne⟩, fun _ => List.cons_ne_nil _ _, dK_ot upd_same (kv.put k a3) hn'⟩ fun b m => .inl m
      exact fit.nx _ _ F3 _ r5 (s2.ex.trans s3.ex) (h3 [a])
    · exact h3.elim⟩
end
/-! sorted(d.items()) -/
theorem pairs_at {P : Program} {w : World} : ∀ {es : List DictEntry} {vs : List (Key × Value)}, Pairs (mixKind P w) es vs → es.length = vs.length ∧ ∀ (j : Nat) (e : DictEntry), es[j]? = some e → ∃ kv, vs[j]? = some kv ∧ (mixKind P w).is kv.1 e.key = true ∧ e.val = kv.2
  | _, _, .nil => ⟨rfl, fun j e h => by simp at h⟩
  | _, _, .cons h1 h2 t => by
    obtain ⟨l, q⟩ := pairs_at t
    refine ⟨by rw [List.length_cons, List.length_cons, l], fun j e h => ?_⟩
    cases j with
    | zero =>
      cases (show some _ = some e from h)
      exact ⟨_, rfl, h1, h2⟩
    | succ j => exact q j e (by simpa using h)
mutual
theorem noL_as {h : Heap} : ∀ {v : Value} {d : PyData} {as : List Addr}, noL d = true → Reads h v d as → as = []
  | _, _, _, _, .none => rfl
  | _, _, _, _, .bool _ => rfl
  | _, _, _, _, .int _ _ => rfl
  | _, _, _, _, .str _ _ => rfl
  | _, _, _, n, .list _ _ _ _ => by simp only [noL] at n; cases n
  | _, _, _, n, .tuple _ _ _ r => noLs_as (by simpa only [noL] using n) r
  | _, _, _, n, .dict _ _ _ _ _ => by simp only [noL] at n; cases n
theorem noLs_as {h : Heap} : ∀ {v : List Value} {d : List PyData} {as : List Addr}, noLs d = true → ReadsAll h v d as → as = []
  | _, _, _, _, .nil => rfl
  | _, _, _, n, .cons a t => by
    rw [noLs, Bool.and_eq_true] at n
    rw [noL_as n.1 a, noLs_as n.2 t]
    rfl
end
theorem each_refs {T : Addr → PyData → Prop} : ∀ {us : List Value} {xs : List PyData}, EachIs (fun u x => ∃ b : Addr, u = .ref b ∧ T b x) us xs → ∃ bs : List Addr, us = bs.map Value.ref ∧ EachIs T bs xs
  | _, _, .nil => ⟨[], rfl, .nil⟩
  | _, _, .cons ⟨b, e, h⟩ t => by
    obtain ⟨bs, q1, q2⟩ := each_refs t
    exact ⟨b :: bs, by rw [e, q1]; rfl, .cons h q2⟩
theorem refs_rpa {K : PySem.W.Frag} {F : Hp} : ∀ {bs : List Addr} {xs : List PyData}, EachIs (fun b x => Rp K F (.ref b) x) bs xs → RpA K F (bs.map V.ref) xs
  | _, _, .nil => .nil
  | _, _, .cons h t => .cons h (refs_rpa t)
def prD (p : Key × PyData) : PyData := .tuple [kD p.1, p.2]
def rItemsK : V → List V → Hp → VK → Prop := fun x xs H Q => ∃ (a : Addr) (kvs : List (L2.Key × V)), x = .ref a ∧ xs = [] ∧ H a = some (.dK kvs) ∧ ∀ p, H p = none → Q (.ref p) (upd H p (L2.DX.itemsO p a))
theorem mt_itemsK {X : Cx} : MtR X "dict.items" rItemsK := by
  intro pins s σ H x xs v us Q I rx rxs h
  obtain ⟨a, kvs, rfl, rfl, ha, q⟩ := h
  cases rx
  cases rxs
  obtain ⟨z, hd, vs, rel, o, es, ep, ho, hx, hdat, _⟩ := dk_of I.hok ha
  refine DT.callItems (es := es) (ep := ep) hd ⟨o, ho, hx, hdat⟩ ?_
  have hf : H s.heap.objs.size = none := I.hok.fresh (Nat.le_refl _)
  exact ⟨.ref s.heap.objs.size, upd H s.heap.objs.size (L2.DX.itemsO s.heap.objs.size a), I.laid (t' := s.toks) (fun b u e => Heap.get?_push_of_some _ e) (Nat.le_refl _) (L2.DX.itemsO_ok (Heap.get?_push_size _ rfl)), rfl, q _ hf⟩
def rSortV (K : PySem.W.Frag) : List V → Hp → VK → Prop := fun vs H Q => ∃ (p a : Addr) (us : List (Key × V)) (kvs : List (Key × PyData)) (F : Hp), vs = [.ref p] ∧ H p = some (L2.DX.itemsO p a) ∧ H a = some (.dK us) ∧ KVp K F us kvs ∧ Same F H ∧ allN kvs = true ∧
  flatA (kvs.map prD) = true ∧ AllAlike (kvs.map prD) ∧ kvs.length ≤ 100000 ∧ (∀ x ∈ kvs.map prD, x.depth ≤ 50) ∧
  ∀ (H' : Hp) (l : Addr) (as : List Addr) (ws : List V) (ys : List PyData), (∀ b o, H b = some o → H' b = some o) → (∀ b ∈ as, H b = none) → H l = none → l ∉ as → H' l = some (.lst ws) → RpA K (opn as F H') ws ys → ys.Perm (kvs.map prD) → ys.Pairwise (fun a b => dataLt b a = false) → Q (.ref l) H'
theorem cr_sortV {X : Cx} (hc : X.calm = true) (hu : X.A.units + 64 < cLine) : CallR X (.builtin "sorted") (rSortV X.K) := by
  intro pins s σ H xs us' Q I r h
  obtain ⟨p, a, us, kvs, F, rfl, hp, ha, hkv, hsub, hn, hfl, hal, hlen, hdep, q⟩ := h
  obtain rfl := Vals.ref1 r
  have view : s.heap.IsItemsView p a := (show ObjOk X.prog X.w H s.heap p (L2.DX.itemsO p a) from I.hok p _ hp).1
  obtain ⟨z, hd, vs, rel, o, es, ep, ho, hx, hdat, hks, hps, hnd⟩ := dk_of I.hok ha
  obtain ⟨l2, pat⟩ := pairs_at hps
  have l1 : us.length = vs.length := Paired.length rel
  have l0 : us.length = kvs.length := kvp_len hkv
  have les : es.size = kvs.length := by rw [← Array.length_toList]; omega
  have hh : X.A.handled = none := I.ok.hd hc
  refine DT.sortedI (es := es) (ep := ep) hh view ⟨o, ho, hx, hdat⟩ (by rw [les]; exact lim_le hlen) fun h' tk as hk hlt hl hG => ?_
  have lak : as.length = kvs.length := by omega
  have nd : as.Nodup := List.Pairwise.imp (fun h => Nat.ne_of_lt h) hG.rise
  -- the pairs that were made
  have pr : ∀ (j : Nat) (b : Addr), as[j]? = some b → ∃ (e : DictEntry) (u : Key × V) (d : Key × PyData), us[j]? = some u ∧ kvs[j]? = some d ∧ u.1 = d.1 ∧ RelV (kV u.1) e.key ∧ RelV u.2 e.val ∧ Rp X.K F u.2 d.2 ∧ h'.get? b = some { cls := .type "tuple", data := .seq #[e.key, e.val] } := by
    intro j b hj
    obtain ⟨en, he, hg⟩ := hG.pairs j b hj
    rw [← Array.getElem?_toList] at he
    obtain ⟨kv, e1, e2, e3⟩ := pat j en he
    obtain ⟨u, e4, e5, e6⟩ := L2.DX.pget rel e1
    have jl : j < kvs.length := by rw [← lak]; exact (List.getElem?_eq_some_iff.mp hj).1
    obtain ⟨u', f1, f2, f3⟩ := L2.DX.pget hkv (List.getElem?_eq_getElem jl)
    rw [e4] at f1
    cases f1
    refine ⟨en, u, _, e4, List.getElem?_eq_getElem jl, f2, ?_, by rw [e3]; exact e6, f3, hg⟩
    rw [e5]
    rcases keyIs_shape (show keyIs kv.1 en.key = true from e2) with ⟨i, t, q1, q2⟩ | ⟨x, t, q1, q2⟩
    · rw [q1, q2]; exact ⟨t, rfl⟩
    · rw [q1, q2]; exact ⟨t, rfl⟩
  -- the heap of the sort
  have hob : (h'.push { cls := .type "list", data := .seq (as.map Value.ref).toArray }).get? h'.objs.size = some (seqObj "list" (as.map Value.ref).toArray 0) := Heap.get?_push_size _ rfl
  have kb : ∀ b o, s.heap.get? b = some o → (h'.push { cls := .type "list", data := .seq (as.map Value.ref).toArray }).get? b = some o := fun b o e => Heap.get?_push_of_some _ (hk b o e)
  have ne0 : ∀ b o, h'.get? b = some o → b ≠ h'.objs.size := fun b o e => Nat.ne_of_lt (Heap.lt_size e)
  generalize hh2 : h'.push { cls := .type "list", data := .seq (as.map Value.ref).toArray } = h2 at hob kb ⊢
  have ka : ∀ b o, h'.get? b = some o → h2.get? b = some o := fun b o e => by rw [← hh2]; exact Heap.get?_push_of_some _ e
  have noLk : ∀ d ∈ kvs, noL d.2 = true := List.all_eq_true.mp hn
  have eachR : EachIs (fun (u : Value) (x : PyData) => ∃ b : Addr, u = .ref b ∧ ∃ (j : Nat) (d : Key × PyData), as[j]? = some b ∧ kvs[j]? = some d ∧ x = prD d) (as.map Value.ref) (kvs.map prD) := by
    refine EachIs.of_zip (by rw [List.length_map, List.length_map, lak]) fun pq hm => ?_
    obtain ⟨j, hj⟩ := List.mem_iff_getElem?.mp hm
    obtain ⟨h1, h2⟩ := List.getElem?_zip_eq_some.mp hj
    rw [List.getElem?_map] at h1 h2
    cases e1 : as[j]? with
    | none => rw [e1] at h1; cases h1
    | some b => cases e2 : kvs[j]? with
      | none => rw [e2] at h2; cases h2
      | some d =>
        rw [e1] at h1
        rw [e2] at h2
        exact ⟨b, (Option.some.inj h1).symm, j, d, e1, e2, (Option.some.inj h2).symm⟩
  have em : (kvs.map prD).map (fun b => b) = kvs.map prD := List.map_id' _
  have flk : ∀ {xs : List PyData}, flatA xs = true → ∀ x ∈ xs, flatD x = true := by
    intro xs
    induction xs with
    | nil => intro _ x hx; cases hx
    | cons y ys ih =>
      intro hf x hx
      rw [flatA, Bool.and_eq_true] at hf
      rcases List.mem_cons.mp hx with rfl | hx
      · exact hf.1
      · exact ih hf.2 x hx
  have er : EachIs (fun (v : Value) (b : PyData) => ∃ as, Reads h2 v b as ∧ h'.objs.size ∉ as) (as.map Value.ref) (kvs.map prD) := by
    refine eachR.mono fun u x hq => ?_
    obtain ⟨b, eu, j, d, h1, h2', ex⟩ := hq
    obtain ⟨e, u', d', h3, h4, h5, h6, h7, h8, h9⟩ := pr j b h1
    rw [h2'] at h4
    cases h4
    have hdm := List.mem_of_getElem? h2'
    have fl := flk hfl (prD d) (List.mem_map_of_mem hdm)
    have fl2 : flatD d.2 = true := by
      unfold prD at fl
      simp only [flatD, flatA, Bool.and_eq_true] at fl
      exact fl.2.1
    obtain ⟨as', ra⟩ := rp_reads I d.2 u'.2 e.val fl2 (h8.up hsub) h7
    obtain rfl := noL_as (noLk d hdm) ra
    have rk : Reads s.heap e.key (kD d.1) [] := by
      rw [← h5]
      cases hq : u'.1 with
      | inl i => rw [hq] at h6; obtain ⟨t, et⟩ := h6; rw [et]; exact .int i t
      | inr y => rw [hq] at h6; obtain ⟨t, et⟩ := h6; rw [et]; exact .str y t
    refine ⟨[], ?_, List.not_mem_nil⟩
    rw [eu, ex]
    exact Reads.tuple (ka _ _ h9) rfl rfl (.cons (as := []) (PyProof.Rows.Reads.keeps kb rk) (.cons (as := []) (PyProof.Rows.Reads.keeps kb ra) .nil))
  have hso : Sortable (kvs.map prD) := .inl fun d hd => by
    obtain ⟨d, _, rfl⟩ := List.mem_map.mp hd
    exact ⟨_, _, rfl⟩
  refine list_sort_data (A := X.A.in1) (s := { s with heap := h2, toks := tk }) (β := PyData) (enc := fun b => b) (n := 0) hob eachR er (by rw [em]; exact hal) (by rw [em]; exact hso) (by rw [List.length_map]; exact lim_le hlen) (fun x hx => by
      have := hdep x hx
      show X.A.units + 1 + 1 + x.depth < cLine
      omega) fun out lo eo => ?_
  show EP X pins σ Q (.ref h'.objs.size) { s with heap := sortedHeap h2 h'.objs.size (as.map Value.ref) (List.toArray out), toks := tk }
  have kF : ∀ b o, b ≠ h'.objs.size → h2.get? b = some o → (sortedHeap h2 h'.objs.size (as.map Value.ref) (List.toArray out)).get? b = some o := fun b o hb e => (PyProof.Rows.sortedHeap_old hb (Heap.lt_size e)).trans e
  have kS : ∀ b o, s.heap.get? b = some o → (sortedHeap h2 h'.objs.size (as.map Value.ref) (List.toArray out)).get? b = some o := fun b o e => kF b o (ne0 _ _ (hk b o e)) (kb b o e)
  obtain ⟨eF, heF⟩ := PyProof.Rows.sortedHeap_at (vs := as.map Value.ref) (out := List.toArray out) hob
  have I1 : Inv X pins σ H { s with heap := sortedHeap h2 h'.objs.size (as.map Value.ref) (List.toArray out), toks := tk } := I.kept (t' := tk) kS
  have hn0 : H h'.objs.size = none := I.hok.fresh (Nat.le_of_lt hlt)
  obtain ⟨bs, eb, eo⟩ := each_refs eo
  have w1 : Vals (bs.map V.ref) out := by
    rw [eb]
    exact vals_maps V.ref Value.ref bs fun _ _ => rfl
  have I2 : Inv X pins σ (upd H h'.objs.size (.lst (bs.map V.ref))) { s with heap := sortedHeap h2 h'.objs.size (as.map Value.ref) (List.toArray out), toks := tk } :=
    I1.take (h' := sortedHeap h2 h'.objs.size (as.map Value.ref) (List.toArray out)) (t' := tk) (fun b ob _ e => e) (I.fpOk (Nat.le_of_lt hlt) hn0) ⟨by rw [w1.length, lo, List.length_map]; exact lim_le hlen, out, eF, w1, heF⟩
  obtain ⟨H1, I3, g, qt⟩ := L2.DX.takeT (P := fun b vs => ∃ (j : Nat) (u : Key × V), as[j]? = some b ∧ us[j]? = some u ∧ vs = [kV u.1, u.2]) I as _ I2 nd fun b hb => by
    obtain ⟨j, hj⟩ := List.mem_iff_getElem?.mp hb
    obtain ⟨e, u', d', h3, h4, h5, h6, h7, h8, h9⟩ := pr j b hj
    have hbl : s.heap.objs.size ≤ b := Nat.le_of_lt (hG.above b hb)
    refine ⟨hbl, ?_, [kV u'.1, u'.2], ⟨j, u', hj, h3, rfl⟩, fun H3 => ⟨(by rw [sizeLine_eq]; show 2 ≤ 16777216; omega), [e.key, e.val], .cons h6 (.cons h7 .nil), ⟨_, kF _ _ (ne0 _ _ h9) (ka _ _ h9), rfl, 0, rfl⟩⟩⟩
    rw [upd_ne (ne0 _ _ h9)]
    exact I.hok.fresh hbl
  have lna : h'.objs.size ∉ as := fun m => Nat.lt_irrefl _ (hG.there m)
  have asN : ∀ b ∈ as, H b = none := fun b hb => I.hok.fresh (Nat.le_of_lt (hG.above b hb))
  have gr : ∀ b o, H b = some o → H1 b = some o := fun b o e => g b o (by rw [upd_ne (ne_of_none e hn0)]; exact e)
  have sm : Same F (opn as F H1) := opn_same fun l m => by
    cases hF : F l with
    | none => rfl
    | some o => have := hsub l o hF; rw [asN l m] at this; cases this
  have eo2 : EachIs (fun b x => Rp X.K (opn as F H1) (.ref b) x) bs ((kvs.map prD).mergeSort (dataLe false fun b => b)) := by
    refine eo.mono fun b x hq => ?_
    obtain ⟨j, d, h1, h2', ex⟩ := hq
    have hbm := List.mem_of_getElem? h1
    obtain ⟨vs', ⟨j2, u2, j1, j3, ev⟩, hH⟩ := qt b hbm
    have eij : j = j2 := (List.getElem?_inj (List.getElem?_eq_some_iff.mp h1).1 nd).mp (h1.trans j1.symm)
    subst eij
    obtain ⟨e, u', d', h3, h4, h5, h6, h7, h8, h9⟩ := pr j b h1
    rw [h2'] at h4
    cases h4
    rw [j3] at h3
    cases h3
    rw [ex]
    refine .tup (vs := [kV u2.1, u2.2]) (SqT.of ?_) (.cons ?_ (.cons (h8.up sm) .nil))
    · unfold opn
      rw [if_pos hbm, hH, ev]
    · rw [h5]
      exact kD_rp _
  exact ⟨.ref h'.objs.size, H1, I3, rfl, q H1 h'.objs.size as _ _ gr asN hn0 lna (g _ _ upd_same) (refs_rpa eo2) (List.mergeSort_perm ..) (data_sorted _)⟩
/-- sorted(d.items()), d a dict in a slot -/
def tSortIt (i : Nat) : DT := fun env P => ∃ kvs, slD env i kvs ∧ flatA (kvs.map prD) = true ∧ AllAlike (kvs.map prD) ∧ kvs.length ≤ 100000 ∧ (∀ x ∈ kvs.map prD, x.depth ≤ 50) ∧ ∀ ys : List PyData, ys.Perm (kvs.map prD) → ys.Pairwise (fun a b => dataLt b a = false) → P (.fr ys)
theorem stp_opn {K : PySem.W.Frag} {b : Bg} {F H H' : Hp} {as : List Addr} (wd : Wd K b F H) (g : ∀ a o, H a = some o → H' a = some o) (hn : ∀ a ∈ as, H a = none) : Stp K b F H (opn as F H') H' := by
  have fn : ∀ a ∈ as, F a = none := fun a m => by
    cases hF : F a with
    | none => rfl
    | some o => have := wd.sub a o hF; rw [hn a m] at this; cases this
  have sm : Same F (opn as F H') := opn_same fn
  have at0 : ∀ a, a ∉ as → opn as F H' a = F a := fun a m => if_neg m
  obtain ⟨vs, eb⟩ := wd.bag.lst
  have nb : b.b ∉ as := fun m => by rw [hn _ m] at eb; cases eb
  refine ⟨fun a o _ _ h => g a o h, wd.bag.up sm ((g _ _ eb).trans eb.symm) (fun t _ h1 h2 => ?_), sm, fun a o h => ?_, by rw [at0 _ nb]; exact wd.fb, fun a h1 h2 => ?_, fun a ps _ h => ⟨ps, g _ _ h, fun z => z⟩⟩
  · obtain ⟨ps, z, k⟩ := h2
    exact ⟨by rw [at0 _ (fun m => by rw [hn _ m] at z; cases z)]; exact h1, ps, g _ _ z, k⟩
  · unfold opn at h
    split at h
    · exact h
    · exact g _ _ (wd.sub _ _ h)
  · rw [at0 _ (fun m => h2 (hn _ m))]
    exact h1
section
variable {X : Cx} {w : Wn} {pos p ap cp : Pos} {o : Expr} {i : Nat}
theorem d_sortIt (hc : X.calm = true) (hu : X.A.units + 64 < cLine) (gl : Gl X "sorted") (gm : X.mg "sorted" = none) (ho : PE X o (tVar i)) (hb : attributeBase o "items" X.env (eval o X.env) = eval o X.env := by rfl) (hline : (ap.endLine == cp.line) = true := by rfl)
    (he : starEach [.Call (.Attribute o "items" ap) [] [] cp] X.env = (false, eval (.Call (.Attribute o "items" ap) [] [] cp) X.env) :: starEach [] X.env := by rfl) (hpl : (backTo pos (starEach [] X.env)).any (·.1) = false := by rfl)
    (hs : starEach [.Call (.Attribute o "items" ap) [] [] cp] X.env = [(false, eval (.Call (.Attribute o "items" ap) [] [] cp) X.env)] := by rfl) :
    DPE X w (.Call (.Name "sorted" p) [.Call (.Attribute o "items" ap) [] [] cp] [] pos) (tSortIt i) :=
  pe_weak (pe_callB (cr_sortV hc hu) gl gm (by decide +kernel) (pa_cons (pe_bm0 PySem.F.plainAttrs_dict PySem.F.slot_dict_items PySem.F.type_dict_items mt_itemsK ho hb hline) pa_nil) (by decide) (by decide) he hpl) fun σ H Q ⟨env, F, P, r, ⟨kvs, sd, h1, h2, h3, h4, h⟩, q⟩ => by
    obtain ⟨a, us, e1, _, ha, kv, hn, _⟩ := slD_ok r sd
    refine ⟨.ref a, e1, .inr (.inr (.inl ⟨rfl, .inl ⟨us, ha⟩⟩)), a, us, rfl, rfl, ha, fun v hv => ?_⟩
    have s1 := r.wd.laidM (o := L2.DX.itemsO v a) hv
    have wd1 := s1.wd
    have ha1 : upd H v (L2.DX.itemsO v a) a = some (.dK us) := by rw [upd_ne (ne_of_none ha hv)]; exact ha
    refine ⟨v, a, us, kvs, F, rfl, upd_same, ha1, kv, wd1.sub, hn, h1, h2, h3, h4, fun H' l as ws ys g asN hl ln el ra pm so => ?_⟩
    have s2 := stp_opn wd1 g asN
    have fl : F l = none := by
      cases hF : F l with
      | none => rfl
      | some o => have := wd1.sub l o hF; rw [hl] at this; cases this
    obtain ⟨bvs, eb⟩ := wd1.bag.lst
    have hl0 : H l = none := by
      cases e : H l with
      | none => rfl
      | some o => have := s1.keep l o (fun z => by rw [z, eb] at hl; cases hl) (fun ps z => by
          subst z
          obtain ⟨qs, hq, _⟩ := s1.tab l ps (fun z => by rw [z, eb] at hl; cases hl) e
          rw [hq] at hl
          cases hl) e; rw [hl] at this; cases this
    refine q (.fr ys) (.ref l) _ H' (s1.trans s2) ⟨l, ws, rfl, hl0, ?_, (fun z => by rw [z, eb] at hl; cases hl), el, ra⟩ (h ys pm so)
    show (if l ∈ as then H' l else F l) = none
    rw [if_neg ln]
    exact fl
end
end Dl
/-! ### what points count at the marks of a scale, in parts of one bottom -/
namespace Dl
open PySem PySem.Spec PyProof.Rows L2 PySem.W
/-- what each number from 1 to n divides -/
def lcmTo : Nat → Nat
  | 0 => 1
  | n + 1 => Nat.lcm (lcmTo n) (n + 1)
theorem lcmTo_pos : ∀ n, 0 < lcmTo n
  | 0 => Nat.one_pos
  | n + 1 => Nat.lcm_pos (lcmTo_pos n) (Nat.succ_pos n)
theorem lcmTo_dvd : ∀ {n k : Nat}, 1 ≤ k → k ≤ n → k ∣ lcmTo n
  | 0, k, h1, h2 => by omega
  | n + 1, k, h1, h2 => by
    by_cases e : k = n + 1
    · subst e
      exact Nat.dvd_lcm_right ..
    · exact Nat.dvd_trans (lcmTo_dvd h1 (by omega)) (Nat.dvd_lcm_left ..)
def DD : Int := (lcmTo 1000 : Nat)
theorem lcm_big : lcmTo 1000 < 2 ^ 1500 := by decide +kernel
theorem DD_pos : 0 < DD := Int.natCast_pos.mpr (lcmTo_pos 1000)
theorem DD_ne : DD ≠ 0 := Int.ne_of_gt DD_pos
theorem DD_lt : DD.natAbs < 2 ^ 1500 := by
  unfold DD
  rw [Int.natAbs_natCast]
  exact lcm_big
theorem DD_dvd {g : Int} (h1 : 1 ≤ g) (h2 : g ≤ 1000) : g ∣ DD := by
  obtain ⟨k, rfl⟩ := Int.eq_ofNat_of_zero_le (show 0 ≤ g by omega)
  unfold DD
  exact Int.natCast_dvd_natCast.mpr (lcmTo_dvd (by omega) (by omega))
/-- the fraction of n parts -/
def frT (n : Int) : Int := loT n DD
def frB (n : Int) : Int := loB n DD
def frP (n : Int) : PyData := .tuple [.int (frT n), .int (frB n)]
theorem frN (n : Int) : Nu DD n (frT n) (frB n) := by
  obtain ⟨k1, k2⟩ := lo_ok (t := n) DD_ne
  exact ⟨k1, k2⟩
theorem frEq {n p q : Int} (h : Nu DD n p q) : p = frT n ∧ q = frB n := h.one DD_ne (frN n)
theorem frD {n p q : Int} (h : Nu DD n p q) : PyData.tuple [.int p, .int q] = frP n := by
  obtain ⟨rfl, rfl⟩ := frEq h
  rfl
theorem fr_one : frP DD = .tuple [.int 1, .int 1] := (frD ⟨⟨by decide, by decide⟩, rfl⟩).symm
theorem fr_zero : frP 0 = .tuple [.int 0, .int 1] := (frD nu_zero).symm
theorem fr_pos {n : Int} : 0 < frT n ↔ 0 < n := by
  obtain ⟨f, e⟩ := frN n
  have h := f.pos
  have d := DD_pos
  constructor
  · intro a
    have : 0 < n * frB n := by rw [e]; exact Int.mul_pos d a
    exact Int.pos_of_mul_pos_left this h
  · intro a
    have : 0 < DD * frT n := by rw [← e]; exact Int.mul_pos a h
    exact Int.pos_of_mul_pos_right this d
/-- a rising list of points -/
abbrev Rise (ms : List Int) : Prop := ms.Pairwise (· < ·)
/-- what a point counts, mark by mark -/
def sh : List Int → Int → List (Int × Int)
  | [], _ => []
  | a :: t, p => if p = a then [(a, DD)] else match t with
    | [] => []
    | b :: _ => if a < p ∧ p < b then [(a, DD / (b - a) * (b - p)), (b, DD / (b - a) * (p - a))] else sh t p
def cAt (m : Int) (l : List (Int × Int)) : Int := (l.map fun q => if q.1 = m then q.2 else 0).sum
/-- what points count at a mark -/
def wS (ms ps : List Int) (m : Int) : Int := (ps.map fun p => cAt m (sh ms p)).sum
theorem sh_in : ∀ {ms : List Int} {p : Int}, Rise ms → p ∈ ms → sh ms p = [(p, DD)]
  | [], _, _, h => by cases h
  | a :: t, p, r, h => by
    unfold sh
    by_cases e : p = a
    · rw [if_pos e, e]
    · rw [if_neg e]
      have hp : p ∈ t := by
        rcases List.mem_cons.mp h with z | z
        · exact absurd z e
        · exact z
      obtain ⟨r1, r2⟩ := List.pairwise_cons.mp r
      cases t with
      | nil => cases hp
      | cons b t =>
        have : ¬ (a < p ∧ p < b) := by
          rintro ⟨_, z⟩
          rcases List.mem_cons.mp hp with y | y
          · omega
          · have := (List.pairwise_cons.mp r2).1 p y
            omega
        simp only [this, if_false]
        exact sh_in r2 hp
theorem sh_two : ∀ {ms : List Int} {p a b : Int}, Rise ms → a ∈ ms → b ∈ ms → a < p → p < b → p ∉ ms → (∀ y ∈ ms, y < p → y ≤ a) → (∀ y ∈ ms, p < y → b ≤ y) → sh ms p = [(a, DD / (b - a) * (b - p)), (b, DD / (b - a) * (p - a))]
  | [], _, _, _, _, h, _, _, _, _, _, _ => by cases h
  | x :: t, p, a, b, r, ha, hb, h1, h2, hp, ka, kb => by
    obtain ⟨r1, r2⟩ := List.pairwise_cons.mp r
    unfold sh
    have e : p ≠ x := fun z => hp (by rw [z]; exact List.mem_cons_self ..)
    rw [if_neg e]
    cases t with
    | nil =>
      rcases List.mem_cons.mp ha with rfl | z
      · rcases List.mem_cons.mp hb with rfl | z
        · omega
        · cases z
      · cases z
    | cons y t =>
      by_cases c : x < p ∧ p < y
      · simp only [c, and_self, if_true]
        have hlow : ∀ z ∈ y :: t, p < z := fun z hz => by
          rcases List.mem_cons.mp hz with rfl | hz
          · exact c.2
          · have := (List.pairwise_cons.mp r2).1 z hz
            omega
        have ea : a = x := by
          rcases List.mem_cons.mp ha with z | z
          · exact z
          · have := hlow a z
            omega
        have eb : b = y := by
          have k := kb y (List.mem_cons_of_mem _ (List.mem_cons_self ..)) c.2
          rcases List.mem_cons.mp hb with z | z
          · omega
          · rcases List.mem_cons.mp z with z | z
            · exact z
            · have := (List.pairwise_cons.mp r2).1 b z
              omega
        rw [ea, eb]
      · simp only [c, if_false]
        have hy : y ≠ p := fun z => hp (by rw [← z]; exact List.mem_cons_of_mem _ (List.mem_cons_self ..))
        have xp : x < p := by
          rcases List.mem_cons.mp ha with z | z
          · omega
          · have := r1 a z
            omega
        have yp : y < p := by omega
        have ya := ka y (List.mem_cons_of_mem _ (List.mem_cons_self ..)) yp
        have xy := r1 y (List.mem_cons_self ..)
        have ha' : a ∈ y :: t := by
          rcases List.mem_cons.mp ha with z | z
          · omega
          · exact z
        have hb' : b ∈ y :: t := by
          rcases List.mem_cons.mp hb with z | z
          · omega
          · exact z
        exact sh_two r2 ha' hb' h1 h2 (fun z => hp (List.mem_cons_of_mem _ z)) (fun z hz => ka z (List.mem_cons_of_mem _ hz)) (fun z hz => kb z (List.mem_cons_of_mem _ hz))
/-- a point that lies on the scale is a mark, or between two neighbours -/
theorem sh_where : ∀ {ms : List Int} {p : Int} (ne : ms ≠ []), Rise ms → ms.head ne ≤ p → p ≤ ms.getLast ne → p ∈ ms ∨ ∃ i, ∃ h : i + 1 < ms.length, ms[i] < p ∧ p < ms[i + 1]
  | [], _, ne, _, _, _ => absurd rfl ne
  | [a], p, _, _, h1, h2 => .inl (by
    have h1 : a ≤ p := h1
    have h2 : p ≤ a := h2
    rw [show p = a by omega]
    exact List.mem_cons_self ..)
  | a :: b :: t, p, _, r, h1, h2 => by
    have h1 : a ≤ p := h1
    obtain ⟨r1, r2⟩ := List.pairwise_cons.mp r
    by_cases e : p = a
    · exact .inl (by rw [e]; exact List.mem_cons_self ..)
    · by_cases c : p < b
      · exact .inr ⟨0, by simp, by show a < p; omega, c⟩
      · rcases sh_where (ms := b :: t) (List.cons_ne_nil _ _) r2 (by show b ≤ p; omega) (by simpa using h2) with q | ⟨i, h, q1, q2⟩
        · exact .inl (List.mem_cons_of_mem _ q)
        · exact .inr ⟨i + 1, by simpa using h, by simpa using q1, by simpa using q2⟩
theorem rise_get {ms : List Int} (r : Rise ms) {i j : Nat} (hi : i < ms.length) (hj : j < ms.length) (h : i < j) : ms[i] < ms[j] := List.pairwise_iff_getElem.mp r i j hi hj h
theorem rise_le {ms : List Int} (r : Rise ms) {i j : Nat} (hi : i < ms.length) (hj : j < ms.length) (h : i ≤ j) : ms[i] ≤ ms[j] := by
  by_cases e : i = j
  · subst e; exact Int.le_refl _
  · exact Int.le_of_lt (rise_get r hi hj (by omega))
/-- between two neighbours -/
theorem near {ms : List Int} (r : Rise ms) {p : Int} {i : Nat} (h : i + 1 < ms.length) (h1 : ms[i] < p) (h2 : p < ms[i + 1]) : p ∉ ms ∧ (∀ y ∈ ms, y < p → y ≤ ms[i]) ∧ ∀ y ∈ ms, p < y → ms[i + 1] ≤ y := by
  refine ⟨fun m => ?_, fun y m hy => ?_, fun y m hy => ?_⟩
  · obtain ⟨j, hj, e⟩ := List.mem_iff_getElem.mp m
    by_cases c : j ≤ i
    · have := rise_le r hj (by omega) c
      omega
    · have := rise_le r h hj (show i + 1 ≤ j by omega)
      omega
  · obtain ⟨j, hj, e⟩ := List.mem_iff_getElem.mp m
    by_cases c : j ≤ i
    · have := rise_le r hj (by omega) c
      omega
    · have := rise_le r h hj (show i + 1 ≤ j by omega)
      omega
  · obtain ⟨j, hj, e⟩ := List.mem_iff_getElem.mp m
    by_cases c : j ≤ i
    · have := rise_le r hj (by omega) c
      omega
    · have := rise_le r h hj (show i + 1 ≤ j by omega)
      omega
theorem sh_near {ms : List Int} (r : Rise ms) {p : Int} {i : Nat} (h : i + 1 < ms.length) (h1 : ms[i] < p) (h2 : p < ms[i + 1]) : sh ms p = [(ms[i], DD / (ms[i + 1] - ms[i]) * (ms[i + 1] - p)), (ms[i + 1], DD / (ms[i + 1] - ms[i]) * (p - ms[i]))] := by
  obtain ⟨k1, k2, k3⟩ := near r h h1 h2
  exact sh_two r (List.getElem_mem _) (List.getElem_mem _) h1 h2 k1 k2 k3
theorem sh_out : ∀ {ms : List Int} {p : Int}, Rise ms → p ∉ ms → (¬ ∃ i, ∃ h : i + 1 < ms.length, ms[i] < p ∧ p < ms[i + 1]) → sh ms p = []
  | [], _, _, _, _ => rfl
  | a :: t, p, r, hp, hn => by
    obtain ⟨r1, r2⟩ := List.pairwise_cons.mp r
    unfold sh
    rw [if_neg fun z => hp (by rw [z]; exact List.mem_cons_self ..)]
    cases t with
    | nil => rfl
    | cons b t =>
      have : ¬ (a < p ∧ p < b) := fun z => hn ⟨0, by simp, z⟩
      simp only [this, if_false]
      exact sh_out r2 (fun z => hp (List.mem_cons_of_mem _ z)) fun ⟨i, h, q⟩ => hn ⟨i + 1, by simpa using h, by simpa using q⟩
theorem dd_gap {a b p : Int} (h1 : 1 ≤ b - a) (h2 : b - a ≤ 1000) : DD / (b - a) * (b - p) + DD / (b - a) * (p - a) = DD := by
  rw [← Int.mul_add, show b - p + (p - a) = b - a by omega]
  exact Int.ediv_mul_cancel (DD_dvd h1 h2)
theorem dd_part {a b n : Int} (h1 : 1 ≤ b - a) (h2 : b - a ≤ 1000) {s r : Int} (f : Frac s r) (e : n * r = (b - a) * s) : Nu DD (DD / (b - a) * n) s r := by
  refine ⟨f, ?_⟩
  have k : DD / (b - a) * (b - a) = DD := Int.ediv_mul_cancel (DD_dvd h1 h2)
  rw [Int.mul_assoc, e, ← Int.mul_assoc, k]
theorem dd_pos {a b : Int} (h1 : 1 ≤ b - a) (h2 : b - a ≤ 1000) : 0 < DD / (b - a) := by
  have k : DD / (b - a) * (b - a) = DD := Int.ediv_mul_cancel (DD_dvd h1 h2)
  have d := DD_pos
  rw [← k] at d
  exact Int.pos_of_mul_pos_left d (by omega)
/-! sums over the marks -/
theorem cAt_nil (m : Int) : cAt m [] = 0 := rfl
theorem cAt_cons (m : Int) (q : Int × Int) (l : List (Int × Int)) : cAt m (q :: l) = (if q.1 = m then q.2 else 0) + cAt m l := rfl
theorem cAt_app (m : Int) (l r : List (Int × Int)) : cAt m (l ++ r) = cAt m l + cAt m r := by
  unfold cAt
  rw [List.map_append, List.sum_append]
theorem wS_nil (ms : List Int) (m : Int) : wS ms [] m = 0 := rfl
theorem wS_snoc (ms ps : List Int) (p m : Int) : wS ms (ps ++ [p]) m = wS ms ps m + cAt m (sh ms p) := by
  unfold wS
  rw [List.map_append, List.sum_append]
  simp
theorem wS_cons (ms ps : List Int) (p m : Int) : wS ms (p :: ps) m = cAt m (sh ms p) + wS ms ps m := rfl
theorem sum_zero {ms : List Int} {f : Int → Int} (h : ∀ m ∈ ms, f m = 0) : (ms.map f).sum = 0 := by
  induction ms with
  | nil => rfl
  | cons a t ih =>
    rw [List.map_cons, List.sum_cons, h a (List.mem_cons_self ..), ih fun m hm => h m (List.mem_cons_of_mem _ hm)]
    rfl
theorem sum_add {ms : List Int} (f g : Int → Int) : (ms.map fun m => f m + g m).sum = (ms.map f).sum + (ms.map g).sum := by
  induction ms with
  | nil => rfl
  | cons a t ih =>
    rw [List.map_cons, List.sum_cons, List.map_cons, List.sum_cons, List.map_cons, List.sum_cons, ih]
    omega
theorem sum_one {ms : List Int} {k c : Int} (nd : ms.Nodup) (h : k ∈ ms) : (ms.map fun m => if k = m then c else 0).sum = c := by
  induction ms with
  | nil => cases h
  | cons a t ih =>
    obtain ⟨n1, n2⟩ := List.nodup_cons.mp nd
    rw [List.map_cons, List.sum_cons]
    by_cases e : k = a
    · rw [if_pos e, sum_zero fun m hm => if_neg fun z => n1 (by rw [← e, z]; exact hm)]
      omega
    · rw [if_neg e, ih n2 ((List.mem_cons.mp h).resolve_left e)]
      omega
theorem sum_cAt {ms : List Int} (nd : ms.Nodup) : ∀ {l : List (Int × Int)}, (∀ q ∈ l, q.1 ∈ ms) → (ms.map fun m => cAt m l).sum = (l.map Prod.snd).sum
  | [], _ => sum_zero fun _ _ => rfl
  | q :: l, h => by
    have e : (ms.map fun m => cAt m (q :: l)).sum = (ms.map fun m => (if q.1 = m then q.2 else 0) + cAt m l).sum := rfl
    rw [e, sum_add, sum_one nd (h q (List.mem_cons_self ..)), sum_cAt nd fun r hr => h r (List.mem_cons_of_mem _ hr), List.map_cons, List.sum_cons]
theorem rise_nd {ms : List Int} (r : Rise ms) : ms.Nodup := r.imp fun h => Int.ne_of_lt h
theorem sh_keys : ∀ {ms : List Int} {p : Int}, ∀ q ∈ sh ms p, q.1 ∈ ms
  | [], _, q, h => by cases h
  | a :: t, p, q, h => by
    unfold sh at h
    split at h
    · cases List.mem_singleton.mp h
      exact List.mem_cons_self ..
    · split at h
      · cases h
      · next b t =>
        split at h
        · rcases List.mem_cons.mp h with rfl | h
          · exact List.mem_cons_self ..
          · cases List.mem_singleton.mp h
            exact List.mem_cons_of_mem _ (List.mem_cons_self ..)
        · exact List.mem_cons_of_mem _ (sh_keys q h)
/-- marks from 0 to 1000 -/
abbrev In1000 (ms : List Int) : Prop := ∀ m ∈ ms, 0 ≤ m ∧ m ≤ 1000
theorem gap_of {ms : List Int} (r : Rise ms) (k : In1000 ms) {i : Nat} (h : i + 1 < ms.length) : 1 ≤ ms[i + 1] - ms[i] ∧ ms[i + 1] - ms[i] ≤ 1000 := by
  have a := rise_get r (by omega) h (show i < i + 1 by omega)
  have b := k _ (List.getElem_mem (l := ms) (n := i) (by omega))
  have c := k _ (List.getElem_mem (l := ms) (n := i + 1) h)
  omega
/-- what a point counts is above none -/
theorem sh_pos {ms : List Int} (r : Rise ms) (k : In1000 ms) {p : Int} : ∀ q ∈ sh ms p, 0 < q.2 := by
  by_cases h : p ∈ ms
  · rw [sh_in r h]
    intro q hq
    cases List.mem_singleton.mp hq
    exact DD_pos
  · by_cases h2 : ∃ i, ∃ h : i + 1 < ms.length, ms[i] < p ∧ p < ms[i + 1]
    · obtain ⟨i, hi, h1, h2⟩ := h2
      rw [sh_near r hi h1 h2]
      obtain ⟨g1, g2⟩ := gap_of r k hi
      have d := dd_pos g1 g2
      intro q hq
      rcases List.mem_cons.mp hq with rfl | hq
      · exact Int.mul_pos d (by omega)
      · cases List.mem_singleton.mp hq
        exact Int.mul_pos d (by omega)
    · rw [sh_out r h h2]
      intro q hq
      cases hq
theorem sh_sum {ms : List Int} (ne : ms ≠ []) (r : Rise ms) (k : In1000 ms) {p : Int} (h1 : ms.head ne ≤ p) (h2 : p ≤ ms.getLast ne) : ((sh ms p).map Prod.snd).sum = DD := by
  rcases sh_where ne r h1 h2 with h | ⟨i, hi, q1, q2⟩
  · rw [sh_in r h]
    simp
  · obtain ⟨g1, g2⟩ := gap_of r k hi
    rw [sh_near r hi q1 q2]
    have := dd_gap (p := p) g1 g2
    simpa using this
theorem cAt_nn {l : List (Int × Int)} (h : ∀ q ∈ l, 0 < q.2) (m : Int) : 0 ≤ cAt m l := by
  induction l with
  | nil => exact Int.le_refl _
  | cons q l ih =>
    rw [cAt_cons]
    have a := h q (List.mem_cons_self ..)
    have b := ih fun r hr => h r (List.mem_cons_of_mem _ hr)
    split <;> omega
theorem cAt_le {l : List (Int × Int)} (h : ∀ q ∈ l, 0 < q.2) (m : Int) : cAt m l ≤ (l.map Prod.snd).sum := by
  induction l with
  | nil => exact Int.le_refl _
  | cons q l ih =>
    rw [cAt_cons, List.map_cons, List.sum_cons]
    have a := h q (List.mem_cons_self ..)
    have b := ih fun r hr => h r (List.mem_cons_of_mem _ hr)
    split <;> omega
theorem sh_le {ms : List Int} (r : Rise ms) (k : In1000 ms) {p : Int} : ((sh ms p).map Prod.snd).sum ≤ DD := by
  by_cases h : p ∈ ms
  · rw [sh_in r h]
    simp
  · by_cases h2 : ∃ i, ∃ h : i + 1 < ms.length, ms[i] < p ∧ p < ms[i + 1]
    · obtain ⟨i, hi, h1, h2⟩ := h2
      rw [sh_near r hi h1 h2]
      obtain ⟨g1, g2⟩ := gap_of r k hi
      have := dd_gap (p := p) g1 g2
      simp
      omega
    · rw [sh_out r h h2]
      exact Int.le_of_lt DD_pos
theorem wS_nn {ms : List Int} (r : Rise ms) (k : In1000 ms) (m : Int) : ∀ ps : List Int, 0 ≤ wS ms ps m
  | [] => Int.le_refl _
  | p :: ps => by
    rw [wS_cons]
    exact Int.add_nonneg (cAt_nn (sh_pos r k) m) (wS_nn r k m ps)
theorem wS_le {ms : List Int} (r : Rise ms) (k : In1000 ms) (m : Int) : ∀ ps : List Int, wS ms ps m ≤ DD * ps.length
  | [] => Int.le_refl _
  | p :: ps => by
    rw [wS_cons, List.length_cons]
    have a := Int.le_trans (cAt_le (sh_pos r k) m) (sh_le (p := p) r k)
    have b := wS_le r k m ps
    push_cast
    rw [Int.mul_add, Int.mul_one]
    omega
theorem wS_out {ms : List Int} {m : Int} (h : m ∉ ms) : ∀ ps : List Int, wS ms ps m = 0
  | [] => rfl
  | p :: ps => by
    rw [wS_cons, wS_out h ps, Int.add_zero]
    have : ∀ l : List (Int × Int), (∀ q ∈ l, q.1 ∈ ms) → cAt m l = 0 := by
      intro l
      induction l with
      | nil => intro _; rfl
      | cons q l ih =>
        intro k
        rw [cAt_cons, if_neg (fun z => h (by rw [← z]; exact k q (List.mem_cons_self ..))), ih fun r hr => k r (List.mem_cons_of_mem _ hr)]
        rfl
    exact this _ sh_keys
/-- all that points count, together -/
theorem wS_all {ms : List Int} (ne : ms ≠ []) (r : Rise ms) (k : In1000 ms) : ∀ {ps : List Int}, (∀ p ∈ ps, ms.head ne ≤ p ∧ p ≤ ms.getLast ne) → (ms.map (wS ms ps)).sum = DD * ps.length
  | [], _ => sum_zero fun _ _ => rfl
  | p :: ps, h => by
    have e : (ms.map (wS ms (p :: ps))).sum = (ms.map fun m => cAt m (sh ms p) + wS ms ps m).sum := rfl
    obtain ⟨h1, h2⟩ := h p (List.mem_cons_self ..)
    rw [e, sum_add, sum_cAt (rise_nd r) sh_keys, sh_sum ne r k h1 h2, wS_all ne r k fun q hq => h q (List.mem_cons_of_mem _ hq), List.length_cons]
    push_cast
    rw [Int.mul_add, Int.mul_one]
    omega
/-- what a point counts at the mark of a place -/
theorem cAt_place {ms : List Int} (r : Rise ms) (p : Int) (i : Nat) (hi : i < ms.length) : cAt ms[i] (sh ms p) = if p = ms[i] then DD else
    if h : 0 < i ∧ ms[i - 1]'(by omega) < p ∧ p < ms[i] then DD / (ms[i] - ms[i - 1]'(by omega)) * (p - ms[i - 1]'(by omega)) else
    if h : i + 1 < ms.length ∧ ms[i] < p ∧ p < (ms[i + 1]?).getD 0 then DD / ((ms[i + 1]?).getD 0 - ms[i]) * ((ms[i + 1]?).getD 0 - p) else 0 := by
  have inj : ∀ {j : Nat} (hj : j < ms.length), ms[j] = ms[i] → j = i := fun {j} hj e => by
    rcases Nat.lt_trichotomy j i with c | c | c
    · have := rise_get r hj hi c; omega
    · exact c
    · have := rise_get r hi hj c; omega
  split
  · next e =>
    rw [sh_in r (by rw [e]; exact List.getElem_mem _), cAt_cons, if_pos e, cAt_nil]
    omega
  · next e =>
    split
    · next h =>
      obtain ⟨h0, h1, h2⟩ := h
      have e1 : i - 1 + 1 = i := by omega
      have := sh_near r (i := i - 1) (p := p) (by omega) h1 (by simpa only [e1] using h2)
      simp only [e1] at this
      rw [this, cAt_cons, cAt_cons, cAt_nil, if_neg (fun z => by have := inj _ z; omega), if_pos rfl]
      omega
    · next h3 =>
      split
      · next h =>
        obtain ⟨h0, h1, h2⟩ := h
        rw [List.getElem?_eq_getElem h0, Option.getD_some] at h2 ⊢
        rw [sh_near r h0 h1 h2, cAt_cons, cAt_cons, cAt_nil, if_pos rfl, if_neg (fun z => by have := inj _ z; omega)]
        omega
      · next h4 =>
        by_cases hm : p ∈ ms
        · rw [sh_in r hm, cAt_cons, cAt_nil, if_neg e]
          rfl
        · by_cases h2 : ∃ j, ∃ h : j + 1 < ms.length, ms[j] < p ∧ p < ms[j + 1]
          · obtain ⟨j, hj, q1, q2⟩ := h2
            rw [sh_near r hj q1 q2, cAt_cons, cAt_cons, cAt_nil, if_neg, if_neg]
            · rfl
            · intro z
              have z := inj _ z
              subst z
              exact h3 ⟨by omega, q1, q2⟩
            · intro z
              have z := inj _ z
              subst z
              exact h4 ⟨hj, q1, by rw [List.getElem?_eq_getElem hj]; exact q2⟩
          · rw [sh_out r hm h2]
            rfl
/-! the mix of a spot, as it is told -/
def mixW (ms : List Int) (w : Int → Int) : List PyData := (ms.filter fun m => decide (0 < w m)).map fun m => .tuple [.int m, frP (w m)]
theorem rise_uniq : ∀ {ns ms : List Int}, Rise ns → Rise ms → (∀ x, x ∈ ns ↔ x ∈ ms) → ns = ms
  | [], [], _, _, _ => rfl
  | [], m :: ms, _, _, h => absurd ((h m).mpr (List.mem_cons_self ..)) List.not_mem_nil
  | n :: ns, [], _, _, h => absurd ((h n).mp (List.mem_cons_self ..)) List.not_mem_nil
  | n :: ns, m :: ms, rn, rm, h => by
    obtain ⟨n1, n2⟩ := List.pairwise_cons.mp rn
    obtain ⟨m1, m2⟩ := List.pairwise_cons.mp rm
    have e : n = m := by
      rcases List.mem_cons.mp ((h n).mp (List.mem_cons_self ..)) with z | z
      · exact z
      · rcases List.mem_cons.mp ((h m).mpr (List.mem_cons_self ..)) with y | y
        · exact y.symm
        · have := m1 n z; have := n1 m y; omega
    subst e
    rw [rise_uniq n2 m2 fun x => ⟨fun hx => ?_, fun hx => ?_⟩]
    · rcases List.mem_cons.mp ((h x).mp (List.mem_cons_of_mem _ hx)) with z | z
      · have := n1 x hx; omega
      · exact z
    · rcases List.mem_cons.mp ((h x).mpr (List.mem_cons_of_mem _ hx)) with z | z
      · have := m1 x hx; omega
      · exact z
/-! the dict of what was counted so far -/
structure Cnt (ms : List Int) (w : Int → Int) (kvs : List (Key × PyData)) : Prop where
  keys : ∀ p ∈ kvs, ∃ m n, p = (.inl m, frP n) ∧ m ∈ ms
  nd : (kvs.map Prod.fst).Nodup
  at' : ∀ m, lkD kvs (.inl m) = if w m = 0 then none else some (frP (w m))
theorem lk_put {kvs : List (Key × PyData)} {k j : Key} {x : PyData} : lkD (ptD kvs k x) j = if j = k then some x else lkD kvs j := by
  have any : ∀ l : List (Key × PyData), (l.any fun p => decide (p.1 = k)) = (lkD l k).isSome := by
    intro l
    induction l with
    | nil => rfl
    | cons p l ih =>
      rw [List.any_cons]
      unfold lkD
      rw [List.find?_cons]
      by_cases e : p.1 = k
      · rw [decide_eq_true e]; rfl
      · rw [decide_eq_false e, Bool.false_or]; exact ih
  have cons : ∀ (p : Key × PyData) (l : List (Key × PyData)) (j : Key), lkD (p :: l) j = if p.1 = j then some p.2 else lkD l j := by
    intro p l j
    unfold lkD
    rw [List.find?_cons]
    by_cases e : p.1 = j
    · rw [decide_eq_true e, if_pos e]; rfl
    · rw [decide_eq_false e, if_neg e]
  unfold ptD
  split
  · next a =>
    rw [any] at a
    have mp : ∀ l : List (Key × PyData), lkD (l.map fun p => if p.1 = k then (p.1, x) else p) j = (lkD l j).map fun y => if j = k then x else y := by
      intro l
      induction l with
      | nil => rfl
      | cons p l ih =>
        rw [List.map_cons, cons, cons]
        by_cases h : p.1 = k
        · rw [if_pos h]
          by_cases e : p.1 = j
          · rw [if_pos e, if_pos e, Option.map_some, if_pos (e.symm.trans h)]
          · rw [if_neg e, if_neg e, ih]
        · rw [if_neg h]
          by_cases e : p.1 = j
          · rw [if_pos e, if_pos e, Option.map_some, if_neg (fun z => h (e.trans z))]
          · rw [if_neg e, if_neg e, ih]
    rw [mp]
    by_cases e : j = k
    · rw [if_pos e]
      subst e
      obtain ⟨y, hy⟩ := Option.isSome_iff_exists.mp a
      rw [hy, Option.map_some, if_pos rfl]
    · rw [if_neg e]
      cases lkD kvs j with
      | none => rfl
      | some y => rw [Option.map_some, if_neg e]
  · next a =>
    rw [any] at a
    have ap : ∀ l : List (Key × PyData), lkD l k = none → lkD (l ++ [(k, x)]) j = if j = k then some x else lkD l j := by
      intro l
      induction l with
      | nil =>
        intro _
        rw [List.nil_append, cons]
        by_cases e : k = j
        · rw [if_pos e, if_pos e.symm]
        · rw [if_neg e, if_neg (fun z => e z.symm)]
      | cons p l ih =>
        intro hn
        rw [cons] at hn
        rw [List.cons_append, cons, cons]
        by_cases h : p.1 = k
        · rw [if_pos h] at hn; cases hn
        · rw [if_neg h] at hn
          by_cases e : p.1 = j
          · rw [if_pos e, if_pos e, if_neg (fun z => h (e.trans z))]
          · rw [if_neg e, if_neg e, ih hn]
    refine ap kvs ?_
    cases q : lkD kvs k with
    | none => rfl
    | some y => rw [q] at a; exact (a rfl).elim
theorem put_keys {kvs : List (Key × PyData)} {k : Key} {x : PyData} (nd : (kvs.map Prod.fst).Nodup) : ((ptD kvs k x).map Prod.fst).Nodup := by
  unfold ptD
  split
  · have e : (kvs.map fun p => if p.1 = k then (p.1, x) else p).map Prod.fst = kvs.map Prod.fst := by
      rw [List.map_map]
      refine List.map_congr_left fun p _ => ?_
      show (if p.1 = k then (p.1, x) else p).1 = p.1
      split <;> rfl
    rw [e]
    exact nd
  · next a =>
    rw [List.map_append]
    refine List.nodup_append.mpr ⟨nd, List.nodup_cons.mpr ⟨List.not_mem_nil, .nil⟩, fun y hy z hz => ?_⟩
    obtain ⟨p, hp, rfl⟩ := List.mem_map.mp hy
    have hz : z = k := by simpa using hz
    intro e
    exact a (List.any_eq_true.mpr ⟨p, hp, decide_eq_true (by rw [e, hz])⟩)
theorem put_mem {kvs : List (Key × PyData)} {k : Key} {x : PyData} {p : Key × PyData} (h : p ∈ ptD kvs k x) : p ∈ kvs ∨ p = (k, x) := by
  unfold ptD at h
  split at h
  · obtain ⟨q, hq, rfl⟩ := List.mem_map.mp h
    split
    · next e => exact .inr (by rw [e])
    · exact .inl hq
  · rcases List.mem_append.mp h with m | m
    · exact .inl m
    · exact .inr (List.mem_singleton.mp m)
theorem cnt_nil (ms : List Int) : Cnt ms (fun _ => 0) [] := ⟨(fun _ h => nomatch h), .nil, fun _ => rfl⟩
theorem Cnt.put {ms : List Int} {w w' : Int → Int} {kvs : List (Key × PyData)} {k : Int} (h : Cnt ms w kvs) (hk : k ∈ ms) (e : ∀ m, m ≠ k → w' m = w m) (p : w' k ≠ 0) : Cnt ms w' (ptD kvs (.inl k) (frP (w' k))) := by
  refine ⟨fun q hq => ?_, put_keys h.nd, fun m => ?_⟩
  · rcases put_mem hq with z | z
    · exact h.keys q z
    · exact ⟨k, _, z, hk⟩
  · rw [lk_put]
    by_cases c : m = k
    · rw [if_pos (by rw [c]), c, if_neg p]
    · rw [if_neg (fun z => c (by injection z)), h.at', e m c]
theorem Cnt.allN {ms : List Int} {w : Int → Int} {kvs : List (Key × PyData)} (h : Cnt ms w kvs) : allN kvs = true := by
  refine List.all_eq_true.mpr fun p hp => ?_
  obtain ⟨m, n, rfl, _⟩ := h.keys p hp
  rfl
theorem nodup_len {α : Type} [DecidableEq α] : ∀ {l m : List α}, l.Nodup → (∀ x ∈ l, x ∈ m) → l.length ≤ m.length
  | [], _, _, _ => Nat.zero_le _
  | a :: l, m, nd, h => by
    obtain ⟨n1, n2⟩ := List.nodup_cons.mp nd
    have ha := h a (List.mem_cons_self ..)
    have := nodup_len (m := m.erase a) n2 fun x hx => (List.mem_erase_of_ne (fun z => n1 (by rw [← z]; exact hx))).mpr (h x (List.mem_cons_of_mem _ hx))
    rw [List.length_erase_of_mem ha] at this
    have := List.length_pos_of_mem ha
    rw [List.length_cons]
    omega
theorem Cnt.len {ms : List Int} {w : Int → Int} {kvs : List (Key × PyData)} (h : Cnt ms w kvs) : kvs.length ≤ ms.length := by
  have nd := h.nd
  have sub : ∀ k ∈ kvs.map Prod.fst, k ∈ ms.map fun m => (Sum.inl m : Key) := fun k hk => by
    obtain ⟨p, hp, rfl⟩ := List.mem_map.mp hk
    obtain ⟨m, n, rfl, hm⟩ := h.keys p hp
    exact List.mem_map.mpr ⟨m, hm, rfl⟩
  have := nodup_len nd sub
  simpa using this
theorem dt_pairs (a b c d e f : Int) : alike (.tuple [.int a, .tuple [.int b, .int c]]) (.tuple [.int d, .tuple [.int e, .int f]]) = true := by simp [alike, alikeAll]
theorem lt_pairs {a b c d e f : Int} (h : a ≠ d) : dataLt (.tuple [.int a, .tuple [.int b, .int c]]) (.tuple [.int d, .tuple [.int e, .int f]]) = decide (a < d) := by
  rw [dataLt_pair (by simp [alike]) (by simp [alike, alikeAll])]
  have : (PyData.int a).eqv (.int d) = false := by simp [PyData.eqv, h]
  rw [this, dataLt_int]
  simp
/-- what sorted tells of the dict -/
theorem Cnt.told {ms : List Int} {w : Int → Int} {kvs : List (Key × PyData)} (h : Cnt ms w kvs) (r : Rise ms) (nn : ∀ m, 0 ≤ w m) (out : ∀ m, m ∉ ms → w m = 0) {ys : List PyData} (p : ys.Perm (kvs.map prD)) (so : ys.Pairwise fun a b => dataLt b a = false) : ys = mixW ms w := by
  obtain ⟨zs, pz, ez⟩ := perm_lift prD p kvs rfl
  have kz : ∀ z ∈ zs, ∃ m, z = (.inl m, frP (w m)) ∧ m ∈ ms ∧ 0 < w m := fun z hz => by
    have hz2 := pz.mem_iff.mp hz
    obtain ⟨m, n, rfl, hm⟩ := h.keys z hz2
    have hl : lkD kvs (.inl m) = some (frP n) := by
      have nd := h.nd
      clear h p so pz ez hz r nn out
      induction kvs with
      | nil => cases hz2
      | cons q l ih =>
        rw [List.map_cons] at nd
        obtain ⟨n1, n2⟩ := List.nodup_cons.mp nd
        unfold lkD
        rw [List.find?_cons]
        rcases List.mem_cons.mp hz2 with rfl | hz
        · rw [decide_eq_true rfl]; rfl
        · rw [decide_eq_false fun e => n1 (List.mem_map.mpr ⟨_, hz, e.symm⟩)]
          exact ih hz n2
    rw [h.at' m] at hl
    split at hl
    · cases hl
    · next ne =>
      have e := Option.some.inj hl
      have := nn m
      exact ⟨m, by rw [← e], hm, by omega⟩
  have ndz : (zs.map Prod.fst).Nodup := (pz.map Prod.fst).nodup_iff.mpr h.nd
  obtain ⟨ns, en⟩ : ∃ ns : List Int, zs = ns.map fun m => (Sum.inl m, frP (w m)) := by
    clear pz ez ndz so p
    induction zs with
    | nil => exact ⟨[], rfl⟩
    | cons z zs ih =>
      obtain ⟨m, e, _⟩ := kz z (List.mem_cons_self ..)
      obtain ⟨ns, e2⟩ := ih fun y hy => kz y (List.mem_cons_of_mem _ hy)
      exact ⟨m :: ns, by rw [e, e2]; rfl⟩
  subst en
  have ey : ys = ns.map fun m => PyData.tuple [.int m, frP (w m)] := by
    rw [← ez, List.map_map]
    rfl
  have rn : Rise ns := by
    rw [ey, List.pairwise_map] at so
    have nd2 : ns.Nodup := by
      rw [List.map_map] at ndz
      have : (ns.map fun m => (Sum.inl m : Key)).Nodup := ndz
      rw [List.Nodup, List.pairwise_map] at this
      exact this.imp fun h z => h (by rw [z])
    refine (so.and nd2).imp fun {a b} ⟨q, ne⟩ => ?_
    have q : dataLt (.tuple [.int b, .tuple [.int (frT (w b)), .int (frB (w b))]]) (.tuple [.int a, .tuple [.int (frT (w a)), .int (frB (w a))]]) = false := q
    rw [lt_pairs (Ne.symm ne)] at q
    have := of_decide_eq_false q
    omega
  have en : ns = ms.filter fun m => decide (0 < w m) := by
    refine rise_uniq rn (List.Pairwise.sublist List.filter_sublist r) fun x => ?_
    rw [List.mem_filter, decide_eq_true_eq]
    constructor
    · intro hx
      obtain ⟨m, e, hm, p⟩ := kz _ (List.mem_map.mpr ⟨x, hx, rfl⟩)
      have e := (Prod.mk.inj e).1
      injection e with e
      rw [e]
      exact ⟨hm, p⟩
    · rintro ⟨hx, p⟩
      have hl := h.at' x
      rw [if_neg (by omega)] at hl
      unfold lkD at hl
      cases q : kvs.find? fun p => decide (p.1 = .inl x) with
      | none => rw [q] at hl; cases hl
      | some z =>
        have hz := pz.mem_iff.mpr (List.mem_of_find?_eq_some q)
        have ez2 : z.1 = .inl x := of_decide_eq_true (p := z.1 = .inl x) (List.find?_some (p := fun p : Key × PyData => decide (p.1 = .inl x)) q)
        obtain ⟨m, hm, e⟩ := List.mem_map.mp hz
        rw [← e] at ez2
        injection ez2 with ez2
        rw [← ez2]
        exact hm
  rw [ey, en]
  rfl
theorem Cnt.flat {ms : List Int} {w : Int → Int} {kvs : List (Key × PyData)} (h : Cnt ms w kvs) : flatA (kvs.map prD) = true ∧ AllAlike (kvs.map prD) ∧ ∀ x ∈ kvs.map prD, x.depth ≤ 50 := by
  have k : ∀ x ∈ kvs.map prD, ∃ m a b, x = .tuple [.int m, .tuple [.int a, .int b]] := fun x hx => by
    obtain ⟨p, hp, rfl⟩ := List.mem_map.mp hx
    obtain ⟨m, n, rfl, _⟩ := h.keys p hp
    exact ⟨m, _, _, rfl⟩
  generalize kvs.map prD = xs at k
  refine ⟨?_, fun x hx y hy => ?_, fun x hx => ?_⟩
  · induction xs with
    | nil => rfl
    | cons x xs ih =>
      obtain ⟨m, a, b, rfl⟩ := k x (List.mem_cons_self ..)
      rw [flatA, ih fun y hy => k y (List.mem_cons_of_mem _ hy)]
      simp [flatD, flatA]
  · obtain ⟨m, a, b, rfl⟩ := k x hx
    obtain ⟨n, c, d, rfl⟩ := k y hy
    exact dt_pairs ..
  · obtain ⟨m, a, b, rfl⟩ := k x hx
    simp [PyData.depth, PyData.depthAll]
end Dl
/-! ### sorted(set(xs)) of a list of whole numbers -/
namespace Dl
open PySem PySem.Calls PySem.Spec PyProof.Rows L2
section
variable {P : Program} {w : World} {A : Around} {E : Value → Shared → Prop} {s : Shared}
/-- a set as it is made -/
abbrev sNew (w : World) : Obj := { cls := .type "set", dict := none, data := .set #[] 0 (.fresh 0 0 (!w.params.followText "set-order")) }
abbrev itNew (l : Addr) : Obj := { cls := .type "list_iterator", data := .fields #[.ref l, .int 0 0] }
/-- what set.__init__ does with a list of whole numbers -/
abbrev Filled (w : World) (s : Shared) (ns : List Int) (z : Shared) : Prop :=
  ∃ h' tk c, z = { s with heap := h', toks := tk } ∧ SetR w h' s.heap.objs.size (fun j => decide (j ∈ ns)) c ∧ c ≤ ns.length ∧ ∀ b o, s.heap.get? b = some o → h'.get? b = some o
theorem fill_loop {l : Addr} {items : Array Value} {ns : List Int} {A' : Around} (hh : A'.in1.handled = none) (hl : s.heap.IsList l items) (hit : IntsAre items.toList ns) (hb : ns.length + 1 < scanBound) {R : Result → Shared → Prop}
    (k : ∀ z, Filled w s ns z → R (.ok (.ret .none)) z) :
    codeAny (model P w) A' (.builtin "set.update.loop" ⟨[.ref s.heap.objs.size, .ref (s.heap.push (sNew w)).objs.size], []⟩) R { s with heap := (s.heap.push (sNew w)).push (itNew l) } := by
  have n1 : items.size = ns.length := by
    have := IntsAre.length hit
    rwa [Array.length_toList] at this
  have l1 : l < s.heap.objs.size := let ⟨_, e, _⟩ := hl; Heap.lt_size e
  have z1 := Heap.size_push s.heap (sNew w)
  have ne1 : l ≠ (s.heap.push (sNew w)).objs.size := by rw [z1]; exact Nat.ne_of_lt (Nat.lt_succ_of_lt l1)
  have hl1 := hl.push (sNew w)
  have out : s.heap.objs.size ∉ [(s.heap.push (sNew w)).objs.size, l] := fun m => by
    rw [z1] at m
    rcases List.mem_cons.mp m with e | m
    · exact absurd e (Nat.ne_of_lt (Nat.lt_succ_self _))
    · exact absurd (List.mem_singleton.mp m) (Nat.ne_of_gt l1)
  have vals : ∀ (i : Nat) (v : Value), items[i]? = some v → ∃ k t, ns[i]? = some k ∧ v = .int k t := fun i v e => by
    have i1 := (Array.getElem?_eq_some_iff.mp e).1
    rw [n1] at i1
    obtain ⟨t, q⟩ := IntsAre.int_at hit i v (by rw [Array.getElem?_toList]; exact e)
    rw [List.getD_eq_getElem?_getD, List.getElem?_eq_getElem i1, Option.getD_some] at q
    exact ⟨_, t, List.getElem?_eq_getElem i1, q⟩
  have at1 : ((s.heap.push (sNew w)).push (itNew l)).get? s.heap.objs.size = some (sNew w) := Heap.get?_push_of_some _ (Heap.get?_push_size _ rfl)
  refine set_update_ints ((Walks.list hh _ l ne1 items).toS) s.heap.objs.size out ns n1 hb vals _ 0 _ rfl (Nat.zero_le _) ⟨⟨_, Heap.get?_push_size _ rfl, rfl, rfl⟩, hl1.push _⟩ ⟨0, Nat.le_refl 0, setR_new_at at1⟩ fun z c m hc hS => k z ?_
  obtain ⟨zh, zg, zd, zt, zo⟩ := z
  cases (show zg = s.gens from m.gens)
  cases (show zd = s.drawn from m.drawn)
  cases (show zo = s.os from m.os)
  refine ⟨zh, zt, c, rfl, hS, by omega, fun b o e => m.heap b o (fun q => ?_) (Heap.get?_push_of_some _ (Heap.get?_push_of_some _ e))⟩
  have b1 := Heap.lt_size e
  rcases List.mem_cons.mp q with q | q
  · exact absurd q (Nat.ne_of_lt b1)
  · have := List.mem_singleton.mp q
    rw [this, z1] at b1
    exact absurd b1 (Nat.not_lt_of_le (Nat.le_succ _))
set_option maxHeartbeats 3200000 in
/-- set.__init__ of a new set, a list of whole numbers handed in -/
theorem fill_init {l : Addr} {items : Array Value} {ns : List Int} {A' : Around} {R : Result → Shared → Prop} (hh : A'.handled = none) (hl : s.heap.IsList l items) (hit : IntsAre items.toList ns) (hb : ns.length + 1 < scanBound)
    (k : ∀ z, Filled w s ns z → R (.ok (.ret .none)) z) :
    wpAny (model P w) A'.in1 (Builtin.«set.__init__» ⟨[.ref s.heap.objs.size, .ref l], []⟩) (fun fin z => match fin with | .done f => R (.ok f) z | .again c => c.quiet = true ∧ codeAny (model P w) A' c R z) (fun e z => R (.error e) z) { s with heap := s.heap.push (sNew w) } := by
  have q0 : (s.heap.push (sNew w)).get? s.heap.objs.size = some (sNew w) := Heap.get?_push_size _ rfl
  have hT : Shared.TypeIs { s with heap := s.heap.push (sNew w) } (.ref s.heap.objs.size) "set" := ⟨_, q0, rfl⟩
  have hl1 := hl.push (sNew w)
  obtain ⟨⟨lc, ld, ldat, lsl⟩, q1, q2, lcap, q3⟩ := id hl1
  cases (show lc = .type "list" from q2)
  cases (show ldat = .seq items lcap from q3)
  have n1 := F.sub_list_set
  have n2 := F.sub_list_frozenset
  have n3 : (Value.type "list" == Value.type "dict") = false := by decide
  unfold Builtin.«set.__init__» noKeywords Builtin.Frozenset.updateFrom
  generalize hPI : pyIter = PI
  wp_walk
  subst hPI
  refine wpAny_pyIter_list hl1 (wpAny_bind (wpAny_runValue ?_))
  refine fill_loop (A' := A'.in1) (by simp [hh]) hl hit hb fun z hz => ?_
  exact wpAny_pure (wpAny_pure (k z hz))
set_option maxHeartbeats 3200000 in
/-- set(xs) of a list of whole numbers -/
theorem setL_call {l : Addr} {items : Array Value} {ns : List Int} {Q : Value → Shared → Prop} (hh : A.handled = none) (hl : s.heap.IsList l items) (hit : IntsAre items.toList ns) (hb : ns.length + 1 < scanBound)
    (k : ∀ z, Filled w s ns z → Q (.ref s.heap.objs.size) z) : wpAny (model P w) A (call (.type "set") [.ref l]) Q E s := by
  obtain ⟨mc, mt, m0⟩ := F.called_set.mro
  have m1 := F.called_set.made
  have m2 := F.called_set.sub
  have m3 := F.called_set.notType
  have m4 := F.called_set.canCreate
  have m5 := F.typeCall_set_1 (.ref l)
  refine wpAny_call <| codeAny_of_tree <| show wpAny _ _ (callAny (.type "set") _) _ _ _ from ?_
  refine wpAny_pure ⟨Code.quiet_builtin _ (by decide +kernel), codeAny_builtin F.entry_type_call ?_⟩ <;>
    rw [Around.under_plain (weight_type_call_type "set" [.ref l] []) rfl]
  repeat (any_goals (first | assumption | wp_step))
  refine codeAny_mono (code_set_led1 (.ref l) (E := E) (Q₁ := fun o z => o = .ref s.heap.objs.size ∧ z = { s with heap := s.heap.push (sNew w) }) ⟨rfl, rfl⟩) fun r z hr => ?_
  match r, hr with
  | .error e, hr => exact hr
  | .ok .next, hr => exact hr.elim
  | .ok .brk, hr => exact hr.elim
  | .ok .cont, hr => exact hr.elim
  | .ok (.ret o), hr =>
    obtain ⟨rfl, rfl⟩ := hr
    have q0 : (s.heap.push (sNew w)).get? s.heap.objs.size = some (sNew w) := Heap.get?_push_size _ rfl
    have hT : Shared.TypeIs { s with heap := s.heap.push (sNew w) } (.ref s.heap.objs.size) "set" := ⟨_, q0, rfl⟩
    have m6 := F.called_set.init.lookup
    have m7 := F.called_set.init.bind (.ref s.heap.objs.size)
    repeat (any_goals (first | assumption | wp_step))
    refine codeAny_mono (R := wants (fun r z => r = .none ∧ Filled w s ns z) E) (codeAny_call_builtin F.called_set.init.plain F.entry_set_init (check_set_init_1 hT ?_)) fun r z hz => ?_
    · refine fill_init (R := wants (fun r z => r = .none ∧ Filled w s ns z) E) ?_ hl hit hb fun z hz => ⟨rfl, hz⟩
      simp [hh]
    match r, hz with
    | .error e, hz => exact hz
    | .ok .next, hz => exact hz.elim
    | .ok .brk, hz => exact hz.elim
    | .ok .cont, hz => exact hz.elim
    | .ok (.ret o), hz =>
      obtain ⟨rfl, hz⟩ := hz
      have fin := k z hz
      repeat (any_goals (first | assumption | wp_step))
end
section
variable {X : Cx} {w : Wn} {pos p p2 cp : Pos} {e : Expr} {te : DT}
/-- set(xs) -/
def rSetLI (K : PySem.W.Frag) (w : World) : List V → Hp → VK → Prop := fun xs H Q => ∃ (l : Addr) (ns : List Int), xs = [V.ref l] ∧ SqL K H l (ns.map V.int) ∧ ns.length ≤ 1000 ∧ ∀ p c, H p = none → c ≤ ns.length → Q (.ref p) (upd H p (SetO w p (fun j => decide (j ∈ ns)) c))
theorem cr_setLI (hc : X.calm = true) : CallR X (.type "set") (rSetLI X.K X.w) := by
  intro pins s σ H xs us Q I r q
  obtain ⟨l, ns, rfl, hs, hn, q⟩ := q
  obtain ⟨its, rv, pl, hz⟩ := I.list hs
  obtain rfl := Vals.ref1 r
  refine setL_call (I.ok.hd hc) pl.isList (by simpa using rv.ints) (show ns.length + 1 < scanBound by unfold scanBound; omega) fun z hz => ?_
  obtain ⟨h', tk, c, rfl, hS, hcn, hk⟩ := hz
  exact ⟨.ref s.heap.objs.size, _, I.laid (t' := tk) hk (Nat.le_refl _) (setO_new hS), rfl, q _ c (I.hok.fresh (Nat.le_refl _)) hcn⟩
/-- sorted(set(e)), e a list of whole numbers -/
def tSortSet (te : DT) : DT := fun env P => te env fun u => rd u fun x => match x with
  | .list xs => ∃ ns : List Int, xs = IL ns ∧ ns.length < 64 ∧ ∀ ms : List Int, Rise ms → (∀ k, k ∈ ms ↔ k ∈ ns) → P (.fr (IL ms))
  | _ => False
theorem d_sortSet (hc : X.calm = true) (g1 : Gl X "sorted") (m1 : X.mg "sorted" = none) (g2 : Gl X "set") (m2 : X.mg "set" = none) (he : DPE X w e te)
    (h1 : starEach [e] X.env = (false, eval e X.env) :: starEach [] X.env := by rfl) (h2 : (backTo cp (starEach [] X.env)).any (·.1) = false := by rfl)
    (h3 : starEach [.Call (.Name "set" p2) [e] [] cp] X.env = (false, eval (.Call (.Name "set" p2) [e] [] cp) X.env) :: starEach [] X.env := by rfl) (h4 : (backTo pos (starEach [] X.env)).any (·.1) = false := by rfl) :
    DPE X w (.Call (.Name "sorted" p) [.Call (.Name "set" p2) [e] [] cp] [] pos) (tSortSet te) :=
  pe_weak (pe_callB (cr_sortedSet hc) g1 m1 (by decide +kernel) (pa_cons (pe_callTy (cr_setLI hc) g2 m2 (by decide +kernel) (pa_cons he pa_nil h1) (by decide) (by decide) h1 h2) pa_nil h3) (by decide) (by decide) h3 h4) fun σ H Q ⟨env, F, P, r, h, q⟩ => by
    refine ⟨env, F, _, r, h, fun dv v F1 H1 s1 r1 h1 => ?_⟩
    obtain ⟨x, hx, h1⟩ := rd_ok r1 h1
    split at h1
    · obtain ⟨ns, rfl, hl, h1⟩ := h1
      obtain ⟨l, vs, rfl, hl1, ra⟩ := hx.lst s1.sub
      obtain rfl := ra.ofInts
      refine ⟨l, ns, rfl, SqL.of hl1, by omega, fun p c hp hcn => ?_⟩
      have s2 := s1.wd.laidM (o := SetO X.w p (fun j => decide (j ∈ ns)) c) hp
      have s12 := s1.trans s2
      refine ⟨p, _, c, rfl, upd_same, by omega, fun ms p2 hm hk hn hp2 => ?_⟩
      refine res_new s2.wd (RpA.ints ms) (fun dv3 v3 F3 H3 s3 r3 h3 => q dv3 v3 F3 H3 (s12.trans s3) (r3.early s12) h3) (h1 ms hm fun k => (hk k).trans decide_eq_true_iff) p2 hp2
    · exact h1.elim
end
end Dl
/-! ### constant dicts of the module: list(D), values that are tuples -/
namespace Dl
open PySem PySem.Spec PyProof.Rows L2 PySem.W
/-- .. by its keys, in their order -/
structure KLst (K : PySem.W.Frag) (w : World) (d : Addr) (ks : List Str) : Prop where
  ex : ∃ (es : Array DictEntry) (n : Nat), KDict K w d es n ∧ es.toList.map He.keyOf = He.keysIn w.params ks
  nd : ks.Nodup
  sm : ks.length ≤ 1000
theorem klst_of {K : PySem.W.Frag} {w : World} {d : Addr} {ks : List Str} (h : He.dicW K d = some (He.keysIn w.params ks)) (nd : ks.Nodup) (sm : ks.length ≤ 1000) : KLst K w d ks := by
  obtain ⟨es, n, kd⟩ := He.dicW_ok h
  refine ⟨⟨es, n, kd, ?_⟩, nd, sm⟩
  unfold He.dicW at h
  rw [kd.at_] at h
  dsimp only at h
  split at h
  · exact Option.some.inj h
  · cases h
/-- entries whose keys are texts -/
theorem ents_of {P : Program} {w : World} : ∀ {es : List DictEntry} {ks : List Str}, es.map He.keyOf = He.keysIn w.params ks → ∃ vs : List (Key × Value), Pairs (mixKind P w) es vs ∧ vs.map (·.1) = ks.map Sum.inr ∧ ∀ e ∈ es, ∃ k, (mixKind P w).is k e.key = true ∧ e.hash = (mixKind P w).hash k
  | [], [], _ => ⟨[], .nil, rfl, fun _ h => nomatch h⟩
  | [], _ :: _, h => by cases h
  | _ :: _, [], h => by cases h
  | e :: es, k :: ks, h => by
    have h1 : He.keyOf e :: es.map He.keyOf = some (k, PyData.keyHash w.params k) :: He.keysIn w.params ks := h
    obtain ⟨h2, h3⟩ := List.cons.inj h1
    obtain ⟨vs, p, q, r⟩ := ents_of (P := P) h3
    unfold He.keyOf at h2
    split at h2
    · next x t ek =>
      obtain ⟨h4, h5⟩ := Prod.mk.inj (Option.some.inj h2)
      subst h4
      have is : (mixKind P w).is (.inr x) e.key = true := by rw [ek]; exact mixKind_str P w x t
      refine ⟨(.inr x, e.val) :: vs, .cons is rfl p, by rw [List.map_cons, List.map_cons, q], fun e' m => ?_⟩
      rcases List.mem_cons.mp m with rfl | m
      · exact ⟨.inr x, is, h5⟩
      · exact r e' m
    · cases h2
section
variable {X : Cx} {w : Wn} {pos p p2 : Pos} {x2 : Str}
def rListK (K : PySem.W.Frag) (d : Addr) (ks : List Str) : List V → Hp → VK → Prop := fun xs H Q => xs = [.ref d] ∧ ∀ p, H p = none → Q (.ref p) (upd H p (.lst (ks.map V.str)))
theorem cr_listK {d : Addr} {ks : List Str} (hc : X.calm = true) (D : KLst X.K X.w d ks) : CallR X (.type "list") (rListK X.K d ks) := by
  intro pins s σ H xs us Q I r q
  obtain ⟨rfl, q⟩ := q
  obtain rfl := Vals.ref1 r
  obtain ⟨⟨es, n, kd, ek⟩, nd, sm⟩ := D
  obtain ⟨vs, ps, kv, ko⟩ := ents_of (P := X.prog) ek
  have le : es.size = vs.length := by rw [← Array.length_toList]; exact (pairs_at ps).1
  have lk : vs.length = ks.length := by
    have := congrArg List.length kv
    simpa using this
  have hat : s.heap.DictAt (mixKind X.prog X.w) d vs n := ⟨_, es, I.kIn _ _ kd.at_, ⟨rfl, rfl, rfl⟩, rfl, fun e m => ko e (Array.mem_toList_iff.mpr m), ps, by
    rw [kv, List.Nodup, List.pairwise_map]
    exact nd.imp fun h z => h (by injection z)⟩
  have low := kd.low
  have h16 : vs.length ≤ sizeLine := by rw [lk]; exact lim_le (by omega)
  refine PySem.W.kdl_call (PySem.W.kdl_dict (knd := mixKind X.prog X.w) (kvs := vs) (ep := n) low) (I.ok.hd hc) hat h16 fun h' tk acc c' hk hD hacc => ?_
  have hv : Vals (vs.map fun p => kV p.1) acc.toList := keys_at (by rw [Array.length_toList]; exact hacc.1) fun j v e => hacc.2 j v (by rw [← Array.getElem?_toList]; exact e)
  have ekv : (vs.map fun p => kV p.1) = ks.map V.str := by
    have := congrArg (List.map kV) kv
    rw [List.map_map, List.map_map] at this
    exact this
  rw [ekv] at hv
  refine ⟨.ref s.heap.objs.size, _, I.laid (t' := tk) hk (Nat.le_refl _) (show ObjOk X.prog X.w _ _ _ (.lst (ks.map V.str)) from ⟨by rw [List.length_map, ← lk]; exact h16, acc.toList, c', hv, by rw [Array.toArray_toList]; exact hD⟩), rfl, q _ (I.hok.fresh (Nat.le_refl _))⟩
theorem RpA.strs {K : PySem.W.Frag} {F : Hp} : ∀ zs : List Str, RpA K F (zs.map V.str) (zs.map PyData.str)
  | [] => .nil
  | z :: zs => .cons (.str z) (RpA.strs zs)
/-- list(D) -/
def tListK (ks : List Str) : DT := fun _ P => P (.fr (ks.map PyData.str))
theorem d_listK {d : Addr} {ks : List Str} (hc : X.calm = true) (D : KLst X.K X.w d ks) (g1 : Gl X "list") (m1 : X.mg "list" = none) (hg : Gl X x2) (hm : X.mg x2 = some (.ref d)) (hdb : (x2 == ("__debug__" : Str)) = false := by decide)
    (h1 : starEach [.Name x2 p2] X.env = (false, eval (.Name x2 p2) X.env) :: starEach [] X.env := by rfl) (h2 : (backTo pos (starEach [] X.env)).any (·.1) = false := by rfl) : DPE X w (.Call (.Name "list" p) [.Name x2 p2] [] pos) (tListK ks) := by
  have hx : PE X (.Name x2 p2) (tC (.ref d)) := pe_glob (v := .ref d) hg hm rfl hdb
  refine pe_weak (pe_callTy (cr_listK hc D) g1 m1 (by decide +kernel) (pa_cons hx pa_nil h1) (by decide) (by decide) h1 h2) fun σ H Q ⟨env, F, P, r, h, q⟩ => ?_
  exact ⟨rfl, fun p hp => res_new r.wd (RpA.strs ks) q h p hp⟩
end
/-- a tuple of the module, told by its place -/
def tupAt (K : PySem.W.Frag) (a : Addr) (vs : List He.Dv) : Bool := match K.lookup a with
  | some ⟨.type c, _, .seq its _, _⟩ => decide (c = "tuple") && (decide (its.size ≤ sizeLine) && He.relAll (vs.map (He.Dv.v K)) its.toList)
  | _ => false
/-- where the value of a key stands -/
def vaA (K : PySem.W.Frag) (d : Addr) (z : Str) : Addr := match PySem.W.nsIn K d z with
  | some (some (.ref a)) => a
  | _ => 0
theorem tupAt_ok {K : PySem.W.Frag} {a : Addr} {vs : List He.Dv} {xs : List PyData} (h : tupAt K a vs = true) (r : ∀ F, RpA K F (vs.map (He.Dv.v K)) xs) : ∀ F, Rp K F (.ref a) (.tuple xs) := fun F => by
  refine .tup ?_ (r F)
  unfold tupAt at h
  split at h
  · next c od its n sl q =>
    rw [Bool.and_eq_true, Bool.and_eq_true] at h
    obtain ⟨h1, h2, h3⟩ := h
    exact .inr ⟨_, its, n, q, congrArg Value.type (of_decide_eq_true h1), rfl, of_decide_eq_true h2, He.relAll_ok h3⟩
  · cases h
end Dl
/-! ### data that is good for ==, repr and copying; names, small fractions, papers -/
namespace Dl
open PySem PySem.Spec PyProof.Rows L2 PySem.W
mutual
/-- data whose lists are not too long -/
def okC : PyData → Bool
  | .list xs => decide (xs.length ≤ 5000) && okCs xs
  | .tuple xs => decide (xs.length ≤ 5000) && okCs xs
  | _ => true
def okCs : List PyData → Bool
  | [] => true
  | x :: xs => okC x && okCs xs
end
/-- good data: not deeper than n, its text not longer than k -/
structure Gd (n k : Nat) (x : PyData) : Prop where
  ly : Ly n x
  sn : Sn n k x
  cp : okC x = true
structure GdL (n k : Nat) (xs : List PyData) : Prop where
  ly : PyData.canLayAll0 xs = true
  real : realA xs = true
  show_ : PyData.showableAll xs = true
  deep : PyData.depthAll xs ≤ n
  len : ((PyData.shownAll xs).map (·.length)).sum + 2 * xs.length ≤ k
  num : (PyData.shownAll xs).length = xs.length
  cp : okCs xs = true
theorem Gd.up {n k m l : Nat} {x : PyData} (h : Gd n k x) (hn : n ≤ m := by decide) (hk : k ≤ l := by decide) : Gd m l x := ⟨h.ly.up hn, h.sn.up hn hk, h.cp⟩
theorem gdl_nil {n : Nat} : GdL n 0 [] := ⟨by simp [PyData.canLayAll0], by simp [realA], by simp [PyData.showableAll], by simp [PyData.depthAll], by simp [PyData.shownAll], by simp [PyData.shownAll], by simp [okCs]⟩
theorem gdl_cons {n k l : Nat} {x : PyData} {xs : List PyData} (h : Gd n k x) (t : GdL n l xs) : GdL n (k + 2 + l) (x :: xs) := by
  have d1 := h.ly.deep
  have d2 := t.deep
  have l1 := h.sn.len
  have l2 := t.len
  refine ⟨by rw [PyData.canLayAll0, h.ly.lay, t.ly]; rfl, by rw [realA, h.sn.real, t.real]; rfl, by rw [PyData.showableAll, h.sn.show_, t.show_]; rfl, by simp only [PyData.depthAll]; omega, ?_, ?_, by rw [okCs, h.cp, t.cp]; rfl⟩
  · simp only [PyData.shownAll, List.map_cons, List.sum_cons, List.length_cons]
    omega
  · simp only [PyData.shownAll, List.length_cons, t.num]
theorem gd_tupL {n k : Nat} {xs : List PyData} (h : GdL n k xs) (hl : xs.length ≤ 5000) : Gd (n + 1) (k + 3) (.tuple xs) := by
  have d := h.deep
  have q := tupleText_len_le (PyData.shownAll xs)
  have l := h.len
  have nm := h.num
  refine ⟨⟨by rw [PyData.canLay0, h.ly], by simp only [PyData.depth]; omega⟩, ⟨by rw [realD, h.real], by rw [PyData.showable, h.show_], by simp only [PyData.depth]; omega, ?_⟩, by rw [okC, h.cp, decide_eq_true hl]; rfl⟩
  show (tupleText (PyData.shownAll xs)).length ≤ _
  omega
theorem gd_lstL {n k : Nat} {xs : List PyData} (h : GdL n k xs) (hl : xs.length ≤ 5000) : Gd (n + 1) (k + 3) (.list xs) := by
  have d := h.deep
  have q := listText_len_le (PyData.shownAll xs)
  have l := h.len
  have nm := h.num
  refine ⟨⟨by rw [PyData.canLay0, h.ly], by simp only [PyData.depth]; omega⟩, ⟨by rw [realD, h.real], by rw [PyData.showable, h.show_], by simp only [PyData.depth]; omega, ?_⟩, by rw [okC, h.cp, decide_eq_true hl]; rfl⟩
  show (listText (PyData.shownAll xs)).length ≤ _
  omega
theorem gdl_all {n k : Nat} : ∀ {xs : List PyData}, (∀ x ∈ xs, Gd n k x) → GdL n (xs.length * (k + 2)) xs
  | [], _ => by rw [List.length_nil, Nat.zero_mul]; exact gdl_nil
  | x :: xs, h => by
    have a := gdl_cons (h x (List.mem_cons_self ..)) (gdl_all fun y hy => h y (List.mem_cons_of_mem _ hy))
    rw [List.length_cons, Nat.succ_mul, Nat.add_comm (xs.length * (k + 2))]
    exact a
theorem GdL.up {n k m l : Nat} {xs : List PyData} (h : GdL n k xs) (hn : n ≤ m := by decide) (hk : k ≤ l := by decide) : GdL m l xs := ⟨h.ly, h.real, h.show_, Nat.le_trans h.deep hn, Nat.le_trans h.len hk, h.num, h.cp⟩
theorem gd_int {i : Int} {j : Nat} (h : i.natAbs < 2 ^ j) (hj : 0 < j := by decide) (hk : j < 1920 := by decide) : Gd 0 (j + 1) (.int i) := ⟨ly_int i, sn_int h hj hk, by simp [okC]⟩
theorem gd_bool (b : Bool) : Gd 0 5 (.bool b) := ⟨ly_bool b, sn_bool b, by simp [okC]⟩
theorem gd_str {z : Str} {l : Nat} (h : ∀ c ∈ z.cps.toList, c < 0x110000) (hl : z.length ≤ l) : Gd 0 (10 * l + 2) (.str z) := by
  have h' : (z.cps.all fun c => decide (c < 0x110000)) = true := by
    rw [← Array.all_toList, List.all_eq_true]
    exact fun c hc => decide_eq_true (h c hc)
  refine ⟨⟨by first | exact h' | (simp only [PyData.canLay0]; done) | (simp only [PyData.canLay0]; exact h') | (unfold PyData.canLay0; exact h'), by simp [PyData.depth]⟩, sn_str (Nat.le_trans (StrLaws.reprText_len z fun c hc => Nat.lt_of_lt_of_le (h c hc) (by decide)) (by omega)), by simp [okC]⟩
theorem Gd.sh {n k : Nat} {x : PyData} (h : Gd n k x) (hn : n ≤ 60 := by decide) (hk : k ≤ 100000 := by decide) : Sh x := h.sn.sh (Nat.le_trans hn (by decide)) hk
theorem Gd.eq {n k : Nat} {x : PyData} (h : Gd n k x) (hn : n ≤ 60 := by decide) : selfEq x := h.ly.selfEq (Nat.le_trans hn (by decide))
/-- a name -/
def Nam (z : Str) : Prop := 1 ≤ z.length ∧ z.length ≤ 8 ∧ ∀ c ∈ z.cps.toList, 97 ≤ c ∧ c ≤ 122
theorem Nam.gd {z : Str} (h : Nam z) : Gd 0 82 (.str z) := gd_str (l := 8) (fun c hc => by have := h.2.2 c hc; omega) h.2.1
/-- a small fraction -/
structure Sml (p q : Int) : Prop where
  f : Frac p q
  t : p.natAbs ≤ 10 ^ 12
  b : q ≤ 1000
abbrev frc (p q : Int) : PyData := .tuple [.int p, .int q]
theorem Sml.gd {p q : Int} (h : Sml p q) : Gd 1 91 (frc p q) := by
  have hq := h.f.pos
  have := h.t
  have := h.b
  exact (gd_tupL (gdl_cons (gd_int (j := 41) (show p.natAbs < 2 ^ 41 by omega)) (gdl_cons (gd_int (j := 41) (show q.natAbs < 2 ^ 41 by omega)) gdl_nil)) (by simp)).up
theorem gd_il {ns : List Int} {m : Nat} (h : ∀ n ∈ ns, 0 ≤ n ∧ n ≤ 1000) (hl : ns.length ≤ m) (hm : m ≤ 5000) : Gd 1 (m * 13 + 3) (.list (IL ns)) := by
  have a := gdl_all (n := 0) (k := 11) (xs := IL ns) fun x hx => by
    obtain ⟨n, hn, rfl⟩ := List.mem_map.mp hx
    have := h n hn
    exact gd_int (j := 10) (show n.natAbs < 2 ^ 10 by omega)
  rw [il_len] at a
  exact (gd_lstL a (by rw [il_len]; omega)).up (Nat.le_refl _) (by have := Nat.mul_le_mul_right 13 hl; omega)
/-- a row of a told, a held, a made paper -/
def RowT (x : PyData) : Prop := ∃ m p q u v : Int, x = .tuple [.int m, frc p q, frc u v] ∧ 0 ≤ m ∧ m ≤ 1000 ∧ Sml p q ∧ Sml u v ∧ p * v ≤ u * q
def SpR (ps : List Int) : Prop := 1 ≤ ps.length ∧ ps.length ≤ 6 ∧ (∀ p ∈ ps, 0 ≤ p ∧ p ≤ 1000) ∧ ps.Pairwise (· ≤ ·)
def RowH (x : PyData) : Prop := ∃ (m : Int) (ps : List Int) (p q u v : Int), x = .tuple [.int m, .list (IL ps), frc p q, frc u v] ∧ 0 ≤ m ∧ m ≤ 1000 ∧ SpR ps ∧ Sml p q ∧ Sml u v ∧ 0 ≤ u
def RowM (x : PyData) : Prop := ∃ (m : Int) (z : Str) (k : Int), x = .tuple [.int m, .str z, .int k] ∧ 0 ≤ m ∧ m ≤ 1000 ∧ Nam z ∧ 0 ≤ k ∧ k ≤ 1000
theorem gd_mark {m : Int} (h0 : 0 ≤ m) (h1 : m ≤ 1000) : Gd 0 11 (.int m) := gd_int (j := 10) (show m.natAbs < 2 ^ 10 by omega)
theorem RowT.gd {x : PyData} : RowT x → Gd 2 300 x := fun ⟨m, p, q, u, v, e, h0, h1, a, b, _⟩ => by
  subst e
  exact (gd_tupL (gdl_cons ((gd_mark h0 h1).up (m := 1) (l := 11)) (gdl_cons a.gd (gdl_cons b.gd gdl_nil))) (by simp)).up
theorem RowH.gd {x : PyData} : RowH x → Gd 2 300 x := fun ⟨m, ps, p, q, u, v, e, h0, h1, s, a, b, _⟩ => by
  subst e
  exact (gd_tupL (gdl_cons ((gd_mark h0 h1).up (m := 1) (l := 11)) (gdl_cons (gd_il (m := 6) s.2.2.1 s.2.1 (by decide)) (gdl_cons a.gd (gdl_cons b.gd gdl_nil)))) (by simp)).up
theorem RowM.gd {x : PyData} : RowM x → Gd 2 300 x := fun ⟨m, z, k, e, h0, h1, a, h2, h3⟩ => by
  subst e
  exact (gd_tupL (gdl_cons ((gd_mark h0 h1).up (m := 1) (l := 11)) (gdl_cons (a.gd.up (m := 1) (l := 82)) (gdl_cons ((gd_mark h2 h3).up (m := 1) (l := 11)) gdl_nil))) (by simp)).up
/-- rows: one to eight, their marks rise -/
def rowMark : PyData → Int
  | .tuple (.int m :: _) => m
  | _ => 0
def RowsOk (R : PyData → Prop) (rows : List PyData) : Prop := 1 ≤ rows.length ∧ rows.length ≤ 8 ∧ (∀ x ∈ rows, R x) ∧ (rows.map rowMark).Pairwise (· < ·)
theorem rows_gd {R : PyData → Prop} (hR : ∀ x, R x → Gd 2 300 x) {rows : List PyData} (h : RowsOk R rows) : Gd 3 2500 (.list rows) := by
  have a := gdl_all (n := 2) (k := 300) (xs := rows) fun x hx => hR x (h.2.2.1 x hx)
  have b := Nat.mul_le_mul_right 302 h.2.1
  exact (gd_lstL a (by have := h.2.1; omega)).up (by decide) (by omega)
/-- what a paper has behind its name -/
inductive Prt : Str → List PyData → Prop
  | thing {so : Str} {lv p q : Int} {ms : List Int} (h : so = "scale" ∧ 2 ≤ ms.length ∨ so = "box" ∧ 1 ≤ ms.length) (l0 : 0 ≤ lv) (l1 : lv ≤ 5) (f : Sml p q) (f0 : 0 ≤ p) (ml : ms.length ≤ 8) (mi : ∀ m ∈ ms, 0 ≤ m ∧ m ≤ 1000) (mr : ms.Pairwise (· < ·)) : Prt "thing" [.str so, .int lv, frc p q, .list (IL ms)]
  | told {t : Int} {rows : List PyData} (t0 : 0 ≤ t) (t1 : t ≤ 10 ^ 6) (r : RowsOk RowT rows) : Prt "told" [.int t, .list rows]
  | held {z : Str} {t : Int} {rows : List PyData} (n : Nam z) (t0 : 0 ≤ t) (t1 : t ≤ 10 ^ 6) (r : RowsOk RowH rows) : Prt "held" [.str z, .int t, .list rows]
  | made {p q : Int} {rows : List PyData} (f : Sml p q) (f0 : 0 ≤ p) (r : RowsOk RowM rows) : Prt "made" [frc p q, .list rows]
  | read {ps : List Int} (s : SpR ps) : Prt "read" [.list (IL ps)]
  | plain {k : Str} (h : k = "off" ∨ k = "harmed" ∨ k = "mended") : Prt k []
/-- a paper -/
def Pap (x : PyData) : Prop := ∃ (c d : Int) (k z : Str) (r : List PyData), x = .tuple (.int c :: .int d :: .str k :: .str z :: r) ∧ 1 ≤ c ∧ c ≤ 10 ^ 9 ∧ 0 ≤ d ∧ d ≤ 10 ^ 6 ∧ Nam z ∧ Prt k r
theorem gd_day {d : Int} (h0 : 0 ≤ d) (h1 : d ≤ 10 ^ 9) : Gd 0 41 (.int d) := gd_int (j := 40) (show d.natAbs < 2 ^ 40 by omega)
theorem gd_lit {z : Str} (h : (z.cps.all fun c => decide (c < 0x110000)) = true) (hl : z.length ≤ 8) : Gd 0 82 (.str z) := gd_str (l := 8) (fun c hc => by
  rw [← Array.all_toList, List.all_eq_true] at h
  exact of_decide_eq_true (h c hc)) hl
theorem Prt.gd {k : Str} {r : List PyData} (h : Prt k r) : Gd 0 82 (.str k) ∧ GdL 3 2800 r ∧ r.length ≤ 4 := by
  cases h with
  | @thing so lv p q ms hs l0 l1 f f0 ml mi mr =>
    have so8 : Gd 0 82 (.str so) := by
      rcases hs with ⟨rfl, _⟩ | ⟨rfl, _⟩ <;> exact gd_lit (by decide +kernel) (by decide +kernel)
    exact ⟨gd_lit (by decide +kernel) (by decide +kernel), (gdl_cons (so8.up (m := 3) (l := 82)) (gdl_cons ((gd_mark l0 (by omega)).up (m := 3) (l := 11)) (gdl_cons (f.gd.up (m := 3) (l := 91)) (gdl_cons ((gd_il (m := 8) mi ml (by decide)).up (m := 3) (l := 107)) gdl_nil)))).up, by simp⟩
  | told t0 t1 r => exact ⟨gd_lit (by decide +kernel) (by decide +kernel), (gdl_cons ((gd_day t0 (by omega)).up (m := 3) (l := 41)) (gdl_cons (rows_gd (fun _ h => h.gd) r) gdl_nil)).up, by simp⟩
  | held n t0 t1 r => exact ⟨gd_lit (by decide +kernel) (by decide +kernel), (gdl_cons (n.gd.up (m := 3) (l := 82)) (gdl_cons ((gd_day t0 (by omega)).up (m := 3) (l := 41)) (gdl_cons (rows_gd (fun _ h => h.gd) r) gdl_nil))).up, by simp⟩
  | made f f0 r => exact ⟨gd_lit (by decide +kernel) (by decide +kernel), (gdl_cons (f.gd.up (m := 3) (l := 91)) (gdl_cons (rows_gd (fun _ h => h.gd) r) gdl_nil)).up, by simp⟩
  | read s => exact ⟨gd_lit (by decide +kernel) (by decide +kernel), (gdl_cons ((gd_il (m := 6) s.2.2.1 s.2.1 (by decide)).up (m := 3) (l := 81)) gdl_nil).up, by simp⟩
  | plain h =>
    refine ⟨?_, (gdl_nil (n := 3)).up (m := 3) (l := 2800), by simp⟩
    rcases h with rfl | rfl | rfl <;> exact gd_lit (by decide +kernel) (by decide +kernel)
theorem Pap.gd {x : PyData} : Pap x → Gd 4 3100 x := fun ⟨c, d, k, z, r, e, c0, c1, d0, d1, n, h⟩ => by
  subst e
  obtain ⟨a, b, l⟩ := h.gd
  exact (gd_tupL (gdl_cons ((gd_day (by omega) c1).up (m := 3) (l := 41)) (gdl_cons ((gd_day d0 (by omega)).up (m := 3) (l := 41)) (gdl_cons (a.up (m := 3) (l := 82)) (gdl_cons (n.gd.up (m := 3) (l := 82)) b)))) (by simp only [List.length_cons]; omega)).up
end Dl
/-! ### an expression over which an owned list stays as it is -/
namespace Dl
open PySem PySem.Spec PyProof.Rows L2 PySem.W
theorem own_known {K : PySem.W.Frag} {w : Wn} {env : List Sl} {σ : L2.St} {F H : Hp} {i : Nat} {l : Addr} {xs : List PyData} (r : RelW K w env σ F H) (e : env[i]? = some (.ow l xs)) : RelW K w (env.set i (.d (.list xs))) σ (opn [l] F H) H := by
  obtain ⟨e1, h0, hf, ne, vs, hl, q⟩ := r.at' i _ e
  have k : ∀ a ∈ [l], w.H a = none ∧ F a = none ∧ a ≠ w.b.b := fun a m => by
    cases List.mem_singleton.mp m
    exact ⟨h0, hf, ne⟩
  have th : ∀ a ∈ [l], ∃ o, H a = some o ∧ isM o = true := fun a m => by
    cases List.mem_singleton.mp m
    exact ⟨_, hl, rfl⟩
  have st := r.st.freezeT k th
  have up : Same F (opn [l] F H) := opn_same fun a m => (k a m).2.1
  refine ⟨by rw [List.length_set]; exact r.len, st, fun j s h => ?_, own_set r.own fun a m => by cases m⟩
  rw [List.getElem?_set] at h
  by_cases hj : i = j
  · subst hj
    rw [if_pos rfl] at h
    split at h
    · cases h
      exact ⟨_, e1, .lst (by unfold opn; rw [if_pos (List.mem_singleton.mpr rfl)]; exact hl) (q.up up)⟩
    · cases h
  · rw [if_neg hj] at h
    have old := r.at' j s h
    have away : l ∉ slA s := fun m => hj (r.own i j _ _ l e h (by simp [slA]) m)
    have out : ∀ a ∈ slA s, F a = none → opn [l] F H a = none := fun a m h0 => by
      unfold opn
      rw [if_neg fun m2 => away (by rw [← List.mem_singleton.mp m2]; exact m)]
      exact h0
    cases s with
    | un => exact old
    | d x => obtain ⟨v, a1, a2⟩ := old; exact ⟨v, a1, a2.up up⟩
    | raw v => exact old
    | bag => exact old
    | ow m zs =>
      obtain ⟨b1, b2, b3, b4, ws, b5, b6⟩ := old
      exact ⟨b1, b2, out m (by simp [slA]) b3, b4, ws, b5, b6.up up⟩
    | tr p T y =>
      obtain ⟨v, b1, nd, kk, mr, qq⟩ := old
      exact ⟨v, b1, nd, fun a m => ⟨(kk a m).1, out a m (kk a m).2.1, (kk a m).2.2⟩, mr, qq.up up fun _ _ _ z => z⟩
/-- what may be told of it afterwards -/
def okT : DV → Prop
  | .d x => noL x = true
  | .fr xs => noLs xs = true
  | .ft _ => False
  | .ow _ _ => False
  | .tr _ _ _ => False
  | .raw _ => False
  | .bag => False
def tTmp (i : Nat) (t : DT) : DT := fun env P => match env[i]? with
  | some (.ow _ xs) => t (env.set i (.d (.list xs))) fun r => okT r ∧ P r
  | _ => False
theorem d_tmp {X : Cx} {w : Wn} {e : Expr} {t : DT} (i : Nat) (h : DPE X w e t) : DPE X w e (tTmp i t) := pe_weak h fun σ H Q ⟨env, F, P, r, h, q⟩ => by
  unfold tTmp at h
  split at h
  · next l xs ei =>
    obtain ⟨e1, h0, hf, ne, vs, hl, q0⟩ := r.at' i _ ei
    have op : ∀ a ∈ [l], F a = none ∧ a ≠ w.b.b ∧ ∃ o, H a = some o ∧ isM o = true := fun a m => by
      cases List.mem_singleton.mp m
      exact ⟨hf, ne, _, hl, rfl⟩
    refine ⟨_, _, _, own_known r ei, h, fun dv v F1 H1 s1 r1 h1 => ?_⟩
    obtain ⟨ok, h1⟩ := h1
    obtain ⟨st, keep⟩ := shut_ok r.wd op s1
    refine q dv v _ H1 st ?_ h1
    cases dv with
    | d x => exact noL_up keep ok r1
    | fr ys =>
      obtain ⟨p, us, a1, a2, a3, a4, a5, a6⟩ := r1
      exact ⟨p, us, a1, a2, by unfold shut; split; rfl; exact a3, a4, a5, noLs_up keep ok a6⟩
    | ft x => exact ok.elim
    | ow l xs => exact ok.elim
    | tr p S x => exact ok.elim
    | raw u => exact ok.elim
    | bag => exact ok.elim
  · exact h.elim
end Dl
namespace Dl
open PySem PySem.Spec PyProof.Rows L2
/-! ### trees made by comprehensions, and changed within -/
section
variable {K : PySem.W.Frag} {F H : Hp} {dp : Bool}
theorem OtA.app {T : List Addr} {ws : List V} {ys : List PyData} (q : OtA K F H dp T ws ys) : ∀ {S : List Addr} {vs : List V} {xs : List PyData}, OtA K F H dp S vs xs → OtA K F H dp (S ++ T) (vs ++ ws) (xs ++ ys)
  | _, _, _, .nil => q
  | _, _, _, .cons h t => by
    rw [List.append_assoc]
    exact .cons h (OtA.app q t)
end
def tre : DV → Option PyData
  | .d x => if noL x = true then some x else none
  | .ft x => some x
  | _ => none
theorem tre_ok {K : PySem.W.Frag} {b : Bg} {Hz F H : Hp} {v : V} {dv : DV} {y : PyData} (r : Res K b Hz F H dv v) (e : tre dv = some y) : ∃ S, S.Nodup ∧ (∀ a ∈ S, Hz a = none ∧ F a = none ∧ a ≠ b.b) ∧ Ot K F H true S v y := by
  unfold tre at e
  split at e
  · next x =>
    split at e
    · next n =>
      cases e
      exact ⟨[], .nil, fun a m => absurd m List.not_mem_nil, .leaf r fun _ => n⟩
    · cases e
  · next x =>
    cases e
    exact r
  · cases e
def lcT (g : PyData → List Sl → (List Sl → Prop) → Prop) (te : DT) (env : List Sl) : List PyData → List PyData → (DV → Prop) → Prop
  | [], acc, P => P (.ft (.list acc))
  | x :: xs, acc, P => g x env fun e2 => te e2 fun dv => ∃ y, tre dv = some y ∧ acc.length < 100000 ∧ lcT g te env xs (acc ++ [y]) P
def tLcT (ti : DIt) (g : PyData → List Sl → (List Sl → Prop) → Prop) (te : DT) (vs : List Nat) : DT := fun env P => ti env fun xs => lcT g te (unS env vs) xs [] P
section
variable {X : Cx} {w : Wn}
theorem lcT_go {ti : DIt} {g : PyData → List Sl → (List Sl → Prop) → Prop} {t : TG} {te : DT} {vs : List Nat} (tg' : Tgt X.K vs g t) {σ : L2.St} {H : Hp} {Q : VK} (h : lf X.K w (tLcT ti g te vs) σ H Q) : tLc (lfI X.K w ti) t (lfT X.K w fun _ P => P true) (lf X.K w te) vs σ H Q := by
  obtain ⟨env, F, P, r, h, q⟩ := h
  exact ⟨env, F, _, r, h, fun xs J F1 H1 s1 wl h1 D hD => by
    obtain ⟨G, Y, wk, hG, hY⟩ := wl.ex
    obtain ⟨us, eb⟩ := s1.bag.lst
    have Db : D ≠ w.b.b := fun e => by rw [e, eb] at hD; cases hD
    have F1D : F1 D = none := by
      cases e : F1 D with
      | none => rfl
      | some o => rw [s1.sub _ _ e] at hD; cases hD
    have r1 := (r.step s1).forgets vs
    refine lc_it wk (fun i H2 => ∃ F2 acc us S, Stp X.K w.b F1 H1 F2 H2 ∧ H2 D = some (.lst us) ∧ OtA X.K F2 H2 true S us acc ∧ S.Nodup ∧ (∀ a ∈ S, H1 a = none ∧ F2 a = none ∧ a ≠ w.b.b ∧ a ≠ D) ∧ F2 D = none ∧ lcT g te (unS env vs) (xs.drop i) acc P) ⟨F1, [], [], [], s1.wd.laidM hD, upd_same, .nil, .nil, fun a m => absurd m List.not_mem_nil, F1D, h1⟩ (fun i H2 _ ⟨F2, acc, us, S, st, _⟩ => hG F2 H2 st.ex st.wd) (fun i v H2 H3 hi ⟨F2, acc, us, S, st, eD, ra, nd, k, fD, hl⟩ y => ?_) fun H2 ⟨F2, acc, us, S, st, eD, ra, nd, k, fD, hl⟩ => ?_
    · obtain ⟨F3, x, s3, ex, rx⟩ := hY i F2 H2 v H3 st.ex st.wd y
      have e1 : xs.drop i = x :: xs.drop (i + 1) := by
        obtain ⟨hl, ex⟩ := List.getElem?_eq_some_iff.mp ex
        rw [List.drop_eq_getElem_cons hl, ex]
      rw [e1] at hl
      have st3 := st.trans s3
      have eD3 := s3.keep D (.lst us) Db (by intro _ z; cases z) eD
      have fD3 : F3 D = none := s3.new D fD (by rw [eD]; exact fun z => nomatch z)
      refine tg'.run w.b w.F w.H env σ F3 H3 v x _ _ (r1.step st3) rx hl fun env' σ' r' wi hl => ⟨wi, env', F3, fun c => c = true ∧ te env' fun dv => ∃ y, tre dv = some y ∧ acc.length < 100000 ∧ lcT g te (unS env vs) (xs.drop (i + 1)) (acc ++ [y]) P, r', ⟨rfl, hl⟩, fun c F4 H4 s4 h4 => ?_⟩
      have eD4 := s4.keep D (.lst us) Db (by intro _ z; cases z) eD3
      have fD4 : F4 D = none := s4.new D fD3 (by rw [eD3]; exact fun z => nomatch z)
      obtain ⟨rfl, h4⟩ := h4
      refine ⟨env', F4, _, r'.step s4, h4, fun dv v5 F5 H5 s5 r5 h5 => ?_⟩
      obtain ⟨y, ey, hlen, h5⟩ := h5
      obtain ⟨S5, nd5, k5, o5⟩ := tre_ok r5 ey
      have s34 := s3.trans s4
      have s35 := s34.trans s5
      have eD5 := s5.keep D (.lst us) Db (by intro _ z; cases z) eD4
      have fD5 : F5 D = none := s5.new D fD4 (by rw [eD4]; exact fun z => nomatch z)
      have th := OtA.there ra
      have ra5 : OtA X.K F5 H5 true S us acc := OtA.up s35.ex (fun a m o ho => by
        obtain ⟨o', ho', mo⟩ := th a m
        rw [ho] at ho'
        cases ho'
        exact s35.keep a o (k a m).2.2.1 (isM_tbl mo) ho) ra
      have st5 := st.trans s35
      have pD : D ∉ S ++ S5 := fun m => by
        rcases List.mem_append.mp m with m | m
        · exact (k D m).2.2.2 rfl
        · have z := (k5 D m).1
          rw [eD4] at z
          cases z
      have up : ∀ a ∈ S ++ S5, ∀ o, H5 a = some o → upd H5 D (.lst (us ++ [v5])) a = some o := fun a m o ho => by
        rw [upd_ne (fun e => pD (by rw [← e]; exact m))]
        exact ho
      have cat : OtA X.K F5 (upd H5 D (.lst (us ++ [v5]))) true (S ++ S5) (us ++ [v5]) (acc ++ [y]) := by
        have q2 := OtA.app (OtA.cons o5 .nil) ra5
        rw [List.append_nil] at q2
        exact OtA.up (fun _ _ z => z) up q2
      refine ⟨us, eD5, by rw [ra5.len]; exact lim_lt hlen, F5, acc ++ [y], us ++ [v5], S ++ S5, ⟨fun a o ne nt ha => ?_, st5.bag.up (fun _ _ h => h) (upd_ne (Ne.symm Db)) (fun t _ h1 h2 => ⟨h1, by obtain ⟨ps, z, k⟩ := h2; exact ⟨ps, by rw [upd_ne (fun e => by rw [e, eD5] at z; cases z)]; exact z, k⟩⟩), st5.ex, fun a o ha => ?_, st5.fb, st5.new, fun a ps ne ha => by
        obtain ⟨qs, h1, k⟩ := st5.tab a ps ne ha
        exact ⟨qs, by rw [upd_ne (ne_of_none ha hD)]; exact h1, k⟩⟩, upd_same, cat, ?_, fun a m => ?_, fD5, h5⟩
      · rw [upd_ne (ne_of_none ha hD)]
        exact st5.keep a o ne nt ha
      · rw [upd_ne (ne_of_none ha fD5)]
        exact st5.sub a o ha
      · refine List.nodup_append.mpr ⟨nd, nd5, fun a m b m2 e => ?_⟩
        subst e
        obtain ⟨o, ho, mo⟩ := th a m
        have z := s34.there (k a m).2.2.1 (by rw [ho]; exact fun z => nomatch z)
        exact z (k5 a m2).1
      · rcases List.mem_append.mp m with m | m
        · refine ⟨(k a m).1, s35.new a (k a m).2.1 ?_, (k a m).2.2⟩
          obtain ⟨o, ho, mo⟩ := th a m
          rw [ho]
          exact fun z => nomatch z
        · obtain ⟨z1, z2, z3⟩ := k5 a m
          exact ⟨(st.trans s34).back z3 z1, z2, z3, fun e => pD (List.mem_append.mpr (.inr (by rw [← e]; exact m)))⟩
    · rw [List.drop_length] at hl
      refine q (.ft (.list acc)) _ F2 H2 (s1.trans st) ⟨D :: S, List.nodup_cons.mpr ⟨fun m => (k D m).2.2.2 rfl, nd⟩, fun a m => ?_, .lst eD ra⟩ hl
      rcases List.mem_cons.mp m with rfl | m
      · exact ⟨s1.back Db hD, fD, Db⟩
      · exact ⟨s1.back (k a m).2.2.1 (k a m).1, (k a m).2.1, (k a m).2.2.1⟩⟩
theorem d_lcT {elt tg iter : Expr} {scope : Scope} {own : List (Str × Nat)} {pos : Pos} {ti : DIt} {g : PyData → List Sl → (List Sl → Prop) → Prop} {t : TG} {te : DT} (hc : X.calm = true) (hN : X.N.Nodup) (hi : PI X tg iter (lfI X.K w ti)) (ok : BlkOk X.N X.env.scope scope own)
    (tg' : Tgt X.K (own.map (·.2)) g t)
    (hg : ∀ (s : Shared) (H : Hp) (C : Addr) (cl : List (Str × Addr)) (fp : List Addr), PG (X.blk s H scope (compEnvC scope cl C X.env) fp) tg t)
    (he : ∀ (s : Shared) (H : Hp) (C : Addr) (cl : List (Str × Addr)) (fp : List Addr), PE (X.blk s H scope (compEnvC scope cl C X.env) fp) elt (lf X.K w te)) (hs : ∀ x, foldedSetIterable iter X.env x = pure x := by intro _; rfl) :
    DPE X w (.ListComp elt [⟨tg, iter, [], 0⟩] scope pos) (tLcT ti g te (own.map (·.2))) :=
  pe_weak (pe_lc hc hN hi ok hg (fun _ _ _ _ _ => pts_nilD) he hs) fun _ _ _ h => lcT_go tg' h
end
/-! ### tuple(e), e a new tree -/
def tTupT (te : DT) : DT := fun env P => te env fun u => match u with
  | .ft (.list xs) => P (.ft (.tuple xs))
  | _ => False
section
variable {X : Cx} {w : Wn} {pos p : Pos} {e : Expr} {te : DT}
theorem ot_lst {K : PySem.W.Frag} {F H : Hp} {S : List Addr} {v : V} {xs : List PyData} (h : Ot K F H true S v (.list xs)) : ∃ a T vs, S = a :: T ∧ v = .ref a ∧ H a = some (.lst vs) ∧ OtA K F H true T vs xs := by
  cases h with
  | leaf r n => have n := n rfl; simp [noL] at n
  | lst h r => exact ⟨_, _, _, rfl, rfl, h, r⟩
theorem d_tupT (g1 : Gl X "tuple") (m1 : X.mg "tuple" = none) (he : DPE X w e te)
    (h1 : starEach [e] X.env = (false, eval e X.env) :: starEach [] X.env := by rfl) (h2 : (backTo pos (starEach [] X.env)).any (·.1) = false := by rfl) :
    DPE X w (.Call (.Name "tuple" p) [e] [] pos) (tTupT te) :=
  pe_weak (pe_callTy call_tuple_of g1 m1 (by decide +kernel) (pa_cons he pa_nil h1) (by decide) (by decide) h1 h2) fun σ H Q ⟨env, F, P, r, h, q⟩ => by
    refine ⟨env, F, _, r, h, fun dv v F1 H1 s1 r1 h1 => ?_⟩
    split at h1
    · obtain ⟨S, nd, k, o⟩ := r1
      obtain ⟨a, T, vs, rfl, rfl, ea, oa⟩ := ot_lst o
      refine ⟨a, vs, rfl, .inl ⟨SqL.of ea, fun l hl => ?_⟩⟩
      have s2 := s1.wd.laid (o := .tup vs) hl
      have ne : ∀ b ∈ T, b ≠ l := fun b m e => by
        obtain ⟨o, ho, _⟩ := oa.there b m
        rw [e, hl] at ho
        cases ho
      refine q (.ft _) _ _ _ (s1.trans s2) ⟨T, (List.nodup_cons.mp nd).2, fun b m => ?_, .tup (SqT.of upd_same) (OtA.up s2.ex (fun b m o ho => by rw [upd_ne (ne b m)]; exact ho) oa)⟩ h1
      obtain ⟨z1, z2, z3⟩ := k b (List.mem_cons_of_mem _ m)
      exact ⟨z1, by rw [upd_ne (ne b m)]; exact z2, z3⟩
    · exact h1.elim
end
/-! ### x[k].clear(), x[k].extend(e), x a tuple's tree -/
theorem OtA.item {K : PySem.W.Frag} {F H : Hp} {ys : List PyData} : ∀ {S : List Addr} {vs : List V} {xs : List PyData} {m : Nat}, OtA K F H true S vs xs → xs[m]? = some (.list ys) →
    ∃ (A : List Addr) (a : Addr) (T B : List Addr) (us : List V), S = A ++ (a :: T) ++ B ∧ vs[m]? = some (.ref a) ∧ H a = some (.lst us) ∧ OtA K F H true T us ys ∧
      ∀ (F2 H2 : Hp) (T2 : List Addr) (us2 : List V) (ys2 : List PyData), Same F F2 → H2 a = some (.lst us2) → OtA K F2 H2 true T2 us2 ys2 → (∀ b, b ∈ A ∨ b ∈ B → ∀ o, H b = some o → H2 b = some o) → OtA K F2 H2 true (A ++ (a :: T2) ++ B) vs (xs.set m (.list ys2))
  | _, _, _, _, .nil, e => by simp at e
  | _, _, _, 0, .cons (S := S) (T := T) h t, e => by
    simp at e
    subst e
    obtain ⟨a, T1, us, rfl, rfl, ea, oa⟩ := ot_lst h
    exact ⟨[], a, T1, T, us, rfl, rfl, ea, oa, fun F2 H2 T2 us2 ys2 sm e2 o2 kp => .cons (.lst e2 o2) (OtA.up sm (fun b m => kp b (.inr m)) t)⟩
  | _, _, _, m + 1, .cons (S := S) (T := T) h t, e => by
    obtain ⟨A, a, T1, B, us, rfl, e1, ea, oa, put⟩ := OtA.item (m := m) t (by simpa using e)
    refine ⟨S ++ A, a, T1, B, us, by simp [List.append_assoc], by simpa using e1, ea, oa, fun F2 H2 T2 us2 ys2 sm e2 o2 kp => ?_⟩
    have z := OtA.cons (Ot.up sm (fun b m => kp b (.inl (List.mem_append.mpr (.inl m)))) h) (put F2 H2 T2 us2 ys2 sm e2 o2 fun b hb => kp b (hb.imp (fun m => List.mem_append.mpr (.inr m)) id))
    simpa [List.append_assoc] using z
/-- x[k].clear(), x a tuple's tree -/
def tClrD (i : Nat) (ti : DT) : DS := fun d env => match env[i]? with
  | some (.tr true S (.tuple xs)) => ti env fun u => rd u fun y => match y with
    | .int k => ∃ m ys, ixN xs.length k = some m ∧ xs[m]? = some (.list ys) ∧ ∀ S2, d.nx (env.set i (.tr true S2 (.tuple (xs.set m (.list [])))))
    | _ => False
  | _ => False
/-- x[k].extend(e), x a tuple's tree, e a new tree -/
def tExtD (i : Nat) (ti te : DT) : DS := fun d env => match env[i]? with
  | some (.tr true S (.tuple xs)) => ti env fun u => rd u fun y => match y with
    | .int k => ∃ m ys, ixN xs.length k = some m ∧ xs[m]? = some (.list ys) ∧ te env fun dv => match dv with
      | .ft (.list zs) => ys.length + zs.length ≤ 100000 ∧ ∀ S2, d.nx (env.set i (.tr true S2 (.tuple (xs.set m (.list (ys ++ zs))))))
      | _ => False
    | _ => False
  | _ => False
theorem noLs_item {xs : List PyData} {m : Nat} {ys : List PyData} (h : noLs xs = true) (e : xs[m]? = some (.list ys)) : False := by
  induction xs generalizing m with
  | nil => simp at e
  | cons x xs ih =>
    rw [noLs, Bool.and_eq_true] at h
    cases m with
    | zero =>
      simp at e
      rw [e] at h
      simp [noL] at h
    | succ m => exact ih h.2 (by simpa using e)
theorem ot_tup {K : PySem.W.Frag} {F H : Hp} {S : List Addr} {v : V} {xs : List PyData} {m : Nat} {ys : List PyData} (h : Ot K F H true S v (.tuple xs)) (e : xs[m]? = some (.list ys)) : ∃ r vs, v = .ref r ∧ SqT K F r vs ∧ OtA K F H true S vs xs := by
  cases h with
  | leaf r n => exact (noLs_item (by have n := n rfl; simpa only [noL] using n) e).elim
  | tup h r => exact ⟨_, _, rfl, h, r⟩
theorem atI_of {α : Type} {xs : List α} {k : Int} {m : Nat} {z : α} (h : ixN xs.length k = some m) (e : xs[m]? = some z) : atI xs k = some z := by
  unfold atI
  rw [h]
  exact e
section
variable {X : Cx} {w : Wn} {pos : Pos} {e : Expr} {ti te : DT}
theorem ds_clr {i : Nat} (base : PE X e (tBM0 X.K "list" rClear (tOp (rIxT X.K) (tVar i) (lf X.K w ti)))) (hs : swapsWith e none pos.line X.env = pure false := by rfl) : DPS X w (.Expr e pos) (tClrD i ti) :=
  ps_weak (ps_expr base hs) fun D σ H ⟨env, F, d, r, h, fit⟩ => by
    unfold tClrD at h
    split at h
    · next S xs ei =>
      obtain ⟨v, e1, _⟩ := r.at' i _ ei
      refine ⟨v, e1, env, F, _, r, h, fun dv u F1 H1 s1 r1 h1 => ?_⟩
      obtain ⟨y, y1, h1⟩ := rd_ok r1 h1
      split at h1
      · next k =>
        cases y1.int
        obtain ⟨m, ys, em, ex, h1⟩ := h1
        have r2 := r.step s1
        obtain ⟨v', e1', nd, k2, mr, q⟩ := r2.at' i _ ei
        rw [e1] at e1'
        cases e1'
        obtain ⟨ro, vs, rfl, hv, oa⟩ := ot_tup q ex
        obtain ⟨A, a, T, B, us, rfl, ev, ea, ot, put⟩ := oa.item ex
        have hn := List.nodup_append.mp nd
        have hn1 := List.nodup_append.mp hn.1
        have aA : a ∉ A := fun z => hn1.2.2 a z a (List.mem_cons_self ..) rfl
        have aB : a ∉ B := fun z => hn.2.2 a (List.mem_append.mpr (.inr (List.mem_cons_self ..))) a z rfl
        have sub : ∀ b, b ∈ A ++ [a] ++ B → b ∈ A ++ (a :: T) ++ B := fun b z => by
          simp only [List.mem_append, List.mem_cons, List.not_mem_nil, or_false] at z ⊢
          rcases z with (z | z) | z
          · exact .inl (.inl z)
          · exact .inl (.inr (.inl z))
          · exact .inr z
        refine ⟨ro, vs, k, .ref a, rfl, rfl, sqt_up s1.sub hv, atI_of (by rw [oa.len]; exact em) ev, .inl ⟨rfl, us, SqL.of ea⟩, a, us, rfl, rfl, ea, ?_⟩
        refine fit.nx _ _ F1 _ (r2.wrtS ei (s' := .tr true (A ++ [a] ++ B) (.tuple (xs.set m (.list [])))) (fun b o n hb => ?_) ⟨_, e1, ?_, fun b z => k2 b (sub b z), fun z => by (cases z), .tup hv (put F1 _ [] [] [] sm0 upd_same .nil fun b hb o ho => ?_)⟩ fun b z => .inl (sub b z)) s1.ex (h1 _)
        · rw [upd_ne (fun z => n (by rw [z]; exact sub a (by simp)))]
          exact hb
        · refine List.Sublist.nodup ?_ nd
          exact List.Sublist.append (List.Sublist.append (List.Sublist.refl _) (List.Sublist.cons_cons _ (List.nil_sublist _))) (List.Sublist.refl _)
        · rw [upd_ne (fun z => by subst z; exact hb.elim aA aB)]
          exact ho
      · exact h1.elim
    · exact h.elim
theorem ds_ext {i : Nat} (base : PE X e (tBM X.K "list" rExtend (tOp (rIxT X.K) (tVar i) (lf X.K w ti)) (tCons (lf X.K w te) tNil))) (hs : swapsWith e none pos.line X.env = pure false := by rfl) : DPS X w (.Expr e pos) (tExtD i ti te) :=
  ps_weak (ps_expr base hs) fun D σ H ⟨env, F, d, r, h, fit⟩ => by
    unfold tExtD at h
    split at h
    · next S xs ei =>
      obtain ⟨v, e1, _⟩ := r.at' i _ ei
      refine ⟨v, e1, env, F, _, r, h, fun dv u F1 H1 s1 r1 h1 => ?_⟩
      obtain ⟨y, y1, h1⟩ := rd_ok r1 h1
      split at h1
      · next k =>
        cases y1.int
        obtain ⟨m, ys, em, ex, h1⟩ := h1
        have r2 := r.step s1
        obtain ⟨v', e1', nd, k2, mr, q⟩ := r2.at' i _ ei
        rw [e1] at e1'
        cases e1'
        obtain ⟨ro, vs, rfl, hv, oa⟩ := ot_tup q ex
        have th := oa.there
        obtain ⟨A, a, T, B, us, rfl, ev, ea, ot, put⟩ := oa.item ex
        refine ⟨ro, vs, k, .ref a, rfl, rfl, sqt_up s1.sub hv, atI_of (by rw [oa.len]; exact em) ev, .inl ⟨rfl, us, SqL.of ea⟩, env, F1, _, r2, h1, fun dv5 v5 F5 H5 s5 r5 h5 => ?_⟩
        split at h5
        · next zs =>
          obtain ⟨S5, nd5, k5, o5⟩ := r5
          obtain ⟨c, T5, ws, rfl, rfl, ec, o5⟩ := ot_lst o5
          obtain ⟨hlen, h5⟩ := h5
          have r3 := r2.step s5
          obtain ⟨v'', e1'', _, k3, _, _⟩ := r3.at' i _ ei
          have aS : a ∈ A ++ (a :: T) ++ B := List.mem_append.mpr (.inl (List.mem_append.mpr (.inr (List.mem_cons_self ..))))
          have old : ∀ b ∈ A ++ (a :: T) ++ B, ∀ o, H1 b = some o → H5 b = some o := fun b z o ho => by
            obtain ⟨o', ho', mo⟩ := th b z
            rw [ho] at ho'
            cases ho'
            exact s5.keep b o (k2 b z).2.2 (isM_tbl mo) ho
          have far : ∀ b ∈ A ++ (a :: T) ++ B, b ∉ c :: T5 := fun b z z5 => by
            obtain ⟨o, ho, mo⟩ := th b z
            rw [(k5 b z5).1] at ho
            cases ho
          have ea5 := old a aS _ ea
          have hn := List.nodup_append.mp nd
          have hn1 := List.nodup_append.mp hn.1
          have hn2 := List.nodup_cons.mp hn1.2.1
          have aA : a ∉ A := fun z => hn1.2.2 a z a (List.mem_cons_self ..) rfl
          have aB : a ∉ B := fun z => hn.2.2 a (List.mem_append.mpr (.inr (List.mem_cons_self ..))) a z rfl
          have aT5 : a ∉ T5 := fun z => far a aS (List.mem_cons_of_mem _ z)
          refine ⟨a, c, us, ws, rfl, rfl, ea5, ec, by rw [ot.len, o5.len]; exact lim_le hlen, ?_⟩
          have mem : ∀ b, b ∈ A ++ (a :: (T ++ T5)) ++ B → b ∈ A ++ (a :: T) ++ B ∨ b ∈ T5 := fun b z => by
            simp only [List.mem_append, List.mem_cons] at z ⊢
            rcases z with (z | z | z | z) | z
            · exact .inl (.inl (.inl z))
            · exact .inl (.inl (.inr (.inl z)))
            · exact .inl (.inl (.inr (.inr z)))
            · exact .inr z
            · exact .inl (.inr z)
          have r4 := r3.wrtS (H' := upd H5 a (.lst (us ++ ws))) ei (s' := .un) (fun b o n hb => by
            rw [upd_ne (fun z => n (by rw [z]; exact aS))]
            exact hb) True.intro fun b z => absurd z List.not_mem_nil
          have r6 := r4.put i (z := .tr true (A ++ (a :: (T ++ T5)) ++ B) (.tuple (xs.set m (.list (ys ++ zs))))) (v := .ref ro) ⟨_, rfl, ?_, fun b z => ?_, fun z => by (cases z), .tup (sqt_up s5.ex hv) (put F5 _ (T ++ T5) (us ++ ws) (ys ++ zs) s5.ex upd_same ?_ fun b hb o ho => ?_)⟩ fun b z j t nj ej m2 => ?_
          · rw [List.set_set] at r6
            have es : σ.set i (some (.ref ro)) = σ := by
              refine List.ext_getElem? fun j => ?_
              rw [List.getElem?_set]
              by_cases hj : i = j
              · subst hj
                rw [if_pos rfl]
                rw [e1]
                rw [if_pos (by
                  have := (List.getElem?_eq_some_iff.mp e1).1
                  exact this)]
              · rw [if_neg hj]
            rw [es] at r6
            exact fit.nx _ _ F5 _ r6 (s1.ex.trans s5.ex) (h5 _)
          · refine List.nodup_append.mpr ⟨List.nodup_append.mpr ⟨hn1.1, List.nodup_cons.mpr ⟨fun z => (List.mem_append.mp z).elim hn2.1 aT5, List.nodup_append.mpr ⟨hn2.2, (List.nodup_cons.mp nd5).2, fun x hx y hy e => ?_⟩⟩, fun x hx y hy e => ?_⟩, hn.2.1, fun x hx y hy e => ?_⟩
            · subst e
              exact far x (by simp [hx]) (List.mem_cons_of_mem _ hy)
            · subst e
              rcases List.mem_cons.mp hy with rfl | hy
              · exact aA hx
              · rcases List.mem_append.mp hy with hy | hy
                · exact hn1.2.2 x hx x (List.mem_cons_of_mem _ hy) rfl
                · exact far x (by simp [hx]) (List.mem_cons_of_mem _ hy)
            · subst e
              rcases mem x (List.mem_append.mpr (.inl hx)) with z | z
              · rcases List.mem_append.mp hx with hx | hx
                · exact hn.2.2 x (List.mem_append.mpr (.inl hx)) x hy rfl
                · rcases List.mem_cons.mp hx with rfl | hx
                  · exact aB hy
                  · rcases List.mem_append.mp hx with hx | hx
                    · exact hn.2.2 x (List.mem_append.mpr (.inr (List.mem_cons_of_mem _ hx))) x hy rfl
                    · exact far x (List.mem_append.mpr (.inr hy)) (List.mem_cons_of_mem _ hx)
              · exact far x (List.mem_append.mpr (.inr hy)) (List.mem_cons_of_mem _ z)
          · rcases mem b z with z | z
            · exact k3 b z
            · obtain ⟨z1, z2, z3⟩ := k5 b (List.mem_cons_of_mem _ z)
              exact ⟨r2.st.back z3 z1, z2, z3⟩
          · have q2 := OtA.app (OtA.up (F' := F5) (H' := upd H5 a (.lst (us ++ ws))) sm0 (fun b z o ho => by
              rw [upd_ne (fun e => aT5 (by rw [← e]; exact z))]
              exact ho) o5) (OtA.up (F' := F5) (H' := upd H5 a (.lst (us ++ ws))) s5.ex (fun b z o ho => by
              rw [upd_ne (fun e => hn2.1 (by rw [← e]; exact z))]
              exact old b (by simp [z]) o ho) ot)
            exact q2
          · rw [upd_ne (fun z => by subst z; exact hb.elim aA aB)]
            refine old b ?_ o ho
            rcases hb with hb | hb
            · simp [hb]
            · simp [hb]
          · rw [List.getElem?_set_ne (Ne.symm nj)] at ej
            rcases mem b z with z | z
            · exact nj (r3.own j i _ _ b ej ei m2 z)
            · obtain ⟨_, _, _, o, ho, _⟩ := slA_ok (r2.at' j _ ej) b m2
              rw [(k5 b (List.mem_cons_of_mem _ z)).1] at ho
              cases ho
        · exact h5.elim
      · exact h1.elim
    · exact h.elim
end
end Dl
namespace Dl
open PySem PySem.Spec PyProof.Rows L2
/-! ### {i: a, j: b} as data -/
def tDict2 (i j : Int) (ta tb : DT) : DT := fun env P => ta env fun u => tb env fun v => match frz u, frz v with
  | .d x, .d y => P (.d (.dict [(.int i, x), (.int j, y)]))
  | _, _ => False
section
variable {X : Cx} {w : Wn} {pos : Pos}
theorem d_dict2 {a b : Expr} {ta tb : DT} {i j : Int} {j1 j2} {p1 p2 : Pos} (ha : DPE X w a ta) (hb : DPE X w b tb) (hm : ∀ u v : V, mergeK [] [(Sum.inl i, u), (Sum.inl j, v)] = [(Sum.inl i, u), (Sum.inl j, v)] := by intro _ _; rfl) :
    DPE X w (.Dict [some (.Constant (.int i) j1 p1), some (.Constant (.int j) j2 p2)] [a, b] pos) (tDict2 i j ta tb) :=
  pe_weak (pe_disp (pps_cons pe_int ha (pps_cons pe_int hb pps_nil)) rfl rfl (by simp) (by simp)) fun σ H Q ⟨env, F, P, r, h, q⟩ => fun p hp => by
    have s0 := r.wd.laidM (o := .dK []) hp
    obtain ⟨bs, eb⟩ := r.wd.bag.lst
    have pb : p ≠ w.b.b := fun e => by rw [e, eb] at hp; cases hp
    have Fp : F p = none := by
      cases e : F p with
      | none => rfl
      | some o => rw [r.wd.sub _ _ e] at hp; cases hp
    refine ⟨env, F, _, r.step s0, h, fun dv v F1 H1 s1 r1 h1 => ?_⟩
    obtain ⟨F1', s1', a1⟩ := frz_ok s1 r1
    refine ⟨env, F1', _, (r.step s0).step s1', h1, fun dv2 v2 F2 H2 s2 r2 h2 => ?_⟩
    obtain ⟨F2', s2', a2⟩ := frz_ok s2 r2
    split at h2
    · next x y ex ey =>
      rw [ex] at a1
      rw [ey] at a2
      have s02 := s0.trans (s1'.trans s2')
      have e1 : H1 p = some (.dK []) := s1'.keep p _ pb (fun _ z => nomatch z) upd_same
      have e2 : H2 p = some (.dK []) := s2'.keep p _ pb (fun _ z => nomatch z) e1
      have f2 : F2' p = none := (s1'.trans s2').new p Fp (by rw [upd_same]; exact fun z => nomatch z)
      refine ⟨e2, [(Sum.inl i, v), (Sum.inl j, v2)], rfl, by simp, ?_⟩
      rw [hm]
      have st : Stp X.K w.b F H F2' (upd H2 p (.dK [(Sum.inl i, v), (Sum.inl j, v2)])) := ⟨fun a o ne nt ha => by
          rw [upd_ne (ne_of_none ha hp)]
          exact s02.keep a o ne nt ha, s02.bag.up (fun _ _ h => h) (upd_ne (Ne.symm pb)) (fun t _ h1 h2 => ⟨h1, by obtain ⟨ps, z, k⟩ := h2; exact ⟨ps, by rw [upd_ne (fun e => by rw [e, e2] at z; cases z)]; exact z, k⟩⟩), s02.ex, fun a o ha => by
          rw [upd_ne (ne_of_none ha f2)]
          exact s02.sub a o ha, s02.fb, s02.new, fun a ps ne ha => by
          obtain ⟨qs, h1, k⟩ := s02.tab a ps ne ha
          exact ⟨qs, by rw [upd_ne (ne_of_none ha hp)]; exact h1, k⟩⟩
      have fz := st.freezeT (S := [p]) (fun a m => by cases List.mem_singleton.mp m; exact ⟨hp, f2, pb⟩) (fun a m => by cases List.mem_singleton.mp m; exact ⟨_, upd_same, rfl⟩)
      have sm : Same F2' (opn [p] F2' (upd H2 p (.dK [(Sum.inl i, v), (Sum.inl j, v2)]))) := opn_same fun l m => by cases List.mem_singleton.mp m; exact f2
      refine q (.d (.dict [(.int i, x), (.int j, y)])) _ _ _ fz ?_ h2
      refine Rp.dct (kvs := [(Sum.inl i, v), (Sum.inl j, v2)]) (ks := [.int i, .int j]) (xs := [x, y]) ?_ (.cons (.int i) (.cons (.int j) .nil)) (.cons (Rp.up sm (Rp.up s2'.ex a1)) (.cons (Rp.up sm a2) .nil))
      unfold opn
      rw [if_pos (List.mem_singleton.mpr rfl)]
      exact upd_same
    · exact h2.elim
end
end Dl
namespace PySem.SeqAt
open PySem PySem.Calls
section
variable {prog : Program} {w : World}
theorem rc_lists_far {A : Around} {s : Shared} {l b : Addr} {items items2 : Array Value} (hl : s.heap.IsList l items) (hb : s.heap.IsList b items2) (hsz : (items.size != items2.size) = true) (hu : A.units < cLine)
    (E Q : Value → Shared → Prop) (h : Q (.bool false) s) : wpAny (model prog w) A (richCompare .Eq (.ref l) (.ref b)) Q E s := by
  obtain ⟨⟨c1, d1, e1, s1⟩, h1, k1, n1, f1⟩ := id hl
  obtain ⟨⟨c2, d2, e2, s2⟩, h2, k2, n2, f2⟩ := id hb
  simp only at k1 f1 k2 f2
  subst k1 f1 k2 f2
  have t1 : s.TypeIs (.ref l) "list" := ⟨_, h1, rfl⟩
  have t2 : s.TypeIs (.ref b) "list" := ⟨_, h2, rfl⟩
  exact wpAny_richCompare_same_room (op := .Eq) t1 t2 F.slot_list_eq (call_meets F.slot_list_eq t1 F.entry_list_eq (F.args_list_eq_2 _ _) (list_eq_lengthsAt l b items items2 n1 n2 d1 d2 s1 s2 hsz)
    ⟨h1, h2, show Value.bool false ≠ Value.notImplemented ∧ Q (.bool false) s from ⟨(fun x => nomatch x), h⟩⟩) hu
end
end PySem.SeqAt
namespace Dl
open PySem PySem.Spec PyProof.Rows L2
/-! ### xs == [] -/
def gEqN : G2 := fun x y P => match x, y with
  | .list xs, .list [] => P (.d (.bool xs.isEmpty))
  | _, _ => False
section
variable {X : Cx} {w : Wn}
theorem o_eqN (hu : X.A.units < cLine) : OpR X (compareOp .Eq) (lR X.K w.b gEqN) := by
  intro pins s σ H x y v u Q I rx ry h
  obtain ⟨F, dx, dy, P, wd, hx, hy, g, q⟩ := h
  unfold gEqN at g
  split at g
  · next xs =>
    obtain ⟨l, vs, rfl, e1, r1⟩ := hx.lst wd.sub
    obtain ⟨m, us, rfl, e2, r2⟩ := hy.lst wd.sub
    cases r2
    obtain rfl : v = .ref l := rx
    obtain rfl : u = .ref m := ry
    obtain ⟨its, ra, p1, _⟩ := I.list (SqL.of e1)
    obtain ⟨its2, rb, p2, _⟩ := I.list (SqL.of e2)
    cases rb
    have len : its.length = xs.length := by rw [← ra.length, r1.len]
    have fin := q _ (.bl xs.isEmpty) F H wd.refl (res_d (.bl _)) g
    cases xs with
    | nil =>
      have e0 : its = [] := List.eq_nil_of_length_eq_zero len
      subst e0
      exact SeqAt.rcP_lists (e := fun _ => true) p1.isList p2.isList rfl hu (fun j h1 h2 => absurd h1 (Nat.not_lt_zero j)) _ _ ⟨.bl true, H, I, rfl, fin⟩
    | cons x xs =>
      refine SeqAt.rc_lists_far p1.isList p2.isList ?_ hu _ _ ⟨.bl false, H, I, rfl, fin⟩
      rw [List.size_toArray, List.size_toArray, len]
      rfl
  · exact g.elim
end
end Dl
namespace Dl
open PySem PySem.Spec PyProof.Rows L2
/-! ### all(xs), xs a list of truth values -/
theorem RpA.ofBools {K : PySem.W.Frag} {F : Hp} : ∀ {vs : List V} {bs : List Bool}, RpA K F vs (bs.map PyData.bool) → vs = bs.map V.bl
  | _, [], .nil => rfl
  | _, b :: bs, .cons h t => by
    cases h
    rw [RpA.ofBools t]
    rfl
def cAll : GC := fun us P => one us fun u => rd u fun x => match x with
  | .list xs => ∃ bs : List Bool, xs = bs.map PyData.bool ∧ P (.d (.bool (bs.all id)))
  | _ => False
section
variable {X : Cx} {w : Wn}
theorem k_all (hc : X.calm = true) : CallR X (.builtin "all") (lC X.K w.b cAll) := by
  intro pins s σ H vs us Q I r h
  obtain ⟨F, dvs, P, wd, ar, g, q⟩ := h
  obtain ⟨u, v, rfl, a, g⟩ := one_ok ar g
  obtain ⟨x, hx, g⟩ := arr_rr a g
  split at g
  · obtain ⟨l, vs, rfl, e, r1⟩ := hx.lst wd.sub
    obtain ⟨bs, rfl, g⟩ := g
    obtain rfl := r1.ofBools
    exact cr_all hc pins s σ H _ us Q I r ⟨l, bs, rfl, SqL.of e, q _ _ F H wd.refl (res_d (.bl _)) g⟩
  · exact g.elim
end
/-! a target of three names in a comprehension -/
theorem tgt3 {K : PySem.W.Frag} (i j k : Nat) (hij : i ≠ j) (hik : i ≠ k) (hjk : j ≠ k) : Tgt K [i, j, k] (gtD 3 (gconsD (gnD i) (gconsD (gnD j) (gconsD (gnD k) gnilD)))) (gTup K 3 (gCons (gName i) (gCons (gName j) (gCons (gName k) gNil)))) :=
  ⟨fun b F₀ H₀ env σ F H v x kk Q r rx h q => by
    cases x with
    | tuple xs =>
      obtain ⟨hl, h⟩ := h
      match xs, hl, h with
      | [x, y, z], _, h =>
        cases rx with
        | tup e1 r1 =>
          cases r1 with
          | cons a1 t =>
            cases t with
            | cons a2 t =>
              cases t with
              | cons a3 t =>
                cases t
                obtain ⟨_, h⟩ := h
                refine ⟨_, _, rfl, sqt_up r.st.sub e1, rfl, _, _, rfl, _, _, rfl, _, _, rfl, rfl, q _ _ (((r.put i (z := .d x) ⟨_, rfl, a1⟩ ?_).put j (z := .d y) ⟨_, rfl, a2⟩ ?_).put k (z := .d z) ⟨_, rfl, a3⟩ ?_) ?_ h⟩
                · intro a m; cases m
                · intro a m; cases m
                · intro a m; cases m
                · show ((((((((σ.set k none).set j none).set i none).set i _).set j _).set k _).set k none).set j none).set i none = ((σ.set k none).set j none).set i none
                  rw [List.set_set, List.set_set]
                  refine List.ext_getElem? fun m => ?_
                  simp only [List.getElem?_set, List.length_set]
                  by_cases h1 : i = m
                  · subst h1; simp
                  · by_cases h2 : j = m
                    · subst h2; simp [h1]
                    · by_cases h3 : k = m
                      · subst h3; simp [h1, h2]
                      · simp [h1, h2, h3]
    | _ => exact h.elim⟩
end Dl
namespace Dl
open PySem PySem.Spec PyProof.Rows L2
/-! ### d[k], d a dict that is data -/
theorem rp_dK {K : PySem.W.Frag} {F : Hp} {v : V} {kvs : List (Key × PyData)} (h : Rp K F v (dK kvs)) : ∃ a us, v = .ref a ∧ F a = some (.dK us) ∧ KVp K F us kvs := by
  generalize hd : dK kvs = d at h
  cases h with
  | non => cases hd
  | bl b => cases hd
  | int i => cases hd
  | str x => cases hd
  | lst => cases hd
  | tup => cases hd
  | @dct a us ks xs h r q =>
    obtain ⟨e1, e2⟩ := zip_dK kvs (PyData.dict.inj hd).symm (by have a := r.len; have b := q.len; rw [List.length_map] at a b; omega)
    subst e1
    subst e2
    exact ⟨a, us, rfl, h, kvp_of r q⟩
  | obj =>
    exfalso
    have e := PyData.dict.inj hd
    cases kvs with
    | nil => cases e
    | cons p kvs =>
      have e2 := (Prod.mk.inj (List.cons.inj e).1).1
      cases hp : p.1 with
      | inl i => rw [hp] at e2; cases e2
      | inr z => rw [hp] at e2; cases e2
def tGetD (td te : DT) : DT := fun env P => td env fun u => te env fun z => ∃ kvs k x, u = .d (dK kvs) ∧ keyD z = some k ∧ lkD kvs k = some x ∧ P (.d x)
section
variable {X : Cx} {w : Wn} {o e : Expr} {td te : DT} {pos : Pos}
theorem d_getD (hu : X.A.units + 64 < cLine) (ho : DPE X w o td) (he : DPE X w e te) (hs : NoSl e) : DPE X w (.Subscript o e pos) (tGetD td te) :=
  pe_weak (pe_dget (by omega) ho he hs) fun σ H Q ⟨env, F, P, r, h, q⟩ => by
    refine ⟨env, F, _, r, h, fun dv v F1 H1 s1 r1 h1 => ?_⟩
    refine ⟨env, F1, _, r.step s1, h1, fun dv2 v2 F2 H2 s2 r2 h2 => ?_⟩
    obtain ⟨kvs, k, x, rfl, ek, lk, h2⟩ := h2
    obtain rfl := keyD_ok r2 ek
    obtain ⟨a, us, rfl, ha, kv⟩ := rp_dK (show Rp X.K F2 v (dK kvs) from Rp.up s2.ex r1)
    obtain ⟨v3, ev, rv⟩ := kv.some lk
    exact ⟨a, v3, rfl, by rw [← ev]; exact DGet.k (s2.sub _ _ ha), q (.d x) v3 F2 H2 (s1.trans s2) rv h2⟩
end
/-! ### {'a': x, 'b': y} as data -/
def tDict2S (i j : Str) (ta tb : DT) : DT := fun env P => ta env fun u => tb env fun v => match frz u, frz v with
  | .d x, .d y => P (.d (dK [(Sum.inr i, x), (Sum.inr j, y)]))
  | _, _ => False
section
variable {X : Cx} {w : Wn} {pos : Pos}
theorem d_dict2S {a b : Expr} {ta tb : DT} {i j : Str} {j1 j2} {p1 p2 : Pos} (ha : DPE X w a ta) (hb : DPE X w b tb) (hm : (i == j) = false := by decide +kernel) :
    DPE X w (.Dict [some (.Constant (.str i) j1 p1), some (.Constant (.str j) j2 p2)] [a, b] pos) (tDict2S i j ta tb) :=
  pe_weak (pe_disp (pps_cons pe_str ha (pps_cons pe_str hb pps_nil)) rfl rfl (by simp) (by simp)) fun σ H Q ⟨env, F, P, r, h, q⟩ => fun p hp => by
    have hne : i ≠ j := fun e => by rw [e] at hm; simp at hm
    have mk : ∀ u v : V, mergeK [] [(Sum.inr i, u), (Sum.inr j, v)] = [(Sum.inr i, u), (Sum.inr j, v)] := fun u v => by
      simp [mergeK, putK, hne]
    have s0 := r.wd.laidM (o := .dK []) hp
    obtain ⟨bs, eb⟩ := r.wd.bag.lst
    have pb : p ≠ w.b.b := fun e => by rw [e, eb] at hp; cases hp
    have Fp : F p = none := by
      cases e : F p with
      | none => rfl
      | some o => rw [r.wd.sub _ _ e] at hp; cases hp
    refine ⟨env, F, _, r.step s0, h, fun dv v F1 H1 s1 r1 h1 => ?_⟩
    obtain ⟨F1', s1', a1⟩ := frz_ok s1 r1
    refine ⟨env, F1', _, (r.step s0).step s1', h1, fun dv2 v2 F2 H2 s2 r2 h2 => ?_⟩
    obtain ⟨F2', s2', a2⟩ := frz_ok s2 r2
    split at h2
    · next x y ex ey =>
      rw [ex] at a1
      rw [ey] at a2
      have s02 := s0.trans (s1'.trans s2')
      have e1 : H1 p = some (.dK []) := s1'.keep p _ pb (fun _ z => nomatch z) upd_same
      have e2 : H2 p = some (.dK []) := s2'.keep p _ pb (fun _ z => nomatch z) e1
      have f2 : F2' p = none := (s1'.trans s2').new p Fp (by rw [upd_same]; exact fun z => nomatch z)
      refine ⟨e2, [(Sum.inr i, v), (Sum.inr j, v2)], rfl, by simp, ?_⟩
      rw [mk]
      have st : Stp X.K w.b F H F2' (upd H2 p (.dK [(Sum.inr i, v), (Sum.inr j, v2)])) := ⟨fun a o ne nt ha => by
          rw [upd_ne (ne_of_none ha hp)]
          exact s02.keep a o ne nt ha, s02.bag.up (fun _ _ h => h) (upd_ne (Ne.symm pb)) (fun t _ h1 h2 => ⟨h1, by obtain ⟨ps, z, k⟩ := h2; exact ⟨ps, by rw [upd_ne (fun e => by rw [e, e2] at z; cases z)]; exact z, k⟩⟩), s02.ex, fun a o ha => by
          rw [upd_ne (ne_of_none ha f2)]
          exact s02.sub a o ha, s02.fb, s02.new, fun a ps ne ha => by
          obtain ⟨qs, h1, k⟩ := s02.tab a ps ne ha
          exact ⟨qs, by rw [upd_ne (ne_of_none ha hp)]; exact h1, k⟩⟩
      have fz := st.freezeT (S := [p]) (fun a m => by cases List.mem_singleton.mp m; exact ⟨hp, f2, pb⟩) (fun a m => by cases List.mem_singleton.mp m; exact ⟨_, upd_same, rfl⟩)
      have sm : Same F2' (opn [p] F2' (upd H2 p (.dK [(Sum.inr i, v), (Sum.inr j, v2)]))) := opn_same fun l m => by cases List.mem_singleton.mp m; exact f2
      refine q (.d (dK [(Sum.inr i, x), (Sum.inr j, y)])) _ _ _ fz ?_ h2
      refine Rp.dct (kvs := [(Sum.inr i, v), (Sum.inr j, v2)]) (ks := [.str i, .str j]) (xs := [x, y]) ?_ (.cons (.str i) (.cons (.str j) .nil)) (.cons (Rp.up sm (Rp.up s2'.ex a1)) (.cons (Rp.up sm a2) .nil))
      unfold opn
      rw [if_pos (List.mem_singleton.mpr rfl)]
      exact upd_same
    · exact h2.elim
end
end Dl
namespace Dl
open PySem PySem.Spec PyProof.Rows L2
/-! ### zip(a, b) of two tuples -/
theorem wlk_zipT {K : PySem.W.Frag} {b : Bg} {F : Hp} {a c : Addr} {vs us : List V} {xs ys : List PyData} (h : SqT K F a vs) (r : RpA K F vs xs) (h2 : SqT K F c us) (r2 : RpA K F us ys) : Wlk K b F (RZ.ItzT K a c) (zipD xs ys) :=
  ⟨⟨fun H => SqT K H a vs ∧ SqT K H c us, YPair (fun i => vs[i]?) (fun i => us[i]?), ⟨fun i H hi q => by
      have hl : i < vs.length ∧ i < us.length := by
        have : (zipD xs ys).length = min xs.length ys.length := by simp [zipD]
        rw [r.len, r2.len]
        omega
      exact ⟨vs, us, vs[i], us[i], q.1, q.2, List.getElem?_eq_getElem hl.1, List.getElem?_eq_getElem hl.2⟩, fun H q => ⟨vs, us, q.1, q.2, by
        have : (zipD xs ys).length = min xs.length ys.length := by simp [zipD]
        rw [r.len, r2.len]
        omega⟩, fun i H v H2 hi q y => by
      obtain ⟨T, x, z, e1, hT, e2, hx, hy⟩ := y
      exact ⟨T, x, z, e1, hT, e2, hx vs q.1, hy us q.2⟩⟩, fun F' H' s w => ⟨sqt_up w.sub (sqt_up s h), sqt_up w.sub (sqt_up s h2)⟩, fun i F' H' v H2 s w y => by
    obtain ⟨T, x, y, rfl, hT, rfl, e1, e2⟩ := y
    obtain ⟨z1, e3, r3⟩ := r.getV e1
    obtain ⟨z2, e4, r4⟩ := r2.getV e2
    obtain ⟨F2, st, rp⟩ := pair_new w hT (r3.up s) (r4.up s)
    refine ⟨F2, _, st, ?_, rp⟩
    unfold zipD
    have e5 : (xs.zip ys)[i]? = some (z1, z2) := List.getElem?_zip_eq_some.mpr ⟨e3, e4⟩
    rw [List.getElem?_map, e5]
    rfl⟩⟩
def itZipT (ta : DA) : DIt := fun env P => ta env fun us => allD us fun xs => match xs with
  | [.tuple ys, .tuple zs] => P (zipD ys zs)
  | _ => False
theorem di_zipT {X : Cx} {w : Wn} {ta : DA} {p pos tpos : Pos} {a c : Expr} {elts : List Expr} {kk : Nat} (gl : Gl X "zip") (gm : X.mg "zip" = none) (ha : DPA X w [a, c] ta) (hs : starEach [a, c] X.env = (false, eval a X.env) :: starEach [c] X.env := by rfl) (hpl : (backTo pos (starEach [c] X.env)).any (·.1) = false := by rfl) :
    PI X (.Tuple elts kk tpos) (.Call (.Name "zip" p) [a, c] [] pos) (lfI X.K w (itZipT ta)) :=
  pi_weak (RZ.pi_zipA gl gm ha hs hpl) fun σ H R ⟨env, F, P, r, h, q⟩ => ⟨env, F, _, r, h, fun dvs vs F1 H1 s1 r1 h1 => by
    obtain ⟨xs, ra, h1⟩ := allD_ok r1 h1
    split at h1
    · next ys zs =>
      cases ra with
      | cons a1 t =>
        cases t with
        | cons a2 t =>
          cases t
          cases a1 with
          | tup e1 r2 =>
            cases a2 with
            | tup e3 r4 => exact ⟨_, _, _, _, rfl, .inr ⟨sqt_up s1.sub e1, sqt_up s1.sub e3, q _ _ F1 H1 s1 (wlk_zipT e1 r2 e3 r4) h1⟩⟩
    · exact h1.elim⟩
end Dl
/-! sets of tuples whose items are keys of any one kind: how many stand in one -/
namespace Dl
open PySem PySem.Spec PyProof.Rows L2
section
variable {P : Program} {w : World} {κ : Type} [DecidableEq κ] (kd : KeyKind P w κ)
/-- items that no search shows, and whose hash may be asked -/
structure Tame : Prop where
  cls : ∀ k v, kd.is k v = true → ∀ n, ofAClassStatement n v = pure false
  hbv : ∀ k v, kd.is k v = true → ∀ n, ∃ b, hashByValue n v = pure b
theorem tame_mix : Tame (mixKind P w) := by
  constructor
  · intro k v h n
    rcases keyIs_shape h with ⟨_, _, _, rfl⟩ | ⟨_, _, _, rfl⟩ <;> cases n <;> rfl
  · intro k v h n
    rcases keyIs_shape h with ⟨_, _, _, rfl⟩ | ⟨_, _, _, rfl⟩ <;> cases n <;> exact ⟨_, rfl⟩
def ent (p : List κ × Addr) : Int × Value := (tupleKeyHash kd p.1, .ref p.2)
variable {kd}
theorem itm_of {ks : List κ} {vs : List Value} (h : ItemsAre kd ks vs) : ∀ v ∈ vs, ∃ k, kd.is k v = true := by
  induction h with
  | nil => exact fun v hv => absurd hv List.not_mem_nil
  | cons h _ ih => exact fun v hv => (List.mem_cons.mp hv).elim (fun e => ⟨_, e ▸ h⟩) (ih v)
variable {A : Around} {E : Value → Shared → Prop} {s : Shared}
theorem tk_cls (T : Tame kd) {k : List κ} {b : Addr} {Q : Bool → Shared → Prop} (hk : IsTupleKey kd s.heap k b) (h : Q false s) : wpAny (model P w) A (ofAClassStatement 8 (.ref b)) Q E s := by
  have ty := hk.typeIs
  obtain ⟨o, items, n, ho, _, hd, hi⟩ := hk
  have all : ∀ v ∈ items.toList, ofAClassStatement 7 v = pure false := fun v hv => (itm_of hi v hv).elim fun k hk => T.cls k v hk 7
  unfold ofAClassStatement
  refine wpAny_bind (wpAny_typeOf ty ?_)
  have e : (("tuple" : String) == "tuple") = true := by decide
  simp only [e, if_true, Bool.not_true, Bool.false_eq_true, if_false, pure_bind]
  refine wpAny_bind (wpAny_seqItems ho hd (wpAny_bind ?_))
  rw [← Array.forIn_toList]
  refine wpAny_forIn_list _ (fun l r t => (r.1 = none ∧ t = s) ∧ ∀ v ∈ l, ofAClassStatement 7 v = pure false) _ (fun v l r t ⟨⟨e1, e2⟩, al⟩ => ?_) (fun r t ⟨⟨e1, e2⟩, _⟩ => ?_) _ _ ⟨⟨rfl, rfl⟩, all⟩
  · subst e2
    rw [al v List.mem_cons_self, pure_bind]
    exact wpAny_pure ⟨⟨rfl, rfl⟩, fun u hu => al u (List.mem_cons_of_mem _ hu)⟩
  · subst e2
    obtain ⟨r1, r2⟩ := r
    cases e1
    exact wpAny_pure h
theorem tk_hbv (T : Tame kd) {k : List κ} {b : Addr} {Q : Bool → Shared → Prop} (hk : IsTupleKey kd s.heap k b) (h : ∀ c, Q c s) : wpAny (model P w) A (hashByValue 8 (.ref b)) Q E s := by
  have ty := hk.typeIs
  obtain ⟨o, items, n, ho, _, hd, hi⟩ := hk
  have all : ∀ v ∈ items.toList, ∃ b, hashByValue 7 v = pure b := fun v hv => (itm_of hi v hv).elim fun k hk => T.hbv k v hk 7
  unfold hashByValue
  refine wpAny_bind (wpAny_specialOf ty F.slot_tuple_hash.lookup ?_)
  refine wpAny_bind (wpAny_seqItems ho hd (wpAny_bind ?_))
  simp only [Option.getD_some]
  rw [← Array.forIn_toList]
  refine wpAny_forIn_list _ (fun l r t => (r.1 = none ∧ t = s) ∧ ∀ v ∈ l, ∃ b, hashByValue 7 v = pure b) _ (fun v l r t ⟨⟨e1, e2⟩, al⟩ => ?_) (fun r t ⟨⟨e1, e2⟩, _⟩ => ?_) _ _ ⟨⟨rfl, rfl⟩, all⟩
  · subst e2
    obtain ⟨b, eb⟩ := al v List.mem_cons_self
    rw [eb, pure_bind]
    cases b with
    | true => exact wpAny_pure ⟨⟨rfl, rfl⟩, fun u hu => al u (List.mem_cons_of_mem _ hu)⟩
    | false => exact wpAny_pure (wpAny_pure (h false))
  · subst e2
    obtain ⟨r1, r2⟩ := r
    cases e1
    exact wpAny_pure (h true)
theorem tk_seen (T : Tame kd) {k : List κ} {b : Addr} {Q : Bool → Shared → Prop} (hk : IsTupleKey kd s.heap k b) {ys : List Value} (hy : ∀ y ∈ ys, ∃ k' c, y = Value.ref c ∧ IsTupleKey kd s.heap k' c) (h : Q false s) :
    wpAny (model P w) A (searchCouldBeSeen (.ref b) ys) Q E s := by
  unfold searchCouldBeSeen
  refine wpAny_bind (wpAny_forIn_list _ (fun l r t => (r.1 = none ∧ t = s) ∧ ∀ y ∈ l, ∃ k' c, y = Value.ref c ∧ IsTupleKey kd s.heap k' c) _ (fun v l r t ⟨⟨e1, e2⟩, al⟩ => ?_) (fun r t ⟨⟨e1, e2⟩, _⟩ => ?_) _ _ ⟨⟨rfl, rfl⟩, hy⟩)
  · subst e2
    have al2 : ∀ u ∈ l, ∃ k' c, u = Value.ref c ∧ IsTupleKey kd t.heap k' c := fun u hu => al u (List.mem_cons_of_mem _ hu)
    obtain ⟨k', c, rfl, hc⟩ := al v List.mem_cons_self
    by_cases q : (b == c || (carriedByValue (.ref b) && carriedByValue (.ref c))) = true
    · exact wp_if_pos q (wpAny_pure ⟨⟨rfl, rfl⟩, al2⟩)
    · refine wp_if_neg q (wpAny_bind (wpAny_eqIsQuiet_tuple hk ?_))
      simp only [Bool.not_true, Bool.false_eq_true, if_false]
      refine wpAny_bind (wpAny_eqIsQuiet_tuple hc ?_)
      simp only [Bool.not_true, Bool.false_eq_true, if_false]
      refine wpAny_bind (tk_cls T hk ?_)
      simp only [Bool.false_eq_true, if_false]
      refine wpAny_bind (tk_cls T hc ?_)
      simp only [Bool.false_eq_true, if_false]
      exact wpAny_pure ⟨⟨rfl, rfl⟩, al2⟩
  · subst e2
    obtain ⟨r1, r2⟩ := r
    cases e1
    exact wpAny_pure h
/-! ### such a set -/
variable (kd) in
structure KSet (h : Heap) (a : Addr) (L : List (List κ × Addr)) (es : Array (Int × Value)) (ep : Nat) (t : SetTable) : Prop where
  here : ∃ o, h.get? a = some o ∧ o.ExactSet ∧ o.data = .set es ep t
  ents : es.toList = L.map (ent kd)
  tabk : TabOk t (L.map fun p => tupleKeyHash kd p.1)
  dist : (L.map Prod.fst).Nodup
  isk : ∀ p ∈ L, IsTupleKey kd h p.1 p.2
  follow : w.params.followText "set-order" = true ∨ t.led = true
  room : 5 * L.length < 3 * t.mask
  few : L.length < 64
variable {a : Addr} {L : List (List κ × Addr)} {es : Array (Int × Value)} {ep : Nat} {t : SetTable}
theorem ents_size (h : es.toList = L.map (ent kd)) : es.size = L.length := by
  rw [← Array.length_toList, h, List.length_map]
theorem ents_at (h : es.toList = L.map (ent kd)) {i : Nat} {p : List κ × Addr} (hp : L[i]? = some p) : es[i]? = some (ent kd p) := by
  rw [← Array.getElem?_toList, h, List.getElem?_map, hp]
  rfl
theorem tab_fits {hs : List Int} {n : Nat} (T : TabOk t hs) (hn : hs.length = n) (hm : n ≤ t.mask) : t.fits n = true := by
  have z : t.place.size = n := T.sz.trans hn
  unfold SetTable.fits SetTable.fill
  rw [T.dm, Bool.and_eq_true, beq_iff_eq, decide_eq_true_eq, z]
  exact ⟨rfl, hm⟩
theorem KSet.fits {h : Heap} (S : KSet kd h a L es ep t) : t.fits es.size = true := by
  have r := S.room
  rw [ents_size S.ents]
  exact tab_fits S.tabk (List.length_map ..) (by omega)
theorem KSet.state (S : KSet kd s.heap a L es ep t) {Q : (Array (Int × Value) × Nat × SetTable) → Shared → Prop} (h : Q (es, ep, t) s) : wpAny (model P w) A (setState a) Q E s := by
  obtain ⟨o, ho, _, hd⟩ := S.here
  exact wpAny_setState_of ho hd S.fits h
/-- the c-th step of the way of a hash -/
abbrev stp (m : Nat) (h : Int) (c : Nat) : SetTable.Probe := nth m (runAt m (SetTable.bits h % (m + 1)) (SetTable.bits h)) c
theorem stp_add (m : Nat) (h : Int) (c q : Nat) : nth m (stp m h c) q = stp m h (c + q) := (nth_add m c _ q).symm
theorem nth_clean (m : Nat) : ∀ (n : Nat) (p : SetTable.Probe), p.dummy = none → (nth m p n).dummy = none
  | 0, _, h => h
  | n + 1, p, h => nth_clean m n (adv m p) (by unfold adv; split <;> exact h)
theorem KSet.quiet (T : Tame kd) (S : KSet kd s.heap a L es ep t) {x : Addr} {k : List κ} (hx : IsTupleKey kd s.heap k x) {m : Sem SetFound} {Q : SetFound → Shared → Prop} (h : wpAny (model P w) A m Q E s) :
    wpAny (model P w) A (do
      if !t.led then
        if ← searchCouldBeSeen (.ref x) ((es.filter (·.1 == tupleKeyHash kd k)).toList.map (·.2)) then unsupported "set:the-search-would-show-the-table"
      m) Q E s := by
  cases hl : t.led with
  | true =>
    simp only [Bool.not_true, Bool.false_eq_true, if_false, pure_bind]
    exact h
  | false =>
    simp only [Bool.not_false, if_true]
    refine wpAny_bind (tk_seen T hx (fun y hy => ?_) ?_)
    · obtain ⟨e, he, rfl⟩ := List.mem_map.mp hy
      have me : e ∈ es := (Array.mem_filter.mp (Array.mem_toList_iff.mp he)).1
      have me2 : e ∈ es.toList := Array.mem_toList_iff.mpr me
      rw [S.ents] at me2
      obtain ⟨p, hp, rfl⟩ := List.mem_map.mp me2
      exact ⟨p.1, p.2, rfl, S.isk p hp⟩
    · simp only [Bool.false_eq_true, if_false]
      exact h
/-- the search, from the c-th step on; n steps are left -/
theorem find_from (T : Tame kd) (S : KSet kd s.heap a L es ep t) {x : Addr} {k : List κ} (hx : IsTupleKey kd s.heap k x) (hu : A.units < cLine) {N : Nat} (hN : N < 10 * SetTable.turns t.mask)
    (free : way t.mask (tupleKeyHash kd k) N ∉ t.place.toList) (full : ∀ c, c < N → way t.mask (tupleKeyHash kd k) c ∈ t.place.toList) {Q : SetFound → Shared → Prop}
    (yes : k ∈ L.map Prod.fst → Q (.there none) s) (no : k ∉ L.map Prod.fst → Q (.free (way t.mask (tupleKeyHash kd k) N) false) s) :
    ∀ (n c f : Nat) (st : Option SetTable.Probe), n + c = N → n < f → st.getD (t.probeStart (tupleKeyHash kd k)) = stp t.mask (tupleKeyHash kd k) c →
      (∀ (i : Nat) p, L[i]? = some p → p.1 = k → ∃ b, c ≤ b ∧ b < N ∧ t.place.toList[i]? = some (way t.mask (tupleKeyHash kd k) b)) →
      wpAny (model P w) A (setSearchFrom a (.ref x) (tupleKeyHash kd k) true f st) Q E s := by
  intro n
  induction n using Nat.strongRecOn with
  | ind n ih =>
    intro c f st hn hf hst ahead
    obtain ⟨f, rfl⟩ : ∃ g, f = g + 1 := ⟨f - 1, by omega⟩
    have odd : ¬ t.gaveWay = true := by
      unfold SetTable.gaveWay
      rw [mask_odd S.tabk.mok]
      decide
    have hAt : ∀ (i : Nat) p, L[i]? = some p → (es[i]?.map (·.1)).getD 0 = tupleKeyHash kd p.1 := fun i p hp => by
      rw [ents_at S.ents hp]
      rfl
    have wj : ∀ q, (nth t.mask (stp t.mask (tupleKeyHash kd k) c) q).j = way t.mask (tupleKeyHash kd k) (c + q) := fun q => congrArg SetTable.Probe.j (stp_add ..)
    have fin : way t.mask (tupleKeyHash kd k) (c + n) = way t.mask (tupleKeyHash kd k) N := by rw [Nat.add_comm c n, hn]
    rw [setSearchFrom_succ]
    refine wpAny_bind (S.state ?_)
    show wpAny _ _ (if _ then _ else _) _ _ _
    rw [if_neg odd]
    simp only [pure_bind]
    rw [hst]
    unfold SetTable.probe
    rcases go_spec t S.tabk.ris S.tabk.dm (fun i => (es[i]?.map (·.1)).getD 0) (tupleKeyHash kd k) (10 * SetTable.turns t.mask) n (stp t.mask (tupleKeyHash kd k) c) (nth_clean _ _ _ rfl) (by omega)
      (fun q hq => by rw [wj]; exact full _ (by omega)) (by rw [wj, fin]; exact free) with ⟨q, i, hq, hi, hh, hno, hpr⟩ | ⟨hno, hpr⟩
    · -- one of this hash
      rw [hpr]
      rw [wj] at hi
      have li : i < L.length := by
        have z := (List.getElem?_eq_some_iff.mp hi).1
        rwa [Array.length_toList, S.tabk.sz, List.length_map] at z
      obtain ⟨p, hp⟩ : ∃ p, L[i]? = some p := ⟨_, List.getElem?_eq_getElem li⟩
      have mp := List.mem_of_getElem? hp
      show wpAny _ _ (do
        if !t.led then
          if ← searchCouldBeSeen (.ref x) ((es.filter (·.1 == tupleKeyHash kd k)).toList.map (·.2)) then unsupported "set:the-search-would-show-the-table"
        searchRest a (.ref x) (tupleKeyHash kd k) true f es t _ i _) _ _ _
      refine S.quiet T hx ?_
      unfold searchRest
      rw [ents_at S.ents hp]
      refine wpAny_bind (wpAny_holding (wpAny_eqBool_tuple hu (S.isk p mp) hx (wpAny_bind (S.state ?_))))
      by_cases same : p.1 = k
      · exact wp_if_pos (by simp [same]) (wpAny_pure (yes (List.mem_map.mpr ⟨p, mp, same⟩)))
      · refine wp_if_neg (by simp [same]) ?_
        have live : t.slot (way t.mask (tupleKeyHash kd k) (c + q)) = .live i := slot_live S.tabk.ris hi
        simp only [pure_bind, sameMem, if_true, wj, live, ents_at S.ents hp]
        refine wpAny_bind (wpAny_isSame_ref_self ?_)
        simp only [if_true]
        refine wp_if_neg (by simp [same]) (ih (n - q - 1) (by omega) (c + (q + 1)) f _ (by omega) (by omega) (stp_add ..) fun i0 p0 h0 e0 => ?_)
        obtain ⟨b, b1, b2, b3⟩ := ahead i0 p0 h0 e0
        refine ⟨b, ?_, b2, b3⟩
        rcases Nat.lt_trichotomy b (c + q) with z | z | z
        · exact absurd (by rw [hAt i0 p0 h0, e0]) (hno (b - c) i0 (by omega) (by rw [wj, show c + (b - c) = b by omega]; exact b3))
        · rw [z] at b3
          have u := slot_live S.tabk.ris b3
          rw [live] at u
          cases u
          rw [hp] at h0
          cases h0
          exact absurd e0 same
        · omega
    · -- an empty place
      rw [hpr, wj, fin]
      refine wpAny_pure (no fun hm => ?_)
      obtain ⟨p, mp, same⟩ := List.mem_map.mp hm
      obtain ⟨i, hi⟩ := List.mem_iff_getElem?.mp mp
      obtain ⟨b, b1, b2, b3⟩ := ahead i p hi same
      refine hno (b - c) i (by omega) (by rw [wj, show c + (b - c) = b by omega]; exact b3) ?_
      rw [hAt i p hi, same]
theorem find_at (T : Tame kd) (S : KSet kd s.heap a L es ep t) {x : Addr} {k : List κ} (hx : IsTupleKey kd s.heap k x) (hu : A.units < cLine) {Q : SetFound → Shared → Prop} (yes : k ∈ L.map Prod.fst → Q (.there none) s)
    (no : ∀ N, k ∉ L.map Prod.fst → way t.mask (tupleKeyHash kd k) N ∉ t.place.toList → (∀ c, c < N → way t.mask (tupleKeyHash kd k) c ∈ t.place.toList) → Q (.free (way t.mask (tupleKeyHash kd k) N) false) s) :
    wpAny (model P w) A (setSearch a (.ref x) (tupleKeyHash kd k) true) Q E s := by
  have r := S.room
  obtain ⟨N, hN, free, full⟩ := S.tabk.first (by rw [List.length_map]; omega) (tupleKeyHash kd k)
  have small : 10 * SetTable.turns t.mask ≤ 2000 := by
    unfold SetTable.turns
    rcases S.tabk.mok with e | e | e <;> omega
  unfold setSearch
  refine find_from T S hx hu hN free full yes (fun h => no N h free full) N 0 _ none (Nat.add_zero N) (by omega) rfl fun i p hi e => ?_
  have h1 : (L.map fun p => tupleKeyHash kd p.1)[i]? = some (tupleKeyHash kd k) := by
    rw [List.getElem?_map, hi, ← e]
    rfl
  have h2 : i < t.place.toList.length := by
    rw [Array.length_toList, S.tabk.sz, List.length_map]
    exact (List.getElem?_eq_some_iff.mp hi).1
  obtain ⟨b, hb, eb⟩ := S.tabk.before free h1 (List.getElem?_eq_getElem h2)
  exact ⟨b, Nat.zero_le _, hb, by rw [List.getElem?_eq_getElem h2, eb]⟩
/-! ### one more in it -/
theorem isk_but {h h' : Heap} {k : List κ} {b : Addr} {o : Obj} (hb : IsTupleKey kd h k b) (ho : h.get? a = some o) (hd : o.data = .set es ep t) (hs : Heap.SameBut a h h') : IsTupleKey kd h' k b := by
  obtain ⟨u, items, n, hu, hc, hz, hi⟩ := hb
  refine ⟨u, items, n, (hs.2 b fun e => ?_).trans hu, hc, hz, hi⟩
  rw [e, ho] at hu
  cases hu
  rw [hd] at hz
  cases hz
/-- what a table laid anew holds -/
theorem laid_ents {order : Array Nat} (h : es.toList = L.map (ent kd)) (hp : order.toList.Perm (List.range L.length)) :
    ∃ M : List (List κ × Addr), M.Perm L ∧ (order.filterMap (es[·]?)).toList = M.map (ent kd) ∧ (order.toList.map fun i => (es.map (·.1)).getD i 0) = M.map fun p => tupleKeyHash kd p.1 := by
  have one : ∀ l : List Nat, (∀ i ∈ l, i < L.length) → (l.filterMap fun i => es[i]?) = (l.filterMap fun i => L[i]?).map (ent kd) ∧ (l.map fun i => (es.map (·.1)).getD i 0) = (l.filterMap fun i => L[i]?).map fun p => tupleKeyHash kd p.1 := by
    intro l
    induction l with
    | nil => exact fun _ => ⟨rfl, rfl⟩
    | cons i l ih =>
      intro hl
      obtain ⟨i1, i2⟩ := ih fun j hj => hl j (List.mem_cons_of_mem _ hj)
      have il : i < L.length := hl i List.mem_cons_self
      have e0 := List.getElem?_eq_getElem il
      have e1 := ents_at h e0
      have e2 : (es.map (·.1)).getD i 0 = tupleKeyHash kd L[i].1 := by
        rw [Array.getD_eq_getD_getElem?, Array.getElem?_map, e1]
        rfl
      rw [List.filterMap_cons_some e1, List.filterMap_cons_some e0, List.map_cons, List.map_cons, List.map_cons, i1, i2, e2]
      exact ⟨rfl, rfl⟩
  have all : ∀ n, n ≤ L.length → ((List.range n).filterMap fun i => L[i]?) = L.take n := by
    intro n
    induction n with
    | zero => exact fun _ => rfl
    | succ n ih =>
      intro hn
      have e0 := List.getElem?_eq_getElem (show n < L.length from hn)
      rw [List.range_succ, List.filterMap_append, ih (by omega), List.take_succ, e0, List.filterMap_cons_some e0]
      rfl
  obtain ⟨o1, o2⟩ := one order.toList fun i hi => List.mem_range.mp (hp.mem_iff.mp hi)
  refine ⟨order.toList.filterMap fun i => L[i]?, ?_, ?_, o2⟩
  · have p := hp.filterMap fun i => L[i]?
    rw [all _ (Nat.le_refl _), List.take_length] at p
    exact p
  · rw [Array.toList_filterMap]
    exact o1
theorem lay_anew {o : Obj} (ho : s.heap.get? a = some o) (hex : o.ExactSet) (hd : o.data = .set es ep t) (he : es.toList = L.map (ent kd)) {hs : List Int} (T : TabOk t hs) (hl : hs.length = L.length) (hm : L.length ≤ t.mask) (dist : (L.map Prod.fst).Nodup)
    (isk : ∀ p ∈ L, IsTupleKey kd s.heap p.1 p.2) (fol : w.params.followText "set-order" = true ∨ t.led = true) (few : L.length < 64) {want M : Nat} (hw : SetTable.sizeAbove want - 1 = M) (hM : MaskOk M) (hw2 : SetTable.sizeAbove want ≤ 128) (room : 5 * L.length < 3 * M)
    {Q : Unit → Shared → Prop} (q : ∀ h' L' es' ep' t', Heap.SameBut a s.heap h' → KSet kd h' a L' es' ep' t' → L'.Perm L → Q () { s with heap := h' }) : wpAny (model P w) A (setRelay a want) Q E s := by
  have sz := ents_size he
  obtain ⟨t', order, e, hp, T', em, el, _, _⟩ := relaid_ok t (hs := es.map (·.1)) (wanted := want) hw hM (by rw [Array.size_map, sz]; omega)
  rw [Array.size_map, sz] at hp
  obtain ⟨L', pm, r1, r2⟩ := laid_ents he hp
  rw [r2] at T'
  have sz' : (order.filterMap (es[·]?)).size = es.size := by rw [ents_size r1, pm.length_eq, sz]
  rw [setRelay_eq]
  refine wpAny_bind (wpAny_setState_of ho hd (by rw [sz]; exact tab_fits T hl hm) ?_)
  refine wp_if_neg (by rw [sizeLine_eq]; omega) ?_
  simp only [pure_bind, e]
  refine wpAny_bind (wp_if_neg (by rw [sz']; simp) (wpAny_pure ?_))
  have ld : es.size ≤ sizeLine := by rw [sz, sizeLine_eq]; omega
  refine wpAny_storeSet_of ho hd ?_ (by rw [sz']; exact ld)
  have sb : Heap.SameBut a s.heap (s.heap.update a (Obj.putSet (order.filterMap (es[·]?)) t')) := .update ..
  refine q _ L' _ _ t' sb ⟨⟨_, store_at ho hd, ⟨hex.1, hex.2.1, hex.2.2⟩, rfl⟩, r1, T', ?_, fun p hp => isk_but (isk p (pm.mem_iff.mp hp)) ho hd sb, by rw [el]; exact fol, ?_, by rw [pm.length_eq]; exact few⟩ pm
  · exact (pm.map Prod.fst).nodup_iff.mpr dist
  · rw [pm.length_eq, em]
    exact room
theorem add_key (T : Tame kd) (S : KSet kd s.heap a L es ep t) {x : Addr} {k : List κ} (hx : IsTupleKey kd s.heap k x) (hu : A.units < cLine) (more : L.length + 1 < 64) {Q : Bool → Shared → Prop}
    (q : ∀ b h' L' es' ep' t', Heap.SameBut a s.heap h' → KSet kd h' a L' es' ep' t' → (k ∈ L.map Prod.fst → L' = L) → (k ∉ L.map Prod.fst → L'.Perm ((k, x) :: L)) → Q b { s with heap := h' }) :
    wpAny (model P w) A (setAddHashed a (.ref x) (tupleKeyHash kd k)) Q E s := by
  have r := S.room
  have sz := ents_size S.ents
  obtain ⟨o, ho, hex, hd⟩ := S.here
  unfold setAddHashed
  refine wpAny_holding ?_
  rw [show (100000 : Nat) = 99999 + 1 from rfl, setAddHashedIn_succ]
  refine wpAny_bind (S.state ?_)
  refine wp_if_neg (by simp [byScan, Value.scannable]) ?_
  simp only [pure_bind]
  refine wpAny_bind (find_at T S hx hu (fun hm => wpAny_pure (q false _ L es ep t (.refl a s.heap) S (fun _ => rfl) fun z => absurd hm z)) fun N hm free full => ?_)
  refine wpAny_bind (S.state ?_)
  obtain ⟨q1, q2, q3, q4, q5, _, _, _, q9⟩ := S.tabk.put free full
  have inn : (SetTable.insertAt es (SetTable.below t.place (way t.mask (tupleKeyHash kd k) N)) (tupleKeyHash kd k, Value.ref x)).toList = (L.take (SetTable.below t.place (way t.mask (tupleKeyHash kd k) N)) ++ (k, x) :: L.drop (SetTable.below t.place (way t.mask (tupleKeyHash kd k) N))).map (ent kd) := by
    rw [SetTable.toList_insertAt, List.map_append, List.map_cons, List.map_take, List.map_drop, S.ents]
    rfl
  rw [List.length_map] at q2 q9
  generalize hpt : t.put (way t.mask (tupleKeyHash kd k) N) = pt at q1 q3 q4 q5 q9 ⊢
  obtain ⟨t1, p⟩ := pt
  dsimp only at q1 q3 q4 q5 q9 ⊢
  subst q1
  generalize SetTable.below t.place (way t.mask (tupleKeyHash kd k) N) = p at q2 q3 inn ⊢
  have pm : (L.take p ++ (k, x) :: L.drop p).Perm ((k, x) :: L) := put_perm L p (k, x)
  have ln : (L.take p ++ (k, x) :: L.drop p).length = L.length + 1 := pm.length_eq
  have hh : (L.take p ++ (k, x) :: L.drop p).map (fun p => tupleKeyHash kd p.1) = (L.map fun p => tupleKeyHash kd p.1).take p ++ tupleKeyHash kd k :: (L.map fun p => tupleKeyHash kd p.1).drop p := by
    rw [List.map_append, List.map_cons, List.map_take, List.map_drop]
  rw [← hh] at q3
  generalize L.take p ++ (k, x) :: L.drop p = L1 at pm ln q3 inn
  generalize SetTable.insertAt es p (tupleKeyHash kd k, Value.ref x) = e1 at inn ⊢
  have sz1 : e1.size = L.length + 1 := (ents_size inn).trans ln
  have dist1 : (L1.map Prod.fst).Nodup := (pm.map Prod.fst).nodup_iff.mpr (List.nodup_cons.mpr ⟨hm, S.dist⟩)
  have dense : e1.size ≤ sizeLine := by rw [sz1, sizeLine_eq]; omega
  have fin : ∀ t2 : SetTable, t2.mask = t.mask → TabOk t2 (L1.map fun p => tupleKeyHash kd p.1) → t2.led = t.led → t2.fill = L.length + 1 → wpAny (model P w) A (do
      storeSet a e1 t2
      if (!false && t2.tooFull) = true then
        setRelay a (SetTable.grown (es.size + 1))
        pure true
      else pure true) Q E s := fun t2 m2 T2 l2 f2 => by
    refine wpAny_bind (wpAny_storeSet_of ho hd ?_ dense)
    have sb : Heap.SameBut a s.heap (s.heap.update a (Obj.putSet e1 t2)) := .update ..
    have ho1 := store_at (es' := e1) (t' := t2) ho hd
    generalize s.heap.update a (Obj.putSet e1 t2) = h1 at sb ho1 ⊢
    have isk1 : ∀ p ∈ L1, IsTupleKey kd h1 p.1 p.2 := fun p hp => by
      rcases List.mem_cons.mp (pm.mem_iff.mp hp) with rfl | hp
      · exact isk_but hx ho hd sb
      · exact isk_but (S.isk p hp) ho hd sb
    have fol1 : w.params.followText "set-order" = true ∨ t2.led = true := by rw [l2]; exact S.follow
    cases full2 : t2.tooFull with
    | false =>
      refine wp_if_neg (by simp) (wpAny_pure (q true h1 L1 e1 (ep + 1) t2 sb ⟨⟨_, ho1, ⟨hex.1, hex.2.1, hex.2.2⟩, rfl⟩, inn, T2, dist1, isk1, fol1, ?_, by rw [ln]; exact more⟩ (fun z => absurd z hm) fun _ => pm))
      unfold SetTable.tooFull at full2
      have := of_decide_eq_false full2
      rw [ln]
      omega
    | true =>
      refine wp_if_pos (by simp) (wpAny_bind ?_)
      unfold SetTable.tooFull at full2
      have big := of_decide_eq_true full2
      rw [f2, m2] at big
      have key : ∀ M, SetTable.sizeAbove (SetTable.grown (es.size + 1)) - 1 = M → MaskOk M → SetTable.sizeAbove (SetTable.grown (es.size + 1)) ≤ 128 → 5 * (L.length + 1) < 3 * M →
          wpAny (model P w) A (setRelay a (SetTable.grown (es.size + 1))) (fun _ s' => wpAny (model P w) A (pure true) Q E s') E { s with heap := h1 } := fun M g1 g2 g3 g4 => by
        refine lay_anew (s := { s with heap := h1 }) ho1 ⟨hex.1, hex.2.1, hex.2.2⟩ rfl inn T2 (List.length_map ..) (by rw [ln, m2]; omega) dist1 isk1 fol1 (by rw [ln]; exact more) g1 g2 g3 (by rw [ln]; exact g4) fun h2 L2 e2 p2 t3 sb2 S2 pm2 => ?_
        exact wpAny_pure (q true h2 L2 e2 p2 t3 (sb.trans sb2) S2 (fun z => absurd z hm) fun _ => pm2.trans pm)
      rw [sz] at key ⊢
      rcases S.tabk.mok with e | e | e
      · have n4 : L.length = 4 := by omega
        rw [n4] at key ⊢
        exact key 31 (by rw [size_20]) (.inr (.inl rfl)) (by rw [size_20]; decide) (by decide)
      · have n18 : L.length = 18 := by omega
        rw [n18] at key ⊢
        exact key 127 (by rw [size_76]) (.inr (.inr rfl)) (by rw [size_76]; decide) (by decide)
      · omega
  have T0 : TabOk { t1 with plain := false } (L1.map fun p => tupleKeyHash kd p.1) := ⟨q3.ris, q3.dm, q3.sz, q3.mok, q3.bd, q3.reach⟩
  by_cases pl : t1.plain = true
  · refine wp_if_pos pl (wpAny_bind (tk_hbv T hx fun c => ?_))
    cases c with
    | true => exact fin t1 q4 q3 q5 q9
    | false => exact fin { t1 with plain := false } q4 T0 q5 q9
  · refine wp_if_neg pl ?_
    simp only [if_true]
    exact fin t1 q4 q3 q5 q9
/-! ### set(xs) -/
/-- what stands in the set behind the first i of them -/
def Met (ks : List (List κ × Addr)) (i : Nat) (L : List (List κ × Addr)) : Prop := (∀ p ∈ L, p ∈ ks.take i) ∧ (∀ p ∈ ks.take i, p.1 ∈ L.map Prod.fst) ∧ L.length ≤ i
theorem met_on {ks L L' : List (List κ × Addr)} {i : Nat} {x : List κ × Addr} (g : Met ks i L) (h : ks[i]? = some x) (h1 : x.1 ∈ L.map Prod.fst → L' = L) (h2 : x.1 ∉ L.map Prod.fst → L'.Perm (x :: L)) : Met ks (i + 1) L' := by
  obtain ⟨a, b, c⟩ := g
  have e : ks.take (i + 1) = ks.take i ++ [x] := by
    rw [List.take_succ, h]
    rfl
  unfold Met
  rw [e]
  by_cases m : x.1 ∈ L.map Prod.fst
  · rw [h1 m]
    refine ⟨fun p hp => List.mem_append_left _ (a p hp), fun p hp => ?_, by omega⟩
    rcases List.mem_append.mp hp with hp | hp
    · exact b p hp
    · rw [List.mem_singleton.mp hp]
      exact m
  · have pm := h2 m
    refine ⟨fun p hp => ?_, fun p hp => ?_, by rw [pm.length_eq, List.length_cons]; omega⟩
    · rcases List.mem_cons.mp (pm.mem_iff.mp hp) with rfl | hp
      · exact List.mem_append_right _ (List.mem_singleton.mpr rfl)
      · exact List.mem_append_left _ (a p hp)
    · refine (pm.map Prod.fst).mem_iff.mpr ?_
      rcases List.mem_append.mp hp with hp | hp
      · exact List.mem_cons_of_mem _ (b p hp)
      · rw [List.mem_singleton.mp hp]
        exact List.mem_cons_self
theorem isk_up {h h' : Heap} {k : List κ} {b : Addr} (x : IsTupleKey kd h k b) (up : ∀ c o, h.get? c = some o → h'.get? c = some o) : IsTupleKey kd h' k b := by
  obtain ⟨o, items, n, ho, r⟩ := x
  exact ⟨o, items, n, up _ _ ho, r⟩
theorem KSet.up {h h' : Heap} (S : KSet kd h a L es ep t) (ha : ∀ o, h.get? a = some o → h'.get? a = some o) (ht : ∀ p ∈ L, IsTupleKey kd h' p.1 p.2) : KSet kd h' a L es ep t := by
  obtain ⟨o, ho, r⟩ := S.here
  exact ⟨⟨o, ha o ho, r⟩, S.ents, S.tabk, S.dist, ht, S.follow, S.room, S.few⟩
abbrev newS (w : World) : Obj := { cls := .type "set", dict := none, data := .set #[] 0 (.fresh 0 0 (!w.params.followText "set-order")) }
theorem kset_new {h : Heap} (ho : h.get? a = some (newS w)) : KSet kd h a [] #[] 0 (.fresh 0 0 (!w.params.followText "set-order")) := by
  refine ⟨⟨_, ho, ⟨rfl, rfl, rfl⟩, rfl⟩, rfl, ⟨List.Pairwise.nil, rfl, rfl, .inl rfl, fun x hx => absurd hx (by show x ∉ []; simp), fun i h j hi => (by simp at hi)⟩, List.nodup_nil, fun p hp => absurd hp List.not_mem_nil, ?_, by show 5 * 0 < 3 * 7; decide, by show 0 < 64; decide⟩
  cases e : w.params.followText "set-order" with
  | true => exact .inl rfl
  | false => exact .inr rfl
theorem set_fill (T : Tame kd) {I : Addr} {fp wr : List Addr} {G : Array GenState → Array GenState → Prop} {n : Nat} {Pv : Nat → Value → Prop} {St : Nat → Shared → Prop} {R : Result → Shared → Prop} (W : WalksS P w A.in1 I fp wr G n Pv St) (S : Addr) (out : S ∉ fp)
    (ks : List (List κ × Addr)) (hn : n = ks.length) (few : ks.length < 64) (val : ∀ i v, Pv i v → ∃ p, ks[i]? = some p ∧ v = .ref p.2) (h0 : Heap) (isk : ∀ p ∈ ks, IsTupleKey kd h0 p.1 p.2) (hS : h0.get? S = none) (hw : ∀ b ∈ wr, h0.get? b = none) (hu : A.in1.units < cLine) :
    ∀ (m i : Nat) (s : Shared), i + m = n → St i s → (∀ b o, h0.get? b = some o → s.heap.get? b = some o) → (∃ L es ep t, KSet kd s.heap S L es ep t ∧ Met ks i L) →
      (∀ s' L es ep t, Moved (S :: wr) G s s' → KSet kd s'.heap S L es ep t → Met ks n L → (∀ b o, h0.get? b = some o → s'.heap.get? b = some o) → R (.ok (.ret .none)) s') →
      codeAny (model P w) A (.builtin "set.update.loop" ⟨[.ref S, .ref I], []⟩) R s := by
  have apart : S ∉ wr := fun h => out (W.sub _ h)
  have wide : ∀ b ∈ wr, b ∈ S :: wr := fun b hb => List.mem_cons_of_mem _ hb
  have still : ∀ {s s' : Shared}, Moved wr G s s' → (∀ b o, h0.get? b = some o → s.heap.get? b = some o) → ∀ b o, h0.get? b = some o → s'.heap.get? b = some o := fun mv k b o e =>
    mv.heap b o (fun hb => by rw [hw b hb] at e; cases e) (k b o e)
  intro m
  induction m with
  | zero =>
    rintro i s rfl hst k0 ⟨L, es, ep, t, hL, g⟩ hR
    refine codeAny_builtin F.entry_set_update_loop ?_
    rw [Around.under_plainId F.plain_set_update_loop _]
    refine wpAny_bind (m := pyNext (.ref I)) (W.done s _ _ hst fun s' mv => wpAny_pure (hR s' L es ep t (mv.mono wide) (hL.up (fun o e => mv.heap S o apart e) fun p hp => ?_) g (still mv k0)))
    exact isk_up (isk p (List.mem_of_mem_take (g.1 p hp))) (still mv k0)
  | succ m ih =>
    rintro i s hi hst k0 ⟨L, es, ep, t, hL, g⟩ hR
    refine codeAny_builtin F.entry_set_update_loop ?_
    rw [Around.under_plainId F.plain_set_update_loop _]
    refine wpAny_bind (m := pyNext (.ref I)) (W.item i s _ _ (by omega) hst fun v s' hP hst' mv => ?_)
    obtain ⟨p, hp, rfl⟩ := val i v hP
    have k1 := still mv k0
    have hL1 : KSet kd s'.heap S L es ep t := hL.up (fun o e => mv.heap S o apart e) fun q hq => isk_up (isk q (List.mem_of_mem_take (g.1 q hq))) k1
    have hx : IsTupleKey kd s'.heap p.1 p.2 := isk_up (isk p (List.mem_of_getElem? hp)) k1
    refine wpAny_bind (m := holding [Value.ref p.2] (setAdd S (.ref p.2))) (wpAny_holding ?_)
    unfold setAdd
    refine wpAny_holding (wpAny_bind (wpAny_pyHash_tuple hu hx ?_))
    have il := g.2.2
    refine add_key T (s := { s' with toks := s'.toks + (p.1.length + 1) }) hL1 hx hu (by omega) fun b h' L' es' ep' t' sb hL2 c1 c2 => ?_
    have k2 : ∀ b o, h0.get? b = some o → h'.get? b = some o := fun b o e => (sb.2 b (fun z => by rw [z, hS] at e; cases e)).trans (k1 b o e)
    refine wpAny_pure ⟨plainId_quiet F.plain_set_update_loop _, ih (i + 1) _ (by omega) (W.frame _ s' _ _ hst' (Nat.le_add_right _ _) fun b hb o e => ?_) k2 ⟨L', es', ep', t', hL2, met_on g hp c1 c2⟩ fun s2 L2 es2 ep2 t2 mv2 hL3 g3 k3 => ?_⟩
    · exact (sb.2 b (fun z : b = S => out (z ▸ hb))).trans e
    · refine hR s2 L2 es2 ep2 t2 (Moved.trans W.gtrans ((mv.mono wide).then_heap (Nat.le_add_right _ _) fun b o hb e => ?_) mv2) hL3 g3 k3
      exact (sb.2 b fun z : b = S => hb (by rw [z]; exact List.mem_cons_self)).trans e
theorem none_up {h : Heap} {b : Addr} (hb : h.objs.size ≤ b) : h.get? b = none := by
  cases e : h.get? b with
  | none => rfl
  | some o => exact absurd (Heap.lt_size e) (Nat.not_lt.mpr hb)
set_option maxHeartbeats 4000000 in
theorem set_call (T : Tame kd) {l : Addr} {items : Array Value} (ks : List (List κ × Addr)) {Q : Value → Shared → Prop} (hh : A.handled = none) (hl : s.heap.IsList l items) (hit : items.toList = ks.map fun p => Value.ref p.2)
    (isk : ∀ p ∈ ks, IsTupleKey kd s.heap p.1 p.2) (few : ks.length < 64) (hu : A.units + 3 < cLine)
    (q : ∀ (h' : Heap) (tk : Nat) L es ep t, KSet kd h' s.heap.objs.size L es ep t → Met ks ks.length L → (∀ b o, s.heap.get? b = some o → h'.get? b = some o) → Q (.ref s.heap.objs.size) { s with heap := h', toks := tk }) :
    wpAny (model P w) A (call (.type "set") [.ref l]) Q E s := by
  have isz : items.size = ks.length := by rw [← Array.length_toList, hit, List.length_map]
  obtain ⟨c, tl, f1⟩ := F.called_set.mro
  have f2 := F.called_set.made
  have f3 := F.called_set.sub
  have f4 := F.called_set.notType
  have f5 := F.called_set.canCreate
  have f6 := F.typeCall_set_1 (.ref l)
  refine wpAny_call (codeAny_of_tree (wpAny_pure ⟨Code.quiet_builtin _ (by decide +kernel), codeAny_builtin F.entry_type_call ?_⟩))
  rw [Around.under_plain (weight_type_call_type "set" [.ref l] []) rfl]
  repeat (any_goals (first | assumption | wp_step))
  refine codeAny_mono (code_set_led1 (.ref l) (E := E) (Q₁ := fun u s₁ => u = .ref s.heap.objs.size ∧ s₁ = { s with heap := s.heap.push (newS w) }) ⟨rfl, rfl⟩) fun r s₁ hr => ?_
  rcases r with e | fl
  · exact hr
  cases fl with
  | ret u =>
    obtain ⟨rfl, rfl⟩ := hr
    have at_ : (s.heap.push (newS w)).get? s.heap.objs.size = some (newS w) := Heap.get?_push_size _ rfl
    have ty : Shared.TypeIs { s with heap := s.heap.push (newS w) } (.ref s.heap.objs.size) "set" := ⟨_, at_, rfl⟩
    have g1 := F.called_set.init.lookup
    have g2 := F.called_set.init.bind (.ref s.heap.objs.size)
    repeat (any_goals (first | assumption | wp_step))
    refine codeAny_mono (codeAny_call_builtin (R := wants (fun r s₂ => r = .none ∧ ∃ h' tk L es ep t, s₂ = { s with heap := h', toks := tk } ∧ KSet kd h' s.heap.objs.size L es ep t ∧ Met ks ks.length L ∧
        (∀ b o, s.heap.get? b = some o → h'.get? b = some o)) E) F.called_set.init.plain F.entry_set_init (check_set_init_1 ty ?_)) fun r₂ s₂ hr₂ => ?_
    · obtain ⟨⟨oc, od, odt, os⟩, hol, hcl, nl, hdl⟩ := hl
      dsimp only at hcl hdl
      subst hcl hdl
      have hol' : (s.heap.push (newS w)).get? l = some { cls := .type "list", dict := od, data := .seq items nl, slots := os } := Heap.get?_push_of_some _ hol
      have k1 := F.sub_list_set
      have k2 := F.sub_list_frozenset
      have k3 : (Value.type "list" == Value.type "dict") = false := by decide
      have hl1 : (s.heap.push (newS w)).IsList l items := ⟨_, hol', rfl, nl, rfl⟩
      unfold Builtin.«set.__init__» noKeywords Builtin.Frozenset.updateFrom
      generalize hPI : pyIter = PI
      wp_walk
      subst hPI
      refine wpAny_pyIter_list hl1 (wpAny_bind (wpAny_runValue ?_))
      have ls : l < s.heap.objs.size := Heap.lt_size hol
      have ps : (s.heap.push (newS w)).objs.size = s.heap.objs.size + 1 := Heap.size_push ..
      have v : ∀ (i : Nat) (u : Value), items[i]? = some u → ∃ p, ks[i]? = some p ∧ u = .ref p.2 := fun i u hu => by
        rw [← Array.getElem?_toList, hit, List.getElem?_map, Option.map_eq_some_iff] at hu
        obtain ⟨p, h1, h2⟩ := hu
        exact ⟨p, h1, h2.symm⟩
      refine set_fill T (Walks.list (by simp [hh]) _ l (by rw [ps]; exact Nat.ne_of_lt (Nat.lt_succ_of_lt ls)) items).toS s.heap.objs.size (by rw [ps, List.mem_cons, List.mem_singleton, not_or]; exact ⟨Nat.ne_of_lt (Nat.lt_succ_self _), Nat.ne_of_gt ls⟩) ks isz few v s.heap isk (none_up (Nat.le_refl _)) (fun b hb => none_up (by rw [List.mem_singleton.mp hb, ps]; exact Nat.le_succ _)) hu
        items.size 0 _ (Nat.zero_add _) ⟨⟨_, Heap.get?_push_size _ rfl, rfl, rfl⟩, hl1.push _⟩ (fun b o e => Heap.get?_push_of_some _ (Heap.get?_push_of_some _ e)) ?_ fun s' L es ep t mv hS g k => ?_
      · exact ⟨[], #[], 0, _, kset_new (Heap.get?_push_of_some _ at_), fun p hp => absurd hp List.not_mem_nil, fun p hp => absurd hp List.not_mem_nil, Nat.le_refl _⟩
      · obtain ⟨h', g2, d', tk', os'⟩ := s'
        cases (show g2 = s.gens from mv.gens)
        cases (show d' = s.drawn from mv.drawn)
        cases (show os' = s.os from mv.os)
        rw [isz] at g
        exact wpAny_pure (wpAny_pure ⟨rfl, h', tk', L, es, ep, t, rfl, hS, g, k⟩)
    · rcases r₂ with e | fl₂
      · exact hr₂
      cases fl₂ with
      | ret r =>
        obtain ⟨rfl, h', tk, L, es, ep, t, rfl, hS, g, k⟩ := hr₂
        repeat (any_goals (first | assumption | wp_step))
        exact q _ _ _ _ _ _ hS g k
      | _ => exact hr₂.elim
  | _ => exact hr.elim
/-! ### len(set(xs)) of a list of tuples of keys -/
/-- how many there are, each once -/
def firsts : List (List κ) → List (List κ) → List (List κ)
  | acc, [] => acc
  | acc, k :: ks => firsts (if k ∈ acc then acc else acc ++ [k]) ks
theorem firsts_ok : ∀ (ks acc : List (List κ)), acc.Nodup → (firsts acc ks).Nodup ∧ ∀ x, x ∈ firsts acc ks ↔ x ∈ acc ∨ x ∈ ks
  | [], acc, h => ⟨h, fun x => by simp [firsts]⟩
  | k :: ks, acc, h => by
    unfold firsts
    by_cases m : k ∈ acc
    · rw [if_pos m]
      obtain ⟨a, b⟩ := firsts_ok ks acc h
      refine ⟨a, fun x => (b x).trans ⟨fun z => z.elim .inl fun z => .inr (List.mem_cons_of_mem _ z), fun z => z.elim .inl fun z => ?_⟩⟩
      rcases List.mem_cons.mp z with rfl | z
      · exact .inl m
      · exact .inr z
    · rw [if_neg m]
      obtain ⟨a, b⟩ := firsts_ok ks (acc ++ [k]) (List.nodup_append.mpr ⟨h, by simp, fun x hx y hy => by rw [List.mem_singleton.mp hy]; exact fun e => m (e ▸ hx)⟩)
      refine ⟨a, fun x => (b x).trans ?_⟩
      simp only [List.mem_append, List.mem_singleton, List.mem_cons, List.not_mem_nil, or_false]
      exact or_assoc
theorem same_len {l m : List (List κ)} (h1 : l.Nodup) (h2 : m.Nodup) (h : ∀ x, x ∈ l ↔ x ∈ m) : l.length = m.length := ((List.perm_ext_iff_of_nodup h1 h2).mpr h).length_eq
theorem met_len {ks L : List (List κ × Addr)} (d : (L.map Prod.fst).Nodup) (g : Met ks ks.length L) : L.length = (firsts [] (ks.map Prod.fst)).length := by
  obtain ⟨a, b, _⟩ := g
  rw [List.take_length] at a b
  obtain ⟨f1, f2⟩ := firsts_ok (ks.map Prod.fst) [] List.nodup_nil
  rw [← List.length_map (f := Prod.fst) (as := L)]
  refine same_len d f1 fun x => ?_
  rw [f2]
  constructor
  · intro m
    obtain ⟨p, hp, rfl⟩ := List.mem_map.mp m
    exact .inr (List.mem_map.mpr ⟨p, a p hp, rfl⟩)
  · rintro (z | m)
    · exact absurd z List.not_mem_nil
    · obtain ⟨p, hp, rfl⟩ := List.mem_map.mp m
      exact b p hp
end
section
variable {X : Cx} {w : Wn}
/-- a key as data -/
def kyD : Key → PyData
  | .inl i => .int i
  | .inr z => .str z
theorem rp_keys {K : PySem.W.Frag} {F : Hp} : ∀ {k : List Key} {vs : List V}, RpA K F vs (k.map kyD) → vs = k.map kV
  | [], _, .nil => rfl
  | .inl i :: k, _, .cons h t => by
    cases h
    rw [rp_keys t]
    rfl
  | .inr z :: k, _, .cons h t => by
    cases h
    rw [rp_keys t]
    rfl
theorem rp_tups {K : PySem.W.Frag} {F : Hp} : ∀ {ks : List (List Key)} {vs : List V}, RpA K F vs (ks.map fun k => .tuple (k.map kyD)) → ∃ ps : List (List Key × Addr), ps.map Prod.fst = ks ∧ vs = ps.map (fun p => V.ref p.2) ∧ ∀ p ∈ ps, SqT K F p.2 (p.1.map kV)
  | [], _, .nil => ⟨[], rfl, rfl, fun _ h => absurd h List.not_mem_nil⟩
  | k :: ks, _, .cons h t => by
    obtain ⟨ps, e1, e2, e3⟩ := rp_tups t
    cases h with
    | tup h r =>
      rw [rp_keys r] at h
      refine ⟨(k, _) :: ps, by rw [List.map_cons, e1], by rw [List.map_cons, e2], fun p hp => ?_⟩
      rcases List.mem_cons.mp hp with rfl | hp
      · exact h
      · exact e3 p hp
/-- the tuple of keys at a -/
theorem isk_of {pins : List (Addr × Obj)} {σ : L2.St} {H : Hp} {s : Shared} (I : Inv X pins σ H s) {b : Addr} {k : List Key} (h : SqT X.K H b (k.map kV)) : IsTupleKey (mixKind X.prog X.w) s.heap k b := by
  obtain ⟨its, r, ⟨o, ho, hc, n, hd⟩, _⟩ := I.tuple h
  exact ⟨o, its.toArray, n, ho, hc, hd, by simpa using items_are r⟩
theorem refs_are {ps : List (List Key × Addr)} : ∀ {us : List Value}, Vals (ps.map fun p => V.ref p.2) us → us = ps.map fun p => Value.ref p.2 := by
  induction ps with
  | nil => intro us r; cases r; rfl
  | cons p ps ih =>
    intro us r
    cases r with
    | cons h t =>
      cases h
      rw [ih t]
      rfl
def teLenSet (K : PySem.W.Frag) (ta : TE) : TE := fun σ H Q => ta σ H fun x H1 => ∃ (l : Addr) (ps : List (List Key × Addr)), x = V.ref l ∧ SqL K H1 l (ps.map fun p => V.ref p.2) ∧ (∀ p ∈ ps, SqT K H1 p.2 (p.1.map kV)) ∧ ps.length < 64 ∧ Q (.int ((firsts [] (ps.map Prod.fst)).length : Nat)) H1
theorem pe_lenSet {a : Expr} {ta : TE} {p p2 q pos : Pos} (hc : X.calm = true) (hu : X.A.units + 64 < cLine) (hg : Gl X "len") (hm : X.mg "len" = none) (hg2 : Gl X "set") (hm2 : X.mg "set" = none) (ha : PE X a ta)
    (na : starEach [a] X.env = (false, eval a X.env) :: starEach [] X.env) : PE X (.Call (.Name "len" p) [.Call (.Name "set" p2) [a] [] q] [] pos) (teLenSet X.K ta) := by
  refine ⟨fun pins s σ H Q I h => ?_⟩
  refine Call_ (ld_blt I hg hm PySem.boot_len (callWith_builtin1 (args_cons ?_ rfl) rfl rfl))
  refine Call_ (ld_blt I hg2 hm2 PyProof.Rows.boot_set ?_)
  refine callWith_type1 (args_cons (thn (ha.run pins s σ H _ I h) fun v s1 ⟨x, H1, I1, r1, l, ps, e, hl, hk, few, k⟩ => args_nil ?_) na) na rfl
  subst e
  cases r1
  obtain ⟨its, r, pl, hz⟩ := I1.list hl
  refine set_call (tame_mix (P := X.prog) (w := X.w)) ps (I1.ok.hd hc) pl.isList (by simpa using refs_are r) (fun p hp => isk_of I1 (hk p hp)) few (by omega) fun h' tk L es ep t S g up => args_nil ?_
  obtain ⟨o, ho, hex, hd⟩ := S.here
  have z : es.size = (firsts [] (ps.map Prod.fst)).length := by rw [ents_size S.ents, met_len S.dist g]
  have lf := S.few
  rw [← ents_size S.ents] at lf
  have I2 : Inv X pins σ H1 { s1 with heap := h', toks := tk } := I1.kept fun b o e => up b o e
  refine call_len_set ho hex hd S.fits (by omega) ⟨.int _, H1, I2.tok _, ⟨_, by rw [z]⟩, k⟩
def tLenSeX (te : DT) : DT := fun env P => te env fun u => rd u fun x => match x with
  | .list xs => ∃ ks : List (List Key), xs = ks.map (fun k => .tuple (k.map kyD)) ∧ ks.length < 64 ∧ P (.d (.int ((firsts [] ks).length : Nat)))
  | _ => False
theorem d_lenSeX {a : Expr} {ta : DT} {p p2 q pos : Pos} (hc : X.calm = true) (hu : X.A.units + 64 < cLine) (hg : Gl X "len") (hm : X.mg "len" = none) (hg2 : Gl X "set") (hm2 : X.mg "set" = none) (ha : DPE X w a ta)
    (na : starEach [a] X.env = (false, eval a X.env) :: starEach [] X.env := by rfl) : DPE X w (.Call (.Name "len" p) [.Call (.Name "set" p2) [a] [] q] [] pos) (tLenSeX ta) := by
  refine pe_weak (pe_lenSet hc hu hg hm hg2 hm2 ha na) fun σ H Q ⟨env, F, P, r, h, q⟩ => ⟨env, F, _, r, h, fun dv v F1 H1 s1 r1 h1 => ?_⟩
  obtain ⟨x, x1, h1⟩ := rd_ok r1 h1
  split at h1
  · obtain ⟨ks, rfl, few, h1⟩ := h1
    obtain ⟨l, vs, rfl, e, ra⟩ := x1.lst s1.sub
    obtain ⟨ps, rfl, rfl, hk⟩ := rp_tups ra
    exact ⟨l, ps, rfl, SqL.of e, fun p hp => sqt_up s1.sub (hk p hp), by rwa [List.length_map] at few, q _ _ F1 H1 s1 (res_d (.int _)) h1⟩
  · exact h1.elim
end
end Dl
/-! f-strings, two ways to go through a value, xs.extend(e), trees held still -/
namespace Dl
open PySem PySem.Spec PyProof.Rows L2 PySem.W
section
variable {X : Cx} {w : Wn}
/-- a value that is gone through as the one or the other -/
def itOr (a b : DIt) : DIt := fun env P => a env P ∨ b env P
theorem di_or {tg it : Expr} {a b : DIt} (h1 : PI X tg it (lfI X.K w a)) (h2 : PI X tg it (lfI X.K w b)) : PI X tg it (lfI X.K w (itOr a b)) :=
  ⟨fun pins s σ H R I ⟨env, F, P, r, h, q⟩ => h.elim (fun h => h1.run pins s σ H R I ⟨env, F, P, r, h, q⟩) fun h => h2.run pins s σ H R I ⟨env, F, P, r, h, q⟩⟩
/-- a text that the module names -/
theorem d_globS {x z : Str} {t : Tok} {pos : Pos} (hg : Gl X x) (hm : X.mg x = some (.str z t)) (hd : (x == ("__debug__" : Str)) = false := by decide) : DPE X w (.Name x pos) (tCD (.str z)) :=
  pe_weak (pe_glob (v := .str z) hg hm ⟨t, rfl⟩ hd) fun σ H Q ⟨env, F, P, r, h, q⟩ => q (.d (.str z)) _ F H r.wd.refl (Rp.str z) h
/-! ### f-strings -/
def tFmtD (te : DT) : DT := fun env P => te env fun u => rd u fun x => match x with
  | .int i => i.natAbs.log2 < 1920 ∧ P (.d (.str (toString i)))
  | .str z => z.length ≤ 100000 ∧ P (.d (.str z))
  | _ => False
theorem d_fmt {e : Expr} {te : DT} {pos : Pos} (he : DPE X w e te) : DPE X w (.FormattedValue e (-1) none pos) (tFmtD te) :=
  pe_weak (pe_fmt he) fun σ H Q ⟨env, F, P, r, h, q⟩ => ⟨env, F, _, r, h, fun dv v F1 H1 s1 r1 h1 => by
    obtain ⟨x, x1, h1⟩ := rd_ok r1 h1
    split at h1
    · cases x1.int
      exact .inr ⟨_, rfl, h1.1, q (.d (.str _)) _ F1 H1 s1 (Rp.str _) h1.2⟩
    · cases x1.str
      exact .inl ⟨_, rfl, lim_le h1.1, q (.d (.str _)) _ F1 H1 s1 (Rp.str _) h1.2⟩
    · exact h1.elim⟩
inductive DPJ (X : Cx) (w : Wn) : List Expr → List DT → Prop
  | nil : DPJ X w [] []
  | cons {e : Expr} {t : DT} {es : List Expr} {ts : List DT} (h : DPE X w e t) (r : DPJ X w es ts) : DPJ X w (e :: es) (t :: ts)
theorem DPJ.pj {es : List Expr} {ts : List DT} (h : DPJ X w es ts) : PJ X es (ts.map fun t => lf X.K w t) := by
  induction h with
  | nil => exact .nil
  | cons h _ ih => exact .cons h ih
def tJsD : List DT → Str → List Sl → (Str → Prop) → Prop
  | [], acc, _, P => P acc
  | t :: ts, acc, env, P => t env fun u => match u with
    | .d (.str y) => (acc ++ y).length ≤ 100000 ∧ tJsD ts (acc ++ y) env P
    | _ => False
theorem js_go {env : List Sl} {σ : L2.St} {Q : Str → Hp → Prop} : ∀ (ts : List DT) (acc : Str) (F H : Hp) (P : Str → Prop), RelW X.K w env σ F H → tJsD ts acc env P → (∀ z F' H', Stp X.K w.b F H F' H' → P z → Q z H') → tJs (ts.map fun t => lf X.K w t) acc σ H Q
  | [], acc, F, H, P, r, h, q => q acc F H r.wd.refl h
  | t :: ts, acc, F, H, P, r, h, q => ⟨env, F, _, r, h, fun dv v F1 H1 s1 r1 h1 => by
    split at h1
    · next y =>
      cases (show Rp X.K F1 v (.str y) from r1)
      exact ⟨y, rfl, lim_le h1.1, js_go ts _ F1 H1 P (r.step s1) h1.2 fun z F2 H2 s2 h2 => q z F2 H2 (s1.trans s2) h2⟩
    · exact h1.elim⟩
def tFstr (ts : List DT) : DT := fun env P => tJsD ts Str.empty env fun z => P (.d (.str z))
theorem d_fstr {v1 v2 : Expr} {rest : List Expr} {ts : List DT} {pos : Pos} (h : DPJ X w (v1 :: v2 :: rest) ts) : DPE X w (.JoinedStr (v1 :: v2 :: rest) pos) (tFstr ts) :=
  pe_weak (pe_joined h.pj) fun σ H Q ⟨env, F, P, r, h, q⟩ => js_go ts _ F H _ r h fun z F1 H1 s1 h1 => q (.d (.str z)) _ F1 H1 s1 (Rp.str z) h1
/-! ### xs.extend(e), xs an owned list -/
def tExtO (i : Nat) (te : DT) : DS := fun d env => match env[i]? with
  | some (.ow l xs) => te env fun dv => rd dv fun y => match y with
    | .list zs => xs.length + zs.length ≤ 100000 ∧ d.nx (env.set i (.ow l (xs ++ zs)))
    | _ => False
  | _ => False
theorem ds_extO {i : Nat} {e : Expr} {te : DT} {pos : Pos} (base : PE X e (tBM X.K "list" rExtend (tVar i) (tCons (lf X.K w te) tNil))) (hs : swapsWith e none pos.line X.env = pure false := by rfl) : DPS X w (.Expr e pos) (tExtO i te) :=
  ps_weak (ps_expr base hs) fun D σ H ⟨env, F, d, r, h, fit⟩ => by
    unfold tExtO at h
    split at h
    · next l xs ei =>
      obtain ⟨e1, _, _, _, vs, hl, _⟩ := r.at' i _ ei
      refine ⟨_, e1, .inl ⟨rfl, vs, SqL.of hl⟩, env, F, _, r, h, fun dv v F1 H1 s1 r1 h1 => ?_⟩
      obtain ⟨y, y1, h1⟩ := rd_ok r1 h1
      split at h1
      · next zs =>
        obtain ⟨hz, h1⟩ := h1
        obtain ⟨c, ws, rfl, ec, ra⟩ := y1.lst s1.sub
        have r2 := r.step s1
        obtain ⟨_, _, _, _, us, hl2, q2⟩ := r2.at' i _ ei
        refine ⟨l, c, us, ws, rfl, rfl, hl2, ec, by rw [q2.len, ra.len]; exact lim_le hz, ?_⟩
        exact fit.nx _ _ F1 _ (r2.wrt ei (q2.app ra)) s1.ex h1
      · exact h1.elim
    · exact h.elim
/-! ### an expression over which a tree stays as it is -/
def tTmT (i : Nat) (t : DT) : DT := fun env P => match env[i]? with
  | some (.tr _ _ x) => t (env.set i (.d x)) fun r => okT r ∧ P r
  | _ => False
theorem tree_known {K : PySem.W.Frag} {env : List Sl} {σ : L2.St} {F H : Hp} {i : Nat} {p : Bool} {S : List Addr} {x : PyData} (r : RelW K w env σ F H) (e : env[i]? = some (.tr p S x)) : RelW K w (env.set i (.d x)) σ (opn S F H) H := by
  obtain ⟨v, e1, nd, k, mr, q⟩ := r.at' i _ e
  have st := r.st.freezeT k q.there
  have up : Same F (opn S F H) := opn_same fun a m => (k a m).2.1
  refine ⟨by rw [List.length_set]; exact r.len, st, fun j s h => ?_, own_set r.own fun a m => by cases m⟩
  rw [List.getElem?_set] at h
  by_cases hj : i = j
  · subst hj
    rw [if_pos rfl] at h
    split at h
    · cases h
      exact ⟨_, e1, q.open up fun _ m => m⟩
    · cases h
  · rw [if_neg hj] at h
    have old := r.at' j s h
    have out : ∀ a ∈ slA s, F a = none → opn S F H a = none := fun a m h0 => by
      unfold opn
      rw [if_neg fun (m2 : a ∈ S) => hj (r.own i j _ _ a e h m2 m)]
      exact h0
    cases s with
    | un => exact old
    | d y => obtain ⟨u, a1, a2⟩ := old; exact ⟨u, a1, a2.up up⟩
    | raw u => exact old
    | bag => exact old
    | ow m zs =>
      obtain ⟨b1, b2, b3, b4, ws, b5, b6⟩ := old
      exact ⟨b1, b2, out m (by simp [slA]) b3, b4, ws, b5, b6.up up⟩
    | tr p' T y =>
      obtain ⟨u, b1, nd', kk, mr', qq⟩ := old
      exact ⟨u, b1, nd', fun a m => ⟨(kk a m).1, out a m (kk a m).2.1, (kk a m).2.2⟩, mr', qq.up up fun _ _ _ z => z⟩
theorem d_tmT {e : Expr} {t : DT} (i : Nat) (h : DPE X w e t) : DPE X w e (tTmT i t) := pe_weak h fun σ H Q ⟨env, F, P, r, h, q⟩ => by
  unfold tTmT at h
  split at h
  · next p S x ei =>
    obtain ⟨v0, e1, nd, k, mr, q0⟩ := r.at' i _ ei
    have op : ∀ a ∈ S, F a = none ∧ a ≠ w.b.b ∧ ∃ o, H a = some o ∧ isM o = true := fun a m => ⟨(k a m).2.1, (k a m).2.2, q0.there a m⟩
    refine ⟨_, _, _, tree_known r ei, h, fun dv v F1 H1 s1 r1 h1 => ?_⟩
    obtain ⟨ok, h1⟩ := h1
    obtain ⟨st, keep⟩ := shut_ok r.wd op s1
    refine q dv v _ H1 st ?_ h1
    cases dv with
    | d x => exact noL_up keep ok r1
    | fr ys =>
      obtain ⟨p, us, a1, a2, a3, a4, a5, a6⟩ := r1
      exact ⟨p, us, a1, a2, by unfold shut; split; rfl; exact a3, a4, a5, noLs_up keep ok a6⟩
    | ft x => exact ok.elim
    | ow l xs => exact ok.elim
    | tr p S x => exact ok.elim
    | raw u => exact ok.elim
    | bag => exact ok.elim
  · exact h.elim
/-- name = [..], a new tree -/
theorem ds_setLcT {i : Nat} {e : Expr} {tg : Expr} {pos : Pos} {ti : DIt} {g : PyData → List Sl → (List Sl → Prop) → Prop} {t : TG} {te : DT} {vs : List Nat} (tg' : Tgt X.K vs g t)
    (base : PS X (.Assign [tg] e pos) (tAsg (tLc (lfI X.K w ti) t (lfT X.K w fun _ P => P true) (lf X.K w te) vs) (gName i))) : DPS X w (.Assign [tg] e pos) (tSetD i (tLcT ti g te vs)) :=
  ps_weak base fun D σ H ⟨env, F, d, r, h, fit⟩ => lcT_go tg' ⟨env, F, _, r, h, fun dv v F1 H1 s1 r1 h1 => by
    obtain ⟨env', r2, k⟩ := st_ok r s1 r1 h1
    exact fit.nx env' _ F1 H1 r2 s1.ex k⟩
end
end Dl
/-! places within an owned tree: x[i][k].clear(), x[i][k].extend(e) -/
namespace Dl
open PySem PySem.Spec PyProof.Rows L2 PySem.W
section
variable {K : PySem.W.Frag} {F H : Hp}
theorem OtA.sub {y : PyData} : ∀ {S : List Addr} {vs : List V} {xs : List PyData} {m : Nat}, OtA K F H true S vs xs → xs[m]? = some y →
    ∃ (A T B : List Addr) (u : V), S = A ++ T ++ B ∧ vs[m]? = some u ∧ Ot K F H true T u y ∧
      ∀ (F2 H2 : Hp) (T2 : List Addr) (y2 : PyData), Same F F2 → Ot K F2 H2 true T2 u y2 → (∀ b, b ∈ A ∨ b ∈ B → ∀ o, H b = some o → H2 b = some o) → OtA K F2 H2 true (A ++ T2 ++ B) vs (xs.set m y2)
  | _, _, _, _, .nil, e => by simp at e
  | _, _, _, 0, .cons (S := S) (T := T) h t, e => by
    simp at e
    subst e
    exact ⟨[], S, T, _, rfl, rfl, h, fun F2 H2 T2 y2 sm o2 kp => .cons o2 (OtA.up sm (fun b m => kp b (.inr m)) t)⟩
  | _, _, _, m + 1, .cons (S := S) (T := T) h t, e => by
    obtain ⟨A, T1, B, u, rfl, e1, o1, put⟩ := OtA.sub (m := m) t (by simpa using e)
    refine ⟨S ++ A, T1, B, u, by simp [List.append_assoc], by simpa using e1, o1, fun F2 H2 T2 y2 sm o2 kp => ?_⟩
    have z := OtA.cons (Ot.up sm (fun b m => kp b (.inl (List.mem_append.mpr (.inl m)))) h) (put F2 H2 T2 y2 sm o2 fun b hb => kp b (hb.imp (fun m => List.mem_append.mpr (.inr m)) id))
    simpa [List.append_assoc] using z
/-- v, that holds y, stands within the tree of v0; with y2 in y's stead the tree holds g y2 -/
def HoleAt (K : PySem.W.Frag) (F H : Hp) (S : List Addr) (v0 v : V) (y : PyData) (g : PyData → PyData) : Prop := ∃ A T B, S = A ++ T ++ B ∧ Ot K F H true T v y ∧
  ∀ (F2 H2 : Hp) (T2 : List Addr) (y2 : PyData), Same F F2 → Ot K F2 H2 true T2 v y2 → (∀ b, b ∈ A ∨ b ∈ B → ∀ o, H b = some o → H2 b = some o) → Ot K F2 H2 true (A ++ T2 ++ B) v0 (g y2)
theorem HoleAt.up {F' H' : Hp} {S : List Addr} {v0 v : V} {y : PyData} {g : PyData → PyData} (h : HoleAt K F H S v0 v y g) (sm : Same F F') (kp : ∀ a ∈ S, ∀ o, H a = some o → H' a = some o) : HoleAt K F' H' S v0 v y g := by
  obtain ⟨A, T, B, rfl, o, put⟩ := h
  refine ⟨A, T, B, rfl, o.up sm fun a m => kp a (by simp [m]), fun F2 H2 T2 y2 s2 o2 k2 => put F2 H2 T2 y2 (sm.trans s2) o2 fun b hb o ho => k2 b hb o (kp b ?_ o ho)⟩
  rcases hb with m | m <;> simp [m]
theorem HoleAt.self {S : List Addr} {v : V} {x : PyData} (h : Ot K F H true S v x) : HoleAt K F H S v v x id :=
  ⟨[], S, [], by simp, h, fun F2 H2 T2 y2 _ o2 _ => by simpa using o2⟩
theorem noL_sub {xs : List PyData} {m : Nat} {z : PyData} (h : noLs xs = true) (e : xs[m]? = some z) : noL z = true := by
  induction xs generalizing m with
  | nil => simp at e
  | cons x xs ih =>
    rw [noLs, Bool.and_eq_true] at h
    cases m with
    | zero =>
      simp at e
      rw [← e]
      exact h.1
    | succ m => exact ih h.2 (by simpa using e)
theorem HoleAt.lst {S : List Addr} {v0 v : V} {xs : List PyData} {z : PyData} {m : Nat} {g : PyData → PyData} (h : HoleAt K F H S v0 v (.list xs) g) (e : xs[m]? = some z) :
    ∃ r vs u, v = .ref r ∧ H r = some (.lst vs) ∧ vs.length = xs.length ∧ vs[m]? = some u ∧ HoleAt K F H S v0 u z fun y2 => g (.list (xs.set m y2)) := by
  obtain ⟨A, T, B, rfl, o, put⟩ := h
  obtain ⟨a, T1, vs, rfl, rfl, ea, oa⟩ := ot_lst o
  obtain ⟨A2, T2, B2, u, rfl, e1, o1, put1⟩ := oa.sub e
  refine ⟨a, vs, u, rfl, ea, oa.len, e1, A ++ a :: A2, T2, B2 ++ B, by simp [List.append_assoc], o1, fun F2 H2 T3 y2 sm o3 kp => ?_⟩
  have q := put F2 H2 (a :: (A2 ++ T3 ++ B2)) (.list (xs.set m y2)) sm (.lst (kp a (.inl (by simp)) _ ea) (put1 F2 H2 T3 y2 sm o3 fun b hb => kp b (hb.elim (fun m => .inl (by simp [m])) fun m => .inr (by simp [m])))) fun b hb => kp b (hb.elim (fun m => .inl (by simp [m])) fun m => .inr (by simp [m]))
  simpa [List.append_assoc] using q
theorem HoleAt.tup {S : List Addr} {v0 v : V} {xs : List PyData} {z : PyData} {m : Nat} {g : PyData → PyData} (h : HoleAt K F H S v0 v (.tuple xs) g) (e : xs[m]? = some z) :
    ∃ r vs u, v = .ref r ∧ SqT K F r vs ∧ vs.length = xs.length ∧ vs[m]? = some u ∧ (noL (.tuple xs) = false → HoleAt K F H S v0 u z fun y2 => g (.tuple (xs.set m y2))) := by
  obtain ⟨A, T, B, rfl, o, put⟩ := h
  cases o with
  | leaf r n =>
    have n := n rfl
    cases r with
    | tup h r =>
      obtain ⟨u, e1, _⟩ := r.get e
      exact ⟨_, _, u, rfl, h, r.len, e1, fun c => by rw [n] at c; cases c⟩
  | tup hv oa =>
    obtain ⟨A2, T2, B2, u, rfl, e1, o1, put1⟩ := oa.sub e
    refine ⟨_, _, u, rfl, hv, oa.len, e1, fun _ => ⟨A ++ A2, T2, B2 ++ B, by simp [List.append_assoc], o1, fun F2 H2 T3 y2 sm o3 kp => ?_⟩⟩
    have q := put F2 H2 (A2 ++ T3 ++ B2) (.tuple (xs.set m y2)) sm (.tup (sqt_up sm hv) (put1 F2 H2 T3 y2 sm o3 fun b hb => kp b (hb.elim (fun m => .inl (by simp [m])) fun m => .inr (by simp [m])))) fun b hb => kp b (hb.elim (fun m => .inl (by simp [m])) fun m => .inr (by simp [m]))
    simpa [List.append_assoc] using q
end
abbrev DPl := List Sl → PyData → (PyData → (PyData → PyData) → Prop) → Prop
def tPl0 : DPl := fun _ x P => P x id
def tPlL (tp : DPl) (ti : DT) : DPl := fun env x P => tp env x fun y g => match y with
  | .list xs => ti env fun u => rd u fun k => match k with
    | .int k => ∃ m z, ixN xs.length k = some m ∧ xs[m]? = some z ∧ P z fun y2 => g (.list (xs.set m y2))
    | _ => False
  | _ => False
def tPlT (tp : DPl) (ti : DT) : DPl := fun env x P => tp env x fun y g => match y with
  | .tuple xs => ti env fun u => rd u fun k => match k with
    | .int k => noL (.tuple xs) = false ∧ ∃ m z, ixN xs.length k = some m ∧ xs[m]? = some z ∧ P z fun y2 => g (.tuple (xs.set m y2))
    | _ => False
  | _ => False
/-- a place in the tree of slot i -/
def lfP (K : PySem.W.Frag) (w : Wn) (i : Nat) (tp : DPl) : TE := fun σ H Q => ∃ env F S x P, RelW K w env σ F H ∧ env[i]? = some (.tr true S x) ∧ tp env x P ∧
  ∀ y g v F' H', Stp K w.b F H F' H' → (∃ v0, σ[i]? = some (some v0) ∧ HoleAt K F' H' S v0 v y g) → P y g → Q v H'
section
variable {X : Cx} {w : Wn} {i : Nat} {tp : DPl} {ti : DT} {o ix : Expr} {pos : Pos}
theorem pl_var {e : Expr} (base : PE X e (tVar i)) : PE X e (lfP X.K w i tPl0) :=
  pe_weak base fun σ H Q ⟨env, F, S, x, P, r, ei, h, q⟩ => by
    obtain ⟨v, e1, nd, k, mr, o⟩ := r.at' i _ ei
    exact ⟨v, e1, q x id v F H r.wd.refl ⟨v, e1, .self o⟩ h⟩
theorem tree_keep {K : PySem.W.Frag} {env : List Sl} {σ : L2.St} {F H F' H' : Hp} {S : List Addr} {x : PyData} (r : RelW K w env σ F H) (ei : env[i]? = some (.tr true S x)) (s : Stp K w.b F H F' H') : ∀ a ∈ S, ∀ o, H a = some o → H' a = some o := fun a m o ho => by
  obtain ⟨v, e1, nd, k, mr, t⟩ := r.at' i _ ei
  obtain ⟨o', ho', mo⟩ := t.there a m
  rw [ho] at ho'
  cases ho'
  exact s.keep a o (k a m).2.2 (isM_tbl mo) ho
theorem pl_ixL (ho : PE X o (lfP X.K w i tp)) (hi : DPE X w ix ti) (hs : PlainIx ix := by exact fun _ _ => rfl) : PE X (.Subscript o ix pos) (lfP X.K w i (tPlL tp ti)) :=
  pe_weak (pe_ix ix_list ho hi hs) fun σ H Q ⟨env, F, S, x, P, r, ei, h, q⟩ => ⟨env, F, S, x, _, r, ei, h, fun y g v F1 H1 s1 ⟨v0, e0, hl⟩ h1 => by
    split at h1
    · next xs =>
      refine ⟨env, F1, _, r.step s1, h1, fun dv u F2 H2 s2 r2 h2 => ?_⟩
      obtain ⟨y, y1, h2⟩ := rd_ok r2 h2
      split at h2
      · next k =>
        cases y1.int
        obtain ⟨m, z, em, ez, h2⟩ := h2
        have hl2 := hl.up s2.ex (tree_keep (r.step s1) ei s2)
        obtain ⟨ro, vs, u, rfl, hv, ln, eu, hz⟩ := hl2.lst ez
        exact ⟨ro, vs, k, u, rfl, rfl, SqL.of hv, atI_of (by rw [ln]; exact em) eu, q z _ u F2 H2 (s1.trans s2) ⟨v0, e0, hz⟩ h2⟩
      · exact h2.elim
    · exact h1.elim⟩
theorem pl_ixT (ho : PE X o (lfP X.K w i tp)) (hi : DPE X w ix ti) (hs : PlainIx ix := by exact fun _ _ => rfl) : PE X (.Subscript o ix pos) (lfP X.K w i (tPlT tp ti)) :=
  pe_weak (pe_ix ix_tup ho hi hs) fun σ H Q ⟨env, F, S, x, P, r, ei, h, q⟩ => ⟨env, F, S, x, _, r, ei, h, fun y g v F1 H1 s1 ⟨v0, e0, hl⟩ h1 => by
    split at h1
    · next xs =>
      refine ⟨env, F1, _, r.step s1, h1, fun dv u F2 H2 s2 r2 h2 => ?_⟩
      obtain ⟨y, y1, h2⟩ := rd_ok r2 h2
      split at h2
      · next k =>
        cases y1.int
        obtain ⟨nl, m, z, em, ez, h2⟩ := h2
        have hl2 := hl.up s2.ex (tree_keep (r.step s1) ei s2)
        obtain ⟨ro, vs, u, rfl, hv, ln, eu, hz⟩ := hl2.tup ez
        exact ⟨ro, vs, k, u, rfl, rfl, sqt_up s2.sub hv, atI_of (by rw [ln]; exact em) eu, q z _ u F2 H2 (s1.trans s2) ⟨v0, e0, hz nl⟩ h2⟩
      · exact h2.elim
    · exact h1.elim⟩
/-- the place's list gets other items: what is known behind it -/
theorem hole_write {K : PySem.W.Frag} {env : List Sl} {σ : L2.St} {F H : Hp} {S : List Addr} {x : PyData} (r : RelW K w env σ F H) (ei : env[i]? = some (.tr true S x)) {v0 v : V} {ys : List PyData} {g : PyData → PyData} (e0 : σ[i]? = some (some v0)) (hl : HoleAt K F H S v0 v (.list ys) g) :
    ∃ a us T, v = .ref a ∧ H a = some (.lst us) ∧ us.length = ys.length ∧ OtA K F H true T us ys ∧ T.Nodup ∧ a ∉ T ∧ (∀ b ∈ a :: T, b ∈ S) ∧
      ∀ (T2 : List Addr) (us2 : List V) (ys2 : List PyData), T2.Nodup → a ∉ T2 → (∀ b ∈ T2, b ∈ T ∨ (b ∉ S ∧ w.H b = none ∧ F b = none ∧ b ≠ w.b.b ∧ ∀ (j : Nat) (t : Sl), env[j]? = some t → b ∉ slA t)) → OtA K F (upd H a (.lst us2)) true T2 us2 ys2 →
        ∃ S2, RelW K w (env.set i (.tr true S2 (g (.list ys2)))) σ F (upd H a (.lst us2)) := by
  obtain ⟨v', e1, nd, k, mr, t⟩ := r.at' i _ ei
  rw [e0] at e1
  cases e1
  obtain ⟨A, T0, B, rfl, o, put⟩ := hl
  obtain ⟨a, T, us, rfl, rfl, ea, oa⟩ := ot_lst o
  have hn := List.nodup_append.mp nd
  have hn1 := List.nodup_append.mp hn.1
  have hn2 := List.nodup_cons.mp hn1.2.1
  have aA : a ∉ A := fun z => hn1.2.2 a z a (List.mem_cons_self ..) rfl
  have aB : a ∉ B := fun z => hn.2.2 a (List.mem_append.mpr (.inr (List.mem_cons_self ..))) a z rfl
  have inS : ∀ b ∈ a :: T, b ∈ A ++ (a :: T) ++ B := fun b hb => List.mem_append.mpr (.inl (List.mem_append.mpr (.inr hb)))
  refine ⟨a, us, T, rfl, ea, oa.len, oa, hn2.2, hn2.1, inS, fun T2 us2 ys2 n2 a2 hT2 o2 => ⟨A ++ (a :: T2) ++ B, ?_⟩⟩
  have cases2 : ∀ b, b ∈ A ++ (a :: T2) ++ B → b ∈ A ++ (a :: T) ++ B ∨ (b ∉ A ++ (a :: T) ++ B ∧ w.H b = none ∧ F b = none ∧ b ≠ w.b.b ∧ ∀ (j : Nat) (t : Sl), env[j]? = some t → b ∉ slA t) := fun b hb => by
    simp only [List.mem_append, List.mem_cons] at hb
    rcases hb with (hb | hb | hb) | hb
    · exact .inl (by simp [hb])
    · exact .inl (by simp [hb])
    · rcases hT2 b hb with hb | hb
      · exact .inl (by simp [hb])
      · exact .inr hb
    · exact .inl (by simp [hb])
  have r4 := r.wrtS (H' := upd H a (.lst us2)) ei (s' := .un) (fun b o n hb => by
    rw [upd_ne (fun z => n (by rw [z]; exact inS a (List.mem_cons_self ..)))]
    exact hb) True.intro fun b z => absurd z List.not_mem_nil
  have r6 := r4.put i (z := .tr true (A ++ (a :: T2) ++ B) (g (.list ys2))) (v := v0) ⟨_, rfl, ?_, fun b z => ?_, fun _ => (by simp), put F _ (a :: T2) (.list ys2) sm0 (.lst upd_same o2) fun b hb o ho => ?_⟩ fun b z j t nj ej m2 => ?_
  · rw [List.set_set] at r6
    have es : σ.set i (some v0) = σ := by
      refine List.ext_getElem? fun j => ?_
      rw [List.getElem?_set]
      by_cases hj : i = j
      · subst hj
        rw [if_pos rfl, e0, if_pos (List.getElem?_eq_some_iff.mp e0).1]
      · rw [if_neg hj]
    rw [es] at r6
    exact r6
  · refine List.nodup_append.mpr ⟨List.nodup_append.mpr ⟨hn1.1, List.nodup_cons.mpr ⟨a2, n2⟩, fun x hx y hy e => ?_⟩, hn.2.1, fun x hx y hy e => ?_⟩
    · subst e
      rcases List.mem_cons.mp hy with rfl | hy
      · exact aA hx
      · rcases hT2 x hy with hy | hy
        · exact hn1.2.2 x hx x (List.mem_cons_of_mem _ hy) rfl
        · exact hy.1 (by simp [hx])
    · subst e
      rcases List.mem_append.mp hx with hx | hx
      · exact hn.2.2 x (List.mem_append.mpr (.inl hx)) x hy rfl
      · rcases List.mem_cons.mp hx with rfl | hx
        · exact aB hy
        · rcases hT2 x hx with hx | hx
          · exact hn.2.2 x (List.mem_append.mpr (.inr (List.mem_cons_of_mem _ hx))) x hy rfl
          · exact hx.1 (by simp [hy])
  · rcases cases2 b z with z | z
    · exact k b z
    · exact ⟨z.2.1, z.2.2.1, z.2.2.2.1⟩
  · rw [upd_ne (fun z => by subst z; exact hb.elim aA aB)]
    exact ho
  · rw [List.getElem?_set_ne (Ne.symm nj)] at ej
    rcases cases2 b z with z | z
    · exact nj (r.own j i _ _ b ej ei m2 z)
    · exact z.2.2.2.2 j t ej m2
/-! items of tuples, counted from the front -/
theorem at3 {α : Type} (a b c d : α) (r : List α) : atI (a :: b :: c :: d :: r) 3 = some d := atD (j := 3) rfl rfl
theorem gi3 (a b c d : PyData) (r : List PyData) (P : DV → Prop) : gIx (.tuple (a :: b :: c :: d :: r)) (.int 3) P = P (.d d) := by simp only [gIx, at3]
theorem at4 {α : Type} (a b c d e : α) (r : List α) : atI (a :: b :: c :: d :: e :: r) 4 = some e := atD (j := 4) rfl rfl
theorem gi4 (a b c d e : PyData) (r : List PyData) (P : DV → Prop) : gIx (.tuple (a :: b :: c :: d :: e :: r)) (.int 4) P = P (.d e) := by simp only [gIx, at4]
theorem at5 {α : Type} (a b c d e f : α) (r : List α) : atI (a :: b :: c :: d :: e :: f :: r) 5 = some f := atD (j := 5) rfl rfl
theorem gi5 (a b c d e f : PyData) (r : List PyData) (P : DV → Prop) : gIx (.tuple (a :: b :: c :: d :: e :: f :: r)) (.int 5) P = P (.d f) := by simp only [gIx, at5]
theorem at6 {α : Type} (a b c d e f g : α) (r : List α) : atI (a :: b :: c :: d :: e :: f :: g :: r) 6 = some g := atD (j := 6) rfl rfl
theorem gi6 (a b c d e f g : PyData) (r : List PyData) (P : DV → Prop) : gIx (.tuple (a :: b :: c :: d :: e :: f :: g :: r)) (.int 6) P = P (.d g) := by simp only [gIx, at6]
theorem at7 {α : Type} (a b c d e f g h : α) (r : List α) : atI (a :: b :: c :: d :: e :: f :: g :: h :: r) 7 = some h := atD (j := 7) rfl rfl
theorem gi7 (a b c d e f g h : PyData) (r : List PyData) (P : DV → Prop) : gIx (.tuple (a :: b :: c :: d :: e :: f :: g :: h :: r)) (.int 7) P = P (.d h) := by simp only [gIx, at7]
/-- x..[k].clear() -/
def tClrP (i : Nat) (tp : DPl) : DS := fun d env => ∃ S x, env[i]? = some (.tr true S x) ∧ tp env x fun y g => ∃ ys, y = .list ys ∧ ∀ S2, d.nx (env.set i (.tr true S2 (g (.list []))))
theorem ds_clrP {e : Expr} (base : PE X e (tBM0 X.K "list" rClear (lfP X.K w i tp))) (hs : swapsWith e none pos.line X.env = pure false := by rfl) : DPS X w (.Expr e pos) (tClrP i tp) :=
  ps_weak (ps_expr base hs) fun D σ H ⟨env, F, d, r, ⟨S, x, ei, h⟩, fit⟩ => ⟨env, F, S, x, _, r, ei, h, fun y g v F1 H1 s1 ⟨v0, e0, hl⟩ ⟨ys, ey, h1⟩ => by
    subst ey
    obtain ⟨a, us, T, rfl, ea, _, oa, _, _, _, put⟩ := hole_write (r.step s1) ei e0 hl
    obtain ⟨S2, r2⟩ := put [] [] [] .nil List.not_mem_nil (fun b hb => absurd hb List.not_mem_nil) .nil
    exact ⟨.inl ⟨rfl, us, SqL.of ea⟩, a, us, rfl, rfl, ea, fit.nx _ _ F1 _ r2 s1.ex (h1 S2)⟩⟩
/-- the items of a new list, as owned ones -/
def lsT : DV → Option (List PyData)
  | .ft (.list zs) => some zs
  | .fr zs => if noLs zs = true then some zs else none
  | _ => none
theorem leaves {K : PySem.W.Frag} {F H : Hp} : ∀ {vs : List V} {xs : List PyData}, RpA K F vs xs → noLs xs = true → OtA K F H true [] vs xs
  | _, _, .nil, _ => .nil
  | _, _, .cons h t, n => by
    rw [noLs, Bool.and_eq_true] at n
    exact OtA.cons (S := []) (T := []) (.leaf h fun _ => n.1) (leaves t n.2)
theorem lsT_ok {K : PySem.W.Frag} {b : Bg} {Hz F H : Hp} {v : V} {dv : DV} {zs : List PyData} (r : Res K b Hz F H dv v) (e : lsT dv = some zs) :
    ∃ c T ws, v = .ref c ∧ H c = some (.lst ws) ∧ OtA K F H true T ws zs ∧ (c :: T).Nodup ∧ ∀ a ∈ c :: T, Hz a = none ∧ F a = none ∧ a ≠ b.b := by
  unfold lsT at e
  split at e
  · cases e
    obtain ⟨S, nd, k, o⟩ := r
    obtain ⟨a, T, vs, rfl, rfl, ea, oa⟩ := ot_lst o
    exact ⟨a, T, vs, rfl, ea, oa, nd, k⟩
  · next xs =>
    split at e
    · next n =>
      cases e
      obtain ⟨p, us, a1, a2, a3, a4, a5, a6⟩ := r
      refine ⟨p, [], us, a1, a5, leaves a6 n, by simp, fun a m => ?_⟩
      rw [List.mem_singleton.mp m]
      exact ⟨a2, a3, a4⟩
    · cases e
  · cases e
def tExtP (i : Nat) (tp : DPl) (te : DT) : DS := fun d env => ∃ S x, env[i]? = some (.tr true S x) ∧ tp env x fun y g => ∃ ys, y = .list ys ∧ te env fun dv => ∃ zs, lsT dv = some zs ∧ ys.length + zs.length ≤ 100000 ∧ ∀ S2, d.nx (env.set i (.tr true S2 (g (.list (ys ++ zs)))))
theorem ds_extP {e : Expr} {te : DT} (base : PE X e (tBM X.K "list" rExtend (lfP X.K w i tp) (tCons (lf X.K w te) tNil))) (hs : swapsWith e none pos.line X.env = pure false := by rfl) : DPS X w (.Expr e pos) (tExtP i tp te) :=
  ps_weak (ps_expr base hs) fun D σ H ⟨env, F, d, r, ⟨S, x, ei, h⟩, fit⟩ => ⟨env, F, S, x, _, r, ei, h, fun y g v F1 H1 s1 ⟨v0, e0, hl⟩ ⟨ys, ey, h1⟩ => by
    subst ey
    have r1 := r.step s1
    obtain ⟨a, us, _, rfl, ea, _⟩ := hole_write r1 ei e0 hl
    refine ⟨.inl ⟨rfl, us, SqL.of ea⟩, env, F1, _, r1, h1, fun dv5 v5 F5 H5 s5 q5 ⟨zs, ez, hlen, h5⟩ => ?_⟩
    obtain ⟨c, T5, ws, rfl, ec, o5, nd5, k5⟩ := lsT_ok q5 ez
    have r3 := r1.step s5
    have hl5 := hl.up s5.ex (tree_keep r1 ei s5)
    obtain ⟨a', us', T, ea', eu, ln, oa, ndT, aT, sub, put⟩ := hole_write r3 ei e0 hl5
    cases ea'
    have th : ∀ b ∈ S, ∃ o, H1 b = some o := fun b hb => by
      obtain ⟨_, _, _, k, _, t⟩ := r1.at' i _ ei
      obtain ⟨o, ho, _⟩ := t.there b hb
      exact ⟨o, ho⟩
    have far : ∀ b ∈ c :: T5, b ∉ S := fun b hb hS => by
      obtain ⟨o, ho⟩ := th b hS
      rw [(k5 b hb).1] at ho
      cases ho
    have aT5 : a ∉ c :: T5 := fun z => far a z (sub a (List.mem_cons_self ..))
    refine ⟨a, c, us', ws, rfl, rfl, eu, ec, by rw [ln, o5.len]; exact lim_le hlen, ?_⟩
    obtain ⟨S2, r2⟩ := put (T ++ T5) (us' ++ ws) (ys ++ zs) (List.nodup_append.mpr ⟨ndT, (List.nodup_cons.mp nd5).2, fun x hx y hy e => by subst e; exact far x (List.mem_cons_of_mem _ hy) (sub x (List.mem_cons_of_mem _ hx))⟩)
      (fun z => (List.mem_append.mp z).elim aT fun z => aT5 (List.mem_cons_of_mem _ z))
      (fun b hb => (List.mem_append.mp hb).elim .inl fun hb => .inr ⟨far b (List.mem_cons_of_mem _ hb), r1.st.back (k5 b (List.mem_cons_of_mem _ hb)).2.2 (k5 b (List.mem_cons_of_mem _ hb)).1, (k5 b (List.mem_cons_of_mem _ hb)).2.1, (k5 b (List.mem_cons_of_mem _ hb)).2.2, fun j t ej m2 => by
        obtain ⟨_, _, _, o, ho, _⟩ := slA_ok (r1.at' j _ ej) b m2
        rw [(k5 b (List.mem_cons_of_mem _ hb)).1] at ho
        cases ho⟩)
      (OtA.app (OtA.up sm0 (fun b z o ho => by rw [upd_ne (fun e => aT5 (by rw [← e]; exact List.mem_cons_of_mem _ z))]; exact ho) o5) (OtA.up sm0 (fun b z o ho => by rw [upd_ne (fun e => aT (by rw [← e]; exact z))]; exact ho) oa))
    exact fit.nx _ _ F5 _ r2 (s1.ex.trans s5.ex) (h5 S2)⟩
end
end Dl
/-! anything beside a text: ==, !=, in -/
namespace PySem.SeqAt
open PySem PySem.Calls
section
theorem dict_other_str (l : Addr) (es : Array DictEntry) (ep : Nat) (dd : Option Addr) (sl : Array (Option Value)) (b : Str) (u : Tok) :
    Meets (Builtin.«dict.__eq__» ⟨[.ref l, .str b u], []⟩) (fun _ R s => s.heap.get? l = some { cls := .type "dict", dict := dd, data := .dict es ep, slots := sl } ∧ R (.ok (.ret .notImplemented)) s) :=
  .of_wp fun prog w A R s h => by
    obtain ⟨hp, g, d, tk, os⟩ := s
    obtain ⟨hl, h⟩ := h
    have f1 := F.sub_str_dict
    have f2 : isSubtype (.type "dict") (.type "dict") = pure true := by rw [isSubtype_type]; kernel_rfl
    wp_walk using wpAny_loadPart' hl
    exact ⟨_, rfl, h⟩
theorem str_other_dict (b : Str) (u : Tok) (l : Addr) (es : Array DictEntry) (ep : Nat) (dd : Option Addr) (sl : Array (Option Value)) :
    Meets (Builtin.«str.__eq__» ⟨[.str b u, .ref l], []⟩) (fun _ R s => s.heap.get? l = some { cls := .type "dict", dict := dd, data := .dict es ep, slots := sl } ∧ R (.ok (.ret .notImplemented)) s) :=
  .of_wp fun prog w A R s h => by
    obtain ⟨hp, g, d, tk, os⟩ := s
    obtain ⟨hl, h⟩ := h
    wp_walk using wpAny_loadPart' hl, wpAny_load hl
    exact ⟨_, rfl, h⟩
section
variable {A : Around} {s : Shared} {l : Addr} {o : Obj} {es : Array DictEntry} {ep : Nat}
theorem RcAt.dict_text (b : Str) (u : Tok) (ho : s.heap.get? l = some o) (hc : o.cls = .type "dict") (hd : o.data = .dict es ep) (hu : A.units < cLine) : RcAt A s (.ref l) (.str b u) false := fun prog w E Q h => by
  obtain ⟨cls, dd, data, sl⟩ := o
  simp only at hc hd
  subst hc hd
  exact rc_eq_decline_or (k := false) ⟨_, ho, rfl⟩ (typeIs_str s b u) (by decide) F.sub_str_dict F.slot_dict_eq F.slot_str_eq_refl
    (fun _ hq => call_meets F.slot_dict_eq ⟨_, ho, rfl⟩ F.entry_dict_eq (F.args_dict_eq_2 _ _) (dict_other_str l es ep dd sl b u) ⟨ho, hq⟩)
    (fun _ hq => call_meets F.slot_str_eq_refl (typeIs_str s b u) F.entry_str_eq (F.args_str_eq_2 _ _) (str_other_dict b u l es ep dd sl) ⟨ho, hq⟩)
    (fun _ hq => wpAny_of_eq (rfl : isSame (.ref l) (.str b u) = pure false) hq) (.inr hu) h
theorem RcAt.text_dict (b : Str) (u : Tok) (ho : s.heap.get? l = some o) (hc : o.cls = .type "dict") (hd : o.data = .dict es ep) (hu : A.units < cLine) : RcAt A s (.str b u) (.ref l) false := fun prog w E Q h => by
  obtain ⟨cls, dd, data, sl⟩ := o
  simp only at hc hd
  subst hc hd
  exact rc_eq_decline_or (k := false) (typeIs_str s b u) ⟨_, ho, rfl⟩ (by decide) F.sub_dict_str F.slot_str_eq F.slot_dict_eq_refl
    (fun _ hq => call_meets F.slot_str_eq (typeIs_str s b u) F.entry_str_eq (F.args_str_eq_2 _ _) (str_other_dict b u l es ep dd sl) ⟨ho, hq⟩)
    (fun _ hq => call_meets F.slot_dict_eq_refl ⟨_, ho, rfl⟩ F.entry_dict_eq (F.args_dict_eq_2 _ _) (dict_other_str l es ep dd sl b u) ⟨ho, hq⟩)
    (fun _ hq => wpAny_of_eq (rfl : isSame (.str b u) (.ref l) = pure false) hq) (.inr hu) h
theorem EqAt.text_dict (b : Str) (u : Tok) (ho : s.heap.get? l = some o) (hc : o.cls = .type "dict") (hd : o.data = .dict es ep) (hu : A.units < cLine) : EqAt A s (.str b u) (.ref l) false := fun prog w E Q h => by
  unfold eqBool
  refine wpAny_holding (wpAny_ite_split (fun hab => absurd (eq_of_beq hab) nofun) fun _ => ?_)
  exact wpAny_bind (RcAt.text_dict b u ho hc hd hu prog w E _ (wpAny_truthy_bool h))
end
end
end PySem.SeqAt
namespace Dl
open PySem PySem.Spec PyProof.Rows L2
/-- the text z -/
def isTx (z : Str) : PyData → Bool
  | .str y => decide (y = z)
  | _ => false
section
variable {X : Cx} {w : Wn} {pins : List (Addr × Obj)} {σ : L2.St} {H : Hp} {s : Shared}
theorem dict_at (I : Inv X pins σ H s) {a : Addr} {kvs : List (Key × V)} (h : H a = some (.dK kvs)) : ∃ o es ep, s.heap.get? a = some o ∧ o.cls = .type "dict" ∧ o.data = .dict es ep := by
  obtain ⟨_, _, vs, rel, dof⟩ := dk_of I.hok h
  obtain ⟨ep, ob, es, ho, hex, hdat, _⟩ := dof.dictAt
  exact ⟨ob, es, ep, ho, hex.1, hdat⟩
/-- a text beside anything, as `in` compares them -/
theorem eq_tx (I : Inv X pins σ H s) {A : Around} (hu : A.units < cLine) {z : Str} {t : Tok} : ∀ {v : V} {x : PyData} {u : Value}, Rp X.K H v x → isOb x = false → RelV v u → SeqAt.EqAt A s (.str z t) u (isTx z x) := by
  intro v x u h no rv
  cases h with
  | non => cases rv; exact SeqAt.EqAt.str_none z t
  | bl b => cases rv; exact SeqAt.EqAt.str_bool z t b
  | int i =>
    obtain ⟨t2, rfl⟩ := rv
    exact SeqAt.EqAt.str_int z t i t2
  | str y =>
    obtain ⟨t2, rfl⟩ := rv
    have e := SeqAt.EqAt.str_str (A := A) (s := s) z t y t2
    have b : (z == y) = decide (y = z) := by
      by_cases c : y = z
      · subst c; simp
      · rw [decide_eq_false c]; exact beq_eq_false_iff_ne.mpr fun e => c e.symm
    rw [b] at e
    exact e
  | lst h r =>
    cases rv
    obtain ⟨its, _, p, _⟩ := I.list (SqL.of h)
    exact SeqAt.EqAt.str_list z t p.isList hu
  | tup h r =>
    cases rv
    obtain ⟨its, _, p, _⟩ := I.tuple h
    exact SeqAt.EqAt.str_tuple z t p hu
  | dct h r q =>
    cases rv
    obtain ⟨o, es, ep, ho, hc, hd⟩ := dict_at I h
    exact SeqAt.EqAt.text_dict z t ho hc hd hu
  | obj _ _ _ _ _ => cases no
/-- x == z, of anything and a text -/
theorem rc_tx (I : Inv X pins σ H s) {A : Around} (hu : A.units < cLine) {z : Str} {t : Tok} : ∀ {v : V} {x : PyData} {u : Value}, Rp X.K H v x → isOb x = false → RelV v u → SeqAt.RcAt A s u (.str z t) (isTx z x) := by
  intro v x u h no rv
  cases h with
  | non => cases rv; exact SeqAt.RcAt.none_str z t
  | bl b => cases rv; exact SeqAt.RcAt.bool_str b z t
  | int i =>
    obtain ⟨t2, rfl⟩ := rv
    exact SeqAt.RcAt.int_str i t2 z t
  | str y =>
    obtain ⟨t2, rfl⟩ := rv
    have e := SeqAt.RcAt.str_str (A := A) (s := s) y t2 z t
    exact e
  | lst h r =>
    cases rv
    obtain ⟨its, _, p, _⟩ := I.list (SqL.of h)
    exact SeqAt.RcAt.list_str z t p.isList hu
  | tup h r =>
    cases rv
    obtain ⟨its, _, p, _⟩ := I.tuple h
    exact SeqAt.RcAt.tuple_str z t p hu
  | dct h r q =>
    cases rv
    obtain ⟨o, es, ep, ho, hc, hd⟩ := dict_at I h
    exact SeqAt.RcAt.dict_text z t ho hc hd hu
  | obj _ _ _ _ _ => cases no
/-! ### the operators -/
def gEqX : G2 := fun x y P => isOb x = false ∧ match y with
  | .str z => P (.d (.bool (isTx z x)))
  | _ => False
theorem o_eqX (hu : X.A.units < cLine) : OpR X (compareOp .Eq) (lR X.K w.b gEqX) := by
  intro pins s σ H x y v u Q I rx ry h
  obtain ⟨F, dx, dy, P, wd, hx, hy, g, q⟩ := h
  unfold gEqX at g
  obtain ⟨no, g⟩ := g
  split at g
  · cases hy.str
    obtain ⟨t, rfl⟩ := ry
    exact rc_tx I hu (hx.all wd.sub) no rx _ _ _ _ ⟨.bl _, H, I, rfl, q _ (.bl _) F H wd.refl (res_d (.bl _)) g⟩
  · exact g.elim
def gInX (f : Bool → Bool) : G2 := fun x y P => isOb x = false ∧ ∃ zs : List Str, (y = .tuple (zs.map .str) ∨ y = .list (zs.map .str)) ∧ P (.d (.bool (f (zs.any fun z => isTx z x))))
theorem texts_eq (I : Inv X pins σ H s) {A : Around} (hu : A.units < cLine) {v : V} {x : PyData} {u : Value} (h : Rp X.K H v x) (no : isOb x = false) (rv : RelV v u) : ∀ {zs : List Str} {its : List Value}, Vals (zs.map V.str) its →
    ∃ e : Value → Bool, (∀ y ∈ its, SeqAt.EqAt A s y u (e y)) ∧ its.any e = zs.any fun z => isTx z x := by
  intro zs its r
  refine ⟨fun y => match y with | .str z _ => isTx z x | _ => false, ?_, ?_⟩
  · intro y hy
    induction zs generalizing its with
    | nil => cases r; cases hy
    | cons z zs ih =>
      cases r with
      | cons a t =>
        obtain ⟨tk, rfl⟩ := a
        rcases List.mem_cons.mp hy with rfl | hy
        · exact eq_tx I hu h no rv
        · exact ih t hy
  · induction zs generalizing its with
    | nil => cases r; rfl
    | cons z zs ih =>
      cases r with
      | cons a t =>
        obtain ⟨tk, rfl⟩ := a
        rw [List.any_cons, List.any_cons, ih t]
theorem rp_texts {K : PySem.W.Frag} {F : Hp} : ∀ {zs : List Str} {vs : List V}, RpA K F vs (zs.map .str) → vs = zs.map V.str
  | [], _, .nil => rfl
  | z :: zs, _, .cons h t => by
    cases h
    rw [rp_texts t]
    rfl
theorem o_inX (hu : X.A.units + 1 < cLine) : OpR X (compareOp .In) (lR X.K w.b (gInX id)) := by
  intro pins s σ H x y v u Q I rx ry h
  obtain ⟨F, dx, dy, P, wd, hx, hy, ⟨no, zs, hz, g⟩, q⟩ := h
  have hu1 : X.A.in1.units < cLine := by show X.A.units + 1 < cLine; exact hu
  rcases hz with rfl | rfl
  · obtain ⟨l, vs, rfl, e1, r1⟩ := hy.tup wd.sub
    rw [rp_texts r1] at e1
    obtain rfl : u = .ref l := ry
    obtain ⟨its, r, p, _⟩ := I.tuple e1
    obtain ⟨e, he, ha⟩ := texts_eq I hu1 (hx.all wd.sub) no rx r
    refine SeqAt.in_tupleAt e p (fun y hy => he y (by simpa using hy)) ⟨.bl _, H, I, rfl, q _ (.bl _) F H wd.refl (res_d (.bl _)) ?_⟩
    rw [← Array.any_toList]
    show P (.d (.bool (its.any e)))
    rw [ha]
    exact g
  · obtain ⟨l, vs, rfl, e1, r1⟩ := hy.lst wd.sub
    have e1 := SqL.of (K := X.K) e1
    rw [rp_texts r1] at e1
    obtain rfl : u = .ref l := ry
    obtain ⟨its, r, p, _⟩ := I.list e1
    obtain ⟨e, he, ha⟩ := texts_eq I hu1 (hx.all wd.sub) no rx r
    refine SeqAt.in_listAt e p.isList (fun y hy => he y (by simpa using hy)) ⟨.bl _, H, I, rfl, q _ (.bl _) F H wd.refl (res_d (.bl _)) ?_⟩
    rw [← Array.any_toList]
    show P (.d (.bool (its.any e)))
    rw [ha]
    exact g
theorem o_ninX (hu : X.A.units + 1 < cLine) : OpR X (compareOp .NotIn) (lR X.K w.b (gInX not)) := by
  intro pins s σ H x y v u Q I rx ry h
  obtain ⟨F, dx, dy, P, wd, hx, hy, ⟨no, zs, hz, g⟩, q⟩ := h
  have hu1 : X.A.in1.units < cLine := by show X.A.units + 1 < cLine; exact hu
  rcases hz with rfl | rfl
  · obtain ⟨l, vs, rfl, e1, r1⟩ := hy.tup wd.sub
    rw [rp_texts r1] at e1
    obtain rfl : u = .ref l := ry
    obtain ⟨its, r, p, _⟩ := I.tuple e1
    obtain ⟨e, he, ha⟩ := texts_eq I hu1 (hx.all wd.sub) no rx r
    refine SeqAt.notIn_tupleAt e p (fun y hy => he y (by simpa using hy)) ⟨.bl _, H, I, rfl, q _ (.bl _) F H wd.refl (res_d (.bl _)) ?_⟩
    rw [← Array.any_toList]
    show P (.d (.bool (!its.any e)))
    rw [ha]
    exact g
  · obtain ⟨l, vs, rfl, e1, r1⟩ := hy.lst wd.sub
    have e1 := SqL.of (K := X.K) e1
    rw [rp_texts r1] at e1
    obtain rfl : u = .ref l := ry
    obtain ⟨its, r, p, _⟩ := I.list e1
    obtain ⟨e, he, ha⟩ := texts_eq I hu1 (hx.all wd.sub) no rx r
    refine SeqAt.notIn_listAt e p.isList (fun y hy => he y (by simpa using hy)) ⟨.bl _, H, I, rfl, q _ (.bl _) F H wd.refl (res_d (.bl _)) ?_⟩
    rw [← Array.any_toList]
    show P (.d (.bool (!its.any e)))
    rw [ha]
    exact g
/-- a sign in a text -/
def gInS (f : Bool → Bool) : G2 := fun x y P => ∃ (c : Nat) (z : Str), x = .str ⟨#[c]⟩ ∧ y = .str z ∧ P (.d (.bool (f (decide (c ∈ z.cps.toList)))))
theorem o_inS : OpR X (compareOp .In) (lR X.K w.b (gInS id)) := by
  intro pins s σ H x y v u Q I rx ry h
  obtain ⟨F, dx, dy, P, wd, hx, hy, ⟨c, z, rfl, rfl, g⟩, q⟩ := h
  cases hx.str
  cases hy.str
  exact op_inS pins s σ H _ _ v u Q I rx ry ⟨c, z, rfl, rfl, q _ (.bl _) F H wd.refl (res_d (.bl _)) g⟩
theorem o_ninS : OpR X (compareOp .NotIn) (lR X.K w.b (gInS not)) := by
  intro pins s σ H x y v u Q I rx ry h
  obtain ⟨F, dx, dy, P, wd, hx, hy, ⟨c, z, rfl, rfl, g⟩, q⟩ := h
  cases hx.str
  cases hy.str
  exact op_notInS pins s σ H _ _ v u Q I rx ry ⟨c, z, rfl, rfl, q _ (.bl _) F H wd.refl (res_d (.bl _)) g⟩
/-- xs != [] -/
def gNeN : G2 := fun x y P => match x, y with
  | .list xs, .list [] => P (.d (.bool (!xs.isEmpty)))
  | _, _ => False
theorem o_neN (hu : X.A.units < cLine) : OpR X (compareOp .NotEq) (lR X.K w.b gNeN) := by
  intro pins s σ H x y v u Q I rx ry h
  obtain ⟨F, dx, dy, P, wd, hx, hy, g, q⟩ := h
  unfold gNeN at g
  split at g
  · next xs =>
    obtain ⟨l, vs, rfl, e1, r1⟩ := hx.lst wd.sub
    obtain ⟨m, us, rfl, e2, r2⟩ := hy.lst wd.sub
    cases r2
    obtain rfl : v = .ref l := rx
    obtain rfl : u = .ref m := ry
    obtain ⟨its, ra, p1, _⟩ := I.list (SqL.of e1)
    obtain ⟨its2, rb, p2, _⟩ := I.list (SqL.of e2)
    cases rb
    have len : its.length = xs.length := by rw [← ra.length, r1.len]
    have fin := q _ (.bl (!xs.isEmpty)) F H wd.refl (res_d (.bl _)) g
    cases xs with
    | nil =>
      have e0 : its = [] := List.eq_nil_of_length_eq_zero len
      subst e0
      exact SeqAt.RcNeAt.lists (e := fun _ => true) p1.isList p2.isList rfl hu (fun j a _ => absurd a (Nat.not_lt_zero j)) _ _ _ _ ⟨.bl false, H, I, rfl, fin⟩
    | cons x xs =>
      refine SeqAt.RcNeAt.lists_lengths p1.isList p2.isList ?_ hu _ _ _ _ ⟨.bl true, H, I, rfl, fin⟩
      rw [List.size_toArray, List.size_toArray, len]
      rfl
  · exact g.elim
end
end Dl
/-! a dict display of constants, d.get(k), isinstance of one of two types, bool + int -/
namespace Dl
open PySem PySem.Spec PyProof.Rows L2 PySem.W
/-! ### bool + int -/
theorem sub_int_bool : isSubtype (.type "int") (.type "bool") = pure false := by rw [isSubtype_type]; kernel_rfl
theorem int_add_bool_int (b : Bool) (a : Int) (t : Tok) : Gives (Builtin.«int.__add__» ⟨[.bool b, .int a t], []⟩) (.int ((if b = true then (1 : Int) else 0) + a)) :=
  .of_wp fun M A E s Q h => by obtain ⟨hp, g, d, tk, os⟩ := s; wp_walk; exact ⟨_, rfl, h⟩
theorem add_bool_int {prog : Program} {w : World} {A : Around} {E : Value → Shared → Prop} {s : Shared} {a : Int} {t : Tok} {b : Bool} {Q : Value → Shared → Prop}
    (h : Q (.int ((if b = true then (1 : Int) else 0) + a) s.toks) { s with toks := s.toks + 1 }) : wpAny (model prog w) A (binaryOp .Add (.bool b) (.int a t)) Q E s :=
  binaryOp_left_gives (op := .Add) (T := "bool") (U := "int") (by decide) rfl (fun s' => typeIs_int s' a t) F.fills_bool_add F.fills_int_add sub_int_bool F.slot_bool_add F.slot_int_radd F.entry_int_add (F.args_int_add_2 _ _)
    (int_add_bool_int b a t) trivial h
def bI (b : Bool) : Int := if b = true then 1 else 0
def gAddX : G2 := fun x y P => match x, y with
  | .bool k, .int j => P (.d (.int (bI k + j)))
  | .int i, .int j => P (.d (.int (i + j)))
  | _, _ => False
section
variable {X : Cx} {w : Wn}
theorem o_addX : OpR X (binaryOp .Add) (lR X.K w.b gAddX) := by
  intro pins s σ H x y v u Q I rx ry h
  obtain ⟨F, dx, dy, P, wd, hx, hy, g, q⟩ := h
  unfold gAddX at g
  split at g
  · next k j =>
    cases hx.bl
    cases hy.int
    obtain ⟨t, rfl⟩ := ry
    cases (show v = Value.bool k from rx)
    exact add_bool_int ⟨.int (bI k + j), H, I.tok _, ⟨_, rfl⟩, q (.d (.int _)) _ F H wd.refl (res_d (.int _)) g⟩
  · cases hx.int; cases hy.int
    exact op_add pins s σ H _ _ v u Q I rx ry ⟨_, _, rfl, rfl, q (.d (.int _)) _ F H wd.refl (res_d (.int _)) g⟩
  · exact g.elim
/-! ### isinstance(x, (a, b)) -/
theorem ty_two {K : PySem.W.Frag} {b : Bg} {F H : Hp} {v : V} {x : PyData} (no : isOb x = false) (s : Same F H) (h : Rr K b F H v x) : ∃ t, TyX K H v t ∧ ∀ n, (n = "int" ∨ n = "bool" ∨ n = "str" ∨ n = "list" ∨ n = "tuple" ∨ n = "dict") → PySem.W.kitOne K t (.type n) = some (isA n x) := by
  cases x with
  | none => cases h.non; exact ⟨_, .base .non, fun n hn => kit_ty (kit_all hn .none rfl)⟩
  | bool c => cases h.bl; exact ⟨_, .base (.bl _), fun n hn => kit_ty (kit_all hn (.bool c) rfl)⟩
  | int c => cases h.int; exact ⟨_, .base (.int _), fun n hn => kit_ty (kit_all hn (.int c) rfl)⟩
  | str c => cases h.str; exact ⟨_, .base (.str _), fun n hn => kit_ty (kit_all hn (.str c) rfl)⟩
  | list xs => obtain ⟨l, vs, rfl, e, r⟩ := h.lst s; exact ⟨_, .base (.lst e), fun n hn => kit_ty (kit_all hn (.list xs) rfl)⟩
  | tuple xs =>
    obtain ⟨l, vs, rfl, e, r⟩ := h.tup s
    refine ⟨_, ?_, fun n hn => kit_ty (kit_all hn (.tuple xs) rfl)⟩
    rcases e with (e | ⟨o, e⟩) | ⟨o, its, n, e, c, _⟩
    · exact .base (.tup e)
    · exact .fTuple e
    · exact .kTuple e c
  | dict kvs =>
    generalize e : PyData.dict kvs = z at h
    cases h with
    | d h =>
      cases h with
      | dct h r q => exact ⟨_, .base (.dK (s _ _ h)), fun n hn => kit_ty (kit_all hn _ (dct_isOb r))⟩
      | obj _ _ _ _ _ => rw [e] at no; cases no
      | _ => cases e
    | o => cases e
def tIsT (n m : String) (te : DT) : DT := fun env P => te env fun u => rd u fun x => isOb x = false ∧ P (.d (.bool (isA n x || isA m x)))
theorem d_isT {e : Expr} {te : DT} {x1 x2 : Str} {N M : String} {p p1 p2 pt pos : Pos} {c : Nat} (hn : N = "int" ∨ N = "bool" ∨ N = "str" ∨ N = "list" ∨ N = "tuple" ∨ N = "dict") (hm : M = "int" ∨ M = "bool" ∨ M = "str" ∨ M = "list" ∨ M = "tuple" ∨ M = "dict")
    (gl : Gl X "isinstance") (gm : X.mg "isinstance" = none) (he : DPE X w e te) (h1 : PE X (.Name x1 p1) (tC (.ty N))) (h2 : PE X (.Name x2 p2) (tC (.ty M)))
    (s1 : starEach [e, .Tuple [.Name x1 p1, .Name x2 p2] c pt] X.env = (false, eval e X.env) :: starEach [.Tuple [.Name x1 p1, .Name x2 p2] c pt] X.env := by rfl) :
    DPE X w (.Call (.Name "isinstance" p) [e, .Tuple [.Name x1 p1, .Name x2 p2] c pt] [] pos) (tIsT N M te) := by
  refine pe_weak (pe_callB call_isiT gl gm (by decide +kernel) (pa_cons he (pa_cons (pe_tup (pa_cons h1 (pa_cons h2 pa_nil))) pa_nil) s1) (he := s1)) fun σ H Q ⟨env, F, P, r, h, q⟩ => ?_
  refine ⟨env, F, _, r, h, fun dv v F1 H1 st r1 h1 => ?_⟩
  obtain ⟨x, rx, no, h1⟩ := rd_ok r1 h1
  refine ⟨by show 2 ≤ sizeLine; rw [sizeLine_eq]; omega, fun a ha => ?_⟩
  have s2 := st.wd.laidM (o := .tup [.ty N, .ty M]) ha
  obtain ⟨t, ty, kt⟩ := ty_two no s2.wd.sub (rx.step s2)
  refine ⟨_, a, _, t, _, isA N x || isA M x, rfl, upd_same, .cons (.ty N) (.cons (.ty M) .nil), ty, ?_, q (.d (.bool _)) _ F1 _ (st.trans s2) (Rp.bl _) h1⟩
  refine kitAny_cons (kt N hn) (fun e => ?_) fun e => by rw [e]; rfl
  refine kitAny_cons (kt M hm) (fun e2 => ?_) fun e2 => by rw [e2, Bool.or_true]
  rw [e, e2]
  exact kitAny_nil
/-! ### {'a': 1, 'b': 2, ..}, all constants -/
inductive DispC : List (Option Expr) → List Expr → List (Str × Int) → Prop
  | nil : DispC [] [] []
  | cons {ks vs kvs k i j1 p1 j2 p2} : DispC ks vs kvs → DispC (some (.Constant (.str k) j1 p1) :: ks) (.Constant (.int i) j2 p2 :: vs) ((k, i) :: kvs)
def kvC (kvs : List (Str × Int)) : List (Key × V) := kvs.map fun p => (Sum.inr p.1, V.int p.2)
def kvD (kvs : List (Str × Int)) : List (Key × PyData) := kvs.map fun p => (Sum.inr p.1, PyData.int p.2)
theorem DispC.pps {pos : Pos} : ∀ {ks vs kvs}, DispC ks vs kvs → PPs X pos ks vs ((kvC kvs).map fun p => (tC (kV p.1), tC p.2))
  | _, _, _, .nil => pps_nil
  | _, _, _, .cons t => pps_cons pe_str pe_int t.pps
theorem tPairs_c {σ : L2.St} : ∀ {kvs : List (Key × V)} {H : Hp} {Q : List (V × V) → Hp → Prop}, Q (kvs.map fun p => (kV p.1, p.2)) H → tPairs (kvs.map fun p => (tC (kV p.1), tC p.2)) σ H Q
  | [], _, _, h => h
  | p :: r, H, Q, h => tPairs_c (kvs := r) (Q := fun ps H3 => Q ((kV p.1, p.2) :: ps) H3) h
theorem DispC.len : ∀ {ks vs kvs}, DispC ks vs kvs → ks.all (·.isSome) = true ∧ ks.length = vs.length ∧ ks.length = kvs.length
  | _, _, _, .nil => ⟨rfl, rfl, rfl⟩
  | _, _, _, .cons t => by
    obtain ⟨a, b, c⟩ := t.len
    exact ⟨by rw [List.all_cons, a]; rfl, by rw [List.length_cons, List.length_cons, b], by rw [List.length_cons, List.length_cons, c]⟩
theorem kvp_c {K : PySem.W.Frag} {F : Hp} : ∀ kvs : List (Str × Int), KVp K F (kvC kvs) (kvD kvs)
  | [] => .nil
  | _ :: kvs => .cons ⟨rfl, .int _⟩ (kvp_c kvs)
theorem putK_new {kvs : List (Key × V)} {k : Key} {v : V} (h : ∀ p ∈ kvs, p.1 ≠ k) : putK kvs k v = kvs ++ [(k, v)] := by
  unfold putK
  rw [if_neg]
  simp only [List.any_eq_true, decide_eq_true_eq, not_exists, not_and]
  exact h
theorem mergeK_new : ∀ {more kvs : List (Key × V)}, ((kvs ++ more).map (·.1)).Nodup → mergeK kvs more = kvs ++ more
  | [], kvs, _ => (List.append_nil _).symm
  | p :: r, kvs, h => by
    show mergeK (putK kvs p.1 p.2) r = _
    have e : kvs ++ p :: r = (kvs ++ [p]) ++ r := by simp
    rw [putK_new, mergeK_new (by rw [← e]; exact h), ← e]
    intro q hq eq
    rw [List.map_append, List.nodup_append] at h
    exact h.2.2 _ (List.mem_map_of_mem hq) _ (by rw [List.map_cons]; exact List.mem_cons_self) eq
def tDictC (kvs : List (Str × Int)) : DT := fun env P => P (.d (dK (kvD kvs)))
def keysN (kvs : List (Str × Int)) : Bool := decide (kvs.map (·.1)).Nodup
theorem dK_zip : ∀ kvs : List (Str × Int), (kvD kvs).map (fun p => (kD p.1, p.2)) = (kvs.map fun p => PyData.str p.1).zip (kvs.map fun p => PyData.int p.2)
  | [] => rfl
  | _ :: r => congrArg (List.cons _) (dK_zip r)
theorem rpk_c {K : PySem.W.Frag} {F : Hp} : ∀ kvs : List (Str × Int), RpA K F ((kvC kvs).map fun p => kV p.1) (kvs.map fun p => PyData.str p.1)
  | [] => .nil
  | _ :: r => .cons (.str _) (rpk_c r)
theorem rpv_c {K : PySem.W.Frag} {F : Hp} : ∀ kvs : List (Str × Int), RpA K F ((kvC kvs).map Prod.snd) (kvs.map fun p => PyData.int p.2)
  | [] => .nil
  | _ :: r => .cons (.int _) (rpv_c r)
theorem rp_kvs {K : PySem.W.Frag} {F : Hp} {a : Addr} (kvs : List (Str × Int)) (h : F a = some (.dK (kvC kvs))) : Rp K F (.ref a) (dK (kvD kvs)) := by
  have e : dK (kvD kvs) = .dict ((kvs.map fun p => PyData.str p.1).zip (kvs.map fun p => PyData.int p.2)) := congrArg PyData.dict (dK_zip kvs)
  rw [e]
  exact Rp.dct h (rpk_c kvs) (rpv_c kvs)
theorem nodup_kvC {kvs : List (Str × Int)} (h : (kvs.map (·.1)).Nodup) : ((kvC kvs).map (·.1)).Nodup := by
  have e : (kvC kvs).map (·.1) = (kvs.map (·.1)).map Sum.inr := by
    unfold kvC
    rw [List.map_map, List.map_map]
    rfl
  rw [e]
  exact List.Pairwise.map _ (fun a b hne e => hne (Sum.inr.inj e)) h
theorem d_dictC {ks : List (Option Expr)} {vs : List Expr} {kvs : List (Str × Int)} {pos : Pos} (hd : DispC ks vs kvs) (h0 : ks ≠ []) (h15 : ks.length ≤ 15) (hn : (kvs.map (·.1)).Nodup) : DPE X w (.Dict ks vs pos) (tDictC kvs) :=
  pe_weak (pe_disp hd.pps hd.len.1 hd.len.2.1 h0 h15) fun σ H Q ⟨env, F, P, r, h, q⟩ => fun p hp => by
    refine tPairs_c ⟨upd_same, kvC kvs, rfl, ?_, ?_⟩
    · unfold kvC
      rw [List.length_map, ← hd.len.2.2]
      exact h15
    have mk : mergeK [] (kvC kvs) = kvC kvs := mergeK_new (kvs := []) (nodup_kvC hn)
    rw [mk, upd_upd]
    have Fp : F p = none := by
      cases e : F p with
      | none => rfl
      | some o => rw [r.wd.sub _ _ e] at hp; cases hp
    obtain ⟨bs, eb⟩ := r.wd.bag.lst
    have pb : p ≠ w.b.b := fun e => by rw [e, eb] at hp; cases hp
    have st := r.wd.laidM (o := .dK (kvC kvs)) hp
    have fz := st.freezeT (S := [p]) (fun a m => by cases List.mem_singleton.mp m; exact ⟨hp, Fp, pb⟩) (fun a m => by cases List.mem_singleton.mp m; exact ⟨_, upd_same, rfl⟩)
    refine q (.d (dK (kvD kvs))) _ _ _ fz (rp_kvs kvs ?_) h
    unfold opn
    rw [if_pos (List.mem_singleton.mpr rfl)]
    exact upd_same
/-! ### d.get(k), d a dict that is data -/
def tGetO (td te : DT) : DT := fun env P => td env fun u => ∃ kvs, u = .d (dK kvs) ∧ te env fun z => ∃ k, keyD z = some k ∧ P (.d ((lkD kvs k).getD .none))
theorem d_getO {o e : Expr} {td te : DT} {apos cpos : Pos} (hu : X.A.units + 64 < cLine) (ho : DPE X w o td) (he : DPE X w e te) (m : M1 X o "get" apos e cpos) : DPE X w (.Call (.Attribute o "get" apos) [e] [] cpos) (tGetO td te) :=
  pe_weak (pe_dget1 (by omega) ho he m) fun σ H Q ⟨env, F, P, r, h, q⟩ => by
    refine ⟨env, F, _, r, h, fun dv v F1 H1 s1 r1 ⟨kvs, e1, h1⟩ => ?_⟩
    subst e1
    obtain ⟨a, us, rfl, ha, kv⟩ := rp_dK (show Rp X.K F1 v (dK kvs) from r1)
    refine ⟨a, rfl, .inl ⟨us, .inl (s1.sub _ _ ha)⟩, ?_⟩
    refine ⟨env, F1, _, r.step s1, h1, fun dv2 v2 F2 H2 s2 r2 ⟨k, ek, h2⟩ => ?_⟩
    obtain rfl := keyD_ok r2 ek
    obtain ⟨a2, us2, e2, ha2, kv2⟩ := rp_dK (show Rp X.K F2 (.ref a) (dK kvs) from Rp.up s2.ex r1)
    cases e2
    refine ⟨_, DGet.k (s2.sub _ _ ha2), ?_⟩
    cases lk : lkD kvs k with
    | none =>
      rw [lk] at h2
      have z := kv2.is k
      rw [lk] at z
      have z2 : valV us2 k = none := Option.isNone_iff_eq_none.mp (by rw [← Option.not_isSome, z]; rfl)
      rw [z2]
      exact q (.d .none) .non F2 H2 (s1.trans s2) Rp.non h2
    | some x =>
      rw [lk] at h2
      obtain ⟨v3, ev, rv⟩ := kv2.some lk
      rw [ev]
      exact q (.d x) v3 F2 H2 (s1.trans s2) rv h2
end
end Dl
/-! == of data with its own copy, where an empty dict may lie in it -/
namespace PySem.SeqAt
open PySem PySem.Calls
section
theorem wpAny_range0 {M : Model} {A : Around} {E : Value → Shared → Prop} {s : Shared} {β : Type} {f : Nat → β → Sem (ForInStep β)} {b : β} {Q : β → Shared → Prop} (h : Q b s) : wpAny M A (forIn ([: (#[] : Array DictEntry).size]) b f) Q E s := by
  rw [Std.Legacy.Range.forIn_eq_forIn_range']
  exact wpAny_pure h
theorem dict_eq_none (l m : Addr) (ep ep2 : Nat) (dd dd2 : Option Addr) (sl sl2 : Array (Option Value)) :
    Meets (Builtin.«dict.__eq__» ⟨[.ref l, .ref m], []⟩) (fun _ R s => s.heap.get? l = some { cls := .type "dict", dict := dd, data := .dict #[] ep, slots := sl } ∧ s.heap.get? m = some { cls := .type "dict", dict := dd2, data := .dict #[] ep2, slots := sl2 } ∧ (l == sysModules) = false ∧ (m == sysModules) = false ∧ R (.ok (.ret (.bool true))) s) :=
  .of_wp fun prog w A R s h => by
    obtain ⟨hp, g, d, tk, os⟩ := s
    obtain ⟨hl, hm, n1, n2, h⟩ := h
    have e1 : Builtin.Dict.showsAll l = pure () := by unfold Builtin.Dict.showsAll; rw [n1]; rfl
    have e2 : Builtin.Dict.showsAll m = pure () := by unfold Builtin.Dict.showsAll; rw [n2]; rfl
    have f2 : isSubtype (.type "dict") (.type "dict") = pure true := by rw [isSubtype_type]; kernel_rfl
    wp_walk using wpAny_loadPart' hl, wpAny_loadPart' hm, wpAny_range0
    exact ⟨_, rfl, h⟩
end
end PySem.SeqAt
namespace Dl
open PySem PySem.Spec PyProof.Rows L2
mutual
/-- data in which the only dicts are empty ones -/
def okE : PyData → Bool
  | .none => true
  | .bool _ => true
  | .int _ => true
  | .str _ => true
  | .list xs => okEs xs
  | .tuple xs => okEs xs
  | .dict kvs => kvs.isEmpty
def okEs : List PyData → Bool
  | [] => true
  | x :: xs => okE x && okEs xs
end
section
variable {X : Cx} {w : Wn} {pins : List (Addr × Obj)} {σ : L2.St} {H : Hp} {s : Shared}
theorem empty_at (I : Inv X pins σ H s) {a : Addr} {kvs : List (Key × V)} (h : H a = some (.dK kvs)) (e : kvs = []) : ∃ o ep, s.heap.get? a = some o ∧ o.cls = .type "dict" ∧ o.data = .dict #[] ep ∧ (a == sysModules) = false := by
  subst e
  obtain ⟨_, hd, vs, rel, dof⟩ := dk_of I.hok h
  cases rel
  obtain ⟨ob, es, ep, ho, hex, hdat, _, hp, _⟩ := dof
  have e2 : es = #[] := by
    cases h : es.toList with
    | nil => exact Array.toList_inj.mp (by rw [h])
    | cons a t => rw [h] at hp; cases hp
  rw [e2] at hdat
  exact ⟨ob, ep, ho, hex.1, hdat, hd⟩
theorem rc_empties {A : Around} {l m : Addr} {o o2 : Obj} {ep ep2 : Nat} (h1 : s.heap.get? l = some o) (c1 : o.cls = .type "dict") (d1 : o.data = .dict #[] ep) (n1 : (l == sysModules) = false)
    (h2 : s.heap.get? m = some o2) (c2 : o2.cls = .type "dict") (d2 : o2.data = .dict #[] ep2) (n2 : (m == sysModules) = false) (hu : A.units < cLine) : SeqAt.RcAt A s (.ref l) (.ref m) true := fun prog w E Q h => by
  obtain ⟨cls, dd, data, sl⟩ := o
  obtain ⟨cls2, dd2, data2, sl2⟩ := o2
  simp only at c1 d1 c2 d2
  subst c1 d1 c2 d2
  exact richCompare_meets_room (op := .Eq) ⟨_, h1, rfl⟩ ⟨_, h2, rfl⟩ F.slot_dict_eq F.entry_dict_eq (F.args_dict_eq_2 _ _) (SeqAt.dict_eq_none l m ep ep2 dd dd2 sl sl2)
    ⟨h1, h2, n1, n2, show Value.bool true ≠ Value.notImplemented ∧ Q (.bool true) s from ⟨(fun x => nomatch x), h⟩⟩ hu
theorem both_refs {A : Around} {l m : Addr} (rc : SeqAt.RcAt A s (.ref l) (.ref m) true) : SeqAt.EqAt A s (.ref l) (.ref m) true ∧ SeqAt.RcAt A s (.ref l) (.ref m) true := by
  refine ⟨?_, rc⟩
  by_cases c : l = m
  · subst c; exact SeqAt.EqAt.same _
  · exact SeqAt.EqAt.of_refs c rc
theorem dct_nil {K : PySem.W.Frag} {F : Hp} {v : V} {kvs : List (PyData × PyData)} (h : Rp K F v (.dict kvs)) (e : kvs = []) : ∃ a us, v = .ref a ∧ F a = some (.dK us) ∧ us = [] := by
  subst e
  generalize hz : PyData.dict [] = z at h
  cases h with
  | @dct a us ks xs h r q =>
    have e := PyData.dict.inj hz
    refine ⟨a, us, rfl, h, ?_⟩
    cases us with
    | nil => rfl
    | cons p us =>
      rw [List.map_cons] at r q
      cases r with
      | cons =>
        cases q with
        | cons => cases e
  | obj _ _ _ _ _ => cases hz
  | _ => cases hz
theorem all_tt (n : Nat) : ((List.range n).all fun _ => true) = true := by simp
mutual
theorem eq_own (I : Inv X pins σ H s) : ∀ (x : PyData), okE x = true → ∀ {A : Around} {v u : V} {a b : Value}, A.units + x.depth < cLine → Rp X.K H v x → Rp X.K H u x → RelV v a → RelV u b → SeqAt.EqAt A s a b true ∧ SeqAt.RcAt A s a b true
  | .none, _, A, v, u, a, b, hu, rv, ru, ea, eb => by
    cases rv; cases ru; cases ea; cases eb
    exact ⟨SeqAt.EqAt.same _, SeqAt.RcAt.none_none⟩
  | .bool c, _, A, v, u, a, b, hu, rv, ru, ea, eb => by
    cases rv; cases ru; cases ea; cases eb
    refine ⟨SeqAt.EqAt.same _, ?_⟩
    have e := SeqAt.RcAt.bool_bool (A := A) (s := s) c c
    simpa using e
  | .int i, _, A, v, u, a, b, hu, rv, ru, ea, eb => by
    cases rv; cases ru
    obtain ⟨t, rfl⟩ := ea
    obtain ⟨t2, rfl⟩ := eb
    have e := SeqAt.RcAt.int_int (A := A) (s := s) i t i t2
    have e2 := SeqAt.EqAt.int_int (A := A) (s := s) i t i t2
    rw [beq_self_eq_true] at e e2
    exact ⟨e2, e⟩
  | .str i, _, A, v, u, a, b, hu, rv, ru, ea, eb => by
    cases rv; cases ru
    obtain ⟨t, rfl⟩ := ea
    obtain ⟨t2, rfl⟩ := eb
    have e := SeqAt.RcAt.str_str (A := A) (s := s) i t i t2
    have e2 := SeqAt.EqAt.str_str (A := A) (s := s) i t i t2
    rw [beq_self_eq_true] at e e2
    exact ⟨e2, e⟩
  | .list xs, ok, A, v, u, a, b, hu, rv, ru, ea, eb => by
    cases rv with
    | lst h1 r1 =>
      cases ru with
      | lst h2 r2 =>
        cases ea; cases eb
        obtain ⟨its, va, p1, _⟩ := I.list (SqL.of h1)
        obtain ⟨its2, vb, p2, _⟩ := I.list (SqL.of h2)
        simp only [PyData.depth] at hu
        have key := eqs_own I xs (by simpa only [okE] using ok) (A := A.in1) (by show A.units + 1 + _ < cLine; omega) r1 r2 va vb
        have len : its.length = its2.length := by rw [← va.length, ← vb.length, r1.len, r2.len]
        have rc : SeqAt.RcAt A s (.ref _) (.ref _) ((List.range its.toArray.size).all fun _ => true) := SeqAt.RcAt.lists p1.isList p2.isList (by simpa using len) (by omega) fun j g1 g2 => key j (by simpa using g1) (by simpa using g2)
        rw [all_tt] at rc
        exact both_refs rc
  | .tuple xs, ok, A, v, u, a, b, hu, rv, ru, ea, eb => by
    cases rv with
    | tup h1 r1 =>
      cases ru with
      | tup h2 r2 =>
        cases ea; cases eb
        obtain ⟨its, va, p1, _⟩ := I.tuple h1
        obtain ⟨its2, vb, p2, _⟩ := I.tuple h2
        simp only [PyData.depth] at hu
        have key := eqs_own I xs (by simpa only [okE] using ok) (A := A.in1) (by show A.units + 1 + _ < cLine; omega) r1 r2 va vb
        have len : its.length = its2.length := by rw [← va.length, ← vb.length, r1.len, r2.len]
        have rc : SeqAt.RcAt A s (.ref _) (.ref _) ((List.range (min its.toArray.size its2.toArray.size)).all (fun _ => true) && its.toArray.size == its2.toArray.size) := SeqAt.RcAt.tuples p1 p2 (by omega) fun j g1 g2 => key j (by simpa using g1) (by simpa using g2)
        rw [all_tt, Bool.true_and, beq_iff_eq.mpr (show its.toArray.size = its2.toArray.size by simpa using len)] at rc
        exact both_refs rc
  | .dict kvs, ok, A, v, u, a, b, hu, rv, ru, ea, eb => by
    have e : kvs = [] := by simpa only [okE, List.isEmpty_iff] using ok
    obtain ⟨l, us, rfl, h1, e1⟩ := dct_nil rv e
    obtain ⟨m, ws, rfl, h2, e2⟩ := dct_nil ru e
    cases ea; cases eb
    obtain ⟨o1, p1, g1, c1, d1, n1⟩ := empty_at I h1 e1
    obtain ⟨o2, p2, g2, c2, d2, n2⟩ := empty_at I h2 e2
    exact both_refs (rc_empties g1 c1 d1 n1 g2 c2 d2 n2 (by omega))
theorem eqs_own (I : Inv X pins σ H s) : ∀ (xs : List PyData), okEs xs = true → ∀ {A : Around} {vs us : List V} {as bs : List Value}, A.units + PyData.depthAll xs < cLine → RpA X.K H vs xs → RpA X.K H us xs → Vals vs as → Vals us bs →
    ∀ (j : Nat) (h1 : j < as.length) (h2 : j < bs.length), SeqAt.EqAt A s as[j] bs[j] true
  | [], _, A, vs, us, as, bs, hu, rv, ru, ea, eb => by
    cases rv; cases ea
    exact fun j h1 _ => absurd h1 (Nat.not_lt_zero _)
  | x :: xs, ok, A, vs, us, as, bs, hu, rv, ru, ea, eb => by
    simp only [okEs, Bool.and_eq_true] at ok
    simp only [PyData.depthAll] at hu
    cases rv with
    | cons g1 t1 =>
      cases ru with
      | cons g2 t2 =>
        cases ea with
        | cons e1 f1 =>
          cases eb with
          | cons e2 f2 =>
            intro j h1 h2
            cases j with
            | zero => exact (eq_own I x ok.1 (by omega) g1 g2 e1 e2).1
            | succ j => exact eqs_own I xs ok.2 (by omega) t1 t2 f1 f2 j _ _
end
/-- x == its own copy -/
def gEqS : G2 := fun x y P => x = y ∧ okE x = true ∧ x.depth ≤ 60 ∧ P (.d (.bool true))
theorem o_eqS (hu : X.A.units + 64 < cLine) : OpR X (compareOp .Eq) (lR X.K w.b gEqS) := by
  intro pins s σ H x y v u Q I rx ry h
  obtain ⟨F, dx, dy, P, wd, hx, hy, ⟨rfl, ok, dp, g⟩, q⟩ := h
  exact (eq_own I dx ok (by omega) (hx.all wd.sub) (hy.all wd.sub) rx ry).2 _ _ _ _ ⟨.bl _, H, I, rfl, q (.d (.bool true)) _ F H wd.refl (res_d (.bl _)) g⟩
end
end Dl
set_option maxHeartbeats 4000000
/-! t[::-1], t a tuple -/
namespace HT
open PySem PyProof.Rows
section
variable {prog : Program} {w : World} {A : Around} {E : Value → Shared → Prop} {s : Shared}
theorem places_rev (n : Nat) : Builtin.Slice.slicePlaces ((n : Int) - 1) (-1) (-1) = n := by
  unfold Builtin.Slice.slicePlaces
  have h1 : ¬ ((-1 : Int) > 0) := by omega
  rw [if_neg h1]
  split <;> simp <;> omega
theorem sliceApplied_rev {sl : Addr} {vl vu vs : Value} {n : Nat} {Q : Int × Int × Nat → Shared → Prop} (hs : s.heap.IsSliceOf sl vl vu vs) (pl : IsPart vl none) (pu : IsPart vu none) (ps : IsPart vs (some (-1)))
    (h : Q ((n : Int) - 1, -1, n) s) : wpAny (model prog w) A (Builtin.Slice.sliceApplied (.ref sl) (pure (n : Int))) Q E s := by
  obtain ⟨os, hos, hcs, hds⟩ := id hs
  unfold Builtin.Slice.sliceApplied Builtin.Slice.sliceFields
  refine wpAny_bind (wpAny_bind (wpAny_field hos hds (x := vl) rfl (wpAny_bind (wpAny_field hos hds (x := vu) rfl (wpAny_bind (wpAny_field hos hds (x := vs) rfl (wpAny_pure ?_)))))))
  refine wpAny_bind (slicePart_ ps ?_)
  show wpAny _ _ (if ((-1 : Int) == 0) = true then _ else _) _ _ s
  rw [if_neg (by decide)]
  refine wpAny_bind (slicePart_ pl (wpAny_bind (slicePart_ pu (wpAny_bind (wpAny_pure ?_)))))
  show wpAny _ _ (pure ((n : Int) - 1, (-1 : Int), Builtin.Slice.slicePlaces ((n : Int) - 1) (-1) (-1))) _ _ s
  rw [places_rev]
  exact wpAny_pure h
theorem fm_map {α β : Type} {f : α → Option β} {g : α → β} : ∀ l : List α, (∀ m ∈ l, f m = some (g m)) → l.filterMap f = l.map g
  | [], _ => rfl
  | a :: l, h => by
    rw [List.filterMap_cons, h a List.mem_cons_self, fm_map l fun m hm => h m (List.mem_cons_of_mem _ hm)]
    rfl
theorem pick_rev (xs : Array Value) : ((List.range xs.size).filterMap fun (m : Nat) => xs[((xs.size : Int) - 1 + (m : Int) * -1).toNat]?).toArray = xs.toList.reverse.toArray := by
  congr 1
  have e : ∀ m ∈ List.range xs.size, xs[((xs.size : Int) - 1 + (m : Int) * -1).toNat]? = some (xs.toList.reverse.getD m default) := by
    intro m hm
    have hm := List.mem_range.mp hm
    have t : ((xs.size : Int) - 1 + (m : Int) * -1).toNat = xs.size - 1 - m := by omega
    rw [t, List.getD_eq_getElem?_getD, List.getElem?_reverse (by rw [Array.length_toList]; omega), Array.length_toList, Array.getElem?_toList, Array.getElem?_eq_getElem (by omega)]
    rfl
  rw [fm_map _ e]
  refine List.ext_getElem? fun i => ?_
  rw [List.getElem?_map]
  by_cases c : i < xs.size
  · rw [List.getElem?_range c, List.getElem?_eq_getElem (show i < xs.toList.reverse.length by rw [List.length_reverse, Array.length_toList]; exact c)]
    simp only [Option.map_some, List.getD_eq_getElem?_getD]
    rw [List.getElem?_eq_getElem (show i < xs.toList.reverse.length by rw [List.length_reverse, Array.length_toList]; exact c)]
    rfl
  · rw [List.getElem?_eq_none (by rw [List.length_range]; omega), List.getElem?_eq_none (by rw [List.length_reverse, Array.length_toList]; omega)]
    rfl
theorem getItem_tuple_rev {t sl : Addr} {items : Array Value} {vl vu vs : Value} {Q : Value → Shared → Prop} (ht : IsTup s.heap t items) (hs : s.heap.IsSliceOf sl vl vu vs) (pl : IsPart vl none) (pu : IsPart vu none) (ps : IsPart vs (some (-1)))
    (h : Q (.ref s.heap.objs.size) { s with heap := s.heap.push { cls := .type "tuple", data := .seq items.toList.reverse.toArray } })
    (hsz : items.size ≤ sizeLine) : wpAny (model prog w) A (getItem (.ref t) (.ref sl)) Q E s := by
  have htake : sizeOk (.seq items.toList.reverse.toArray) := by
    show items.toList.reverse.toArray.size ≤ sizeLine
    rw [List.size_toArray, List.length_reverse, Array.length_toList]
    exact hsz
  obtain ⟨os, hos, hcs, hds⟩ := id hs
  have hTs : s.TypeIs (.ref sl) "slice" := ⟨os, hos, hcs⟩
  unfold getItem
  try with_reducible refine wpAny_holding ?_
  first | refine wpAny_bind (wpAny_pure ?_) | skip
  refine wpAny_bind (wpAny_sequenceKey ht.typeIs (by decide) ?_)
  refine wpAny_bind (wpAny_callSpecial?_slot (name := Str.ofString "__getitem__") ht.typeIs PyProof.Rows.slot_tuple_getitem
    (wpAny_call_entry PyProof.Rows.slot_tuple_getitem ht.typeIs entry_tuple_getitem ?_ (args_tuple_getitem _ _)))
  show wpAny _ _ (Builtin.Tuple.tupleItemsOf (.ref t) >>= _) _ _ s
  refine wpAny_bind (tupleItemsOf_ ht ?_)
  refine wpAny_bind (wpAny_typeOf hTs ?_)
  rw [if_pos (by decide)]
  refine wpAny_bind (sliceApplied_rev hs pl pu ps ?_)
  have hno : ¬ ((((items.size : Int) - 1) == 0 && (-1 : Int) == 1 && items.size == items.size) = true) := by
    rw [show ((-1 : Int) == 1) = false from rfl, Bool.and_false, Bool.false_and]
    exact Bool.false_ne_true
  show wpAny _ _ (if ((((items.size : Int) - 1) == 0 && (-1 : Int) == 1 && items.size == items.size) = true) then _ else _) _ _ s
  rw [if_neg hno, pick_rev]
  first
    | exact wpAny_bind (m := Builtin.Tuple.tupleExact _) (wpAny_newObj_type (wpAny_pure ⟨_, rfl, wpAny_pure h⟩) htake)
    | exact wpAny_bind (m := Builtin.Tuple.tupleExact _) (wpAny_newObj_type (wpAny_bind (wpAny_pure (wpAny_pure ⟨_, rfl, wpAny_pure h⟩))) htake)
    | exact wpAny_bind (wpAny_bind (m := Builtin.Tuple.tupleExact _) (wpAny_newObj_type (wpAny_pure (wpAny_pure ⟨_, rfl, wpAny_pure h⟩)) htake))
    | exact wpAny_bind (wpAny_bind (m := Builtin.Tuple.tupleExact _) (wpAny_newObj_type (wpAny_pure ⟨_, rfl, wpAny_pure h⟩) htake))
end
end HT
namespace Dl
open PySem PySem.Spec PyProof.Rows L2
def tRevV (K : PySem.W.Frag) (te : TE) : TE := fun σ H Q => te σ H fun x H1 => ∃ a xs, x = .ref a ∧ SqT K H1 a xs ∧ ∀ p, H1 p = none → Q (.ref p) (upd H1 p (.tup xs.reverse))
section
variable {X : Cx} {w : Wn} {pos : Pos}
theorem pe_revT {e : Expr} {te : TE} {k : Nat} {p1 p2 p3 pos : Pos} (he : PE X e te) : PE X (.Subscript e (.Slice none none (some (.UnaryOp .USub (.Constant (.int 1) k p1) p2)) p3) pos) (tRevV X.K te) := by
  refine ⟨fun pins s σ H Q I h => ?_⟩
  refine Subscript_ (thn (he.run pins s σ H _ I h) fun v s1 ⟨x, H1, I1, r1, q1⟩ => ?_)
  obtain ⟨a, xs, ex, hx, q⟩ := q1
  subst ex
  cases r1
  have hst : PO X (some (.UnaryOp .USub (.Constant (.int 1) k p1) p2)) (tPart (tUn (rU fun i => .int (-i)) (tC (.int 1)))) := po_some (pe_un un_neg pe_int)
  refine wpAny_Slice (thn (po_none.run pins s1 σ H1 (fun o H2 => o = none ∧ H2 = H1) I1 ⟨rfl, rfl⟩) fun vl s2 ⟨l, H2, I2, pl, el, e2⟩ => ?_)
  subst el e2
  refine thn (po_none.run pins s2 σ H2 (fun o H3 => o = none ∧ H3 = H2) I2 ⟨rfl, rfl⟩) fun vu s3 ⟨u, H3, I3, pu, eu, e3⟩ => ?_
  subst eu e3
  refine thn (hst.run pins s3 σ H3 (fun o H4 => o = some (-1) ∧ H4 = H3) I3 ⟨1, rfl, -1, rfl, rfl, rfl⟩) fun vs s4 ⟨o, H4, I4, ps, eo, e4⟩ => ?_
  subst eo e4
  have I5 : L2.Inv X pins σ H4 { s4 with heap := s4.heap.push { cls := .type "slice", data := .fields #[vl, vu, vs] } } := I4.kept (t' := s4.toks) fun b ob q => Heap.get?_push_of_some _ q
  obtain ⟨its, r, ht, hz⟩ := I5.tuple hx
  have hlen := r.length
  show wpAny (model X.prog X.w) X.A (subscriptTail e (.Slice none none (some (.UnaryOp .USub (.Constant (.int 1) k p1) p2)) p3) (.ref a) (.ref s4.heap.objs.size)) (EP X pins σ Q) X.xe { s4 with heap := s4.heap.push { cls := .type "slice", data := .fields #[vl, vu, vs] } }
  refine tail_any (ops := [.ref a, .ref s4.heap.objs.size]) ht.typeIs (PyProof.Rows.slot_tuple_getitem.lookup) ?_ (by with_unfolding_all rfl)
  refine HT.getItem_tuple_rev ht (Heap.IsSliceOf.new _ vl vu vs) pl pu ps ?_ (by rw [List.size_toArray]; omega)
  refine ⟨.ref _, _, I5.laid (t' := s4.toks) (o := .tup xs.reverse) (fun b ob q => Heap.get?_push_of_some _ q) (Nat.le_refl _) ?_, rfl, q _ (I5.hok.fresh (Nat.le_refl _))⟩
  exact ⟨by rw [List.length_reverse]; exact hz, _, r.reverse, _, Heap.get?_push_size _ rfl, rfl, 0, rfl⟩
def tRevT (te : DT) : DT := fun env P => te env fun u => rd u fun x => match x with
  | .tuple xs => P (.d (.tuple xs.reverse))
  | _ => False
theorem d_revT {e : Expr} {te : DT} {k p1 p2 p3 pos} (he : DPE X w e te) : DPE X w (.Subscript e (.Slice none none (some (.UnaryOp .USub (.Constant (.int 1) k p1) p2)) p3) pos) (tRevT te) :=
  pe_weak (pe_revT he) fun σ H Q ⟨env, F, P, r, h, q⟩ => ⟨env, F, _, r, h, fun dv v F1 H1 s1 r1 h1 => by
    obtain ⟨x, x1, h1⟩ := rd_ok r1 h1
    split at h1
    · next xs =>
      obtain ⟨m, vs, rfl, e, ra⟩ := x1.tup s1.sub
      exact ⟨m, vs, rfl, e, res_newT s1.wd ra.rev (fun dv v F4 H4 s4 r4 h4 => q dv v F4 H4 (s1.trans s4) (r4.early s1) h4) h1⟩
    · exact h1.elim⟩
end
end Dl
/-! one measure of data that spoiling keeps -/
namespace Dl
open PySem PySem.Spec PyProof.Rows L2 PySem.W
mutual
/-- whole numbers up to B, lists and tuples at most w long, texts of signs, no dict but {} -/
def gdB (B w : Nat) : PyData → Bool
  | .none => true
  | .bool _ => true
  | .int i => decide (i.natAbs ≤ B)
  | .str z => z.cps.toList.all fun c => decide (c < 0x110000)
  | .list xs => decide (xs.length ≤ w) && gdBs B w xs
  | .tuple xs => decide (xs.length ≤ w) && gdBs B w xs
  | .dict kvs => kvs.isEmpty
def gdBs (B w : Nat) : List PyData → Bool
  | [] => true
  | x :: xs => gdB B w x && gdBs B w xs
end
mutual
/-- no less than the length of the data's text -/
def sz : PyData → Nat
  | .none => 10
  | .bool _ => 10
  | .int _ => 90
  | .str z => 10 * z.length + 2
  | .list xs => szs xs + 3
  | .tuple xs => szs xs + 3
  | .dict _ => 10
def szs : List PyData → Nat
  | [] => 0
  | x :: xs => sz x + 2 + szs xs
end
theorem gdBs_mem {B w : Nat} : ∀ {xs : List PyData}, gdBs B w xs = true ↔ ∀ x ∈ xs, gdB B w x = true
  | [] => by simp [gdBs]
  | y :: ys => by
    rw [gdBs, Bool.and_eq_true, gdBs_mem]
    simp
theorem szs_app : ∀ xs ys : List PyData, szs (xs ++ ys) = szs xs + szs ys
  | [], ys => by simp [szs]
  | x :: xs, ys => by
    rw [List.cons_append, szs, szs, szs_app xs ys]
    omega
theorem szs_rev : ∀ xs : List PyData, szs xs.reverse = szs xs
  | [] => rfl
  | x :: xs => by
    rw [List.reverse_cons, szs_app, szs_rev xs, szs, szs, szs]
    omega
theorem szs_mem : ∀ {xs : List PyData} {x : PyData}, x ∈ xs → sz x + 2 ≤ szs xs
  | y :: ys, x, h => by
    rw [szs]
    rcases List.mem_cons.mp h with rfl | h
    · omega
    · have := szs_mem h
      omega
theorem szs_take (xs : List PyData) (n : Nat) : szs (xs.take n) + szs (xs.drop n) = szs xs := by
  rw [← szs_app, List.take_append_drop]
theorem depthAll_mem {d : Nat} : ∀ {xs : List PyData}, PyData.depthAll xs ≤ d ↔ ∀ x ∈ xs, x.depth ≤ d
  | [] => by simp [PyData.depthAll]
  | y :: ys => by
    rw [PyData.depthAll]
    have ih := depthAll_mem (d := d) (xs := ys)
    constructor
    · intro h x hx
      rcases List.mem_cons.mp hx with rfl | hx
      · omega
      · exact ih.mp (by omega) x hx
    · intro h
      have a := h y List.mem_cons_self
      have b := ih.mpr fun x hx => h x (List.mem_cons_of_mem _ hx)
      omega
mutual
theorem gdB_up {B w C v : Nat} (hB : B ≤ C) (hw : w ≤ v) : ∀ x : PyData, gdB B w x = true → gdB C v x = true
  | .none, _ => rfl
  | .bool _, _ => rfl
  | .int i, h => by simp only [gdB, decide_eq_true_eq] at h ⊢; omega
  | .str z, h => h
  | .list xs, h => by
    simp only [gdB, Bool.and_eq_true, decide_eq_true_eq] at h ⊢
    exact ⟨by omega, gdBs_up hB hw xs h.2⟩
  | .tuple xs, h => by
    simp only [gdB, Bool.and_eq_true, decide_eq_true_eq] at h ⊢
    exact ⟨by omega, gdBs_up hB hw xs h.2⟩
  | .dict _, h => h
theorem gdBs_up {B w C v : Nat} (hB : B ≤ C) (hw : w ≤ v) : ∀ xs : List PyData, gdBs B w xs = true → gdBs C v xs = true
  | [], _ => rfl
  | x :: xs, h => by
    simp only [gdBs, Bool.and_eq_true] at h ⊢
    exact ⟨gdB_up hB hw x h.1, gdBs_up hB hw xs h.2⟩
end
mutual
theorem gdB_okE {B w : Nat} : ∀ x : PyData, gdB B w x = true → okE x = true
  | .none, _ => by simp only [okE]
  | .bool _, _ => by simp only [okE]
  | .int _, _ => by simp only [okE]
  | .str _, _ => by simp only [okE]
  | .list xs, h => by
    simp only [gdB, Bool.and_eq_true] at h
    simp only [okE]
    exact gdBs_okE xs h.2
  | .tuple xs, h => by
    simp only [gdB, Bool.and_eq_true] at h
    simp only [okE]
    exact gdBs_okE xs h.2
  | .dict _, h => by
    simp only [gdB] at h
    simp only [okE, h]
theorem gdBs_okE {B w : Nat} : ∀ xs : List PyData, gdBs B w xs = true → okEs xs = true
  | [], _ => by simp only [okEs]
  | x :: xs, h => by
    simp only [gdBs, Bool.and_eq_true] at h
    simp only [okEs, gdB_okE x h.1, gdBs_okE xs h.2, Bool.and_self]
end
mutual
theorem gdB_okC {B w : Nat} (hw : w ≤ 5000) : ∀ x : PyData, gdB B w x = true → okC x = true
  | .none, _ => by simp only [okC]
  | .bool _, _ => by simp only [okC]
  | .int _, _ => by simp only [okC]
  | .str _, _ => by simp only [okC]
  | .list xs, h => by
    simp only [gdB, Bool.and_eq_true, decide_eq_true_eq] at h
    simp only [okC, Bool.and_eq_true, decide_eq_true_eq]
    exact ⟨by omega, gdBs_okC hw xs h.2⟩
  | .tuple xs, h => by
    simp only [gdB, Bool.and_eq_true, decide_eq_true_eq] at h
    simp only [okC, Bool.and_eq_true, decide_eq_true_eq]
    exact ⟨by omega, gdBs_okC hw xs h.2⟩
  | .dict _, h => by simp only [okC]
theorem gdBs_okC {B w : Nat} (hw : w ≤ 5000) : ∀ xs : List PyData, gdBs B w xs = true → okCs xs = true
  | [], _ => by simp only [okCs]
  | x :: xs, h => by
    simp only [gdBs, Bool.and_eq_true] at h
    simp only [okCs, gdB_okC hw x h.1, gdBs_okC hw xs h.2, Bool.and_self]
end
theorem gdB_noOb {B w : Nat} {x : PyData} (h : gdB B w x = true) : isOb x = false := by
  cases x with
  | dict kvs =>
    simp only [gdB, List.isEmpty_iff] at h
    subst h
    rfl
  | _ => rfl
mutual
theorem gdB_sn {B w : Nat} (hB : B < 2 ^ 80) : ∀ x : PyData, gdB B w x = true → realD x = true ∧ x.showable = true ∧ x.shown.length ≤ sz x
  | .none, _ => ⟨sn_none.real, sn_none.show_, Nat.le_trans sn_none.len (by simp [sz])⟩
  | .bool b, _ => ⟨(sn_bool b).real, (sn_bool b).show_, Nat.le_trans (sn_bool b).len (by simp [sz])⟩
  | .int i, h => by
    simp only [gdB, decide_eq_true_eq] at h
    have s := sn_int (i := i) (j := 81) (show i.natAbs < 2 ^ 81 by omega)
    exact ⟨s.real, s.show_, Nat.le_trans s.len (by simp [sz])⟩
  | .str z, h => by
    simp only [gdB, List.all_eq_true, decide_eq_true_eq] at h
    have g := (gd_str h (Nat.le_refl _)).sn
    exact ⟨g.real, g.show_, Nat.le_trans g.len (by simp [sz])⟩
  | .list xs, h => by
    simp only [gdB, Bool.and_eq_true] at h
    obtain ⟨a, b, c, d⟩ := gdBs_sn hB xs h.2
    have q := listText_len_le (PyData.shownAll xs)
    refine ⟨by rw [realD, a], by rw [PyData.showable, b], ?_⟩
    show (listText (PyData.shownAll xs)).length ≤ _
    rw [sz]
    omega
  | .tuple xs, h => by
    simp only [gdB, Bool.and_eq_true] at h
    obtain ⟨a, b, c, d⟩ := gdBs_sn hB xs h.2
    have q := tupleText_len_le (PyData.shownAll xs)
    refine ⟨by rw [realD, a], by rw [PyData.showable, b], ?_⟩
    show (tupleText (PyData.shownAll xs)).length ≤ _
    rw [sz]
    omega
  | .dict kvs, h => by
    have e : kvs = [] := by simpa only [gdB, List.isEmpty_iff] using h
    subst e
    exact ⟨by simp [realD, realK], by simp [PyData.showable, PyData.showableKv], by decide +kernel⟩
theorem gdBs_sn {B w : Nat} (hB : B < 2 ^ 80) : ∀ xs : List PyData, gdBs B w xs = true → realA xs = true ∧ PyData.showableAll xs = true ∧ ((PyData.shownAll xs).map (·.length)).sum + 2 * xs.length ≤ szs xs ∧ (PyData.shownAll xs).length = xs.length
  | [], _ => ⟨by simp [realA], by simp [PyData.showableAll], by simp [PyData.shownAll, szs], by simp [PyData.shownAll]⟩
  | x :: xs, h => by
    simp only [gdBs, Bool.and_eq_true] at h
    obtain ⟨a, b, c, d⟩ := gdBs_sn hB xs h.2
    obtain ⟨a1, b1, c1⟩ := gdB_sn hB x h.1
    refine ⟨by rw [realA, a, a1]; rfl, by rw [PyData.showableAll, b, b1]; rfl, ?_, ?_⟩
    · simp only [PyData.shownAll, List.map_cons, List.sum_cons, List.length_cons, szs]
      omega
    · simp only [PyData.shownAll, List.length_cons, d]
end
/-- spoilt data: B bounds its numbers, w its lists, k its text, n its depth -/
structure Spt (B w k n : Nat) (x : PyData) : Prop where
  g : gdB B w x = true
  s : sz x ≤ k
  d : x.depth ≤ n
theorem Spt.sh {B w k n : Nat} {x : PyData} (h : Spt B w k n x) (hB : B < 2 ^ 80) (hk : k ≤ 100000) (hn : n ≤ 63) : Sh x := by
  obtain ⟨a, b, c⟩ := gdB_sn hB x h.g
  exact ⟨a, b, Nat.le_trans h.d hn, by have := h.s; omega⟩
theorem Spt.txA {B w k n : Nat} {z : Str} (h : Spt B w k n (.str z)) (hk : k ≤ 100000) : z.length ≤ 100000 := by
  have := h.s
  rw [sz] at this
  omega
end Dl
/-! drawn papers by the one measure -/
namespace Dl
open PySem PySem.Spec PyProof.Rows L2 PySem.W
structure Sps (B w k n : Nat) (xs : List PyData) : Prop where
  g : gdBs B w xs = true
  s : szs xs ≤ k
  d : PyData.depthAll xs ≤ n
theorem sps_nil {B w n : Nat} : Sps B w 0 n [] := ⟨rfl, Nat.le_refl _, by simp [PyData.depthAll]⟩
theorem sps_cons {B w k l n : Nat} {x : PyData} {xs : List PyData} (h : Spt B w k n x) (t : Sps B w l n xs) : Sps B w (k + 2 + l) n (x :: xs) := by
  have a := h.s
  have b := t.s
  have c := h.d
  have d := t.d
  refine ⟨by rw [gdBs, h.g, t.g]; rfl, by rw [szs]; omega, by rw [PyData.depthAll]; omega⟩
theorem sps_app {B w k l n : Nat} {xs ys : List PyData} (h : Sps B w k n xs) (t : Sps B w l n ys) : Sps B w (k + l) n (xs ++ ys) := by
  have a := h.s
  have b := t.s
  refine ⟨gdBs_mem.mpr fun x hx => ?_, by rw [szs_app]; omega, depthAll_mem.mpr fun x hx => ?_⟩
  · rcases List.mem_append.mp hx with hx | hx
    · exact gdBs_mem.mp h.g x hx
    · exact gdBs_mem.mp t.g x hx
  · rcases List.mem_append.mp hx with hx | hx
    · exact depthAll_mem.mp h.d x hx
    · exact depthAll_mem.mp t.d x hx
theorem Sps.tup {B w k n : Nat} {xs : List PyData} (h : Sps B w k n xs) (hl : xs.length ≤ w) : Spt B w (k + 3) (n + 1) (.tuple xs) := by
  have a := h.s
  have b := h.d
  exact ⟨by rw [gdB, h.g, decide_eq_true hl]; rfl, by rw [sz]; omega, by rw [PyData.depth]; omega⟩
theorem Sps.lst {B w k n : Nat} {xs : List PyData} (h : Sps B w k n xs) (hl : xs.length ≤ w) : Spt B w (k + 3) (n + 1) (.list xs) := by
  have a := h.s
  have b := h.d
  exact ⟨by rw [gdB, h.g, decide_eq_true hl]; rfl, by rw [sz]; omega, by rw [PyData.depth]; omega⟩
theorem Sps.up {B w k n C v l m : Nat} {xs : List PyData} (h : Sps B w k n xs) (hB : B ≤ C := by decide) (hw : w ≤ v := by decide) (hk : k ≤ l := by decide) (hn : n ≤ m := by decide) : Sps C v l m xs :=
  ⟨gdBs_up hB hw xs h.g, Nat.le_trans h.s hk, Nat.le_trans h.d hn⟩
theorem Spt.up {B w k n C v l m : Nat} {x : PyData} (h : Spt B w k n x) (hB : B ≤ C := by decide) (hw : w ≤ v := by decide) (hk : k ≤ l := by decide) (hn : n ≤ m := by decide) : Spt C v l m x :=
  ⟨gdB_up hB hw x h.g, Nat.le_trans h.s hk, Nat.le_trans h.d hn⟩
theorem sps_all {B w k n : Nat} : ∀ {xs : List PyData}, (∀ x ∈ xs, Spt B w k n x) → Sps B w (xs.length * (k + 2)) n xs
  | [], _ => by rw [List.length_nil, Nat.zero_mul]; exact sps_nil
  | x :: xs, h => by
    have a := sps_cons (h x List.mem_cons_self) (sps_all fun y hy => h y (List.mem_cons_of_mem _ hy))
    rw [List.length_cons, Nat.succ_mul, Nat.add_comm (xs.length * (k + 2))]
    exact a
theorem spt_int {B w : Nat} {i : Int} (h : i.natAbs ≤ B) : Spt B w 90 0 (.int i) := ⟨by rw [gdB, decide_eq_true h], by rw [sz]; exact Nat.le_refl _, by rw [PyData.depth]; exact Nat.le_refl _⟩
theorem spt_str {B w l : Nat} {z : Str} (h : ∀ c ∈ z.cps.toList, c < 0x110000) (hl : z.length ≤ l) : Spt B w (10 * l + 2) 0 (.str z) := ⟨by
  rw [gdB, List.all_eq_true]
  exact fun c hc => decide_eq_true (h c hc), by rw [sz]; omega, by rw [PyData.depth]; exact Nat.le_refl _⟩
theorem Nam.spt {B w : Nat} {z : Str} (h : Nam z) : Spt B w 82 0 (.str z) := spt_str (l := 8) (fun c hc => by have := h.2.2 c hc; omega) h.2.1
theorem spt_il {w m : Nat} {ns : List Int} {B : Nat} (h : ∀ n ∈ ns, n.natAbs ≤ B) (hl : ns.length ≤ m) (hm : m ≤ w) : Spt B w (m * 92 + 3) 1 (.list (IL ns)) := by
  have a := sps_all (B := B) (w := w) (k := 90) (n := 0) (xs := IL ns) fun x hx => by
    obtain ⟨n, hn, rfl⟩ := List.mem_map.mp hx
    exact spt_int (h n hn)
  rw [il_len] at a
  have q := Nat.mul_le_mul_right 92 hl
  exact (a.lst (by rw [il_len]; omega)).up (Nat.le_refl _) (Nat.le_refl _) (by omega) (Nat.le_refl _)
theorem Sml.spt {w : Nat} {p q : Int} (h : Sml p q) (hw : 2 ≤ w) : Spt (10 ^ 12) w 187 1 (frc p q) := by
  have hq := h.f.pos
  have := h.t
  have := h.b
  exact (sps_cons (spt_int (by omega)) (sps_cons (spt_int (by omega)) sps_nil)).tup hw
/-- the measure of drawn data -/
abbrev SpP (k n : Nat) (x : PyData) : Prop := Spt (10 ^ 12) 8 k n x
abbrev SpL (k n : Nat) (xs : List PyData) : Prop := Sps (10 ^ 12) 8 k n xs
theorem spI {i : Int} {n : Nat} (h : i.natAbs ≤ 10 ^ 12) : SpP 90 n (.int i) := (spt_int h).up (Nat.le_refl _) (Nat.le_refl _) (Nat.le_refl _) (Nat.zero_le _)
theorem spN {z : Str} {n : Nat} (h : Nam z) : SpP 82 n (.str z) := h.spt.up (Nat.le_refl _) (Nat.le_refl _) (Nat.le_refl _) (Nat.zero_le _)
theorem spF {p q : Int} {n : Nat} (h : Sml p q) : SpP 187 (n + 1) (frc p q) := (h.spt (w := 8) (by decide)).up (Nat.le_refl _) (Nat.le_refl _) (Nat.le_refl _) (by omega)
theorem spM {ns : List Int} {m n : Nat} (h : ∀ n ∈ ns, 0 ≤ n ∧ n ≤ 1000) (hl : ns.length ≤ m) (hm : m ≤ 8) : SpP (m * 92 + 3) (n + 1) (.list (IL ns)) :=
  (spt_il (B := 10 ^ 12) (fun n hn => by have := h n hn; omega) hl hm).up (Nat.le_refl _) (Nat.le_refl _) (Nat.le_refl _) (by omega)
theorem RowT.spt {x : PyData} : RowT x → SpP 1200 2 x := fun ⟨m, p, q, u, v, e, h0, h1, a, b, _⟩ => by
  subst e
  exact (Sps.tup (sps_cons (spI (n := 1) (by omega)) (sps_cons (spF (n := 0) a) (sps_cons (spF (n := 0) b) sps_nil))) (by simp)).up
theorem RowH.spt {x : PyData} : RowH x → SpP 1200 2 x := fun ⟨m, ps, p, q, u, v, e, h0, h1, s, a, b, _⟩ => by
  subst e
  exact (Sps.tup (sps_cons (spI (n := 1) (by omega)) (sps_cons (spM (m := 6) (n := 0) s.2.2.1 s.2.1 (by decide)) (sps_cons (spF (n := 0) a) (sps_cons (spF (n := 0) b) sps_nil)))) (by simp)).up
theorem RowM.spt {x : PyData} : RowM x → SpP 1200 2 x := fun ⟨m, z, k, e, h0, h1, a, h2, h3⟩ => by
  subst e
  exact (Sps.tup (sps_cons (spI (n := 1) (by omega)) (sps_cons (spN a) (sps_cons (spI (by omega)) sps_nil))) (by simp)).up
theorem rows_spt {R : PyData → Prop} (hR : ∀ x, R x → SpP 1200 2 x) {rows : List PyData} (h : RowsOk R rows) : SpP 9700 3 (.list rows) := by
  have a := sps_all (xs := rows) fun x hx => hR x (h.2.2.1 x hx)
  have b := Nat.mul_le_mul_right 1202 h.2.1
  exact (Sps.lst a h.2.1).up (Nat.le_refl _) (Nat.le_refl _) (by omega) (Nat.le_refl _)
theorem spt_lit {z : Str} {n : Nat} (h : (z.cps.all fun c => decide (c < 0x110000)) = true) (hl : z.length ≤ 8) : SpP 82 n (.str z) := (spt_str (l := 8) (fun c hc => by
  rw [← Array.all_toList, List.all_eq_true] at h
  exact of_decide_eq_true (h c hc)) hl).up (Nat.le_refl _) (Nat.le_refl _) (Nat.le_refl _) (Nat.zero_le _)
theorem Prt.spt {k : Str} {r : List PyData} (h : Prt k r) : SpP 82 3 (.str k) ∧ SpL 10000 3 r ∧ r.length ≤ 4 := by
  cases h with
  | @thing so lv p q ms hs l0 l1 f f0 ml mi mr =>
    have so8 : SpP 82 3 (.str so) := by
      rcases hs with ⟨rfl, _⟩ | ⟨rfl, _⟩ <;> exact spt_lit (by decide +kernel) (by decide +kernel)
    exact ⟨spt_lit (by decide +kernel) (by decide +kernel), (sps_cons so8 (sps_cons (spI (by omega)) (sps_cons (spF (n := 2) f) (sps_cons (spM (m := 8) (n := 2) mi ml (by decide)) sps_nil)))).up, by simp⟩
  | told t0 t1 r => exact ⟨spt_lit (by decide +kernel) (by decide +kernel), (sps_cons (spI (by omega)) (sps_cons (rows_spt (fun _ h => h.spt) r) sps_nil)).up, by simp⟩
  | held n t0 t1 r => exact ⟨spt_lit (by decide +kernel) (by decide +kernel), (sps_cons (spN n) (sps_cons (spI (by omega)) (sps_cons (rows_spt (fun _ h => h.spt) r) sps_nil))).up, by simp⟩
  | made f f0 r => exact ⟨spt_lit (by decide +kernel) (by decide +kernel), (sps_cons (spF (n := 2) f) (sps_cons (rows_spt (fun _ h => h.spt) r) sps_nil)).up, by simp⟩
  | read s => exact ⟨spt_lit (by decide +kernel) (by decide +kernel), (sps_cons (spM (m := 6) (n := 2) s.2.2.1 s.2.1 (by decide)) sps_nil).up, by simp⟩
  | plain h =>
    refine ⟨?_, (sps_nil (B := 10 ^ 12) (w := 8) (n := 3)).up, by simp⟩
    rcases h with rfl | rfl | rfl <;> exact spt_lit (by decide +kernel) (by decide +kernel)
theorem Pap.spt {x : PyData} : Pap x → SpP 10500 4 x := fun ⟨c, d, k, z, r, e, c0, c1, d0, d1, n, h⟩ => by
  subst e
  obtain ⟨a, b, l⟩ := h.spt
  exact (Sps.tup (sps_cons (spI (by omega)) (sps_cons (spI (by omega)) (sps_cons a (sps_cons (spN n) b)))) (by simp only [List.length_cons]; omega)).up
/-! ### data spoilt once -/
structure Sp1 (B w : Nat) (x y : PyData) : Prop where
  g : gdB (B + 10 ^ 12) (w + 1) y = true
  s : sz y ≤ 2 * sz x + 1000
  d : y.depth ≤ x.depth + 2
theorem sp1_odd {B w : Nat} {x y : PyData} (h : Spt (10 ^ 20) 9 1000 2 y) (hB : 10 ^ 20 ≤ B) (hw : 8 ≤ w) : Sp1 B w x y :=
  ⟨gdB_up (by omega) (by omega) y h.g, by have := h.s; omega, by have := h.d; omega⟩
theorem sp1_self {B w : Nat} {x : PyData} (h : gdB B w x = true) : Sp1 B w x x := ⟨gdB_up (by omega) (by omega) x h, by omega, by omega⟩
/-- one part of a list put otherwise -/
theorem at_parts {B w i : Nat} {xs ys : List PyData} {x : PyData} (hg : gdBs B w xs = true) (hx : xs[i]? = some x) (gy : gdBs (B + 10 ^ 12) (w + 1) ys = true) (sy : szs ys ≤ 2 * (sz x + 2) + 1000) (dy : PyData.depthAll ys ≤ x.depth + 2) :
    gdBs (B + 10 ^ 12) (w + 1) (xs.take i ++ ys ++ xs.drop (i + 1)) = true ∧ szs (xs.take i ++ ys ++ xs.drop (i + 1)) ≤ 2 * szs xs + 1000 ∧ PyData.depthAll (xs.take i ++ ys ++ xs.drop (i + 1)) ≤ PyData.depthAll xs + 2 := by
  obtain ⟨hl, ex⟩ := List.getElem?_eq_some_iff.mp hx
  have mx : x ∈ xs := List.mem_of_getElem? hx
  have dx := depthAll_mem.mp (Nat.le_refl (PyData.depthAll xs)) x mx
  have up := gdBs_up (B := B) (w := w) (C := B + 10 ^ 12) (v := w + 1) (by omega) (by omega) xs hg
  have e1 := szs_take xs i
  have e2 : szs (xs.drop i) = sz x + 2 + szs (xs.drop (i + 1)) := by
    rw [List.drop_eq_getElem_cons hl, ex, szs]
  refine ⟨gdBs_mem.mpr fun y hy => ?_, ?_, depthAll_mem.mpr fun y hy => ?_⟩
  · rcases List.mem_append.mp hy with hy | hy
    · rcases List.mem_append.mp hy with hy | hy
      · exact gdBs_mem.mp up y (List.mem_of_mem_take hy)
      · exact gdBs_mem.mp gy y hy
    · exact gdBs_mem.mp up y (List.mem_of_mem_drop hy)
  · rw [szs_app, szs_app]
    omega
  · rcases List.mem_append.mp hy with hy | hy
    · rcases List.mem_append.mp hy with hy | hy
      · have := depthAll_mem.mp (Nat.le_refl (PyData.depthAll xs)) y (List.mem_of_mem_take hy)
        omega
      · have := depthAll_mem.mp (Nat.le_refl (PyData.depthAll ys)) y hy
        omega
    · have := depthAll_mem.mp (Nat.le_refl (PyData.depthAll xs)) y (List.mem_of_mem_drop hy)
      omega
theorem at_len {i : Nat} {xs ys : List PyData} (hl : i < xs.length) (hy : ys.length ≤ 2) : (xs.take i ++ ys ++ xs.drop (i + 1)).length ≤ xs.length + 1 := by
  rw [List.length_append, List.length_append, List.length_take, List.length_drop]
  omega
theorem sp1_list {B w i : Nat} {xs ys : List PyData} {x : PyData} (hg : gdB B w (.list xs) = true) (hx : xs[i]? = some x) (gy : gdBs (B + 10 ^ 12) (w + 1) ys = true) (sy : szs ys ≤ 2 * (sz x + 2) + 1000) (dy : PyData.depthAll ys ≤ x.depth + 2) (ly : ys.length ≤ 2) :
    Sp1 B w (.list xs) (.list (xs.take i ++ ys ++ xs.drop (i + 1))) := by
  simp only [gdB, Bool.and_eq_true, decide_eq_true_eq] at hg
  obtain ⟨a, b, c⟩ := at_parts hg.2 hx gy sy dy
  have l := at_len (ys := ys) (List.getElem?_eq_some_iff.mp hx).1 ly
  exact ⟨by rw [gdB, a, decide_eq_true (by omega)]; rfl, by rw [sz, sz]; omega, by rw [PyData.depth, PyData.depth]; omega⟩
theorem sp1_tup {B w i : Nat} {xs ys : List PyData} {x : PyData} (hg : gdB B w (.tuple xs) = true) (hx : xs[i]? = some x) (gy : gdBs (B + 10 ^ 12) (w + 1) ys = true) (sy : szs ys ≤ 2 * (sz x + 2) + 1000) (dy : PyData.depthAll ys ≤ x.depth + 2) (ly : ys.length ≤ 2) :
    Sp1 B w (.tuple xs) (.tuple (xs.take i ++ ys ++ xs.drop (i + 1))) := by
  simp only [gdB, Bool.and_eq_true, decide_eq_true_eq] at hg
  obtain ⟨a, b, c⟩ := at_parts hg.2 hx gy sy dy
  have l := at_len (ys := ys) (List.getElem?_eq_some_iff.mp hx).1 ly
  exact ⟨by rw [gdB, a, decide_eq_true (by omega)]; rfl, by rw [sz, sz]; omega, by rw [PyData.depth, PyData.depth]; omega⟩
/-- the same parts, turned or in the other kind of row -/
theorem sp1_same {B w : Nat} {xs ys : List PyData} {x y : PyData} (hx : x = .list xs ∨ x = .tuple xs) (hy : y = .list ys ∨ y = .tuple ys) (hg : gdB B w x = true) (hm : ∀ z, z ∈ ys → z ∈ xs) (hl : ys.length = xs.length) (hs : szs ys = szs xs) : Sp1 B w x y := by
  have g2 : xs.length ≤ w ∧ gdBs B w xs = true := by
    rcases hx with rfl | rfl <;> simpa only [gdB, Bool.and_eq_true, decide_eq_true_eq] using hg
  have dx : x.depth = PyData.depthAll xs + 1 ∧ sz x = szs xs + 3 := by
    rcases hx with rfl | rfl <;> exact ⟨by rw [PyData.depth], by rw [sz]⟩
  have gy : gdBs (B + 10 ^ 12) (w + 1) ys = true := gdBs_mem.mpr fun z hz => gdB_up (by omega) (by omega) z (gdBs_mem.mp g2.2 z (hm z hz))
  have dy : PyData.depthAll ys ≤ PyData.depthAll xs := depthAll_mem.mpr fun z hz => depthAll_mem.mp (Nat.le_refl _) z (hm z hz)
  rcases hy with rfl | rfl
  · exact ⟨by rw [gdB, gy, decide_eq_true (by omega)]; rfl, by rw [sz, dx.2]; omega, by rw [PyData.depth, dx.1]; omega⟩
  · exact ⟨by rw [gdB, gy, decide_eq_true (by omega)]; rfl, by rw [sz, dx.2]; omega, by rw [PyData.depth, dx.1]; omega⟩
theorem sp1_int {B w : Nat} {i j : Int} {x : PyData} (hi : i.natAbs ≤ B) (hj : j.natAbs ≤ 10 ^ 12) : Sp1 B w x (.int (i + j)) :=
  ⟨by rw [gdB, decide_eq_true (by omega)], by rw [sz]; omega, by rw [PyData.depth]; omega⟩
theorem sp1_str {B w : Nat} {z y : Str} (hy : ∀ c ∈ y.cps.toList, c < 0x110000) (hl : y.length ≤ z.length + 1) : Sp1 B w (.str z) (.str y) :=
  ⟨by rw [gdB, List.all_eq_true]; exact fun c hc => decide_eq_true (hy c hc), by rw [sz, sz]; omega, by rw [PyData.depth]; omega⟩
end Dl
/-! parts and texts put otherwise -/
namespace Dl
open PySem PySem.Spec PyProof.Rows L2 PySem.W
theorem atI_get {xs : List PyData} {r : Int} (h0 : 0 ≤ r) (h1 : r < xs.length) : ∃ z, xs[r.toNat]? = some z ∧ atI xs r = some z := by
  have hr : r.toNat < xs.length := by omega
  have ez : r = ((r.toNat : Nat) : Int) := by omega
  exact ⟨_, List.getElem?_eq_getElem hr, atD ez (List.getElem?_eq_getElem hr)⟩
theorem ixL {xs : List PyData} {r : Int} {P : DV → Prop} (h0 : 0 ≤ r) (h1 : r < xs.length) (h : ∀ z, xs[r.toNat]? = some z → P (.d z)) : gIx (.list xs) (.int r) P := by
  obtain ⟨z, a, e⟩ := atI_get h0 h1
  simp only [gIx, e]
  exact h z a
theorem ixT {xs : List PyData} {r : Int} {P : DV → Prop} (h0 : 0 ≤ r) (h1 : r < xs.length) (h : ∀ z, xs[r.toNat]? = some z → P (.d z)) : gIx (.tuple xs) (.int r) P := by
  obtain ⟨z, a, e⟩ := atI_get h0 h1
  simp only [gIx, e]
  exact h z a
theorem cut_toI {xs : List PyData} {r : Int} (h : 0 ≤ r) : cutD xs none (some r) = xs.take r.toNat := by
  have e : r = ((r.toNat : Nat) : Int) := by omega
  rw [e, cut_to, Int.toNat_natCast]
theorem cut_fromI {xs : List PyData} {r : Int} (h : 0 ≤ r) : cutD xs (some (r + 1)) none = xs.drop (r.toNat + 1) := by
  have e : r + 1 = ((r.toNat + 1 : Nat) : Int) := by omega
  rw [e, cut_from]
theorem cutI (xs : List PyData) (y : PyData) : cutD (xs ++ [y]) none (some (-1)) = xs := by
  have e : HT.sIx (xs ++ [y]).length (xs ++ [y]).length (some (-1)) = xs.length := by
    unfold HT.sIx
    simp only [List.length_append, List.length_singleton]
    rw [if_pos (by decide)]
    omega
  unfold cutD
  rw [e, HT.sIx_none, List.drop_zero, Nat.sub_zero, List.take_left]
theorem mul_lt {i j : Int} (h : i.natAbs < 2 ^ 20) (g : j.natAbs < 2 ^ 20) : i.natAbs.log2 + j.natAbs.log2 < 1000000 := by
  have a := log_lt (k := 20) (by decide) h
  have b := log_lt (k := 20) (by decide) g
  omega
/-! ### texts -/
abbrev Chs (z : Str) : Prop := ∀ c ∈ z.cps.toList, c < 0x110000
theorem chs_cut {z : Str} {lo hi : Option Int} (h : Chs z) : Chs (cutS z lo hi) := fun c hc => by
  unfold cutS at hc
  exact h c (List.mem_of_mem_drop (List.mem_of_mem_take hc))
theorem app_list (a b : Str) : (a ++ b).cps.toList = a.cps.toList ++ b.cps.toList := Array.toList_append
theorem chs_app {a b : Str} (h : Chs a) (g : Chs b) : Chs (a ++ b) := fun c hc => by
  rw [app_list] at hc
  rcases List.mem_append.mp hc with hc | hc
  · exact h c hc
  · exact g c hc
theorem app_len (a b : Str) : (a ++ b).length = a.length + b.length := Array.size_append
theorem cutS_to_len {z : Str} {r : Int} (h : 0 ≤ r) : (cutS z none (some r)).length ≤ r.toNat := by
  have e : r = ((r.toNat : Nat) : Int) := by omega
  rw [e]
  show (((z.cps.toList.drop (HT.sIx z.length 0 none)).take (HT.sIx z.length z.length (some ((r.toNat : Nat) : Int)) - HT.sIx z.length 0 none)).toArray).size ≤ _
  rw [HT.sIx_none, HT.sIx_nat, List.size_toArray, List.length_take]
  omega
theorem cutS_from_len {z : Str} {r : Int} (h : 0 ≤ r) : (cutS z (some r) none).length ≤ z.length - r.toNat := by
  have e : r = ((r.toNat : Nat) : Int) := by omega
  rw [e]
  show (((z.cps.toList.drop (HT.sIx z.length 0 (some ((r.toNat : Nat) : Int)))).take (HT.sIx z.length z.length none - HT.sIx z.length 0 (some ((r.toNat : Nat) : Int)))).toArray).size ≤ z.cps.size - ((r.toNat : Nat) : Int).toNat
  rw [HT.sIx_none, HT.sIx_nat, List.size_toArray, List.length_take, List.length_drop, Array.length_toList]
  show min (z.cps.size - min r.toNat z.cps.size) (z.cps.size - min r.toNat z.cps.size) ≤ _
  omega
/-! ### what a def gives, put into a name -/
/-- data given by a copy, in a slot -/
inductive IsO : Sl → PyData → Prop
  | d {x : PyData} : IsO (.d x) x
  | ow {l : Addr} {xs : List PyData} : IsO (.ow l xs) (.list xs)
theorem spt_rows {B w k n l : Nat} {xs : List PyData} (h : ∀ x ∈ xs, Spt B w k n x) (hl : xs.length ≤ 9) (hw : 9 ≤ w) (hk : 9 * (k + 2) + 3 ≤ l) : Spt B w l (n + 1) (.list xs) := by
  have a := sps_all h
  have q := Nat.mul_le_mul_right (k + 2) hl
  exact (a.lst (by omega)).up (Nat.le_refl _) (Nat.le_refl _) (by omega) (Nat.le_refl _)
theorem Sps.all {B w k n : Nat} {xs : List PyData} (h : Sps B w k n xs) : ∀ x ∈ xs, Spt B w k n x := fun x hx =>
  ⟨gdBs_mem.mp h.g x hx, by have a := szs_mem hx; have := h.s; omega, Nat.le_trans (depthAll_mem.mp (Nat.le_refl _) x hx) h.d⟩
theorem Spt.tupS {B w k n : Nat} {xs : List PyData} (h : Spt B w k n (.tuple xs)) : Sps B w k n xs := by
  have a := h.g
  have b := h.s
  have c := h.d
  rw [gdB, Bool.and_eq_true] at a
  rw [sz] at b
  rw [PyData.depth] at c
  exact ⟨a.2, by omega, by omega⟩
theorem Spt.lstS {B w k n : Nat} {xs : List PyData} (h : Spt B w k n (.list xs)) : Sps B w k n xs := by
  have a := h.g
  have b := h.s
  have c := h.d
  rw [gdB, Bool.and_eq_true] at a
  rw [sz] at b
  rw [PyData.depth] at c
  exact ⟨a.2, by omega, by omega⟩
end Dl
/-! try .. except C as n .. except D -/
namespace Dl
open PySem PySem.Spec PyProof.Rows L2
section
variable {X : Cx} {pins : List (Addr × Obj)} {B h : Heap} {a : Addr} {cls : Value} {d : Option Addr} {σ : L2.St} {H : Hp} {sI s' : Shared}
/-- an exception that came to its try: h is the heap there, sI the state without it -/
structure Cgt (X : Cx) (pins : List (Addr × Obj)) (B : Heap) (a : Addr) (cls : Value) (d : Option Addr) (σ : L2.St) (H : Hp) (sI s' : Shared) (h : Heap) : Prop where
  inv : Inv X pins σ H sI
  ground : ∀ b o, sI.heap.get? b = some o → b ∉ frs X.stack → B.get? b = some o
  slots : sI.heap.UpToSlots h
  flies : HandSPX.FlyingZ B (X.env :: X.outer) a (Zc cls d) h
  new : H a = none
  same : s'.os = sI.os
  bare : AllBare s'.gens
theorem Cgt.here (g : Cgt X pins B a cls d σ H sI s' h) : Inv X pins σ H { s' with heap := h } := Inv.landed g.inv g.ground g.flies.1 g.slots g.same g.bare
theorem Cgt.obj (g : Cgt X pins B a cls d σ H sI s' h) (hf : X.env.frame = some X.env.locals) : ∃ oe vs, h.get? a = some oe ∧ Zc cls d oe ∧ oe.data = .fields vs ∧ a ≠ X.env.locals ∧ a ∉ X.fs := by
  obtain ⟨oe, vs, e, z, f⟩ := g.flies.there
  have no : a ∉ frs (X.env :: X.outer) := fun m => by
    obtain ⟨_, o2, e2, n2⟩ := g.flies.2.2.1.mem m
    rw [e] at e2
    cases e2
    exact n2 _ f
  refine ⟨oe, vs, e, z, f, fun q => no (List.mem_filterMap.mpr ⟨X.env, List.mem_cons_self, by rw [hf, q]⟩), fun m => ?_⟩
  obtain ⟨t, ht, q⟩ := List.mem_filterMap.mp m
  exact no (List.mem_filterMap.mpr ⟨t, List.mem_cons_of_mem _ ht, q⟩)
theorem Cgt.suite (g : Cgt X pins B a cls d σ H sI s' h) (hf : X.env.frame = some X.env.locals) : ∃ oe, Zc cls d oe ∧ (∃ vs, oe.data = .fields vs) ∧ h.get? a = some oe ∧ Inv (X.suite a ((a, oe) :: (X.pn ++ pins))) [] σ H { s' with heap := h } := by
  obtain ⟨oe, vs, e, z, f, n1, n2⟩ := g.obj hf
  exact ⟨oe, z, ⟨vs, f⟩, e, g.here.suite e f g.new n1 n2⟩
theorem Cgt.move (g : Cgt X pins B a cls d σ H sI s' h) {h2 : Heap} (fl : HandSPX.FlyingZ B (X.env :: X.outer) a (Zc cls d) h2) (up : h.UpToSlots h2) : Cgt X pins B a cls d σ H sI s' h2 :=
  ⟨g.inv, g.ground, g.slots.trans up, fl, g.new, g.same, g.bare⟩
/-- no clause takes it -/
theorem Cgt.out {W : WX} {D : Ends} (g : Cgt X pins B a cls d σ H sI s' h) (hs : X.stack = X.env :: X.outer) (hf : X.env.frame = some X.env.locals) (tk : Takes X W) (w : W cls d σ H) :
    wpAny (model X.prog X.w) X.A (handleBy (.ref a) X.env []) (SP X pins D) X.xe { s' with heap := h } := by
  refine wpAny_handleBy_nil ?_
  have fl := g.flies
  obtain ⟨_, _, _, o1, vs, T, _, _, g1, _, g2, g3, _⟩ := id fl
  have last : wpAny (model X.prog X.w) X.A (setFlight (.ref a) X.env.frame) (fun _ s4 => wpAny (model X.prog X.w) X.A (throw (.ref a) : Sem Flow) (SP X pins D) X.xe s4) X.xe { s' with heap := h } := by
    rw [hf]
    refine HandSPX.setFlight_upZ fl fun h4 held up => wpAny_throw (tk _ _ ⟨a, B, sI, pins, σ, H, cls, d, rfl, g.inv, g.ground, g.slots.trans up, ?_, g.new, g.same, g.bare, w⟩)
    rw [hs]
    exact .inr (.inr held)
  unfold PySem.passOn
  refine wpAny_bind (wpAny_field g1 g2 g3 ?_)
  rw [if_neg (by simp)]
  first
    | exact wpAny_bind (wpAny_pure (wpAny_bind last))
    | exact wpAny_bind last
/-- the clause's class is looked up -/
theorem Cgt.name {x : Str} {c : Value} {np : Pos} {Q E : Value → Shared → Prop} (g : Cgt X pins B a cls d σ H sI s' h) (hf : X.env.frame = some X.env.locals) (hc : Names X x c) (q : Q c { s' with heap := h }) :
    wpAny (model X.prog X.w) (X.A.mark (some (.ref a))) (eval (.Name x np) X.env) Q E { s' with heap := h } := by
  obtain ⟨oe, _, _, _, S⟩ := g.suite hf
  obtain ⟨hg, hd, hm | ⟨hm, hv, hn⟩⟩ := hc
  · exact ld_glob (X := X.suite a ((a, oe) :: (X.pn ++ pins))) S hg hm q hd
  · exact ld_blt (X := X.suite a ((a, oe) :: (X.pn ++ pins))) S hg hm hv q hn hd
theorem Cgt.matches {c : Value} {b : Bool} (g : Cgt X pins B a cls d σ H sI s' h) (hf : X.env.frame = some X.env.locals) (e : PySem.W.exmOne X.K cls c = some b) : PySem.W.Looks (model X.prog X.w) h (excMatches (.ref a) c) b := by
  obtain ⟨oe, z, _, e1, _⟩ := g.suite hf
  exact PySem.W.exm_one (M := model X.prog X.w) g.here.kIn (fun A Q E s k q => wpAny_typeOf_ref (k _ _ e1) (by rw [z.1]; exact q)) e
end
section
variable {X : Cx} {x n x2 : Str} {c c2 : Value} {i : Nat} {body suite suite2 : List Stmt} {b₀ b₁ : Stmt} {np np2 pos pos' pos2 : Pos} {tb : WX → TS} {ts ts2 : Addr → Value → Option Addr → TS} {W0 : WX}
theorem ps_tryTwo (hs : X.stack = X.env :: X.outer) (hf : X.env.frame = some X.env.locals) (hN : X.N.Nodup) (hi : X.N[i]? = some n) (hl : X.env.kindOf n = some .local) (hc : Names X x c) (hc2 : Names X x2 c2) (tk : Takes X W0)
    (hb : ∀ (W : WX) (pn : List (Addr × Obj)) (xe : Value → Shared → Prop), Takes (X.tr pn xe) W → PSs (X.tr pn xe) body (tb W))
    (h1 : ∀ (a : Addr) (oe : Obj) (cls : Value) (d : Option Addr) (pn : List (Addr × Obj)), Zc cls d oe → (∃ vs, oe.data = .fields vs) → PSs (X.suite a ((a, oe) :: pn)) (b₀ :: suite) (ts a cls d))
    (h2 : ∀ (a : Addr) (oe : Obj) (cls : Value) (d : Option Addr) (pn : List (Addr × Obj)), Zc cls d oe → (∃ vs, oe.data = .fields vs) → PSs (X.suite a ((a, oe) :: pn)) (b₁ :: suite2) (ts2 a cls d)) :
    PS X (.Try body [.ExceptHandler (some (.Name x np)) (some n) (b₀ :: suite) pos', .ExceptHandler (some (.Name x2 np2)) none (b₁ :: suite2) pos2] [] [] pos) fun D σ H => tb (wAs X.K c i ts (wOnly X.K c2 ts2 W0 D) D) D σ H := by
  constructor
  intro pins s σ H D I q0
  have ok := I.ok
  refine wpAny_Try_except ?_
  refine wpAny_mono ((hb (wAs X.K c i ts (wOnly X.K c2 ts2 W0 D) D) (X.pn ++ pins) (fun e t1 => wpAny (model X.prog X.w) X.A (noteFrame e X.env) (fun _ t2 => wpAny (model X.prog X.w) X.A (setFlight e none) (fun _ t3 =>
    wpAny (model X.prog X.w) X.A (handleBy e X.env [.ExceptHandler (some (.Name x np)) (some n) (b₀ :: suite) pos', .ExceptHandler (some (.Name x2 np2)) none (b₁ :: suite2) pos2]) (SP X pins D) X.xe t3) X.xe t2) X.xe t1) fun u s' z => ?_).run [] s σ H D (I.toTry _) q0) (fun f t hsp => ?_) fun _ _ z => z
  · obtain ⟨a, B, sI, pins', σ', H', cls, d, rfl, J', nb, up, sky, na, os, ag, b, hb1, yes, no⟩ := z
    show wpAny (model X.prog X.w) X.A (noteFrame (.ref a) X.env) _ _ _
    refine Sky.land Zc.steady (by rw [ok.frames, hs]) hf (by rw [← hs]; exact sky) fun h3 fl3 up3 => ?_
    have g : Cgt X pins B a cls d σ' H' sI s' h3 := ⟨J'.ofTry ok, nb, up.trans up3, fl3, na, os, ag⟩
    refine wpAny_handleBy_cons (codeAny_handlers_test ?_) (by intro q; cases q)
    refine g.name hf hc ((g.matches hf hb1).here ?_)
    cases b with
    | true =>
      refine codeAny_handlers_suite_as ?_
      refine HandSPX.lands_againZ g.flies fun h4 fl4 up4 => ?_
      have g4 := g.move fl4 up4
      obtain ⟨oe, z, fv, _, S⟩ := g4.suite hf
      refine store_ok (X := X.suite a ((a, oe) :: (X.pn ++ pins))) (v := .ref a) S hN hi (.inl hl) rfl (fun s5 S5 => ?_) (.inr hl)
      refine wpAny_mono ((h1 a oe cls d (X.pn ++ pins) z fv).run [] s5 _ H' _ S5 (yes rfl a na)) (fun f s6 r => ?_) fun _ _ z => z.elim
      have fin : ∀ {σ6 : L2.St} {H6 : Hp} {Q : Shared → Prop}, Inv (X.suite a ((a, oe) :: (X.pn ++ pins))) [] σ6 H6 s6 → (∀ s7, Inv X pins (σ6.set i none) H6 s7 → Q s7) →
          wpAny (model X.prog X.w) X.A (do bindName X.env n .none; unbindBehindTheSuite X.env n pos') (fun _ s7 => Q s7) X.xe s6 := fun S6 q => gone_ok (S6.unsuite ok) hN hi hl q
      cases f with
      | ret u =>
        obtain ⟨_, _, _, S6, rv, q6⟩ := r
        exact fin S6 fun _ J7 => ⟨_, _, _, J7, rv, q6⟩
      | _ =>
        obtain ⟨_, _, S6, q6⟩ := r
        exact fin S6 fun _ J7 => ⟨_, _, J7, q6⟩
    | false =>
      show wpAny (model X.prog X.w) X.A (handleBy (.ref a) X.env [_]) _ _ _
      obtain ⟨b2, hb2, yes2, no2⟩ := no rfl
      refine wpAny_handleBy_cons (codeAny_handlers_test ?_) (by intro q; cases q)
      refine g.name hf hc2 ((g.matches hf hb2).here ?_)
      cases b2 with
      | true =>
        refine codeAny_handlers_suite ?_
        refine HandSPX.lands_againZ g.flies fun h4 fl4 up4 => ?_
        have g4 := g.move fl4 up4
        obtain ⟨oe, z, fv, _, S⟩ := g4.suite hf
        refine wpAny_mono ((h2 a oe cls d (X.pn ++ pins) z fv).run [] _ _ H' _ S (yes2 rfl a na)) (fun f s6 r => ?_) fun _ _ z => z.elim
        cases f with
        | ret u =>
          obtain ⟨_, _, _, S6, rv, q6⟩ := r
          exact ⟨_, _, _, S6.unsuite ok, rv, q6⟩
        | _ =>
          obtain ⟨_, _, S6, q6⟩ := r
          exact ⟨_, _, S6.unsuite ok, q6⟩
      | false =>
        show wpAny (model X.prog X.w) X.A (handleBy (.ref a) X.env []) _ _ _
        exact g.out hs hf tk (no2 rfl)
  · cases f with
    | next =>
      obtain ⟨_, _, J, q⟩ := hsp
      exact wpAny_execs_nil ⟨_, _, J.ofTry ok, q⟩
    | ret u =>
      obtain ⟨_, _, _, J, rv, q⟩ := hsp
      exact ⟨_, _, _, J.ofTry ok, rv, q⟩
    | _ =>
      obtain ⟨_, _, J, q⟩ := hsp
      exact ⟨_, _, J.ofTry ok, q⟩
end
/-- what the body's exceptions are wished, where two clauses stand -/
def rTwo (i : Nat) (cs : List (Str × Str)) (m1 m2 : Str → Bool) (t1 : DSuite) (t2 : DS) (R : List Sl → XD) (d : DK) : List Sl → XD := fun env c n x => (c, n) ∈ cs ∧ (m1 c = true → n ≠ "" ∧ noOw env ∧ ∀ a, t1 a c n x (forgotD i d) (env.set i (.raw (.ref a)))) ∧
  (m1 c = false → (m2 c = true → noOw env ∧ t2 d env) ∧ (m2 c = false → R env c n x))
def tTryTwo (i : Nat) (cs : List (Str × Str)) (m1 m2 : Str → Bool) (t1 : DSuite) (t2 : DS) (R : List Sl → XD) (tB : (List Sl → XD) → DS) : DS := fun d env => noOw env ∧ tB (rTwo i cs m1 m2 t1 t2 R d) d env
section
variable {X : Cx} {w : Wn} {E : L2.St → XK} {R : List Sl → XD} {x n x2 : Str} {cv cw : Value} {i : Nat} {body suite suite2 : List Stmt} {b₀ b₁ : Stmt} {np np2 pos pos' pos2 : Pos}
theorem ds_tryTwo {cs : List (Str × Str)} {m1 m2 : Str → Bool} {t1 : DSuite} {t2 : DS} {tB : (List Sl → XD) → DS}
    (hs : X.stack = X.env :: X.outer) (hf : X.env.frame = some X.env.locals) (hN : X.N.Nodup) (hi : X.N[i]? = some n) (hln : X.env.kindOf n = some .local) (hc : Names X x cv) (hc2 : Names X x2 cw) (tk : Takes X (fun cls d σ H => E σ cls d H)) (hE : XEnS X.mg X.K w E R)
    (e1 : ∀ q ∈ cs, ∀ C, X.mg q.1 = some (.ref C) → PySem.W.exmOne X.K (.ref C) cv = some (m1 q.1))
    (e2 : ∀ q ∈ cs, ∀ C, X.mg q.1 = some (.ref C) → PySem.W.exmOne X.K (.ref C) cw = some (m2 q.1))
    (hb : ∀ (pn : List (Addr × Obj)) (xe : Value → Shared → Prop) (E' : L2.St → XK) (Rin : List Sl → XD) (w' : Wn), w'.b = w.b → Takes (X.tr pn xe) (fun cls d σ H => E' σ cls d H) → XEnS X.mg X.K w' E' Rin → DPSs (X.tr pn xe) w' body (tB Rin))
    (h1 : ∀ (a : Addr) (oe : Obj) (pn : List (Addr × Obj)) (c : Str) (C : Addr) (nf : Str) (y : PyData) (v : V) (dd : Addr) (w' : Wn), w'.b = w.b → (c, nf) ∈ cs → m1 c = true → X.mg c = some (.ref C) → Wd X.K w'.b w'.F w'.H → w'.H dd = some (.xd [(nf, v)]) → Rp X.K w'.F v y → Zc (.ref C) (some dd) oe → (∃ vs, oe.data = .fields vs) → DPSs (X.suite a ((a, oe) :: pn)) w' (b₀ :: suite) (t1 a c nf y))
    (h2 : ∀ (a : Addr) (oe : Obj) (pn : List (Addr × Obj)) (w' : Wn), w'.b = w.b → DPSs (X.suite a ((a, oe) :: pn)) w' (b₁ :: suite2) t2) :
    DPS X w (.Try body [.ExceptHandler (some (.Name x np)) (some n) (b₀ :: suite) pos', .ExceptHandler (some (.Name x2 np2)) none (b₁ :: suite2) pos2] [] [] pos) (tTryTwo i cs m1 m2 t1 t2 R tB) := by
  refine ps_weak (ps_tryTwo (tb := fun W D σ H => ∃ w' Rin, w'.b = w.b ∧ XEnS X.mg X.K w' (fun σ cls d H => W cls d σ H) Rin ∧ lfS X.K w' (tB Rin) D σ H)
    (ts := fun a cls d D σ H => ∃ c C nf y v dd F, Wd X.K w.b F H ∧ (c, nf) ∈ cs ∧ m1 c = true ∧ cls = .ref C ∧ X.mg c = some (.ref C) ∧ d = some dd ∧ H dd = some (.xd [(nf, v)]) ∧ Rp X.K F v y ∧ lfS X.K ⟨w.b, F, H⟩ (t1 a c nf y) D σ H)
    (ts2 := sufO X w t2) hs hf hN hi hln hc hc2 tk (fun W pn xe tkW => ⟨fun p s σ H D I ⟨w', Rin, e, hx, q⟩ => (hb pn xe _ Rin w' e tkW hx).run p s σ H D I q⟩)
    (fun a oe cls d pn hz hfl => ⟨fun p s σ H D I ⟨c, C, nf, y, v, dd, F, k0, k1, k2, k3, k4, k5, k6, k7, q⟩ => by
      subst k3 k5
      exact (h1 a oe pn c C nf y v dd ⟨w.b, F, H⟩ rfl k1 k2 k4 k0 k6 k7 hz hfl).run p s σ H D I q⟩)
    (fun a oe cls d pn hz hfl => ⟨fun p s σ H D I ⟨F, k0, q⟩ => (h2 a oe pn ⟨w.b, F, H⟩ rfl).run p s σ H D I q⟩)) fun D σ H ⟨env, F, d, r, ⟨no, h⟩, fit⟩ => ?_
  have second : ∀ (env2 : List Sl) (σ2 : L2.St) (F2 H2 : Hp), RelW X.K ⟨w.b, F, H⟩ env2 σ2 F2 H2 → ∀ (c : Str) (C : Addr) (nf : Str) (y : PyData) (dd : Option Addr) (F3 H3 : Hp), X.mg c = some (.ref C) → Stp X.K w.b F2 H2 F3 H3 → (c, nf) ∈ cs →
      (m2 c = true → noOw env2 ∧ t2 d env2) → (m2 c = false → E σ2 (.ref C) dd H3) → wOnly X.K cw (sufO X w t2) (fun cls d σ H => E σ cls d H) D (.ref C) dd σ2 H3 := fun env2 σ2 F2 H2 r2 c C nf y dd F3 H3 hc3 s3 hcs q1 out => by
    refine ⟨m2 c, e2 (c, nf) hcs C hc3, fun hb1 a ha => ?_, out⟩
    obtain ⟨no2, q⟩ := q1 hb1
    have st2 : Stp X.K w.b w.F w.H F3 H3 := (r.st.trans r2.st).trans s3
    exact ⟨F3, s3.wd, env2, F3, d, (r2.step s3).reroot no2, q, (fit.up (r2.st.trans s3).ex).root st2⟩
  refine ⟨⟨w.b, F, H⟩, rTwo i cs m1 m2 t1 t2 R d, rfl, fun env2 σ2 F2 H2 r2 => ⟨fun c C nf y v dd F3 H3 hc3 s3 h3 rp k => ?_, fun c C F3 H3 hc3 s3 k => ?_⟩, env, F, d, r.reroot no, h, fit.root r.st⟩
  · obtain ⟨hcs, q1, q2⟩ := k
    refine ⟨m1 c, e1 (c, nf) hcs C hc3, fun hb1 a ha => ?_, fun hb1 => ?_⟩
    · obtain ⟨_, no2, q⟩ := q1 hb1
      refine ⟨c, C, nf, y, v, dd, F3, s3.wd, hcs, hb1, rfl, hc3, rfl, h3, rp, env2.set i (.raw (.ref a)), F3, forgotD i d, ?_, q a, ?_⟩
      · exact ((r2.step s3).reroot no2).put i (z := .raw (.ref a)) (v := .ref a) rfl fun a m => by cases m
      · have st2 : Stp X.K w.b w.F w.H F3 H3 := (r.st.trans r2.st).trans s3
        exact ((fit.up (r2.st.trans s3).ex).root st2).forget i
    · obtain ⟨p1, p2⟩ := q2 hb1
      exact second env2 σ2 F2 H2 r2 c C nf y (some dd) F3 H3 hc3 s3 hcs p1 fun z => (hE env2 σ2 F2 H2 (Rel.unroot r.st r2)).fl c C nf y v dd F3 H3 hc3 s3 h3 rp (p2 z)
  · obtain ⟨hcs, q1, q2⟩ := k
    refine ⟨m1 c, e1 (c, "") hcs C hc3, fun hb1 a ha => absurd rfl (q1 hb1).1, fun hb1 => ?_⟩
    obtain ⟨p1, p2⟩ := q2 hb1
    exact second env2 σ2 F2 H2 r2 c C "" .none none F3 H3 hc3 s3 hcs p1 fun z => (hE env2 σ2 F2 H2 (Rel.unroot r.st r2)).no c C F3 H3 hc3 s3 (p2 z)
end
end Dl
/-! anything == a whole number -/
namespace PySem.SeqAt
open PySem PySem.Calls
theorem dict_other_int (l : Addr) (es : Array DictEntry) (ep : Nat) (dd : Option Addr) (sl : Array (Option Value)) (b : Int) (u : Tok) :
    Meets (Builtin.«dict.__eq__» ⟨[.ref l, .int b u], []⟩) (fun _ R s => s.heap.get? l = some { cls := .type "dict", dict := dd, data := .dict es ep, slots := sl } ∧ R (.ok (.ret .notImplemented)) s) :=
  .of_wp fun prog w A R s h => by
    obtain ⟨hp, g, d, tk, os⟩ := s
    obtain ⟨hl, h⟩ := h
    have f1 := F.sub_int_dict
    have f2 : isSubtype (.type "dict") (.type "dict") = pure true := by rw [isSubtype_type]; kernel_rfl
    wp_walk using wpAny_loadPart' hl
    exact ⟨_, rfl, h⟩
theorem int_other_dict (b : Int) (u : Tok) (l : Addr) (es : Array DictEntry) (ep : Nat) (dd : Option Addr) (sl : Array (Option Value)) :
    Meets (Builtin.«int.__eq__» ⟨[.int b u, .ref l], []⟩) (fun _ R s => s.heap.get? l = some { cls := .type "dict", dict := dd, data := .dict es ep, slots := sl } ∧ R (.ok (.ret .notImplemented)) s) :=
  .of_wp fun prog w A R s h => by
    obtain ⟨hp, g, d, tk, os⟩ := s
    obtain ⟨hl, h⟩ := h
    have f1 := F.sub_dict_int
    wp_walk using wpAny_loadPart' hl, wpAny_load hl
    exact ⟨_, rfl, h⟩
section
variable {A : Around} {s : Shared} {l : Addr} {o : Obj} {es : Array DictEntry} {ep : Nat}
theorem RcAt.dict_number (b : Int) (u : Tok) (ho : s.heap.get? l = some o) (hc : o.cls = .type "dict") (hd : o.data = .dict es ep) (hu : A.units < cLine) : RcAt A s (.ref l) (.int b u) false := fun prog w E Q h => by
  obtain ⟨cls, dd, data, sl⟩ := o
  simp only at hc hd
  subst hc hd
  exact rc_eq_decline_or (k := false) ⟨_, ho, rfl⟩ (typeIs_int s b u) (by decide) F.sub_int_dict F.slot_dict_eq F.slot_int_eq_refl
    (fun _ hq => call_meets F.slot_dict_eq ⟨_, ho, rfl⟩ F.entry_dict_eq (F.args_dict_eq_2 _ _) (dict_other_int l es ep dd sl b u) ⟨ho, hq⟩)
    (fun _ hq => call_meets F.slot_int_eq_refl (typeIs_int s b u) F.entry_int_eq (F.args_int_eq_2 _ _) (int_other_dict b u l es ep dd sl) ⟨ho, hq⟩)
    (fun _ hq => wpAny_of_eq (rfl : isSame (.ref l) (.int b u) = pure false) hq) (.inr hu) h
end
end PySem.SeqAt
namespace Dl
open PySem PySem.Spec PyProof.Rows L2
/-- as much as the number k -/
def isN (k : Int) : PyData → Bool
  | .int i => i == k
  | .bool b => (if b then 1 else 0) == k
  | _ => false
section
variable {X : Cx} {w : Wn} {pins : List (Addr × Obj)} {σ : L2.St} {H : Hp} {s : Shared}
theorem rc_nu (I : Inv X pins σ H s) {A : Around} (hu : A.units < cLine) {k : Int} {t : Tok} : ∀ {v : V} {x : PyData} {u : Value}, Rp X.K H v x → isOb x = false → RelV v u → SeqAt.RcAt A s u (.int k t) (isN k x) := by
  intro v x u h no rv
  cases h with
  | non => cases rv; exact SeqAt.RcAt.none_int k t
  | bl b => cases rv; exact SeqAt.RcAt.bool_int b k t
  | int i =>
    obtain ⟨t2, rfl⟩ := rv
    exact SeqAt.RcAt.int_int i t2 k t
  | str y =>
    obtain ⟨t2, rfl⟩ := rv
    exact SeqAt.RcAt.str_int y t2 k t
  | lst h r =>
    cases rv
    obtain ⟨its, _, p, _⟩ := I.list (SqL.of h)
    exact SeqAt.RcAt.list_int k t p.isList hu
  | tup h r =>
    cases rv
    obtain ⟨its, _, p, _⟩ := I.tuple h
    exact SeqAt.RcAt.tuple_int k t p hu
  | dct h r q =>
    cases rv
    obtain ⟨o, es, ep, ho, hc, hd⟩ := dict_at I h
    exact SeqAt.RcAt.dict_number k t ho hc hd hu
  | obj _ _ _ _ _ => cases no
def gEqI : G2 := fun x y P => isOb x = false ∧ match y with
  | .int k => P (.d (.bool (isN k x)))
  | _ => False
theorem o_eqI (hu : X.A.units < cLine) : OpR X (compareOp .Eq) (lR X.K w.b gEqI) := by
  intro pins s σ H x y v u Q I rx ry h
  obtain ⟨F, dx, dy, P, wd, hx, hy, g, q⟩ := h
  unfold gEqI at g
  obtain ⟨no, g⟩ := g
  split at g
  · cases hy.int
    obtain ⟨t, rfl⟩ := ry
    exact rc_nu I hu (hx.all wd.sub) no rx _ _ _ _ ⟨.bl _, H, I, rfl, q _ (.bl _) F H wd.refl (res_d (.bl _)) g⟩
  · exact g.elim
end
end Dl
set_option exponentiation.threshold 100000
namespace Lk
open PySem PySem.Spec PyProof.Rows L2 Dl
def topS (i : Nat) : Stmt := PySem.Challenge.pw_truechain_k27_marks_refused.main.body.getD i (.Pass ⟨0, 0, 0, 0⟩)
def inS (s : Stmt) (j : Nat) : Stmt := match s with | .ClassDef _ _ _ b _ _ _ _ _ _ _ => b.getD j (.Pass ⟨0, 0, 0, 0⟩) | _ => s
local macro_rules | `(tactic| walk_at "dl") => `(tactic| simp only [↓sqD, ↓alE, ↓rvE, capD, capSl, ↓stE, ↓reE, tRetVD, ↓ifE, tDropD, tParD, tAsgD, tAppD, tInsD, tDict1, tJoin, tSlT, tSlS, cSorted, cTuple, gLtT, tPar3D, ↓ixE, tSetI, tAugI, ↓vaE, ↓cdE, tRaw, ↓biE, ↓rdE, rd, gAdd, gMinus, gMul, gFdiv, gMod, gPow, gIn, gEqv, id,
  isB, ↓tsE, ↓unE, gNeg, ↓anE, ↓orE, ↓noE, ↓uxE, ↓raE, ↓mkE, ↓meE, ↓flE, ↓icE, ↓inE, ↓ikE, ↓xoE, ↓r0E, ↓osE, ↓cnE, mulLE, tSortSet, tTmp, tLenSeX, tFmtD, tFstr, tJsD, tExtO, tTmT, itOr, tPl0, tPlL, tPlT, tClrP, tExtP, lsT, tGetD, tDict2S, gEqX, gEqI, gInX, gInS, gNeN, gAddX, gEqS, tIsT, tDictC, tGetO, tRevT, tEith, cAll, gEqN, tDict2, tTupT, tClrD, tExtD, tListK, tInT, tGetT, tPutT, tSortIt, tEmpT, cMinL, cSortG, isDt, ↓isE, ↓axE, ↓trE, truOk, truD, ↓itE, tAnV, tOrV', tNoV, tIsNV, nonB, tChD, ↓nlE, ↓coE, frz, allD, ↓liE, ↓tuE, ↓caE, one, two, cLen, cAbs, cMin, cInt, cGcd, cList, cIsi, isA, cRepr, cStr, tEmp,
  ↓usE, dat, okR, anyOw, owA, ↓sdE, stD, unS, gnD, gtD, gtLD, gconsD, gnilD, itR1, itR2, itLst, itTup, itEnum, itEnumT, itZip, itZipT, itStr, ↓foE, startD, toSl, frzS, tSlL, oNone, oSome, List.flatMap_cons, List.flatMap_nil, List.nil_append, List.append_nil, List.cons_append,
  List.map_cons, List.map_nil, List.length_cons, List.length_nil, List.replicate, Nat.reduceAdd, Nat.reduceSub, List.getElem?_cons_zero, List.getElem?_cons_succ, List.set_cons_zero, List.set_cons_succ, at0, at1, at2, at3, at4, at5, at6, at7, ↓gi0, ↓gi1, ↓gi2, ↓gi3, ↓gi4, ↓gi5, ↓gi6, ↓gi7, ↓li0, ↓li1, ↓li2, tBitLen, true_or, or_true, true_and, and_true, Bool.not_true, Bool.not_false, String.reduceBEq, Bool.or_true, Bool.true_or, Bool.or_false, Bool.false_or, Bool.and_true, Bool.true_and, Bool.and_false, Bool.false_and, Bool.false_eq_true, if_true, if_false, reduceCtorEq, ↓reduceIte])
/-- marks as they are told -/
def MksOk (lo : Nat) (ms : List Int) : Prop := lo ≤ ms.length ∧ ms.length ≤ 8 ∧ (∀ m ∈ ms, 0 ≤ m ∧ m ≤ 1000) ∧ ms.Pairwise (· < ·)
def few (z : Str) : Nat := if z = "scale" then 2 else 1
def SpOk (ps : List Int) : Prop := 1 ≤ ps.length ∧ ps.length ≤ 6 ∧ (∀ p ∈ ps, 0 ≤ p ∧ p ≤ 1000) ∧ ps.Pairwise (· ≤ ·)
/-- a scale of marks, as data -/
abbrev sx (ms : List Int) : PyData := obD "Scale" [("_marks", .tuple (IL ms))]
def fitS (ms ps : List Int) : Bool := decide (ms.getD 0 0 ≤ ps.getD 0 0) && decide (ps.getLastD 0 ≤ ms.getLastD 0)
theorem lastD {ns : List Int} (h : ns ≠ []) : ns.getLast h = ns.getLastD 0 := by
  cases ns with
  | nil => exact absurd rfl h
  | cons a t => rw [List.getLastD_cons, List.getLast_eq_getLastD]
theorem headD {ns : List Int} (h : ns ≠ []) : ns.head h = ns.getD 0 0 := by
  cases ns with
  | nil => exact absurd rfl h
  | cons a t => rfl
theorem ne_of_len {ns : List Int} {k : Nat} (h : k + 1 ≤ ns.length) : ns ≠ [] := fun z => by rw [z] at h; cases h
def shD (ms : List Int) (p : Int) : List PyData := (sh ms p).map fun q => .tuple [.int q.1, frP q.2]
theorem fr_lt {n : Int} (h0 : 0 ≤ n) (h1 : n ≤ DD * 16) : (frT n).natAbs < 2 ^ 1505 ∧ (frB n).natAbs < 2 ^ 1505 := by
  obtain ⟨a, b⟩ := (frN n).le DD_ne
  have d := DD_lt
  have e : n.natAbs ≤ DD.natAbs * 16 := by omega
  have two : (2 : Nat) ^ 1500 * 16 < 2 ^ 1505 := by decide
  have t2 : (2 : Nat) ^ 1500 < 2 ^ 1505 := by decide
  generalize (2 : Nat) ^ 1500 = A at d two t2
  generalize (2 : Nat) ^ 1505 = B at two t2
  refine ⟨?_, Nat.lt_trans (Nat.lt_of_le_of_lt a d) t2⟩
  exact Nat.lt_trans (Nat.lt_of_le_of_lt (Nat.le_trans b e) ((Nat.mul_lt_mul_right (by decide)).mpr d)) two
theorem rngD_ix (n : Nat) : rngD 0 n = (List.range' 0 (n - 0)).map fun i => PyData.int (i : Nat) := by
  unfold rngD
  rw [List.range_eq_range', Nat.sub_zero]
  refine List.map_congr_left fun i _ => ?_
  rw [Int.zero_add]
theorem sum_filter {w : Int → Int} (w0 : ∀ m, 0 ≤ w m) : ∀ ms : List Int, ((ms.filter fun m => decide (0 < w m)).map w).sum = (ms.map w).sum
  | [] => rfl
  | m :: ms => by
    by_cases c : 0 < w m
    · rw [List.filter_cons_of_pos (p := fun m => decide (0 < w m)) (decide_eq_true c), List.map_cons, List.sum_cons, List.map_cons, List.sum_cons, sum_filter w0 ms]
    · rw [List.filter_cons_of_neg (p := fun m => decide (0 < w m)) (by rw [decide_eq_true_eq]; exact c), List.map_cons, List.sum_cons, sum_filter w0 ms]
      have := w0 m
      omega
theorem fit_ends {ms ps : List Int} (hp : SpOk ps) (e : fitS ms ps = true) : ∀ p ∈ ps, ms.getD 0 0 ≤ p ∧ p ≤ ms.getLastD 0 := by
  obtain ⟨p1, p2, p3, p4⟩ := hp
  have np := ne_of_len p1
  unfold fitS at e
  rw [Bool.and_eq_true] at e
  have e1 := of_decide_eq_true e.1
  have e2 := of_decide_eq_true e.2
  intro p hp
  rw [← headD np] at e1
  rw [← lastD np] at e2
  obtain ⟨j, hj, ej⟩ := List.mem_iff_getElem.mp hp
  have asc : ∀ {a b : Nat} (ha : a < ps.length) (hb : b < ps.length), a ≤ b → ps[a] ≤ ps[b] := fun {a b} ha hb hab => by
    by_cases c : a = b
    · subst c; exact Int.le_refl _
    · exact List.pairwise_iff_getElem.mp p4 a b ha hb (by omega)
  have a := asc (a := 0) (b := j) (by omega) hj (by omega)
  have b := asc (a := j) (b := ps.length - 1) hj (by omega) (by omega)
  rw [List.head_eq_getElem] at e1
  rw [List.getLast_eq_getElem] at e2
  omega
theorem fit_ends2 {ms : List Int} (np : ms ≠ []) (p4 : ms.Pairwise (· ≤ ·)) : ∀ p ∈ ms, ms.getD 0 0 ≤ p ∧ p ≤ ms.getLastD 0 := by
  intro p hp
  rw [← headD np, ← lastD np]
  have l := List.length_pos_iff.mpr np
  obtain ⟨j, hj, ej⟩ := List.mem_iff_getElem.mp hp
  have asc : ∀ {a b : Nat} (ha : a < ms.length) (hb : b < ms.length), a ≤ b → ms[a] ≤ ms[b] := fun {a b} ha hb hab => by
    by_cases c : a = b
    · subst c; exact Int.le_refl _
    · exact List.pairwise_iff_getElem.mp p4 a b ha hb (by omega)
  have a := asc (a := 0) (b := j) (by omega) hj (by omega)
  have b := asc (a := j) (b := ms.length - 1) hj (by omega) (by omega)
  rw [List.head_eq_getElem, List.getLast_eq_getElem]
  omega
theorem fit_of {ms ps : List Int} (np : ps ≠ []) (h : ∀ p ∈ ps, ms.getD 0 0 ≤ p ∧ p ≤ ms.getLastD 0) : fitS ms ps = true := by
  unfold fitS
  rw [← headD np, ← lastD np, decide_eq_true (h _ (List.head_mem np)).1, decide_eq_true (h _ (List.getLast_mem np)).2]
  rfl
theorem up16 {x : Nat} (h : x < 2 ^ 1505) {k : Nat} (hk : 1505 ≤ k) : x < 2 ^ k := two_le h hk
/-- a box of marks, as data -/
abbrev bx (ms : List Int) : PyData := obD "Box" [("_marks", .tuple (IL ms))]
def fitB (ms ps : List Int) : Bool := ps.all (fun p => decide (p ∈ ms)) && decide (ps.Pairwise (· < ·))
def mixD (ps : List Int) : List PyData := ps.map fun p => .tuple [.int p, .tuple [.int 1, .int 1]]
/-! what is told of anything, whole or spoilt -/
def ptB : PyData → Bool
  | .int n => decide (0 ≤ n) && decide (n ≤ 1000)
  | _ => false
def dayB : PyData → Bool
  | .int n => decide (0 ≤ n) && decide (n ≤ 1000000)
  | _ => false
def keyB : PyData → Bool
  | .int n => decide (1 ≤ n) && decide (n ≤ 1000000000)
  | _ => false
def lvlB : PyData → Bool
  | .int n => decide (0 ≤ n) && decide (n ≤ 5)
  | _ => false
def smallB : PyData → Bool
  | .tuple [.int p, .int q] => isFr (.tuple [.int p, .int q]) && (decide (-1000000000000 ≤ p) && (decide (p ≤ 1000000000000) && decide (q ≤ 1000)))
  | _ => false
def freeB : PyData → Bool
  | .tuple [.int p, .int q] => smallB (.tuple [.int p, .int q]) && decide (0 ≤ p)
  | _ => false
def namB : PyData → Bool
  | .str z => decide (1 ≤ z.length) && (decide (z.length ≤ 8) && z.cps.toList.all fun c => decide (97 ≤ c) && decide (c ≤ 122))
  | _ => false
def sortB : PyData → Bool
  | .str z => decide (z = "scale") || decide (z = "box")
  | _ => false
/-- the numbers of a list of points -/
def numOf : List PyData → List Int
  | [] => []
  | .int n :: xs => n :: numOf xs
  | _ :: xs => numOf xs
theorem num_il : ∀ ns : List Int, numOf (IL ns) = ns
  | [] => rfl
  | n :: ns => congrArg (n :: ·) (num_il ns)
theorem of_pts : ∀ {xs : List PyData}, xs.all ptB = true → xs = IL (numOf xs)
  | [], _ => rfl
  | x :: xs, h => by
    rw [List.all_cons, Bool.and_eq_true] at h
    cases x with
    | int n =>
      show _ = PyData.int n :: IL (numOf xs)
      rw [← of_pts h.2]
    | _ => simp [ptB] at h
def spotB : PyData → Bool
  | .list xs => decide (1 ≤ xs.length) && (decide (xs.length ≤ 6) && (xs.all ptB && decide ((numOf xs).Pairwise (· ≤ ·))))
  | _ => false
def marksB (lo : Nat) : PyData → Bool
  | .list xs => decide (lo ≤ xs.length) && (decide (xs.length ≤ 8) && (xs.all ptB && decide ((numOf xs).Pairwise (· < ·))))
  | _ => false
/-- texts that are short enough to be measured -/
def txA : PyData → Bool
  | .str z => decide (z.length ≤ 100000)
  | _ => true
theorem txA_len {z : Str} (h : txA (.str z) = true) : z.length ≤ 100000 := of_decide_eq_true h
/-- what the word of a part asks -/
def wrdL : List (Str × (PyData → Bool)) := [("name", namB), ("finer", namB), ("elder", namB), ("day", dayB), ("term", dayB), ("mark", ptB), ("piece", ptB), ("low", smallB), ("high", smallB), ("difference", smallB), ("rate", freeB), ("slack", freeB), ("width", freeB), ("key", keyB), ("sort", sortB), ("level", lvlB), ("spot", spotB)]
def wrdF (z : Str) : PyData → Bool := (wrdL.lookup z).getD fun _ => false
def Wd1 (z : Str) : Prop := z ∈ wrdL.map Prod.fst
/-- the parts of rows -/
def rowW : List (Str × List Str) := [("made", ["mark", "elder", "piece"]), ("told", ["mark", "low", "high"]), ("held", ["mark", "spot", "difference", "slack"]), ("offer", ["mark", "spot", "slack"])]
def toldW : List Str := ["mark", "low", "high"]
theorem rowW_wd {k : Str} {ps : List Str} (h : (k, ps) ∈ rowW) : ∀ z ∈ ps, Wd1 z := by
  have : ∀ p ∈ rowW, ∀ z ∈ p.2, z ∈ wrdL.map Prod.fst := by decide +kernel
  exact this _ h
theorem rowW_len {k : Str} {ps : List Str} (h : (k, ps) ∈ rowW) : 3 ≤ ps.length ∧ ps.length ≤ 4 ∧ ps.head? = some "mark" := by
  have : ∀ p ∈ rowW, 3 ≤ p.2.length ∧ p.2.length ≤ 4 ∧ p.2.head? = some "mark" := by decide +kernel
  exact this _ h
/-- the one is not more than the other -/
def leB : PyData → PyData → Bool
  | .tuple [.int p, .int q], .tuple [.int u, .int v] => decide (p * v ≤ u * q)
  | _, _ => false
def ordB (k : Str) (xs : List PyData) : Bool := decide (k ≠ "told") || (match xs with
  | [_, a, b] => leB a b
  | _ => false)
def rowB (k : Str) (ps : List Str) : PyData → Bool
  | .tuple xs => decide (xs.length = ps.length) && ((ps.zip xs).all (fun p => wrdF p.1 p.2) && ordB k xs)
  | _ => false
def headOf : PyData → PyData
  | .tuple (x :: _) => x
  | _ => .none
def rowsB (k : Str) (ps : List Str) : PyData → Bool
  | .list xs => decide (1 ≤ xs.length) && (decide (xs.length ≤ 8) && (xs.all (rowB k ps) && decide ((numOf (xs.map headOf)).Pairwise (· < ·))))
  | _ => false
/-- short texts within a row, within rows -/
def txR : PyData → Bool
  | .tuple xs => xs.all txA
  | _ => true
def txL : PyData → Bool
  | .list xs => xs.all txR
  | _ => true
theorem of_free {x : PyData} (h : freeB x = true) : ∃ p q : Int, x = .tuple [.int p, .int q] ∧ smallB x = true ∧ 0 ≤ p := by
  match x, h with
  | .tuple [.int p, .int q], h =>
    simp only [freeB, Bool.and_eq_true, decide_eq_true_eq] at h
    exact ⟨p, q, rfl, h⟩
theorem of_small {x : PyData} (h : smallB x = true) : ∃ p q : Int, x = .tuple [.int p, .int q] ∧ Sml p q := by
  match x, h with
  | .tuple [.int p, .int q], h =>
    simp only [smallB, Bool.and_eq_true, decide_eq_true_eq] at h
    obtain ⟨h1, h2, h3, h4⟩ := h
    obtain ⟨p', q', e, f⟩ := of_isFr h1
    cases e
    exact ⟨p, q, rfl, f, by omega, h4⟩
theorem row_head {k : Str} {ps : List Str} (hk : (k, ps) ∈ rowW) {x : PyData} (h : rowB k ps x = true) : ∃ (m : Int) (xs : List PyData), x = .tuple (.int m :: xs) ∧ 0 ≤ m ∧ m ≤ 1000 := by
  cases x with
  | tuple xs =>
    simp only [rowB, Bool.and_eq_true, decide_eq_true_eq] at h
    obtain ⟨l, a, _⟩ := h
    obtain ⟨l3, _, hd⟩ := rowW_len hk
    cases ps with
    | nil => cases hd
    | cons p ps =>
      cases hd
      cases xs with
      | nil => simp at l
      | cons x xs =>
        rw [List.zip_cons_cons, List.all_cons, Bool.and_eq_true] at a
        have a1 : ptB x = true := a.1
        cases x with
        | int m =>
          simp only [ptB, Bool.and_eq_true, decide_eq_true_eq] at a1
          exact ⟨m, xs, rfl, a1⟩
        | _ => simp [ptB] at a1
  | _ => simp [rowB] at h
def pairOf : PyData → List Key
  | .tuple [_, .str z, .int k] => [.inr z, .inl k]
  | _ => []
def eldOf : PyData → PyData
  | .tuple (_ :: z :: _) => z
  | _ => .none
def eldIs (nm : Str) : PyData → Bool
  | .str z => decide (z = nm)
  | _ => false
def partsL : List (Str × List Str) := [("thing", ["name", "sort", "level", "rate", "marks"]), ("off", ["name"]), ("harmed", ["name"]), ("mended", ["name"]), ("made", ["name", "rate", "rows"]), ("told", ["name", "term", "rows"]), ("held", ["name", "finer", "term", "rows"]), ("read", ["name", "spot"])]
theorem ix_at {xs : List PyData} {x : PyData} {n : Nat} {P : DV → Prop} (h : xs[n]? = some x) (hP : P (.d x)) : gIx (.tuple xs) (.int (n : Nat)) P := by
  obtain ⟨hl, _⟩ := List.getElem?_eq_some_iff.mp h
  have e : atI xs (n : Nat) = some x := by
    unfold atI ixN
    rw [if_pos (by omega), if_pos (by omega)]
    exact h
  simp only [gIx, e]
  exact hP
theorem ix_last {xs : List PyData} {x : PyData} {P : DV → Prop} (h : xs.getLast? = some x) (hP : P (.d x)) : gIx (.tuple xs) (.int (-1)) P := by
  have ne : xs ≠ [] := fun e => by rw [e] at h; cases h
  have e := atN ne
  rw [List.getLast?_eq_some_getLast ne] at h
  simp only [gIx, e, Option.some.inj h]
  exact hP
theorem marks_cases {n : Nat} {x : PyData} (h : marksB n x = true) : ∃ ms, x = .list (IL ms) ∧ MksOk n ms := by
  cases x with
  | list xs =>
    simp only [marksB, Bool.and_eq_true, decide_eq_true_eq] at h
    obtain ⟨a, b, c, d⟩ := h
    have e := of_pts c
    have l := il_len (numOf xs)
    rw [← e] at l
    refine ⟨numOf xs, by rw [← e], by omega, by omega, fun m hm => ?_, d⟩
    have := List.all_eq_true.mp c (.int m) (by rw [e]; exact List.mem_map.mpr ⟨m, hm, rfl⟩)
    simpa only [ptB, Bool.and_eq_true, decide_eq_true_eq] using this
  | _ => simp [marksB] at h
theorem marks_ok {n : Nat} {ms : List Int} (h : MksOk n ms) : marksB n (.list (IL ms)) = true := by
  obtain ⟨a, b, c, d⟩ := h
  simp only [marksB, il_len, num_il, Bool.and_eq_true, decide_eq_true_eq]
  refine ⟨a, b, List.all_eq_true.mpr fun x hx => ?_, d⟩
  obtain ⟨m, hm, rfl⟩ := List.mem_map.mp hx
  simp only [ptB, Bool.and_eq_true, decide_eq_true_eq]
  exact c m hm
theorem spot_cases {x : PyData} (h : spotB x = true) : ∃ ps, x = .list (IL ps) ∧ SpOk ps := by
  cases x with
  | list xs =>
    simp only [spotB, Bool.and_eq_true, decide_eq_true_eq] at h
    obtain ⟨a, b, c, d⟩ := h
    have e := of_pts c
    have l := il_len (numOf xs)
    rw [← e] at l
    refine ⟨numOf xs, by rw [← e], by omega, by omega, fun m hm => ?_, d⟩
    have := List.all_eq_true.mp c (.int m) (by rw [e]; exact List.mem_map.mpr ⟨m, hm, rfl⟩)
    simpa only [ptB, Bool.and_eq_true, decide_eq_true_eq] using this
  | _ => simp [spotB] at h
theorem spot_ok {ps : List Int} (h : SpOk ps) : spotB (.list (IL ps)) = true := by
  obtain ⟨a, b, c, d⟩ := h
  simp only [spotB, il_len, num_il, Bool.and_eq_true, decide_eq_true_eq]
  refine ⟨a, b, List.all_eq_true.mpr fun x hx => ?_, d⟩
  obtain ⟨m, hm, rfl⟩ := List.mem_map.mp hx
  simp only [ptB, Bool.and_eq_true, decide_eq_true_eq]
  exact c m hm
theorem few_scale : few "scale" = 2 := by decide +kernel
theorem few_box : few "box" = 1 := by decide +kernel
/-! _law_bag -/
abbrev s__law_bag : Stmt := topS 27
abbrev N__law_bag : List Str := ["_law_script", "_law_cell"]
theorem sc__law_bag : FnScope N__law_bag ["_law_script"] (defScope s__law_bag) := ⟨rfl, rfl, rfl, by decide +kernel, rfl, by decide +kernel, by decide +kernel⟩
section
variable {ts : List Addr} {P : Program} {w : World} {K : PySem.W.Frag} {mg : Str → Option Value} {base : Heap}
theorem ok__law_bag {f : Addr} {fd : FuncData} (Fn : L2.Fun K "_law_bag" "_law_bag" s__law_bag f fd) (z_abs : mg "abs" = none) : Fg P w K mg base (L2.CX P w) 1 f (spBag K) := by
  refine r_def Fn sc__law_bag (fun _ _ _ _ _ _ us hl => match us, hl with | [_], _ => rfl) (spBag K) fun cdv A outer s H vs Q E ag hr want => ?_
  obtain ⟨a, ns, rfl, seq, hl, q⟩ := want
  have S := sc__law_bag
  refine ⟨rfl, bgT K, pss_one (ps_ret (pe_lst (pa_cons pe_int (pa_cons pe_int (pa_cons pe_int (pa_cons (pe_lc (own := [("_law_cell", 1)]) rfl S.nd (pi_list (pe_slice sl_list (pv 0) po_none (po_some pe_int))) (blkOk_by (N := N__law_bag) (sc := defScope s__law_bag) (by decide +kernel)) (fun _ _ _ _ _ => pg_name (i := 1) S.nd rfl (Or.inl rfl)) (fun _ _ _ _ _ => pts_nil) (fun _ _ _ _ _ => pe_callB call_abs (by rfl) z_abs (by decide +kernel) (pa_cons (pv 1) pa_nil))) pa_nil)))))), ?_⟩
  exact bg_go seq hl q
end
/-! _law_take -/
abbrev s__law_take : Stmt := topS 28
abbrev N__law_take : List Str := ["_law_bag_here", "_law_many", "_law_cell", "_law_value", "_law_first", "_law_second"]
theorem sc__law_take : FnScope N__law_take ["_law_bag_here", "_law_many"] (defScope s__law_take) := ⟨rfl, rfl, rfl, by decide +kernel, rfl, by decide +kernel, by decide +kernel⟩
section
variable {ts : List Addr} {P : Program} {w : World} {K : PySem.W.Frag} {mg : Str → Option Value} {base : Heap}
theorem ok__law_take {f : Addr} {fd : FuncData} (Fn : L2.Fun K "_law_take" "_law_take" s__law_take f fd) (z_len : mg "len" = none) : Fg P w K mg base (L2.CX P w) 1 f (Pm K ts sp__law_take) := by
  refine r_def Fn sc__law_take (fun _ _ _ _ _ _ us hl => match us, hl with | [_, _], _ => rfl) (Pm K ts sp__law_take) fun cdv A outer s H vs Q E ag hr want => ?_
  obtain ⟨b, F, dvs, R, _, wd, ar, ⟨m, rfl, hm, hs, hR⟩, q⟩ := want
  match vs, ar with
  | [_, _], .cons a1 (.cons a2 .nil) =>
  cases a1
  cases a2
  have S := sc__law_take
  refine ⟨rfl, tkT K, pss_cons (ps_if (pt_cmpR op_eq (pe_ix ix_list (pv 0) pe_int (fun _ _ => rfl)) pe_int (nomark _))
      (pss_cons (ps_set (i := 2) S.nd rfl (.inl rfl) pe_int)
      (pss_cons (ps_if (pt_cmpR op_lt (pe_ix ix_list (pv 0) pe_int (fun _ _ => rfl)) (pe_callB call_len_seq (by rfl) z_len PySem.boot_len (pa_cons (pe_ix ix_list (pv 0) pe_int (fun _ _ => rfl)) pa_nil)) (nomark _))
        (pss_one (ps_set (i := 2) S.nd rfl (.inl rfl) (pe_ix ix_list (pe_ix ix_list (pv 0) pe_int (fun _ _ => rfl)) (pe_ix ix_list (pv 0) pe_int (fun _ _ => rfl)) (fun _ _ => rfl)))) pss_nil)
      (pss_cons (ps_augS (pv 0) pe_int get_lst pe_int ip_add set_list)
      (pss_cons (ps_if (pt_cmpR op_ge (pv 2) pe_int (nomark _)) (pss_one (ps_asg (pv 2) (pg_sub (pv 0) pe_int set_list))) pss_nil)
      (pss_one (ps_asg (pe_op op_mod (pe_op op_add (pe_op op_add (pe_op op_mul (pe_ix ix_list (pv 0) pe_int (fun _ _ => rfl)) pe_int) (pe_op op_mod (pv 2) pe_int)) (pe_op op_mul pe_int (pe_ix ix_list (pv 0) pe_int (fun _ _ => rfl)))) pe_int) (pg_sub (pv 0) pe_int set_list))))))) pss_nil)
    (pss_cons (ps_if (pt_cmpR op_gt (pe_ix ix_list (pv 0) pe_int (fun _ _ => rfl)) pe_int (nomark _))
      (pss_cons (ps_set (i := 3) S.nd rfl (.inl rfl) (pe_op op_mod (pe_ix ix_list (pv 0) pe_int (fun _ _ => rfl)) (pv 1)))
      (pss_cons (ps_asg (pe_op op_fdivX (pe_ix ix_list (pv 0) pe_int (fun _ _ => rfl)) (pv 1)) (pg_sub (pv 0) pe_int set_list))
      (pss_one (ps_ret (pv 3))))) pss_nil)
    (pss_cons (ps_set (i := 4) S.nd rfl (.inl rfl) (pe_op op_mod (pe_op op_mul (pe_op op_add (pe_ix ix_list (pv 0) pe_int (fun _ _ => rfl)) pe_int) pe_int) pe_int))
    (pss_cons (ps_set (i := 5) S.nd rfl (.inl rfl) (pe_op op_mod (pe_op op_mul (pe_op op_mod (pe_op op_mul (pv 4) (pv 4)) pe_int) pe_int) pe_int))
    (pss_cons (ps_if (pt_cmpR op_gt (pv 1) pe_int (nomark _)) (pss_one (ps_ret (pe_op op_mod (pe_op op_add (pe_op op_mul (pv 5) pe_int) (pv 4)) (pv 1)))) pss_nil)
    (pss_one (ps_ret (pe_op op_mod (pe_op op_fdiv (pv 5) pe_int) (pv 1)))))))), ?_⟩
  exact tk_go wd hm hs fun r r0 r1 H2 st => q (.d (.int r)) _ F H2 st (.int r) (hR r r0 r1)
end
/-! _law_marks -/
abbrev s__law_marks : Stmt := topS 31
abbrev N__law_marks : List Str := ["_law_bag_here", "_law_sort", "_law_many", "_law_step", "_law_last", "_law_found", "_law_k"]
theorem sc__law_marks : FnScope N__law_marks ["_law_bag_here", "_law_sort"] (defScope s__law_marks) := ⟨rfl, rfl, rfl, by decide +kernel, rfl, by decide +kernel, by decide +kernel⟩
def rd__law_marks : DS := (tSeqD (tSetD 2 (tBin gIx (tBin gIx (tLstD (tConsD (tLstD (tConsD (tCD (.int 2)) (tConsD (tCD (.int 3)) (tConsD (tCD (.int 4)) (tConsD (tCD (.int 8)) tNilD))))) (tConsD (tLstD (tConsD (tCD (.int 1)) (tConsD (tCD (.int 2)) (tConsD (tCD (.int 3)) (tConsD (tCD (.int 8)) tNilD))))) tNilD))) (tCallD cInt (tConsD (tBin (gEqv id) (tVarD 1) (tCD (.str "box"))) tNilD))) (tUse sp__law_take (tConsD (tVarD 0) (tConsD (tCD (.int 4)) tNilD)))))
    (tSeqD (tSetD 3 (tBin gIx (tLstD (tConsD (tCD (.int 2)) (tConsD (tCD (.int 12)) (tConsD (tCD (.int 110)) tNilD)))) (tUse sp__law_take (tConsD (tVarD 0) (tConsD (tCD (.int 3)) tNilD)))))
    (tSeqD (tSetD 4 (tUse sp__law_take (tConsD (tVarD 0) (tConsD (tCD (.int 6)) tNilD))))
    (tSeqD (tSetD 5 (tLstD (tConsD (tUse sp__law_take (tConsD (tVarD 0) (tConsD (tCD (.int 20)) tNilD))) tNilD)))
    (tSeqD (tForD (gnD 6) (itR1 (tConsD (tBin gMinus (tVarD 2) (tCD (.int 1))) tNilD)) (tAppD 5 (tBin gAdd (tBin gAdd (tBin gIx (tVarD 5) (tUnD gNeg (tCD (.int 1)))) (tCD (.int 1))) (tUse sp__law_take (tConsD (tVarD 0) (tConsD (tVarD 3) tNilD))))))
    (tSeqD (tIfD (tTst (tBin (gEqv id) (tVarD 4) (tCD (.int 0)))) (tSetI 5 (tUnD gNeg (tCD (.int 1))) (tCD (.int 1000))) (fun d env => d.nx env))
    (tRetVD 5)))))))
/-- marks as they grow -/
def Grow (ns : List Int) : Prop := ∃ h : ns ≠ [], ns.Pairwise (· < ·) ∧ (∀ n ∈ ns, 0 ≤ n ∧ n ≤ ns.getLast h) ∧ ns.getLast h ≤ 19 + 110 * ((ns.length : Int) - 1)
theorem grow_one {r : Int} (h0 : 0 ≤ r) (h1 : r < 20) : Grow [r] := ⟨List.cons_ne_nil _ _, .cons (fun _ h => nomatch h) .nil, fun n hn => by
  cases List.mem_singleton.mp hn
  exact ⟨h0, Int.le_refl _⟩, by show r ≤ 19 + 110 * ((1 : Int) - 1); omega⟩
theorem grow_app {ns : List Int} {r : Int} (g : Grow ns) (hn : ns ≠ []) (h0 : 0 ≤ r) (h1 : r < 110) : Grow (ns ++ [ns.getLast hn + 1 + r]) := by
  obtain ⟨h, p, b, c⟩ := g
  have e : (ns ++ [ns.getLast hn + 1 + r]).getLast (by simp) = ns.getLast hn + 1 + r := List.getLast_concat ..
  refine ⟨by simp, List.pairwise_append.mpr ⟨p, .cons (fun _ h => nomatch h) .nil, fun a ha y hy => ?_⟩, fun n hn2 => ?_, ?_⟩
  · cases List.mem_singleton.mp hy
    have := b a ha
    omega
  · rw [e]
    rcases List.mem_append.mp hn2 with m | m
    · have := b n m
      omega
    · cases List.mem_singleton.mp m
      have := b _ (List.getLast_mem hn)
      omega
  · rw [e, List.length_append, List.length_singleton]
    push_cast
    omega
theorem grow_ok {ns : List Int} {lo : Nat} (g : Grow ns) (h1 : lo ≤ ns.length) (h2 : ns.length ≤ 8) : MksOk lo ns := by
  obtain ⟨h, p, b, c⟩ := g
  exact ⟨h1, h2, fun m hm => by have := b m hm; omega, p⟩
theorem grow_set {ns : List Int} {lo : Nat} (g : Grow ns) (h1 : lo ≤ ns.length) (h2 : ns.length ≤ 8) : MksOk lo (ns.set (ns.length - 1) 1000) := by
  obtain ⟨h, p, b, c⟩ := g
  have l := List.length_pos_iff.mpr h
  have e : ns.set (ns.length - 1) 1000 = ns.dropLast ++ [1000] := by
    have q := List.dropLast_concat_getLast h
    have q2 : (ns.dropLast ++ [ns.getLast h]).set (ns.length - 1) 1000 = ns.dropLast ++ [1000] := by
      rw [List.set_append_right _ _ (by rw [List.length_dropLast]; omega), List.length_dropLast, Nat.sub_self]
      rfl
    rw [q] at q2
    exact q2
  refine ⟨by rw [List.length_set]; exact h1, by rw [List.length_set]; exact h2, fun m hm => ?_, ?_⟩
  · rw [e] at hm
    rcases List.mem_append.mp hm with m1 | m1
    · have := b m ((List.dropLast_sublist ns).subset m1)
      omega
    · cases List.mem_singleton.mp m1
      omega
  · rw [e]
    refine List.pairwise_append.mpr ⟨List.Pairwise.sublist (List.dropLast_sublist ns) p, .cons (fun _ h => nomatch h) .nil, fun a ha y hy => ?_⟩
    cases List.mem_singleton.mp hy
    have := b a ((List.dropLast_sublist ns).subset ha)
    omega
def sp__law_marks : DSp := fun us P => ∃ z : Str, us = [.bag, .d (.str z)] ∧ (z = "scale" ∨ z = "box") ∧ ∀ ms : List Int, MksOk (few z) ms → P (.fr (IL ms))
theorem vc__law_marks : ∀ dvs Q, sp__law_marks dvs Q → dvs.length = 2 ∧ rd__law_marks { nx := fun _ => Q (.d .none), rt := Q } (startD N__law_marks dvs) := by
  rintro dvs Q ⟨z, rfl, hz, h⟩
  refine ⟨rfl, ?_⟩
  have f0 : 1 ≤ few z := by unfold few; split <;> omega
  unfold rd__law_marks
  refine seqG fun R hR => ?_
  have rest : ∀ many : Int, (few z : Int) ≤ many → many ≤ 8 → R [.bag, .d (.str z), .d (.int many), .un, .un, .un, .un] := by
    intro many m0 m1
    refine hR _ (seqG fun R hR => ?_)
    walk_at "dl"
    refine ⟨by decide, 3, rfl, by decide, by decide, fun r r0 r1 => ?_⟩
    walk_at "dl"
    refine pick r0 r1 fun x hx => ?_
    have step : ∃ s : Int, x = .int s ∧ 0 < s ∧ s ≤ 110 := by
      simp only [List.mem_cons, List.not_mem_nil, or_false] at hx
      rcases hx with rfl | rfl | rfl <;> exact ⟨_, rfl, by decide, by decide⟩
    obtain ⟨s, rfl, s0, s1⟩ := step
    walk_at "dl"
    refine hR _ (seqG fun R hR => ?_)
    walk_at "dl"
    refine ⟨6, rfl, by decide, by decide, fun la l0 l1 => ?_⟩
    walk_at "dl"
    refine hR _ (seqG fun R hR => ?_)
    walk_at "dl"
    refine ⟨20, rfl, by decide, by decide, fun fi i0 i1 => ?_⟩
    walk_at "dl"
    refine ⟨by decide, fun l => hR _ (seqG fun R hR => ?_)⟩
    walk_at "dl"
    refine ⟨⟨by omega, by omega⟩, ?_⟩
    refine forD_ind (fun zs env => ∃ ns s6, env = [.bag, .d (.str z), .d (.int many), .d (.int s), .d (.int la), .ow l (IL ns), s6] ∧ Grow ns ∧ (ns.length : Int) + zs.length = many) (fun env hI => ?_) (fun x zs env R2 hI hR2 => ?_) _ _ ⟨[fi], _, rfl, grow_one i0 i1, by rw [rngD_len]; simp only [List.length_singleton]; omega⟩
    · obtain ⟨ns, s6, rfl, g, e⟩ := hI
      rw [List.length_nil] at e
      have n8 : ns.length ≤ 8 := by omega
      have nf : few z ≤ ns.length := by omega
      have el := il_len ns
      refine hR _ (seqG fun R hR => ?_)
      walk_at "dl"
      by_cases hl : la = 0
      · simp only [hl, decide_true, if_true]
        rw [ixN_last (by omega), el]
        show R _
        rw [il_set]
        refine hR _ ?_
        walk_at "dl"
        exact h _ (grow_set g nf n8)
      · simp only [hl, decide_false, Bool.false_eq_true, if_false]
        refine hR _ ?_
        walk_at "dl"
        exact h _ (grow_ok g nf n8)
    · obtain ⟨ns, s6, rfl, g, e⟩ := hI
      rw [List.length_cons] at e
      obtain ⟨gne, _⟩ := id g
      have el := il_len ns
      walk_at "dl"
      rw [ixNL gne]
      walk_at "dl"
      refine ⟨by omega, s, rfl, s0, log_le (show s.natAbs < 2 ^ 7 by omega) (by decide) (by decide), fun r r0 r1 => ?_⟩
      walk_at "dl"
      rw [il_app]
      exact hR2 _ ⟨_, _, rfl, grow_app g gne r0 (by omega), by rw [List.length_append, List.length_singleton]; omega⟩
  walk_at "dl"
  refine ⟨by decide, by decide, by decide, ?_⟩
  rcases hz with rfl | rfl
  · rw [show decide (Str.ofString "scale" = Str.ofString "box") = false from by decide +kernel]
    walk_at "dl"
    refine ⟨4, rfl, by decide, by decide, fun r r0 r1 => ?_⟩
    walk_at "dl"
    refine pick r0 r1 fun x hx => ?_
    simp only [List.mem_cons, List.not_mem_nil, or_false] at hx
    rcases hx with rfl | rfl | rfl | rfl <;> (walk_at "dl"; exact rest _ (by decide) (by decide))
  · rw [show decide (Str.ofString "box" = Str.ofString "box") = true from by decide +kernel]
    walk_at "dl"
    refine ⟨4, rfl, by decide, by decide, fun r r0 r1 => ?_⟩
    walk_at "dl"
    refine pick r0 r1 fun x hx => ?_
    simp only [List.mem_cons, List.not_mem_nil, or_false] at hx
    rcases hx with rfl | rfl | rfl | rfl <;> (walk_at "dl"; exact rest _ (by decide) (by decide))
section
variable {ts : List Addr} {P : Program} {w : World} {K : PySem.W.Frag} {mg : Str → Option Value} {base : Heap}
theorem ok__law_marks {f : Addr} {fd : FuncData} (Fn : L2.Fun K "_law_marks" "_law_marks" s__law_marks f fd) {f__law_take : Addr} (g__law_take : Fg P w K mg base (L2.CX P w) 1 f__law_take (Pm K ts sp__law_take)) (m__law_take : mg "_law_take" = some (.ref f__law_take)) (p__law_take : PySem.W.keepIn K (.ref f__law_take) = true) (z_int : mg "int" = none) (z_range : mg "range" = none) : Fg P w K mg base (L2.CX P w) 2 f (Pm K ts sp__law_marks) := d_def Fn sc__law_marks (fun _ _ _ _ _ _ us hl => match us, hl with | [_, _], _ => rfl) sp__law_marks rd__law_marks (fun cdv A outer s H E wn hcd ht ag hr => by
  have S := sc__law_marks
  have hu := hr.units
  exact (dss_cons (ds_set (i := 2) S.nd rfl (by first | exact Or.inl rfl | exact Or.inr rfl) (d_ix (d_ix (d_lst (da_cons (d_lst (da_cons d_int (da_cons d_int (da_cons d_int (da_cons d_int da_nil))))) (da_cons (d_lst (da_cons d_int (da_cons d_int (da_cons d_int (da_cons d_int da_nil))))) da_nil))) (d_callTy k_int (by rfl) z_int (by decide +kernel) (da_cons (d_cmp (o_eq hu) (d_var 1) d_str) da_nil))) (d_use g__law_take ht ag (hr.mono (by decide)) passZ (by rfl) m__law_take p__law_take (da_cons (d_var 0) (da_cons d_int da_nil)))))
    (dss_cons (ds_set (i := 3) S.nd rfl (by first | exact Or.inl rfl | exact Or.inr rfl) (d_ix (d_lst (da_cons d_int (da_cons d_int (da_cons d_int da_nil)))) (d_use g__law_take ht ag (hr.mono (by decide)) passZ (by rfl) m__law_take p__law_take (da_cons (d_var 0) (da_cons d_int da_nil)))))
    (dss_cons (ds_set (i := 4) S.nd rfl (by first | exact Or.inl rfl | exact Or.inr rfl) (d_use g__law_take ht ag (hr.mono (by decide)) passZ (by rfl) m__law_take p__law_take (da_cons (d_var 0) (da_cons d_int da_nil))))
    (dss_cons (ds_set (i := 5) S.nd rfl (by first | exact Or.inl rfl | exact Or.inr rfl) (d_lst (da_cons (d_use g__law_take ht ag (hr.mono (by decide)) passZ (by rfl) m__law_take p__law_take (da_cons (d_var 0) (da_cons d_int da_nil))) da_nil)))
    (dss_cons (ds_for PassesOwn.never rfl (di_r1 (by rfl) z_range (da_cons (d_bin o_sub (d_var 2) d_int) da_nil)) (dg_name (i := 6) S.nd rfl (by first | exact Or.inl rfl | exact Or.inr rfl)) (dss_one (ds_app (i := 5) (pe_bm PySem.F.plainAttrs_list PySem.F.slot_list_append PySem.F.type_list_append mt_append (pv 5) (pa_cons (d_bin o_add (d_bin o_add (d_ix (d_var 5) (d_neg d_int)) d_int) (d_use g__law_take ht ag (hr.mono (by decide)) passZ (by rfl) m__law_take p__law_take (da_cons (d_var 0) (da_cons (d_var 3) da_nil)))) pa_nil)))))
    (dss_cons (ds_if (dt_cmp (o_eq hu) (d_var 4) d_int) (dss_one (ds_seti (i := 5) d_int (pv 5) (d_neg d_int) (pg_sub (pv 5) (d_neg d_int) set_list))) dss_nil)
    (dss_one (ds_retV 5))))))))) vc__law_marks
end
/-! _law_odd -/
abbrev s__law_odd : Stmt := topS 33
abbrev N__law_odd : List Str := ["_law_bag_here", "_law_way"]
theorem sc__law_odd : FnScope N__law_odd ["_law_bag_here"] (defScope s__law_odd) := ⟨rfl, rfl, rfl, by decide +kernel, rfl, by decide +kernel, by decide +kernel⟩
def rd__law_odd : DS := (tSeqD (tSetD 1 (tUse sp__law_take (tConsD (tVarD 0) (tConsD (tCD (.int 14)) tNilD))))
    (tRetD (tBin gIx (tLstD (tConsD (tUnD gNeg (tCD (.int 1))) (tConsD (tCD (.int 1001)) (tConsD (tCD (.bool true)) (tConsD (tCD (.bool false)) (tConsD (tCD .none) (tConsD (tCD (.str "")) (tConsD (tCD (.str "5")) (tConsD (tLstD tNilD) (tConsD (tLstD (tConsD (tCD (.int 3)) tNilD)) (tConsD (tTupD tNilD) (tConsD tEmp (tConsD (tTupD (tConsD (tCD (.int 3)) (tConsD (tCD (.int 1)) tNilD))) (tConsD (tUnD gNeg (tBin gPow (tCD (.int 10)) (tCD (.int 30)))) (tConsD (tBin gPow (tCD (.int 10)) (tCD (.int 30))) tNilD))))))))))))))) (tVarD 1))))
/-- an item of a list, as drawn or spoilt -/
structure OkI (y : PyData) : Prop where
  s : Sn 2 200 y
  c : okC y = true
  o : isOb y = false
theorem oki_int {i : Int} (h : i.natAbs < 2 ^ 110) : OkI (.int i) := ⟨(sn_int (j := 110) h).up, by simp only [okC], rfl⟩
theorem oki_bool (b : Bool) : OkI (.bool b) := ⟨(sn_bool b).up, by simp only [okC], rfl⟩
def sp__law_odd : DSp := fun us P => us = [.bag] ∧ ∀ y, OkI y → P (.d y)
theorem vc__law_odd : ∀ dvs Q, sp__law_odd dvs Q → dvs.length = 1 ∧ rd__law_odd { nx := fun _ => Q (.d .none), rt := Q } (startD N__law_odd dvs) := by
  rintro dvs Q ⟨rfl, h⟩
  refine ⟨rfl, ?_⟩
  unfold rd__law_odd
  refine seqG fun R hR => ?_
  walk_at "dl"
  refine ⟨14, rfl, by decide, by decide, fun way w0 w1 => ?_⟩
  walk_at "dl"
  refine hR _ ?_
  walk_at "dl"
  (repeat (refine ⟨by decide, ?_⟩))
  refine pick w0 w1 fun e he => ?_
  have ok : OkI e := by
    simp only [List.mem_cons, List.not_mem_nil, or_false] at he
    rcases he with rfl | rfl | rfl | rfl | rfl | rfl | rfl | rfl | rfl | rfl | rfl | rfl | rfl | rfl
    · exact oki_int (by decide)
    · exact oki_int (by decide)
    · exact oki_bool _
    · exact oki_bool _
    · exact ⟨sn_none.up, by simp only [okC], rfl⟩
    · exact ⟨(sn_str (k := 10) (by decide +kernel)).up, by simp only [okC], rfl⟩
    · exact ⟨(sn_str (k := 10) (by decide +kernel)).up, by simp only [okC], rfl⟩
    · exact ⟨(sn_lst (n := 1) (k := 100) (m := 1) (fun x hx => absurd hx List.not_mem_nil) (by simp)).up, by decide, rfl⟩
    · exact ⟨(sn_lst (n := 0) (k := 5) (m := 1) (fun x hx => by rw [List.mem_singleton.mp hx]; exact sn_int (i := 3) (j := 4) (by decide)) (by simp)).up, by decide, rfl⟩
    · exact ⟨(sn_tup (n := 1) (k := 100) (m := 1) (fun x hx => absurd hx List.not_mem_nil) (by simp)).up, by decide, rfl⟩
    · exact ⟨sn_emp.up, by decide, rfl⟩
    · exact ⟨(sn_tup (n := 0) (k := 5) (m := 2) (fun x hx => by
        simp only [List.mem_cons, List.not_mem_nil, or_false] at hx
        rcases hx with rfl | rfl <;> exact sn_int (j := 4) (by decide)) (by simp)).up, by decide, rfl⟩
    · exact oki_int (by decide)
    · exact oki_int (by decide)
  have q := h e ok
  cases e <;> exact q
section
variable {ts : List Addr} {P : Program} {w : World} {K : PySem.W.Frag} {mg : Str → Option Value} {base : Heap}
theorem ok__law_odd {f : Addr} {fd : FuncData} (Fn : L2.Fun K "_law_odd" "_law_odd" s__law_odd f fd) {f__law_take : Addr} (g__law_take : Fg P w K mg base (L2.CX P w) 1 f__law_take (Pm K ts sp__law_take)) (m__law_take : mg "_law_take" = some (.ref f__law_take)) (p__law_take : PySem.W.keepIn K (.ref f__law_take) = true) : Fg P w K mg base (L2.CX P w) 2 f (Pm K ts sp__law_odd) := d_def Fn sc__law_odd (fun _ _ _ _ _ _ us hl => match us, hl with | [_], _ => rfl) sp__law_odd rd__law_odd (fun cdv A outer s H E wn hcd ht ag hr => by
  have S := sc__law_odd
  have hu := hr.units
  exact (dss_cons (ds_set (i := 1) S.nd rfl (by first | exact Or.inl rfl | exact Or.inr rfl) (d_use g__law_take ht ag (hr.mono (by decide)) passZ (by rfl) m__law_take p__law_take (da_cons (d_var 0) (da_cons d_int da_nil))))
    (dss_one (ds_ret (d_ix (d_lst (da_cons (d_neg d_int) (da_cons d_int (da_cons d_bl (da_cons d_bl (da_cons d_non (da_cons d_str (da_cons d_str (da_cons (d_lst da_nil) (da_cons (d_lst (da_cons d_int da_nil)) (da_cons (d_tup da_nil) (da_cons d_emp (da_cons (d_tup (da_cons d_int (da_cons d_int da_nil))) (da_cons (d_neg (d_bin o_pow d_int d_int)) (da_cons (d_bin o_pow d_int d_int) da_nil))))))))))))))) (d_var 1)))))) vc__law_odd
end
/-! _law_other -/
abbrev s__law_other : Stmt := topS 34
abbrev N__law_other : List Str := ["_law_bag_here", "_law_some", "_law_way", "_law_at", "_law_odd_here", "_law_many", "_law_k"]
theorem sc__law_other : FnScope N__law_other ["_law_bag_here", "_law_some", "_law_way"] (defScope s__law_other) := ⟨rfl, rfl, rfl, by decide +kernel, rfl, by decide +kernel, by decide +kernel⟩
def rd__law_other : DS := (tSeqD (tSetD 3 (tUse sp__law_take (tConsD (tVarD 0) (tConsD (tBin gAdd (tCallD cLen (tConsD (tVarD 1) tNilD)) (tCD (.int 1))) tNilD))))
    (tSeqD (tSetD 4 (tUse sp__law_odd (tConsD (tVarD 0) tNilD)))
    (tSeqD (tSetD 5 (tBin gAdd (tCD (.int 1)) (tUse sp__law_take (tConsD (tVarD 0) (tConsD (tCD (.int 9)) tNilD)))))
    (tSeqD (tIfD (tTst (tBin (gEqv id) (tVarD 2) (tCD (.int 1)))) (tRetD (tBin gAdd (tBin gAdd (tSlL (tVarD 1) oNone (oSome (tVarD 3))) (tLstD (tConsD (tVarD 4) tNilD))) (tSlL (tVarD 1) (oSome (tBin gAdd (tVarD 3) (tCD (.int 1)))) oNone))) (fun d env => d.nx env))
    (tSeqD (tIfD (tTst (tBin (gEqv id) (tVarD 2) (tCD (.int 2)))) (tRetD (tBin gAdd (tBin gAdd (tSlL (tVarD 1) oNone (oSome (tVarD 3))) (tSlL (tVarD 1) (oSome (tVarD 3)) (oSome (tBin gAdd (tVarD 3) (tCD (.int 1)))))) (tSlL (tVarD 1) (oSome (tVarD 3)) oNone))) (fun d env => d.nx env))
    (tSeqD (tIfD (tAndD (tTst (tBin (gEqv id) (tVarD 2) (tCD (.int 3)))) (tTst (tBin gLt (tBin gAdd (tVarD 3) (tCD (.int 1))) (tCallD cLen (tConsD (tVarD 1) tNilD))))) (tRetD (tBin gAdd (tBin gAdd (tSlL (tVarD 1) oNone (oSome (tVarD 3))) (tLstD (tConsD (tBin gIx (tVarD 1) (tBin gAdd (tVarD 3) (tCD (.int 1)))) (tConsD (tBin gIx (tVarD 1) (tVarD 3)) tNilD)))) (tSlL (tVarD 1) (oSome (tBin gAdd (tVarD 3) (tCD (.int 2)))) oNone))) (fun d env => d.nx env))
    (tSeqD (tIfD (tTst (tBin (gEqv id) (tVarD 2) (tCD (.int 4)))) (tRetD (tBin gAdd (tSlL (tVarD 1) oNone (oSome (tVarD 3))) (tSlL (tVarD 1) (oSome (tBin gAdd (tVarD 3) (tCD (.int 1)))) oNone))) (fun d env => d.nx env))
    (tSeqD (tIfD (tTst (tBin (gEqv id) (tVarD 2) (tCD (.int 5)))) (tRetD (tBin gAdd (tBin gAdd (tSlL (tVarD 1) oNone (oSome (tVarD 3))) (tLstD (tConsD (tVarD 4) tNilD))) (tSlL (tVarD 1) (oSome (tVarD 3)) oNone))) (fun d env => d.nx env))
    (tSeqD (tIfD (tTst (tBin (gEqv id) (tVarD 2) (tCD (.int 6)))) (tRetD (tLcD (itR1 (tConsD (tVarD 5) tNilD)) (gnD 6) (fun _ P => P true) (tBin gMul (tCD (.int 10)) (tVarD 6)) [6])) (fun d env => d.nx env))
    (tSeqD (tIfD (tAndD (tTst (tBin (gEqv id) (tVarD 2) (tCD (.int 7)))) (tTst (tBin gLt (tVarD 3) (tCallD cLen (tConsD (tVarD 1) tNilD))))) (tRetD (tBin gAdd (tBin gAdd (tSlL (tVarD 1) oNone (oSome (tVarD 3))) (tLstD (tConsD (tBin gEqI (tBin gIx (tVarD 1) (tVarD 3)) (tCD (.int 1))) tNilD))) (tSlL (tVarD 1) (oSome (tBin gAdd (tVarD 3) (tCD (.int 1)))) oNone))) (fun d env => d.nx env))
    (tRetD (tCallD cList (tConsD (tVarD 1) tNilD)))))))))))))
structure Its (n : Nat) (xs : List PyData) : Prop where
  m : ∀ y ∈ xs, OkI y
  l : xs.length ≤ n
theorem cl_to {xs : List PyData} {r : Int} (h : 0 ≤ r) : (Dl.cutD xs none (some r)).length ≤ r.toNat := by
  rw [cut_toI h, List.length_take]
  omega
theorem cl_from {xs : List PyData} {r : Int} (h : 0 ≤ r) : (Dl.cutD xs (some r) none).length ≤ xs.length - r.toNat := by
  have e : r = ((r.toNat : Nat) : Int) := by omega
  rw [e, Dl.cut_from, List.length_drop]
  omega
theorem cl_one {xs : List PyData} {r : Int} (h : 0 ≤ r) : (Dl.cutD xs (some r) (some (r + 1))).length ≤ 1 := by
  have e : r = ((r.toNat : Nat) : Int) := by omega
  have e2 : r + 1 = ((r.toNat + 1 : Nat) : Int) := by omega
  unfold Dl.cutD
  rw [e2, List.length_take]
  rw [e]
  simp only [HT.sIx_nat]
  omega
theorem its_3 {n a b c : Nat} {xs ys zs : List PyData} (h1 : ∀ y ∈ xs, OkI y) (h2 : ∀ y ∈ ys, OkI y) (h3 : ∀ y ∈ zs, OkI y) (l1 : xs.length ≤ a) (l2 : ys.length ≤ b) (l3 : zs.length ≤ c) (h : a + b + c ≤ n) : Its n (xs ++ ys ++ zs) := by
  refine ⟨fun y hy => ?_, by rw [List.length_append, List.length_append]; omega⟩
  rcases List.mem_append.mp hy with hy | hy
  · rcases List.mem_append.mp hy with hy | hy
    · exact h1 y hy
    · exact h2 y hy
  · exact h3 y hy
theorem its_2 {n a b : Nat} {xs ys : List PyData} (h1 : ∀ y ∈ xs, OkI y) (h2 : ∀ y ∈ ys, OkI y) (l1 : xs.length ≤ a) (l2 : ys.length ≤ b) (h : a + b ≤ n) : Its n (xs ++ ys) := by
  refine ⟨fun y hy => ?_, by rw [List.length_append]; omega⟩
  rcases List.mem_append.mp hy with hy | hy
  · exact h1 y hy
  · exact h2 y hy
theorem one_ok {y : PyData} (h : OkI y) : ∀ z ∈ [y], OkI z := fun z hz => by rw [List.mem_singleton.mp hz]; exact h
def sp__law_other : DSp := fun us P => ∃ (xs : List PyData) (way : Int) (n : Nat), us = [.bag, .d (.list xs), .d (.int way)] ∧ Its n xs ∧ 8 ≤ n ∧ n ≤ 20 ∧ ∀ ys, Its (n + 1) ys → P (.fr ys)
theorem vc__law_other : ∀ dvs Q, sp__law_other dvs Q → dvs.length = 3 ∧ rd__law_other { nx := fun _ => Q (.d .none), rt := Q } (startD N__law_other dvs) := by
  rintro dvs Q ⟨xs, way, n, rfl, hx, n8, n20, h⟩
  refine ⟨rfl, ?_⟩
  obtain ⟨hm, hl⟩ := hx
  unfold rd__law_other
  refine seqG fun R hR => ?_
  walk_at "dl"
  refine ⟨_, rfl, by omega, log_le (k := 10) (by omega) (by decide) (by decide), fun i i0 i1 => ?_⟩
  walk_at "dl"
  refine hR _ (seqG fun R hR => ?_)
  walk_at "dl"
  refine ⟨rfl, fun o ho => ?_⟩
  walk_at "dl"
  refine hR _ (seqG fun R hR => ?_)
  walk_at "dl"
  refine ⟨9, rfl, by decide, by decide, fun mn m0 m1 => ?_⟩
  walk_at "dl"
  refine hR _ (seqG fun R hR => ?_)
  have mc : ∀ {lo hi : Option Int}, ∀ y ∈ Dl.cutD xs lo hi, OkI y := fun y hy => hm y (mem_cut hy)
  have a1 := cl_to (xs := xs) i0
  have a2 := cl_from (xs := xs) i0
  have a3 := cl_from (xs := xs) (r := i + 1) (by omega)
  have a4 := cl_one (xs := xs) i0
  have a5 := cl_from (xs := xs) (r := i + 2) (by omega)
  refine ifG fun P1 P2 hP hN => ?_
  walk_at "dl"
  by_cases c1 : way = 1
  · rw [if_pos (decide_eq_true c1)]
    refine hP ?_
    walk_at "dl"
    refine ⟨by decide, by omega, by rw [List.length_append, List.length_singleton]; omega, ?_⟩
    exact h _ (its_3 mc (one_ok ho) mc a1 (Nat.le_refl 1) a3 (by omega))
  rw [if_neg (by rw [decide_eq_false c1]; decide)]
  refine hN (hR _ (seqG fun R hR => ?_))
  refine ifG fun P1 P2 hP hN => ?_
  walk_at "dl"
  by_cases c2 : way = 2
  · rw [if_pos (decide_eq_true c2)]
    refine hP ?_
    walk_at "dl"
    refine ⟨by omega, by rw [List.length_append]; omega, ?_⟩
    exact h _ (its_3 mc mc mc a1 a4 a2 (by omega))
  rw [if_neg (by rw [decide_eq_false c2]; decide)]
  refine hN (hR _ (seqG fun R hR => ?_))
  refine ifG fun P1 P2 hP hN => ?_
  walk_at "dl"
  have rst : R [.bag, .d (.list xs), .d (.int way), .d (.int i), .d o, .d (.int (1 + mn)), .un] := hR _ (by
    refine seqG fun R hR => ?_
    refine ifG fun P1 P2 hP hN => ?_
    walk_at "dl"
    by_cases c4 : way = 4
    · rw [if_pos (decide_eq_true c4)]
      refine hP ?_
      walk_at "dl"
      refine ⟨by omega, ?_⟩
      exact h _ (its_2 mc mc a1 a3 (by omega))
    rw [if_neg (by rw [decide_eq_false c4]; decide)]
    refine hN (hR _ (seqG fun R hR => ?_))
    refine ifG fun P1 P2 hP hN => ?_
    walk_at "dl"
    by_cases c5 : way = 5
    · rw [if_pos (decide_eq_true c5)]
      refine hP ?_
      walk_at "dl"
      refine ⟨by decide, by omega, by rw [List.length_append, List.length_singleton]; omega, ?_⟩
      exact h _ (its_3 mc (one_ok ho) mc a1 (Nat.le_refl 1) a2 (by omega))
    rw [if_neg (by rw [decide_eq_false c5]; decide)]
    refine hN (hR _ (seqG fun R hR => ?_))
    refine ifG fun P1 P2 hP hN => ?_
    walk_at "dl"
    by_cases c6 : way = 6
    · rw [if_pos (decide_eq_true c6)]
      refine hP ?_
      walk_at "dl"
      unfold tLcD
      walk_at "dl"
      refine ⟨⟨by omega, by omega⟩, ?_⟩
      refine lc_all OkI (by rw [rngD_len]; omega) (fun ys yl yp => ?_) fun y hy S hS => ?_
      · rw [rngD_len] at yl
        walk_at "dl"
        exact h _ ⟨yp, by omega⟩
      · obtain ⟨j, hj, rfl⟩ := mem_rngD hy
        walk_at "dl"
        refine ⟨mul_lt (by decide) (by omega), ?_⟩
        exact hS _ (oki_int (Nat.lt_of_lt_of_le (show _ < 2 ^ 10 by omega) (by decide)))
    rw [if_neg (by rw [decide_eq_false c6]; decide)]
    refine hN (hR _ (seqG fun R hR => ?_))
    refine ifG fun P1 P2 hP hN => ?_
    walk_at "dl"
    have lst : R [.bag, .d (.list xs), .d (.int way), .d (.int i), .d o, .d (.int (1 + mn)), .un] := hR _ (by
      walk_at "dl"
      exact h _ ⟨hm, by omega⟩)
    by_cases c7 : way = 7
    · rw [if_pos (decide_eq_true c7)]
      by_cases k7 : i < (xs.length : Int)
      · rw [if_pos (decide_eq_true k7)]
        refine hP ?_
        walk_at "dl"
        refine ixL i0 k7 fun v hv => ?_
        walk_at "dl"
        refine ⟨(hm _ (List.mem_of_getElem? hv)).o, by decide, by omega, by rw [List.length_append]; simp only [List.length_cons, List.length_nil]; omega, ?_⟩
        exact h _ (its_3 mc (one_ok (oki_bool _)) mc a1 (Nat.le_refl 1) a3 (by omega))
      · rw [if_neg (by rw [decide_eq_false k7]; decide)]
        exact hN lst
    rw [if_neg (by rw [decide_eq_false c7]; decide)]
    exact hN lst)
  by_cases c3 : way = 3
  · rw [if_pos (decide_eq_true c3)]
    by_cases k3 : i + 1 < (xs.length : Int)
    · rw [if_pos (decide_eq_true k3)]
      refine hP ?_
      walk_at "dl"
      refine ixL (by omega) (by omega) fun u hu => ?_
      walk_at "dl"
      refine ixL i0 (by omega) fun v hv => ?_
      walk_at "dl"
      refine ⟨by decide, by omega, by rw [List.length_append]; simp only [List.length_cons, List.length_nil]; omega, ?_⟩
      refine h _ (its_3 mc (fun y hy => ?_) mc a1 (Nat.le_refl 2) a5 (by omega))
      simp only [List.mem_cons, List.not_mem_nil, or_false] at hy
      rcases hy with rfl | rfl
      · exact hm _ (List.mem_of_getElem? hu)
      · exact hm _ (List.mem_of_getElem? hv)
    · rw [if_neg (by rw [decide_eq_false k3]; decide)]
      exact hN rst
  rw [if_neg (by rw [decide_eq_false c3]; decide)]
  exact hN rst
section
variable {ts : List Addr} {P : Program} {w : World} {K : PySem.W.Frag} {mg : Str → Option Value} {base : Heap}
theorem ok__law_other {f : Addr} {fd : FuncData} (Fn : L2.Fun K "_law_other" "_law_other" s__law_other f fd) {f__law_take : Addr} (g__law_take : Fg P w K mg base (L2.CX P w) 1 f__law_take (Pm K ts sp__law_take)) (m__law_take : mg "_law_take" = some (.ref f__law_take)) (p__law_take : PySem.W.keepIn K (.ref f__law_take) = true) {f__law_odd : Addr} (g__law_odd : Fg P w K mg base (L2.CX P w) 2 f__law_odd (Pm K ts sp__law_odd)) (m__law_odd : mg "_law_odd" = some (.ref f__law_odd)) (p__law_odd : PySem.W.keepIn K (.ref f__law_odd) = true) (z_len : mg "len" = none) (z_range : mg "range" = none) (z_list : mg "list" = none) : Fg P w K mg base (L2.CX P w) 3 f (Pm K ts sp__law_other) := d_def Fn sc__law_other (fun _ _ _ _ _ _ us hl => match us, hl with | [_, _, _], _ => rfl) sp__law_other rd__law_other (fun cdv A outer s H E wn hcd ht ag hr => by
  have S := sc__law_other
  have hu := hr.units
  exact (dss_cons (ds_set (i := 3) S.nd rfl (by first | exact Or.inl rfl | exact Or.inr rfl) (d_use g__law_take ht ag (hr.mono (by decide)) passZ (by rfl) m__law_take p__law_take (da_cons (d_var 0) (da_cons (d_bin o_add (d_callB k_len (by rfl) z_len (by decide +kernel) (da_cons (d_var 1) da_nil)) d_int) da_nil))))
    (dss_cons (ds_set (i := 4) S.nd rfl (by first | exact Or.inl rfl | exact Or.inr rfl) (d_use g__law_odd ht ag (hr.mono (by decide)) passZ (by rfl) m__law_odd p__law_odd (da_cons (d_var 0) da_nil)))
    (dss_cons (ds_set (i := 5) S.nd rfl (by first | exact Or.inl rfl | exact Or.inr rfl) (d_bin o_add d_int (d_use g__law_take ht ag (hr.mono (by decide)) passZ (by rfl) m__law_take p__law_take (da_cons (d_var 0) (da_cons d_int da_nil)))))
    (dss_cons (ds_if (dt_cmp (o_eq hu) (d_var 2) d_int) (dss_one (ds_ret (d_bin o_add (d_bin o_add (d_slL (d_var 1) do_none (do_some (d_var 3))) (d_lst (da_cons (d_var 4) da_nil))) (d_slL (d_var 1) (do_some (d_bin o_add (d_var 3) d_int)) do_none)))) dss_nil)
    (dss_cons (ds_if (dt_cmp (o_eq hu) (d_var 2) d_int) (dss_one (ds_ret (d_bin o_add (d_bin o_add (d_slL (d_var 1) do_none (do_some (d_var 3))) (d_slL (d_var 1) (do_some (d_var 3)) (do_some (d_bin o_add (d_var 3) d_int)))) (d_slL (d_var 1) (do_some (d_var 3)) do_none)))) dss_nil)
    (dss_cons (ds_if (dt_w (dw_and (dt_cmp (o_eq hu) (d_var 2) d_int) (dw_and1 (dt_cmp o_lt (d_bin o_add (d_var 3) d_int) (d_callB k_len (by rfl) z_len (by decide +kernel) (da_cons (d_var 1) da_nil)))))) (dss_one (ds_ret (d_bin o_add (d_bin o_add (d_slL (d_var 1) do_none (do_some (d_var 3))) (d_lst (da_cons (d_ix (d_var 1) (d_bin o_add (d_var 3) d_int)) (da_cons (d_ix (d_var 1) (d_var 3)) da_nil)))) (d_slL (d_var 1) (do_some (d_bin o_add (d_var 3) d_int)) do_none)))) dss_nil)
    (dss_cons (ds_if (dt_cmp (o_eq hu) (d_var 2) d_int) (dss_one (ds_ret (d_bin o_add (d_slL (d_var 1) do_none (do_some (d_var 3))) (d_slL (d_var 1) (do_some (d_bin o_add (d_var 3) d_int)) do_none)))) dss_nil)
    (dss_cons (ds_if (dt_cmp (o_eq hu) (d_var 2) d_int) (dss_one (ds_ret (d_bin o_add (d_bin o_add (d_slL (d_var 1) do_none (do_some (d_var 3))) (d_lst (da_cons (d_var 4) da_nil))) (d_slL (d_var 1) (do_some (d_var 3)) do_none)))) dss_nil)
    (dss_cons (ds_if (dt_cmp (o_eq hu) (d_var 2) d_int) (dss_one (ds_ret (d_lc (own := [("_law_k", 6)]) rfl S.nd (di_r1 (by rfl) z_range (da_cons (d_var 5) da_nil)) (blkOk_by (N := N__law_other) (sc := defScope s__law_other) (by decide +kernel)) (tgt1 6) (fun _ _ _ _ _ => pg_name (i := 6) S.nd rfl (Or.inl rfl)) (fun _ _ _ _ _ => pts_nilD) (fun _ _ _ _ _ => (d_bin o_mul d_int (d_var 6)))))) dss_nil)
    (dss_cons (ds_if (dt_w (dw_and (dt_cmp (o_eq hu) (d_var 2) d_int) (dw_and1 (dt_cmp o_lt (d_var 3) (d_callB k_len (by rfl) z_len (by decide +kernel) (da_cons (d_var 1) da_nil)))))) (dss_one (ds_ret (d_bin o_add (d_bin o_add (d_slL (d_var 1) do_none (do_some (d_var 3))) (d_lst (da_cons (d_cmp (o_eqI (Nat.lt_of_le_of_lt (Nat.le_add_right _ 64) hu)) (d_ix (d_var 1) (d_var 3)) d_int) da_nil))) (d_slL (d_var 1) (do_some (d_bin o_add (d_var 3) d_int)) do_none)))) dss_nil)
    (dss_one (ds_ret (d_callTy k_list (by rfl) z_list (by decide +kernel) (da_cons (d_var 1) da_nil))))))))))))))) vc__law_other
end
/-! _law_spoilt -/
abbrev s__law_spoilt : Stmt := topS 35
abbrev N__law_spoilt : List Str := ["_law_bag_here", "_law_some", "_law_ways", "_law_found", "_law_way"]
theorem sc__law_spoilt : FnScope N__law_spoilt ["_law_bag_here", "_law_some", "_law_ways"] (defScope s__law_spoilt) := ⟨rfl, rfl, rfl, by decide +kernel, rfl, by decide +kernel, by decide +kernel⟩
def rd__law_spoilt : DS := (tSeqD (tSetD 3 (tCallD cList (tConsD (tVarD 1) tNilD)))
    (tSeqD (tForD (gnD 4) (itLst (tVarD 2)) (tIfD (tTst (tBin gLt (tVarD 4) (tCD (.int 8)))) (fun d env => (tSetD 3 (tUse sp__law_other (tConsD (tVarD 0) (tConsD (tVarD 3) (tConsD (tVarD 4) tNilD))))) d (frzS 3 env)) (fun d env => d.nx env)))
    (fun d env => (tRetD (tBin gIx (tLstD (tConsD (tVarD 3) (tConsD (tCallD cTuple (tConsD (tVarD 3) tNilD)) (tConsD (tUse sp__law_odd (tConsD (tVarD 0) tNilD)) (tConsD (tLstD tNilD) tNilD))))) (tCallD (cMin max) (tConsD (tCD (.int 0)) (tConsD (tBin gMinus (tBin gIx (tVarD 2) (tCD (.int 0))) (tCD (.int 9))) tNilD))))) d (frzS 3 env))))
def sp__law_spoilt : DSp := fun us P => ∃ (xs : List PyData) (w1 w2 : Int), us = [.bag, .d (.list xs), .d (.list [.int w1, .int w2])] ∧ Its 8 xs ∧ 0 ≤ w1 ∧ w1 ≤ 12 ∧ ∀ y, Sn 3 3000 y → okC y = true → P (.d y)
theorem okCs_all : ∀ {xs : List PyData}, (∀ y ∈ xs, OkI y) → okCs xs = true
  | [], _ => by simp only [okCs]
  | x :: xs, h => by
    simp only [okCs, (h x List.mem_cons_self).c, okCs_all fun y hy => h y (List.mem_cons_of_mem _ hy), Bool.and_self]
theorem its_list {n : Nat} {xs : List PyData} (h : Its n xs) (hn : n ≤ 12) : Sn 3 3000 (.list xs) ∧ okC (.list xs) = true ∧ Sn 3 3000 (.tuple xs) ∧ okC (.tuple xs) = true := by
  have a := okCs_all h.m
  have l := h.l
  refine ⟨(sn_lst (m := 12) (fun x hx => (h.m x hx).s) (by omega)).up, ?_, (sn_tup (m := 12) (fun x hx => (h.m x hx).s) (by omega)).up, ?_⟩
  · simp only [okC, a, Bool.and_true, decide_eq_true_eq]
    omega
  · simp only [okC, a, Bool.and_true, decide_eq_true_eq]
    omega
theorem vc__law_spoilt : ∀ dvs Q, sp__law_spoilt dvs Q → dvs.length = 3 ∧ rd__law_spoilt { nx := fun _ => Q (.d .none), rt := Q } (startD N__law_spoilt dvs) := by
  rintro dvs Q ⟨xs, w1, w2, rfl, hx, h0, h1, h⟩
  refine ⟨rfl, ?_⟩
  unfold rd__law_spoilt
  refine seqG fun R hR => ?_
  walk_at "dl"
  refine fun l3 => hR _ (seqG fun R hR => ?_)
  refine forD_ind (fun zs env => ∃ (ys : List PyData) (n : Nat) (l : Addr) (s4 s5 : Sl), env = [.bag, .d (.list xs), .d (.list [.int w1, .int w2]), .ow l ys, s4] ∧ Its n ys ∧ 8 ≤ n ∧ n + zs.length ≤ 10 ∧ ∀ z ∈ zs, ∃ k : Int, z = .int k) (fun env hI => ?_) (fun z zs env R2 hI hR2 => ?_) _ _ ⟨xs, 8, l3, _, .un, rfl, hx, by decide, by simp, by simp⟩
  · obtain ⟨ys, n, l, s4, s5, rfl, hy, n8, nz, _⟩ := hI
    refine hR _ ?_
    walk_at "dl"
    refine ⟨rfl, fun o ho => ?_⟩
    walk_at "dl"
    rw [List.length_nil] at nz
    obtain ⟨b1, b2, b3, b4⟩ := its_list hy (by omega)
    have ok : ∀ e, e ∈ [PyData.list ys, .tuple ys, o, .list []] → Sn 3 3000 e ∧ okC e = true := fun e he => by
      simp only [List.mem_cons, List.not_mem_nil, or_false] at he
      rcases he with rfl | rfl | rfl | rfl
      · exact ⟨b1, b2⟩
      · exact ⟨b3, b4⟩
      · exact ⟨ho.s.up, ho.c⟩
      · exact ⟨(sn_lst (n := 1) (k := 100) (m := 1) (fun x hx => absurd hx List.not_mem_nil) (by simp)).up, by decide⟩
    refine ⟨by decide, by decide, pick (by omega) (show max 0 (w1 - 9) < 4 by omega) fun e he => ?_⟩
    obtain ⟨e1, e2⟩ := ok e he
    have q := h e e1 e2
    cases e <;> exact q
  · obtain ⟨ys, n, l, s4, s5, rfl, hy, n8, nz, hz⟩ := hI
    obtain ⟨k, rfl⟩ := hz z List.mem_cons_self
    rw [List.length_cons] at nz
    have hz2 : ∀ y ∈ zs, ∃ k : Int, y = .int k := fun y hy => hz y (List.mem_cons_of_mem _ hy)
    walk_at "dl"
    by_cases c : k < 8
    · rw [if_pos (decide_eq_true c)]
      refine ⟨ys, k, n, rfl, hy, n8, by omega, fun ys2 hy2 l2 => ?_⟩
      exact hR2 _ ⟨ys2, n + 1, l2, _, .un, rfl, hy2, by omega, by omega, hz2⟩
    · rw [if_neg (by rw [decide_eq_false c]; decide)]
      exact hR2 _ ⟨ys, n, l, _, .un, rfl, hy, n8, by omega, hz2⟩
section
variable {ts : List Addr} {P : Program} {w : World} {K : PySem.W.Frag} {mg : Str → Option Value} {base : Heap}
theorem ok__law_spoilt {f : Addr} {fd : FuncData} (Fn : L2.Fun K "_law_spoilt" "_law_spoilt" s__law_spoilt f fd) {f__law_other : Addr} (g__law_other : Fg P w K mg base (L2.CX P w) 3 f__law_other (Pm K ts sp__law_other)) (m__law_other : mg "_law_other" = some (.ref f__law_other)) (p__law_other : PySem.W.keepIn K (.ref f__law_other) = true) {f__law_odd : Addr} (g__law_odd : Fg P w K mg base (L2.CX P w) 2 f__law_odd (Pm K ts sp__law_odd)) (m__law_odd : mg "_law_odd" = some (.ref f__law_odd)) (p__law_odd : PySem.W.keepIn K (.ref f__law_odd) = true) (z_list : mg "list" = none) (z_tuple : mg "tuple" = none) (z_max : mg "max" = none) : Fg P w K mg base (L2.CX P w) 4 f (Pm K ts sp__law_spoilt) := d_def Fn sc__law_spoilt (fun _ _ _ _ _ _ us hl => match us, hl with | [_, _, _], _ => rfl) sp__law_spoilt rd__law_spoilt (fun cdv A outer s H E wn hcd ht ag hr => by
  have S := sc__law_spoilt
  have hu := hr.units
  exact (dss_cons (ds_set (i := 3) S.nd rfl (by first | exact Or.inl rfl | exact Or.inr rfl) (d_callTy k_list (by rfl) z_list (by decide +kernel) (da_cons (d_var 1) da_nil)))
    (dss_cons (ds_for PassesOwn.never rfl (di_list (d_var 2)) (dg_name (i := 4) S.nd rfl (by first | exact Or.inl rfl | exact Or.inr rfl)) (dss_one (ds_if (dt_cmp o_lt (d_var 4) d_int) (dss_one (ds_frz 3 (ds_set (i := 3) S.nd rfl (by first | exact Or.inl rfl | exact Or.inr rfl) (d_use g__law_other ht ag (hr.mono (by decide)) passZ (by rfl) m__law_other p__law_other (da_cons (d_var 0) (da_cons (d_var 3) (da_cons (d_var 4) da_nil))))))) dss_nil)))
    (dss_one (ds_frz 3 (ds_ret (d_ix (d_lst (da_cons (d_var 3) (da_cons (d_callTy k_tuple (by rfl) z_tuple (by decide +kernel) (da_cons (d_var 3) da_nil)) (da_cons (d_use g__law_odd ht ag (hr.mono (by decide)) passZ (by rfl) m__law_odd p__law_odd (da_cons (d_var 0) da_nil)) (da_cons (d_lst da_nil) da_nil))))) (d_callB (k_max rfl) (by rfl) z_max (by decide +kernel) (da_cons d_int (da_cons (d_bin o_sub (d_ix (d_var 2) d_int) d_int) da_nil)))))))))) vc__law_spoilt
end
/-! _law_copy -/
abbrev s__law_copy : Stmt := topS 30
abbrev N__law_copy : List Str := ["_law_thing", "_law_one"]
theorem sc__law_copy : FnScope N__law_copy ["_law_thing"] (defScope s__law_copy) := ⟨rfl, rfl, rfl, by decide +kernel, rfl, by decide +kernel, by decide +kernel⟩
def cpR : PyData → DV
  | .list xs => .fr xs
  | x => .d x
theorem frz_cp (x : PyData) : frz (cpR x) = .d x := by cases x <;> rfl
def sp__law_copy : Nat → DSp
  | 0 => fun _ _ => False
  | m + 1 => fun us P => ∃ x, us = [.d x] ∧ x.depth ≤ m ∧ okC x = true ∧ P (cpR x)
def rd__law_copy (m : Nat) : DS := (tSeqD (tIfD (tTru (tCallD (cIsi "list") (tConsD (tVarD 0) (tConsD (tRaw (.ty "list")) tNilD)))) (tRetD (tLcD (itLst (tVarD 0)) (gnD 1) (fun _ P => P true) (tUse (sp__law_copy m) (tConsD (tVarD 1) tNilD)) [1])) (fun d env => d.nx env))
    (tSeqD (tIfD (tTru (tCallD (cIsi "tuple") (tConsD (tVarD 0) (tConsD (tRaw (.ty "tuple")) tNilD)))) (tRetD (tCallD cTuple (tConsD (tLcD (itTup (tVarD 0)) (gnD 1) (fun _ P => P true) (tUse (sp__law_copy m) (tConsD (tVarD 1) tNilD)) [1]) tNilD))) (fun d env => d.nx env))
    (tRetVD 0)))
theorem okC_mem : ∀ {xs : List PyData} {x : PyData}, okCs xs = true → x ∈ xs → okC x = true
  | [], _, _, h => absurd h List.not_mem_nil
  | y :: ys, x, h, hx => by
    simp only [okCs, Bool.and_eq_true] at h
    rcases List.mem_cons.mp hx with rfl | hx
    · exact h.1
    · exact okC_mem h.2 hx
theorem depth_mem : ∀ {xs : List PyData} {x : PyData}, x ∈ xs → x.depth ≤ PyData.depthAll xs
  | [], _, h => absurd h List.not_mem_nil
  | y :: ys, x, hx => by
    simp only [PyData.depthAll]
    rcases List.mem_cons.mp hx with rfl | hx
    · omega
    · have := depth_mem hx
      omega
theorem copy_all (m : Nat) {xs : List PyData} {env : List Sl} {P : DV → Prop} (hd : PyData.depthAll xs + 1 ≤ m) (hl : xs.length ≤ 5000) (hc : okCs xs = true) (he : ∃ s0 s1, env = [s0, s1]) (h : P (.fr xs)) :
    lcD (gnD 1) (fun _ P => P true) (tUse (sp__law_copy m) (tConsD (tVarD 1) tNilD)) env xs [] P := by
  obtain ⟨s0, s1, rfl⟩ := he
  refine lcD_ind (fun zs acc => acc ++ zs = xs) (fun acc hI => ?_) (fun z zs acc R hI hR => ?_) _ _ rfl
  · rw [List.append_nil] at hI
    rw [hI]
    exact h
  · have hz : z ∈ xs := by rw [← hI]; exact List.mem_append.mpr (.inr (List.mem_cons_self ..))
    have h1 := depth_mem hz
    have h2 := okC_mem hc hz
    have h3 : acc.length < 5000 := by
      have := congrArg List.length hI
      rw [List.length_append, List.length_cons] at this
      omega
    obtain ⟨k, rfl⟩ : ∃ k, m = k + 1 := ⟨m - 1, by omega⟩
    walk_at "dl"
    refine ⟨z, rfl, by omega, h2, ?_⟩
    have e := frz_cp z
    unfold frz at e
    have hR := hR (acc ++ [z]) (by rw [← hI, List.append_assoc]; rfl)
    cases z <;> (simp only [cpR] at e ⊢; exact ⟨by omega, hR⟩)
theorem vc__law_copy (m : Nat) : ∀ dvs Q, sp__law_copy (m + 1) dvs Q → dvs.length = 1 ∧ rd__law_copy m { nx := fun _ => Q (.d .none), rt := Q } (startD N__law_copy dvs) := by
  rintro dvs Q ⟨x, rfl, hd, hc, h⟩
  refine ⟨rfl, ?_⟩
  unfold rd__law_copy
  cases x with
  | list xs =>
    simp only [okC, Bool.and_eq_true, decide_eq_true_eq] at hc
    simp only [PyData.depth] at hd
    walk_at "dl"
    unfold tLcD
    walk_at "dl"
    exact copy_all m hd hc.1 hc.2 ⟨_, _, rfl⟩ h
  | tuple xs =>
    simp only [okC, Bool.and_eq_true, decide_eq_true_eq] at hc
    simp only [PyData.depth] at hd
    walk_at "dl"
    unfold tLcD
    walk_at "dl"
    refine copy_all m hd hc.1 hc.2 ⟨_, _, rfl⟩ ?_
    walk_at "dl"
    exact h
  | _ => walk_at "dl"; exact h
section
variable {ts : List Addr} {P : Program} {w : World} {K : PySem.W.Frag} {mg : Str → Option Value} {base : Heap}
theorem ok__law_copy {f : Addr} {fd : FuncData} (Fn : L2.Fun K "_law_copy" "_law_copy" s__law_copy f fd) (m__law_copy : mg "_law_copy" = some (.ref f)) (p__law_copy : PySem.W.keepIn K (.ref f) = true) (z_isinstance : mg "isinstance" = none) (z_list : mg "list" = none) (z_tuple : mg "tuple" = none) : ∀ m : Nat, Fg P w K mg base (L2.CX P w) (1 + m) f (Pm K ts (sp__law_copy m)) := by
  intro m
  induction m with
  | zero => exact fun A outer s H us vs Q E _ _ _ _ ⟨_, _, _, _, _, _, _, h, _⟩ => h.elim
  | succ m g__law_copy => exact show Fg P w K mg base (L2.CX P w) (1 + m + 1) f _ from d_def Fn sc__law_copy (fun _ _ _ _ _ _ us hl => match us, hl with | [_], _ => rfl) (sp__law_copy (m + 1)) (rd__law_copy m) (fun cdv A outer s H E wn hcd ht ag hr => by
  have S := sc__law_copy
  have hu := hr.units
  exact (dss_cons (ds_if (dt_e (d_callB (k_isi (n := "list") (by simp)) (by rfl) z_isinstance (by decide +kernel) (da_cons (d_var 0) (da_cons (d_ty (by rfl) z_list (by decide +kernel)) da_nil)))) (dss_one (ds_ret (d_lc (own := [("_law_one", 1)]) rfl S.nd (di_list (d_var 0)) (blkOk_by (N := N__law_copy) (sc := defScope s__law_copy) (by decide +kernel)) (tgt1 1) (fun _ _ _ _ _ => pg_name (i := 1) S.nd rfl (Or.inl rfl)) (fun _ _ _ _ _ => pts_nilD) (fun _ _ _ _ _ => (d_use g__law_copy ht ag (hr.mono (by omega)) passZ (by rfl) m__law_copy p__law_copy (da_cons (d_var 1) da_nil)))))) dss_nil)
    (dss_cons (ds_if (dt_e (d_callB (k_isi (n := "tuple") (by simp)) (by rfl) z_isinstance (by decide +kernel) (da_cons (d_var 0) (da_cons (d_ty (by rfl) z_tuple (by decide +kernel)) da_nil)))) (dss_one (ds_ret (d_callTy k_tuple (by rfl) z_tuple (by decide +kernel) (da_cons (d_lc (own := [("_law_one", 1)]) rfl S.nd (di_tup (d_var 0)) (blkOk_by (N := N__law_copy) (sc := defScope s__law_copy) (by decide +kernel)) (tgt1 1) (fun _ _ _ _ _ => pg_name (i := 1) S.nd rfl (Or.inl rfl)) (fun _ _ _ _ _ => pts_nilD) (fun _ _ _ _ _ => (d_use g__law_copy ht ag (hr.mono (by omega)) passZ (by rfl) m__law_copy p__law_copy (da_cons (d_var 1) da_nil)))) da_nil)))) dss_nil)
    (dss_one (ds_retV 0))))) (vc__law_copy m)
end
/-! require -/
abbrev s_require : Stmt := topS 5
abbrev N_require : List Str := ["as_told", "at", "good"]
theorem sc_require : FnScope N_require ["as_told"] (defScope s_require) := ⟨rfl, rfl, rfl, by decide +kernel, rfl, by decide +kernel, by decide +kernel⟩
def rd_require (R : List Sl → XD) : DS := (tForD (gtD 2 (gconsD (gnD 1) (gconsD (gnD 2) gnilD))) (itEnumT (tConsD (tVarD 0) tNilD)) (tIfD (tNotD (tTru (tVarD 2))) (tRaiseX R "Wrong" "at" (tVarD 1)) (fun d env => d.nx env)))
def sp_require : DSpX := fun us P R => ∃ bs : List Bool, us = bs.map (fun b => .d (.bool b)) ∧ bs.length ≤ 1000 ∧ (match fstF 0 bs with | none => P (.d .none) | some i => R "Wrong" "at" (.int (i : Nat)))
theorem vc_require : ∀ dvs Q R, sp_require dvs Q R → allD dvs fun xs => xs.length ≤ 100000 ∧ rd_require (fun _ => R) { nx := fun _ => Q (.d .none), rt := Q } (startD N_require [.d (.tuple xs)]) := by
  rintro dvs Q R ⟨bs, rfl, hl, h⟩
  refine allD_bools bs ⟨by rw [List.length_map]; omega, ?_⟩
  unfold rd_require
  walk_at "dl"
  rw [enumF_eq]
  refine forD_ind (fun zs env => ∃ s1 s2 k cs, env = [.d (.tuple (bs.map .bool)), s1, s2] ∧ zs = enumF k cs ∧ fstF k cs = fstF 0 bs) (fun env hI => ?_) (fun x zs env R2 hI hR => ?_) _ _ ⟨_, _, 0, bs, rfl, rfl, rfl⟩
  · obtain ⟨s1, s2, k, cs, rfl, e, e2⟩ := hI
    cases cs with
    | cons c cs => cases e
    | nil =>
      rw [← e2] at h
      exact h
  · obtain ⟨s1, s2, k, cs, rfl, e, e2⟩ := hI
    cases cs with
    | nil => cases e
    | cons c cs =>
      cases e
      walk_at "dl"
      cases c with
      | true =>
        exact hR _ ⟨_, _, k + 1, cs, rfl, rfl, e2⟩
      | false =>
        rw [← e2] at h
        exact h
section
variable {ts : List Addr} {P : Program} {w : World} {K : PySem.W.Frag} {mg : Str → Option Value} {base : Heap}
theorem ok_require {f : Addr} {fd : FuncData} (Fn : L2.Fun K "require" "require" s_require f fd) (z_enumerate : mg "enumerate" = none) {C_Wrong fI_Wrong : Addr} {fd_Wrong : FuncData} (T_Wrong : OexC K C_Wrong) (ic_Wrong : PySem.W.findIn K (.ref C_Wrong) "__init__" = some (some (.ref fI_Wrong))) (ti_Wrong : PySem.W.typeIn K (.ref fI_Wrong) = some (.type "function")) (i1_Wrong : FnOk P w K mg base (L2.CX P w) 1 fI_Wrong fd_Wrong ["self", "at"] (spIni C_Wrong "at")) (hb_Wrong : Binds K fd_Wrong ["self", "at"] []) (m_Wrong : mg "Wrong" = some (.ref C_Wrong)) : Fg P w K mg base (L2.CX P w) 3 f (PmX mg K ts sp_require) := d_starX Fn sc_require (fun _ _ _ _ _ _ us => by cases us <;> rfl) sp_require (fun R => rd_require fun _ => R) (fun cdv A outer s H E R wn hcd ht hE ag hr tk => by
  have S := sc_require
  have hu := hr.units
  have hE := XEnd.at hE
  exact (dss_one (ds_for (passes_of rfl) rfl (di_enumT (by rfl) z_enumerate (da_cons (d_var 0) da_nil)) (dg_tup rfl (dgs_cons (dg_name (i := 1) S.nd rfl (by first | exact Or.inl rfl | exact Or.inr rfl)) (dgs_cons (dg_name (i := 2) S.nd rfl (by first | exact Or.inl rfl | exact Or.inr rfl)) dgs_nil))) (dss_one (ds_if (dt_not (dt_e (d_var 2))) (dss_one (ds_raise1 (E := fun _ => E) rfl tk T_Wrong ic_Wrong ti_Wrong i1_Wrong (hr.mono (by decide)) hb_Wrong (by rfl) m_Wrong (d_var 1) hE passZ)) dss_nil))))) vc_require
end
/-! is_whole -/
abbrev s_is_whole : Stmt := topS 9
abbrev N_is_whole : List Str := ["thing"]
theorem sc_is_whole : FnScope N_is_whole ["thing"] (defScope s_is_whole) := ⟨rfl, rfl, rfl, by decide +kernel, rfl, by decide +kernel, by decide +kernel⟩
def rd_is_whole : DS := (tRetD (tAnV (tCallD (cIsi "int") (tConsD (tVarD 0) (tConsD (tRaw (.ty "int")) tNilD))) (tNoV (tCallD (cIsi "bool") (tConsD (tVarD 0) (tConsD (tRaw (.ty "bool")) tNilD))))))
def sp_is_whole : DSp := fun us P => ∃ x, us = [.d x] ∧ P (.d (.bool (isWh x)))
theorem vc_is_whole : ∀ dvs Q, sp_is_whole dvs Q → dvs.length = 1 ∧ rd_is_whole { nx := fun _ => Q (.d .none), rt := Q } (startD N_is_whole dvs) := by
  rintro dvs Q ⟨x, rfl, h⟩
  refine ⟨rfl, ?_⟩
  unfold rd_is_whole
  cases x <;> (walk_at "dl"; exact h)
section
variable {ts : List Addr} {P : Program} {w : World} {K : PySem.W.Frag} {mg : Str → Option Value} {base : Heap}
theorem ok_is_whole {f : Addr} {fd : FuncData} (Fn : L2.Fun K "is_whole" "is_whole" s_is_whole f fd) (z_isinstance : mg "isinstance" = none) (z_int : mg "int" = none) (z_bool : mg "bool" = none) : Fg P w K mg base (L2.CX P w) 1 f (Pm K ts sp_is_whole) := d_def Fn sc_is_whole (fun _ _ _ _ _ _ us hl => match us, hl with | [_], _ => rfl) sp_is_whole rd_is_whole (fun cdv A outer s H E wn hcd ht ag hr => by
  have S := sc_is_whole
  have hu := hr.units
  exact (dss_one (ds_ret (d_and (d_callB (k_isi (n := "int") (by simp)) (by rfl) z_isinstance (by decide +kernel) (da_cons (d_var 0) (da_cons (d_ty (by rfl) z_int (by decide +kernel)) da_nil))) (d_one (d_not (d_callB (k_isi (n := "bool") (by simp)) (by rfl) z_isinstance (by decide +kernel) (da_cons (d_var 0) (da_cons (d_ty (by rfl) z_bool (by decide +kernel)) da_nil))))))))) vc_is_whole
end
/-! is_point -/
abbrev s_is_point : Stmt := topS 10
abbrev N_is_point : List Str := ["thing"]
theorem sc_is_point : FnScope N_is_point ["thing"] (defScope s_is_point) := ⟨rfl, rfl, rfl, by decide +kernel, rfl, by decide +kernel, by decide +kernel⟩
def rd_is_point : DS := (tRetD (tAnV (tUse sp_is_whole (tConsD (tVarD 0) tNilD)) (tChD (gIn (fun i j => decide (i ≤ j)) fun i j => !decide (j.cps.toList < i.cps.toList)) (gIn (fun i j => decide (i ≤ j)) fun i j => !decide (j.cps.toList < i.cps.toList)) (tCD (.int 0)) (tVarD 0) (tCD (.int 1000)))))
def sp_is_point : DSp := fun us P => ∃ x, us = [.d x] ∧ P (.d (.bool (ptB x)))
theorem vc_is_point : ∀ dvs Q, sp_is_point dvs Q → dvs.length = 1 ∧ rd_is_point { nx := fun _ => Q (.d .none), rt := Q } (startD N_is_point dvs) := by
  rintro dvs Q ⟨x, rfl, h⟩
  refine ⟨rfl, ?_⟩
  unfold rd_is_point
  walk_at "dl"
  refine ⟨x, rfl, ?_⟩
  cases x with
  | int n =>
    rw [show isWh (.int n) = true from rfl]
    simp only [ptB] at h
    walk_at "dl"
    by_cases c : 0 ≤ n
    · simp only [c, decide_true, Bool.true_and, if_true] at h ⊢
      exact h
    · simp only [c, decide_false, Bool.false_and, Bool.false_eq_true, if_false] at h ⊢
      exact h
  | _ => simp only [isWh]; walk_at "dl"; exact h
section
variable {ts : List Addr} {P : Program} {w : World} {K : PySem.W.Frag} {mg : Str → Option Value} {base : Heap}
theorem ok_is_point {f : Addr} {fd : FuncData} (Fn : L2.Fun K "is_point" "is_point" s_is_point f fd) {f_is_whole : Addr} (g_is_whole : Fg P w K mg base (L2.CX P w) 1 f_is_whole (Pm K ts sp_is_whole)) (m_is_whole : mg "is_whole" = some (.ref f_is_whole)) (p_is_whole : PySem.W.keepIn K (.ref f_is_whole) = true) {t_LAST_POINT : Tok} (c_LAST_POINT : mg "LAST_POINT" = some (.int 1000 t_LAST_POINT)) : Fg P w K mg base (L2.CX P w) 2 f (Pm K ts sp_is_point) := d_def Fn sc_is_point (fun _ _ _ _ _ _ us hl => match us, hl with | [_], _ => rfl) sp_is_point rd_is_point (fun cdv A outer s H E wn hcd ht ag hr => by
  have S := sc_is_point
  have hu := hr.units
  exact (dss_one (ds_ret (d_and (d_use g_is_whole ht ag (hr.mono (by decide)) passZ (by rfl) m_is_whole p_is_whole (da_cons (d_var 0) da_nil)) (d_one (d_chain o_le o_le d_int (d_var 0) (d_globI (by rfl) c_LAST_POINT))))))) vc_is_point
end
/-! do_rise -/
abbrev s_do_rise : Stmt := topS 24
abbrev N_do_rise : List Str := ["numbers", "at"]
theorem sc_do_rise : FnScope N_do_rise ["numbers"] (defScope s_do_rise) := ⟨rfl, rfl, rfl, by decide +kernel, rfl, by decide +kernel, by decide +kernel⟩
def rd_do_rise : DS := (tRetD (tAll1 (itR2 (tConsD (tCD (.int 1)) (tConsD (tCallD cLen (tConsD (tVarD 0) tNilD)) tNilD))) (tBin gLt (tBin gIx (tVarD 1) (tBin gMinus (tVarD 0) (tCD (.int 1)))) (tBin gIx (tVarD 1) (tVarD 0))) [0]))
def sp_do_rise : DSp := fun us P => ∃ ns : List Int, us = [.d (.list (IL ns))] ∧ ns.length ≤ 1000 ∧ P (.d (.bool (decide (ns.Pairwise (· < ·)))))
theorem vc_do_rise : ∀ dvs Q, sp_do_rise dvs Q → dvs.length = 1 ∧ rd_do_rise { nx := fun _ => Q (.d .none), rt := Q } (startD N_do_rise dvs) := by
  rintro dvs Q ⟨ns, rfl, h2, h⟩
  refine ⟨rfl, ?_⟩
  unfold rd_do_rise
  walk_at "dl"
  have e := il_len ns
  refine ⟨⟨by decide, by decide, by omega, by omega⟩, adjF (fun a b => decide (a < b)) ns, fun x hx => ?_, ?_⟩
  · rw [rng_len] at hx
    obtain ⟨i, hi, rfl⟩ := mem_rngD hx
    walk_at "dl"
    rw [ixIL (by omega) (by omega)]
    walk_at "dl"
    rw [ixIL (by omega) (by omega)]
    rfl
  · rw [rng_len, rise_all]
    exact h
section
variable {ts : List Addr} {P : Program} {w : World} {K : PySem.W.Frag} {mg : Str → Option Value} {base : Heap}
theorem ok_do_rise {f : Addr} {fd : FuncData} (Fn : L2.Fun K "do_rise" "do_rise" s_do_rise f fd) (z_all : mg "all" = none) (z_range : mg "range" = none) (z_len : mg "len" = none) {e_do_rise P_do_rise : Addr} (tb_do_rise : GxR.TabB base mg e_do_rise P_do_rise) (fc_do_rise : fd.code = .ref e_do_rise) (ti_do_rise : P_do_rise ∈ ts) : Fg P w K mg base (L2.CX P w) 2 f (Pm K ts sp_do_rise) := d_def Fn sc_do_rise (fun _ _ _ _ _ _ us hl => match us, hl with | [_], _ => rfl) sp_do_rise rd_do_rise (fun cdv A outer s H E wn hcd ht ag hr => by
  have S := sc_do_rise
  have hu := hr.units
  exact (dss_one (ds_ret (d_all1 (N := ["at", "numbers"]) (caps := [0]) ht hr (by rfl) z_all tb_do_rise (hcd.symm.trans fc_do_rise) ti_do_rise rfl rfl (by decide +kernel) (by rfl) (hfreeC (so := defScope s_do_rise) (by decide +kernel)) (by show capOk ["at", "numbers"] N_do_rise 1 [0] _ (defScope s_do_rise) = true; decide +kernel) (by decide) rfl (by rfl) (di_r2 (by rfl) z_range (da_cons d_int (da_cons (d_callB k_len (by rfl) z_len (by decide +kernel) (da_cons (d_var 0) da_nil)) da_nil))) (by intro _; rfl) (fun _ _ _ _ _ _ hA wn ht => by
      have ag := Eq.mpr (congrArg (fun a => Around.guards a = some []) hA) (loop_guards ag)
      have hr := Eq.mpr (congrArg (Room _) hA) (loop_room hr)
      have hu := hr.units
      exact (d_cmp o_lt (d_ix (d_var 1) (d_bin o_sub (d_var 0) d_int)) (d_ix (d_var 1) (d_var 0)))))))) vc_do_rise
end
/-! are_marks -/
abbrev s_are_marks : Stmt := topS 23
abbrev N_are_marks : List Str := ["thing", "sort", "mark"]
theorem sc_are_marks : FnScope N_are_marks ["thing", "sort"] (defScope s_are_marks) := ⟨rfl, rfl, rfl, by decide +kernel, rfl, by decide +kernel, by decide +kernel⟩
def rd_are_marks : DS := (tSeqD (tIfD (tOrD (tNotD (tTru (tCallD (cIsi "list") (tConsD (tVarD 0) (tConsD (tRaw (.ty "list")) tNilD))))) (tNotD (tTst (tChD (gIn (fun i j => decide (i ≤ j)) fun i j => !decide (j.cps.toList < i.cps.toList)) (gIn (fun i j => decide (i ≤ j)) fun i j => !decide (j.cps.toList < i.cps.toList)) (tItK [("scale", (.int 2)), ("box", (.int 1))] (tVarD 1)) (tCallD cLen (tConsD (tVarD 0) tNilD)) (tCD (.int 8)))))) (tRetD (tCD (.bool false))) (fun d env => d.nx env))
    (tRetD (tAnV (tAll1 (itLst (tVarD 0)) (tUse sp_is_point (tConsD (tVarD 0) tNilD)) []) (tUse sp_do_rise (tConsD (tVarD 0) tNilD)))))
def sp_are_marks : DSp := fun us P => ∃ (x : PyData) (z : Str), us = [.d x, .d (.str z)] ∧ (z = "scale" ∨ z = "box") ∧ P (.d (.bool (marksB (few z) x)))
theorem vc_are_marks : ∀ dvs Q, sp_are_marks dvs Q → dvs.length = 2 ∧ rd_are_marks { nx := fun _ => Q (.d .none), rt := Q } (startD N_are_marks dvs) := by
  rintro dvs Q ⟨x, z, rfl, hz, h⟩
  refine ⟨rfl, ?_⟩
  unfold rd_are_marks
  refine seqG fun R hR => ?_
  cases x with
  | list xs =>
    simp only [marksB] at h
    walk_at "dl"
    refine ⟨z, .int (few z : Nat), rfl, by rcases hz with rfl | rfl <;> rfl, ?_⟩
    walk_at "dl"
    by_cases c1 : few z ≤ xs.length
    · have c1' : ((few z : Nat) : Int) ≤ (xs.length : Int) := by omega
      by_cases c2 : xs.length ≤ 8
      · have c2' : (xs.length : Int) ≤ 8 := by omega
        simp only [c1, c1', c2, c2', decide_true, Bool.true_and, Bool.not_true, Bool.false_eq_true, if_true, if_false] at h ⊢
        refine hR _ ?_
        walk_at "dl"
        refine ⟨ptB, fun y hy => ⟨y, rfl, rfl⟩, ?_⟩
        · by_cases c3 : xs.all ptB = true
          · rw [c3] at h ⊢
            simp only [Bool.true_and] at h
            walk_at "dl"
            have e := of_pts c3
            refine ⟨numOf xs, by rw [← e], ?_, h⟩
            have := il_len (numOf xs)
            rw [← e] at this
            omega
          · rw [eq_false_of_ne_true c3] at h ⊢
            exact h
      · have c2' : ¬ (xs.length : Int) ≤ 8 := by omega
        simp only [c1, c1', c2, c2', decide_true, decide_false, Bool.true_and, Bool.false_and, Bool.not_false, if_true] at h ⊢
        exact h
    · have c1' : ¬ ((few z : Nat) : Int) ≤ (xs.length : Int) := by omega
      simp only [c1, c1', decide_false, Bool.false_and, Bool.not_false, Bool.false_eq_true, if_true, if_false] at h ⊢
      exact h
  | _ => walk_at "dl"; exact h
section
variable {ts : List Addr} {P : Program} {w : World} {K : PySem.W.Frag} {mg : Str → Option Value} {base : Heap}
theorem ok_are_marks {f : Addr} {fd : FuncData} (Fn : L2.Fun K "are_marks" "are_marks" s_are_marks f fd) {f_is_point : Addr} (g_is_point : Fg P w K mg base (L2.CX P w) 2 f_is_point (Pm K ts sp_is_point)) (m_is_point : mg "is_point" = some (.ref f_is_point)) (p_is_point : PySem.W.keepIn K (.ref f_is_point) = true) {f_do_rise : Addr} (g_do_rise : Fg P w K mg base (L2.CX P w) 2 f_do_rise (Pm K ts sp_do_rise)) (m_do_rise : mg "do_rise" = some (.ref f_do_rise)) (p_do_rise : PySem.W.keepIn K (.ref f_do_rise) = true) (z_isinstance : mg "isinstance" = none) (z_list : mg "list" = none) (z_len : mg "len" = none) (z_all : mg "all" = none) {d_FEWEST_MARKS : Addr} (c_FEWEST_MARKS : mg "FEWEST_MARKS" = some (.ref d_FEWEST_MARKS)) (kd_FEWEST_MARKS : KCon K w d_FEWEST_MARKS [("scale", (.int 2)), ("box", (.int 1))]) (kl_FEWEST_MARKS : KLst K w d_FEWEST_MARKS ["scale", "box"]) {t_MOST_MARKS : Tok} (c_MOST_MARKS : mg "MOST_MARKS" = some (.int 8 t_MOST_MARKS)) {e_are_marks P_are_marks : Addr} (tb_are_marks : GxR.TabB base mg e_are_marks P_are_marks) (fc_are_marks : fd.code = .ref e_are_marks) (ti_are_marks : P_are_marks ∈ ts) : Fg P w K mg base (L2.CX P w) 4 f (Pm K ts sp_are_marks) := d_def Fn sc_are_marks (fun _ _ _ _ _ _ us hl => match us, hl with | [_, _], _ => rfl) sp_are_marks rd_are_marks (fun cdv A outer s H E wn hcd ht ag hr => by
  have S := sc_are_marks
  have hu := hr.units
  exact (dss_cons (ds_if (dt_w (dw_or (dt_not (dt_e (d_callB (k_isi (n := "list") (by simp)) (by rfl) z_isinstance (by decide +kernel) (da_cons (d_var 0) (da_cons (d_ty (by rfl) z_list (by decide +kernel)) da_nil))))) (dw_or1 (dt_not (dt_chain o_le o_le (d_itK kd_FEWEST_MARKS (by rfl) c_FEWEST_MARKS (d_var 1)) (d_callB k_len (by rfl) z_len (by decide +kernel) (da_cons (d_var 0) da_nil)) (d_globI (by rfl) c_MOST_MARKS)))))) (dss_one (ds_ret d_bl)) dss_nil)
    (dss_one (ds_ret (d_and (d_all1 (N := ["mark"]) (caps := []) ht hr (by rfl) z_all tb_are_marks (hcd.symm.trans fc_are_marks) ti_are_marks rfl rfl (by decide +kernel) (by rfl) (hfree0 (by decide +kernel)) (by show capOk ["mark"] N_are_marks 1 [] _ (defScope s_are_marks) = true; decide +kernel) (by decide) rfl (by rfl) (di_list (d_var 0)) (by intro _; rfl) (fun _ _ _ _ _ _ hA wn ht => by
      have ag := Eq.mpr (congrArg (fun a => Around.guards a = some []) hA) (loop_guards ag)
      have hr := Eq.mpr (congrArg (Room _) hA) (loop_room hr)
      have hu := hr.units
      exact (d_use g_is_point ht ag (hr.mono (by decide)) passZ (by rfl) m_is_point p_is_point (da_cons (d_var 0) da_nil)))) (d_one (d_use g_do_rise ht ag (hr.mono (by decide)) passZ (by rfl) m_do_rise p_do_rise (da_cons (d_var 0) da_nil)))))))) vc_are_marks
end
/-! Scale.__init__ -/
abbrev s_Scale___init__ : Stmt := inS (topS 19) 0
abbrev N_Scale___init__ : List Str := ["self", "marks"]
theorem sc_Scale___init__ : FnScope N_Scale___init__ ["self", "marks"] (defScope s_Scale___init__) := ⟨rfl, rfl, rfl, by decide +kernel, rfl, by decide +kernel, by decide +kernel⟩
def rd_Scale___init__ (R : List Sl → XD) : DS := (tSeqD (tDropD (tUseX sp_require R (tConsD (tUse sp_are_marks (tConsD (tVarD 1) (tConsD (tCD (.str "scale")) tNilD))) tNilD)))
    (tOstD ["Scale"] 0 "_marks" (tCallD cTuple (tConsD (tVarD 1) tNilD))))
def sp_Scale___init__ : DSpI := fun us P R => ∃ y, us = [.d y] ∧ ((∃ ms, y = .list (IL ms) ∧ MksOk 2 ms ∧ P [("_marks", .tuple (IL ms))]) ∨ (marksB 2 y = false ∧ R "Wrong" "at" (.int 0)))
theorem vc_Scale___init__ : ∀ dvs Q R x dx, sp_Scale___init__ dvs Q R → dvs.length + 1 = 2 ∧ rd_Scale___init__ (fun _ => R) { nx := fun env => ∃ ds, env[0]? = some (.tr false [x, dx] (obD "Scale" ds)) ∧ Q ds, rt := fun _ => False } ((startD N_Scale___init__ (.d .none :: dvs)).set 0 (.tr false [x, dx] (obD "Scale" []))) := by
  rintro dvs Q R x dx ⟨y, rfl, h⟩
  refine ⟨rfl, ?_⟩
  unfold rd_Scale___init__
  refine seqG fun R hR => ?_
  walk_at "dl"
  refine ⟨y, "scale", rfl, .inl rfl, ?_⟩
  rw [few_scale]
  walk_at "dl"
  refine ⟨[marksB 2 y], rfl, by simp, ?_⟩
  rcases h with ⟨ms, rfl, hm, h⟩ | ⟨e, q⟩
  · rw [marks_ok hm]
    have e := il_len ms
    refine hR _ ?_
    walk_at "dl"
    exact ⟨"Scale", [], rfl, List.mem_singleton.mpr rfl, List.not_mem_nil, by decide, _, rfl, h⟩
  · rw [e]
    exact q
section
variable {ts : List Addr} {P : Program} {w : World} {K : PySem.W.Frag} {mg : Str → Option Value} {base : Heap}
theorem ok_Scale___init__ {f : Addr} {fd : FuncData} (Fn : L2.Fun K "__init__" "Scale.__init__" s_Scale___init__ f fd) {C_Scale : Addr} (m_Scale : mg "Scale" = some (.ref C_Scale)) (ob_Scale : ObC K "Scale" C_Scale) (na_Scale__marks : NoAttr K C_Scale "_marks") {f_require : Addr} (g_require : Fg P w K mg base (L2.CX P w) 3 f_require (PmX mg K ts sp_require)) (m_require : mg "require" = some (.ref f_require)) (p_require : PySem.W.keepIn K (.ref f_require) = true) {f_are_marks : Addr} (g_are_marks : Fg P w K mg base (L2.CX P w) 4 f_are_marks (Pm K ts sp_are_marks)) (m_are_marks : mg "are_marks" = some (.ref f_are_marks)) (p_are_marks : PySem.W.keepIn K (.ref f_are_marks) = true) (z_tuple : mg "tuple" = none) : Fg P w K mg base (L2.CX P w) 5 f (PmI mg K ts "Scale" sp_Scale___init__) := d_init Fn sc_Scale___init__ (fun _ _ _ _ _ _ us hl => match us, hl with | [_, _], _ => rfl) sp_Scale___init__ (fun R => rd_Scale___init__ fun _ => R) (fun cdv A outer s H E R wn hcd ht hE ag hr tk => by
  have S := sc_Scale___init__
  have hu := hr.units
  have hE := XEnd.at hE
  exact (dss_cons (ds_expr (d_useX g_require ht ag (hr.mono (by decide)) (fun σ => passAt tk σ) hE (by rfl) m_require p_require (da_cons (d_use g_are_marks ht ag (hr.mono (by decide)) passZ (by rfl) m_are_marks p_are_marks (da_cons (d_var 1) (da_cons d_str da_nil))) da_nil)))
    (dss_one (ds_ost (i := 0) (na1 ob_Scale na_Scale__marks) (pv 0) (d_callTy k_tuple (by rfl) z_tuple (by decide +kernel) (da_cons (d_var 1) da_nil)))))) vc_Scale___init__
end
/-! Box.__init__ -/
abbrev s_Box___init__ : Stmt := inS (topS 20) 0
abbrev N_Box___init__ : List Str := ["self", "marks"]
theorem sc_Box___init__ : FnScope N_Box___init__ ["self", "marks"] (defScope s_Box___init__) := ⟨rfl, rfl, rfl, by decide +kernel, rfl, by decide +kernel, by decide +kernel⟩
def rd_Box___init__ (R : List Sl → XD) : DS := (tSeqD (tDropD (tUseX sp_require R (tConsD (tUse sp_are_marks (tConsD (tVarD 1) (tConsD (tCD (.str "box")) tNilD))) tNilD)))
    (tOstD ["Box"] 0 "_marks" (tCallD cTuple (tConsD (tVarD 1) tNilD))))
def sp_Box___init__ : DSpI := fun us P R => ∃ y, us = [.d y] ∧ ((∃ ms, y = .list (IL ms) ∧ MksOk 1 ms ∧ P [("_marks", .tuple (IL ms))]) ∨ (marksB 1 y = false ∧ R "Wrong" "at" (.int 0)))
theorem vc_Box___init__ : ∀ dvs Q R x dx, sp_Box___init__ dvs Q R → dvs.length + 1 = 2 ∧ rd_Box___init__ (fun _ => R) { nx := fun env => ∃ ds, env[0]? = some (.tr false [x, dx] (obD "Box" ds)) ∧ Q ds, rt := fun _ => False } ((startD N_Box___init__ (.d .none :: dvs)).set 0 (.tr false [x, dx] (obD "Box" []))) := by
  rintro dvs Q R x dx ⟨y, rfl, h⟩
  refine ⟨rfl, ?_⟩
  unfold rd_Box___init__
  refine seqG fun R hR => ?_
  walk_at "dl"
  refine ⟨y, "box", rfl, .inr rfl, ?_⟩
  rw [few_box]
  walk_at "dl"
  refine ⟨[marksB 1 y], rfl, by simp, ?_⟩
  rcases h with ⟨ms, rfl, hm, h⟩ | ⟨e, q⟩
  · rw [marks_ok hm]
    have e := il_len ms
    refine hR _ ?_
    walk_at "dl"
    exact ⟨"Box", [], rfl, List.mem_singleton.mpr rfl, List.not_mem_nil, by decide, _, rfl, h⟩
  · rw [e]
    exact q
section
variable {ts : List Addr} {P : Program} {w : World} {K : PySem.W.Frag} {mg : Str → Option Value} {base : Heap}
theorem ok_Box___init__ {f : Addr} {fd : FuncData} (Fn : L2.Fun K "__init__" "Box.__init__" s_Box___init__ f fd) {C_Box : Addr} (m_Box : mg "Box" = some (.ref C_Box)) (ob_Box : ObC K "Box" C_Box) (na_Box__marks : NoAttr K C_Box "_marks") {f_require : Addr} (g_require : Fg P w K mg base (L2.CX P w) 3 f_require (PmX mg K ts sp_require)) (m_require : mg "require" = some (.ref f_require)) (p_require : PySem.W.keepIn K (.ref f_require) = true) {f_are_marks : Addr} (g_are_marks : Fg P w K mg base (L2.CX P w) 4 f_are_marks (Pm K ts sp_are_marks)) (m_are_marks : mg "are_marks" = some (.ref f_are_marks)) (p_are_marks : PySem.W.keepIn K (.ref f_are_marks) = true) (z_tuple : mg "tuple" = none) : Fg P w K mg base (L2.CX P w) 5 f (PmI mg K ts "Box" sp_Box___init__) := d_init Fn sc_Box___init__ (fun _ _ _ _ _ _ us hl => match us, hl with | [_, _], _ => rfl) sp_Box___init__ (fun R => rd_Box___init__ fun _ => R) (fun cdv A outer s H E R wn hcd ht hE ag hr tk => by
  have S := sc_Box___init__
  have hu := hr.units
  have hE := XEnd.at hE
  exact (dss_cons (ds_expr (d_useX g_require ht ag (hr.mono (by decide)) (fun σ => passAt tk σ) hE (by rfl) m_require p_require (da_cons (d_use g_are_marks ht ag (hr.mono (by decide)) passZ (by rfl) m_are_marks p_are_marks (da_cons (d_var 1) (da_cons d_str da_nil))) da_nil)))
    (dss_one (ds_ost (i := 0) (na1 ob_Box na_Box__marks) (pv 0) (d_callTy k_tuple (by rfl) z_tuple (by decide +kernel) (da_cons (d_var 1) da_nil)))))) vc_Box___init__
end
/-! is_sort -/
abbrev s_is_sort : Stmt := topS 22
abbrev N_is_sort : List Str := ["thing"]
theorem sc_is_sort : FnScope N_is_sort ["thing"] (defScope s_is_sort) := ⟨rfl, rfl, rfl, by decide +kernel, rfl, by decide +kernel, by decide +kernel⟩
def rd_is_sort : DS := (tRetD (tAnV (tCallD (cIsi "str") (tConsD (tVarD 0) (tConsD (tRaw (.ty "str")) tNilD))) (tInK [("scale", (.int 2)), ("box", (.int 1))] (tVarD 0))))
def sp_is_sort : DSp := fun us P => ∃ x, us = [.d x] ∧ P (.d (.bool (sortB x)))
theorem vc_is_sort : ∀ dvs Q, sp_is_sort dvs Q → dvs.length = 1 ∧ rd_is_sort { nx := fun _ => Q (.d .none), rt := Q } (startD N_is_sort dvs) := by
  rintro dvs Q ⟨x, rfl, h⟩
  refine ⟨rfl, ?_⟩
  unfold rd_is_sort
  cases x with
  | str z =>
    walk_at "dl"
    refine ⟨z, rfl, ?_⟩
    simp only [sortB] at h
    by_cases c1 : z = "scale"
    · subst c1; exact h
    · by_cases c2 : z = "box"
      · subst c2; exact h
      · simp only [c1, c2, decide_false, Bool.or_false] at h
        have e : (List.lookup z [(("scale" : Str), PyData.int 2), ("box", .int 1)]).isSome = false := by
          rw [List.lookup_cons, beq_false_of_ne c1]
          dsimp only
          rw [List.lookup_cons, beq_false_of_ne c2]
          rfl
        rw [e]
        exact h
  | _ => walk_at "dl"; exact h
section
variable {ts : List Addr} {P : Program} {w : World} {K : PySem.W.Frag} {mg : Str → Option Value} {base : Heap}
theorem ok_is_sort {f : Addr} {fd : FuncData} (Fn : L2.Fun K "is_sort" "is_sort" s_is_sort f fd) (z_isinstance : mg "isinstance" = none) (z_str : mg "str" = none) {d_FEWEST_MARKS : Addr} (c_FEWEST_MARKS : mg "FEWEST_MARKS" = some (.ref d_FEWEST_MARKS)) (kd_FEWEST_MARKS : KCon K w d_FEWEST_MARKS [("scale", (.int 2)), ("box", (.int 1))]) (kl_FEWEST_MARKS : KLst K w d_FEWEST_MARKS ["scale", "box"]) : Fg P w K mg base (L2.CX P w) 1 f (Pm K ts sp_is_sort) := d_def Fn sc_is_sort (fun _ _ _ _ _ _ us hl => match us, hl with | [_], _ => rfl) sp_is_sort rd_is_sort (fun cdv A outer s H E wn hcd ht ag hr => by
  have S := sc_is_sort
  have hu := hr.units
  exact (dss_one (ds_ret (d_and (d_callB (k_isi (n := "str") (by simp)) (by rfl) z_isinstance (by decide +kernel) (da_cons (d_var 0) (da_cons (d_ty (by rfl) z_str (by decide +kernel)) da_nil))) (d_one (d_inK kd_FEWEST_MARKS (d_var 0) (by rfl) c_FEWEST_MARKS)))))) vc_is_sort
end
/-! marks_of -/
abbrev s_marks_of : Stmt := topS 21
abbrev N_marks_of : List Str := ["sort", "marks"]
theorem sc_marks_of : FnScope N_marks_of ["sort", "marks"] (defScope s_marks_of) := ⟨rfl, rfl, rfl, by decide +kernel, rfl, by decide +kernel, by decide +kernel⟩
def rd_marks_of (R : List Sl → XD) : DS := (tSeqD (tDropD (tUseX sp_require R (tConsD (tUse sp_is_sort (tConsD (tVarD 0) tNilD)) (tConsD (tAnV (tUse sp_is_sort (tConsD (tVarD 0) tNilD)) (tUse sp_are_marks (tConsD (tVarD 1) (tConsD (tVarD 0) tNilD)))) tNilD))))
    (tSeqD (tIfD (tTst (tBin (gEqv id) (tVarD 0) (tCD (.str "scale")))) (tRetD (tMakeD sp_Scale___init__ "Scale" R (tConsD (tVarD 1) tNilD))) (fun d env => d.nx env))
    (tRetD (tMakeD sp_Box___init__ "Box" R (tConsD (tVarD 1) tNilD)))))
/-- the thing of a sort -/
def thg (z : Str) (ms : List Int) : PyData := if z = "scale" then sx ms else bx ms
def sp_marks_of : DSpX := fun us P R => ∃ s x : PyData, us = [.d s, .d x] ∧ ((∃ (z : Str) (ms : List Int), s = .str z ∧ x = .list (IL ms) ∧ ((z = "scale" ∧ MksOk 2 ms ∧ P (.d (sx ms))) ∨ (z = "box" ∧ MksOk 1 ms ∧ P (.d (bx ms))))) ∨ (sortB s = false ∧ R "Wrong" "at" (.int 0)) ∨ (∃ z : Str, s = .str z ∧ (z = "scale" ∨ z = "box") ∧ marksB (few z) x = false ∧ R "Wrong" "at" (.int 1)))
theorem sort_z {z : Str} (h : z = "scale" ∨ z = "box") : sortB (.str z) = true := by
  rcases h with rfl | rfl <;> decide +kernel
theorem vc_marks_of : ∀ dvs Q R, sp_marks_of dvs Q R → dvs.length = 2 ∧ rd_marks_of (fun _ => R) { nx := fun _ => Q (.d .none), rt := Q } (startD N_marks_of dvs) := by
  rintro dvs Q R ⟨s, x, rfl, h⟩
  refine ⟨rfl, ?_⟩
  unfold rd_marks_of
  refine seqG fun R hR => ?_
  walk_at "dl"
  refine ⟨s, rfl, ?_⟩
  walk_at "dl"
  refine ⟨s, rfl, ?_⟩
  rcases h with ⟨z, ms, rfl, rfl, h⟩ | ⟨e, q⟩ | ⟨z, rfl, hz, e, q⟩
  · have hz : z = "scale" ∨ z = "box" := h.imp (·.1) (·.1)
    have hm : MksOk (few z) ms := by
      rcases h with ⟨rfl, hm, _⟩ | ⟨rfl, hm, _⟩
      · exact hm
      · exact hm
    rw [sort_z hz]
    walk_at "dl"
    refine ⟨_, z, rfl, hz, ?_⟩
    rw [marks_ok hm]
    walk_at "dl"
    refine ⟨[true, true], rfl, by decide, hR _ (seqG fun R hR => ?_)⟩
    walk_at "dl"
    rcases h with ⟨rfl, hm, h⟩ | ⟨rfl, hm, h⟩
    · simp only [decide_true, if_true]
      exact ⟨_, rfl, .inl ⟨ms, rfl, hm, h⟩⟩
    · rw [if_neg (by decide +kernel)]
      refine hR _ ?_
      walk_at "dl"
      exact ⟨_, rfl, .inl ⟨ms, rfl, hm, h⟩⟩
  · rw [e]
    walk_at "dl"
    exact ⟨[false, false], rfl, by decide, q⟩
  · rw [sort_z hz]
    walk_at "dl"
    refine ⟨_, z, rfl, hz, ?_⟩
    rw [e]
    walk_at "dl"
    exact ⟨[true, false], rfl, by decide, q⟩
section
variable {ts : List Addr} {P : Program} {w : World} {K : PySem.W.Frag} {mg : Str → Option Value} {base : Heap}
theorem ok_marks_of {f : Addr} {fd : FuncData} (Fn : L2.Fun K "marks_of" "marks_of" s_marks_of f fd) {C_Scale C_Box : Addr} (m_Scale : mg "Scale" = some (.ref C_Scale)) (ob_Scale : ObC K "Scale" C_Scale) (m_Box : mg "Box" = some (.ref C_Box)) (ob_Box : ObC K "Box" C_Box) {f_require : Addr} (g_require : Fg P w K mg base (L2.CX P w) 3 f_require (PmX mg K ts sp_require)) (m_require : mg "require" = some (.ref f_require)) (p_require : PySem.W.keepIn K (.ref f_require) = true) {f_is_sort : Addr} (g_is_sort : Fg P w K mg base (L2.CX P w) 1 f_is_sort (Pm K ts sp_is_sort)) (m_is_sort : mg "is_sort" = some (.ref f_is_sort)) (p_is_sort : PySem.W.keepIn K (.ref f_is_sort) = true) {f_are_marks : Addr} (g_are_marks : Fg P w K mg base (L2.CX P w) 4 f_are_marks (Pm K ts sp_are_marks)) (m_are_marks : mg "are_marks" = some (.ref f_are_marks)) (p_are_marks : PySem.W.keepIn K (.ref f_are_marks) = true) {f_Scale___init__ : Addr} (g_Scale___init__ : Fg P w K mg base (L2.CX P w) 5 f_Scale___init__ (PmI mg K ts "Scale" sp_Scale___init__)) (mk_Scale : Mk K C_Scale f_Scale___init__) {f_Box___init__ : Addr} (g_Box___init__ : Fg P w K mg base (L2.CX P w) 5 f_Box___init__ (PmI mg K ts "Box" sp_Box___init__)) (mk_Box : Mk K C_Box f_Box___init__) : Fg P w K mg base (L2.CX P w) 7 f (PmX mg K ts sp_marks_of) := d_defX Fn sc_marks_of (fun _ _ _ _ _ _ us hl => match us, hl with | [_, _], _ => rfl) sp_marks_of (fun R => rd_marks_of fun _ => R) (fun cdv A outer s H E R wn hcd ht hE ag hr tk => by
  have S := sc_marks_of
  have hu := hr.units
  have hE := XEnd.at hE
  exact (dss_cons (ds_expr (d_useX g_require ht ag (hr.mono (by decide)) (fun σ => passAt tk σ) hE (by rfl) m_require p_require (da_cons (d_use g_is_sort ht ag (hr.mono (by decide)) passZ (by rfl) m_is_sort p_is_sort (da_cons (d_var 0) da_nil)) (da_cons (d_and (d_use g_is_sort ht ag (hr.mono (by decide)) passZ (by rfl) m_is_sort p_is_sort (da_cons (d_var 0) da_nil)) (d_one (d_use g_are_marks ht ag (hr.mono (by decide)) passZ (by rfl) m_are_marks p_are_marks (da_cons (d_var 1) (da_cons (d_var 0) da_nil))))) da_nil))))
    (dss_cons (ds_if (dt_cmp (o_eq hu) (d_var 0) d_str) (dss_one (ds_ret (d_make mk_Scale ob_Scale g_Scale___init__ ht ag (hr.mono (by decide)) (fun σ => passAt tk σ) hE (by rfl) m_Scale (da_cons (d_var 1) da_nil)))) dss_nil)
    (dss_one (ds_ret (d_make mk_Box ob_Box g_Box___init__ ht ag (hr.mono (by decide)) (fun σ => passAt tk σ) hE (by rfl) m_Box (da_cons (d_var 1) da_nil))))))) vc_marks_of
end
/-! _law_made -/
abbrev s__law_made : Stmt := topS 38
abbrev N__law_made : List Str := ["_law_sort", "_law_marks_here", "_law_way"]
theorem sc__law_made : FnScope N__law_made ["_law_sort", "_law_marks_here", "_law_way"] (defScope s__law_made) := ⟨rfl, rfl, rfl, by decide +kernel, rfl, by decide +kernel, by decide +kernel⟩
def rd__law_made (R : List Sl → XD) : DS := (tSeqD (tIfD (tTst (tBin (gEqv id) (tVarD 2) (tCD (.str "scale")))) (tRetD (tMakeD sp_Scale___init__ "Scale" R (tConsD (tVarD 1) tNilD))) (fun d env => d.nx env))
    (tSeqD (tIfD (tTst (tBin (gEqv id) (tVarD 2) (tCD (.str "box")))) (tRetD (tMakeD sp_Box___init__ "Box" R (tConsD (tVarD 1) tNilD))) (fun d env => d.nx env))
    (tRetD (tUseX sp_marks_of R (tConsD (tVarD 0) (tConsD (tVarD 1) tNilD))))))
def sp__law_made : DSpX := fun us P R => ∃ (s x : PyData) (w : Str), us = [.d s, .d x, .d (.str w)] ∧ ((w = "scale" ∧ ((∃ ms, x = .list (IL ms) ∧ MksOk 2 ms ∧ P (.d (sx ms))) ∨ (marksB 2 x = false ∧ R "Wrong" "at" (.int 0)))) ∨ (w = "box" ∧ ((∃ ms, x = .list (IL ms) ∧ MksOk 1 ms ∧ P (.d (bx ms))) ∨ (marksB 1 x = false ∧ R "Wrong" "at" (.int 0)))) ∨ (w ≠ "scale" ∧ w ≠ "box" ∧ sp_marks_of [.d s, .d x] P R))
theorem vc__law_made : ∀ dvs Q R, sp__law_made dvs Q R → dvs.length = 3 ∧ rd__law_made (fun _ => R) { nx := fun _ => Q (.d .none), rt := Q } (startD N__law_made dvs) := by
  rintro dvs Q R ⟨s, x, w, rfl, h⟩
  refine ⟨rfl, ?_⟩
  unfold rd__law_made
  refine seqG fun R hR => ?_
  walk_at "dl"
  rcases h with ⟨rfl, h⟩ | ⟨rfl, h⟩ | ⟨n1, n2, h⟩
  · simp only [decide_true, if_true]
    exact ⟨x, rfl, h⟩
  · rw [if_neg (by decide +kernel)]
    refine hR _ (seqG fun R hR => ?_)
    walk_at "dl"
    simp only [decide_true, if_true]
    exact ⟨x, rfl, h⟩
  · rw [if_neg (by rw [decide_eq_false n1]; decide)]
    refine hR _ (seqG fun R hR => ?_)
    walk_at "dl"
    rw [if_neg (by rw [decide_eq_false n2]; decide)]
    refine hR _ ?_
    walk_at "dl"
    exact h
section
variable {ts : List Addr} {P : Program} {w : World} {K : PySem.W.Frag} {mg : Str → Option Value} {base : Heap}
theorem ok__law_made {f : Addr} {fd : FuncData} (Fn : L2.Fun K "_law_made" "_law_made" s__law_made f fd) {C_Scale C_Box : Addr} (m_Scale : mg "Scale" = some (.ref C_Scale)) (ob_Scale : ObC K "Scale" C_Scale) (m_Box : mg "Box" = some (.ref C_Box)) (ob_Box : ObC K "Box" C_Box) {f_Scale___init__ : Addr} (g_Scale___init__ : Fg P w K mg base (L2.CX P w) 5 f_Scale___init__ (PmI mg K ts "Scale" sp_Scale___init__)) (mk_Scale : Mk K C_Scale f_Scale___init__) {f_Box___init__ : Addr} (g_Box___init__ : Fg P w K mg base (L2.CX P w) 5 f_Box___init__ (PmI mg K ts "Box" sp_Box___init__)) (mk_Box : Mk K C_Box f_Box___init__) {f_marks_of : Addr} (g_marks_of : Fg P w K mg base (L2.CX P w) 7 f_marks_of (PmX mg K ts sp_marks_of)) (m_marks_of : mg "marks_of" = some (.ref f_marks_of)) (p_marks_of : PySem.W.keepIn K (.ref f_marks_of) = true) : Fg P w K mg base (L2.CX P w) 8 f (PmX mg K ts sp__law_made) := d_defX Fn sc__law_made (fun _ _ _ _ _ _ us hl => match us, hl with | [_, _, _], _ => rfl) sp__law_made (fun R => rd__law_made fun _ => R) (fun cdv A outer s H E R wn hcd ht hE ag hr tk => by
  have S := sc__law_made
  have hu := hr.units
  have hE := XEnd.at hE
  exact (dss_cons (ds_if (dt_cmp (o_eq hu) (d_var 2) d_str) (dss_one (ds_ret (d_make mk_Scale ob_Scale g_Scale___init__ ht ag (hr.mono (by decide)) (fun σ => passAt tk σ) hE (by rfl) m_Scale (da_cons (d_var 1) da_nil)))) dss_nil)
    (dss_cons (ds_if (dt_cmp (o_eq hu) (d_var 2) d_str) (dss_one (ds_ret (d_make mk_Box ob_Box g_Box___init__ ht ag (hr.mono (by decide)) (fun σ => passAt tk σ) hE (by rfl) m_Box (da_cons (d_var 1) da_nil)))) dss_nil)
    (dss_one (ds_ret (d_useX g_marks_of ht ag (hr.mono (by decide)) (fun σ => passAt tk σ) hE (by rfl) m_marks_of p_marks_of (da_cons (d_var 0) (da_cons (d_var 1) da_nil)))))))) vc__law_made
end
/-! _law_refused -/
abbrev s__law_refused : Stmt := topS 39
abbrev N__law_refused : List Str := ["_law_sort", "_law_marks_here", "_law_way", "_law_told", "e"]
theorem sc__law_refused : FnScope N__law_refused ["_law_sort", "_law_marks_here", "_law_way"] (defScope s__law_refused) := ⟨rfl, rfl, rfl, by decide +kernel, rfl, by decide +kernel, by decide +kernel⟩
def rd__law_refused : DS := (tSeqD (tSetD 3 (tTupD (tConsD (tCD (.str "told")) tNilD)))
    (tSeqD (tTryAs 4 [("Wrong", "at")] (fun _ => true) (fun a c n x => (tSetD 3 (tTupD (tConsD (tCD (.str "refused")) (tConsD (tAtX 4 a x) tNilD))))) (fun _ _ _ _ => False) (fun R => (tDropD (tUseX sp__law_made R (tConsD (tVarD 0) (tConsD (tVarD 1) (tConsD (tVarD 2) tNilD)))))))
    (tRetVD 3)))
def Ways (w : Str) : Prop := w = "scale" ∨ w = "box" ∨ w = "any"
/-- the first place that is not as told -/
def wrgF (s x : PyData) (w : Str) : Option Int :=
  if w = "any" then (if sortB s = true then match s with
      | .str z => if marksB (few z) x = true then none else some 1
      | _ => none
    else some 0)
  else if marksB (few w) x = true then none else some 0
def toldR : Option Int → PyData
  | none => .tuple [.str "told"]
  | some i => .tuple [.str "refused", .int i]
theorem sort_str {s : PyData} (h : sortB s = true) : ∃ z : Str, s = .str z ∧ (z = "scale" ∨ z = "box") := by
  cases s with
  | str z =>
    simp only [sortB, Bool.or_eq_true, decide_eq_true_eq] at h
    exact ⟨z, rfl, h⟩
  | _ => simp [sortB] at h
theorem made_of {s x : PyData} {w : Str} {P : DV → Prop} {R : XD} (hw : Ways w) (h1 : ∀ y, wrgF s x w = none → P (.d y)) (h2 : ∀ i, wrgF s x w = some i → R "Wrong" "at" (.int i)) : sp__law_made [.d s, .d x, .d (.str w)] P R := by
  refine ⟨s, x, w, rfl, ?_⟩
  have nb : ("box" : Str) ≠ "any" := by decide +kernel
  have ns : ("scale" : Str) ≠ "any" := by decide +kernel
  rcases hw with rfl | rfl | rfl
  · refine .inl ⟨rfl, ?_⟩
    simp only [wrgF, if_neg ns, few_scale] at h1 h2
    cases e : marksB 2 x with
    | true =>
      obtain ⟨ms, rfl, hm⟩ := marks_cases e
      exact .inl ⟨ms, rfl, hm, h1 _ (by rw [e]; rfl)⟩
    | false => exact .inr ⟨rfl, h2 0 (by rw [e]; rfl)⟩
  · refine .inr (.inl ⟨rfl, ?_⟩)
    simp only [wrgF, if_neg nb, few_box] at h1 h2
    cases e : marksB 1 x with
    | true =>
      obtain ⟨ms, rfl, hm⟩ := marks_cases e
      exact .inl ⟨ms, rfl, hm, h1 _ (by rw [e]; rfl)⟩
    | false => exact .inr ⟨rfl, h2 0 (by rw [e]; rfl)⟩
  · refine .inr (.inr ⟨ns.symm, nb.symm, s, x, rfl, ?_⟩)
    simp only [wrgF, if_true] at h1 h2
    cases es : sortB s with
    | false => exact .inr (.inl ⟨rfl, h2 0 (by rw [es]; rfl)⟩)
    | true =>
      obtain ⟨z, rfl, hz⟩ := sort_str es
      rw [es] at h1 h2
      simp only [if_true] at h1 h2
      cases e : marksB (few z) x with
      | false => exact .inr (.inr ⟨z, rfl, hz, e, h2 1 (by rw [e]; rfl)⟩)
      | true =>
        obtain ⟨ms, rfl, hm⟩ := marks_cases e
        refine .inl ⟨z, ms, rfl, rfl, ?_⟩
        rcases hz with rfl | rfl
        · exact .inl ⟨rfl, hm, h1 _ (by rw [e]; rfl)⟩
        · exact .inr ⟨rfl, hm, h1 _ (by rw [e]; rfl)⟩
def sp__law_refused : DSp := fun us P => ∃ (s x : PyData) (w : Str), us = [.d s, .d x, .d (.str w)] ∧ Ways w ∧ P (.d (toldR (wrgF s x w)))
theorem vc__law_refused : ∀ dvs Q, sp__law_refused dvs Q → dvs.length = 3 ∧ rd__law_refused { nx := fun _ => Q (.d .none), rt := Q } (startD N__law_refused dvs) := by
  rintro dvs Q ⟨s, x, w, rfl, hw, h⟩
  refine ⟨rfl, ?_⟩
  unfold rd__law_refused
  refine seqG fun R hR => ?_
  walk_at "dl"
  refine ⟨by decide, hR _ (seqG fun R hR => ?_)⟩
  refine ⟨noOw_ok _ rfl, ?_⟩
  walk_at "dl"
  refine made_of hw (fun y e => hR _ ?_) fun i e => ?_
  · rw [e] at h
    walk_at "dl"
    exact h
  · rw [e] at h
    refine ⟨by decide, fun _ => ⟨noOw_ok _ rfl, fun a => ?_⟩, fun z => nomatch z⟩
    walk_at "dl"
    refine ⟨by decide, hR _ ?_⟩
    walk_at "dl"
    exact h
section
variable {ts : List Addr} {P : Program} {w : World} {K : PySem.W.Frag} {mg : Str → Option Value} {base : Heap}
theorem ok__law_refused {f : Addr} {fd : FuncData} (Fn : L2.Fun K "_law_refused" "_law_refused" s__law_refused f fd) {C_Wrong : Addr} (m_Wrong : mg "Wrong" = some (.ref C_Wrong)) (em_Wrong_Wrong : PySem.W.exmOne K (.ref C_Wrong) (.ref C_Wrong) = some true) (ex_Wrong : ExcC K C_Wrong) (xf_Wrong : XfC K C_Wrong) (nf_Wrong : PySem.W.findIn K (.ref C_Wrong) "at" = some none) {f__law_made : Addr} (g__law_made : Fg P w K mg base (L2.CX P w) 8 f__law_made (PmX mg K ts sp__law_made)) (m__law_made : mg "_law_made" = some (.ref f__law_made)) (p__law_made : PySem.W.keepIn K (.ref f__law_made) = true) : Fg P w K mg base (L2.CX P w) 9 f (Pm K ts sp__law_refused) := d_def Fn sc__law_refused (fun _ _ _ _ _ _ us hl => match us, hl with | [_, _, _], _ => rfl) sp__law_refused rd__law_refused (fun cdv A outer s H E wn hcd ht ag hr => by
  have S := sc__law_refused
  have hu := hr.units
  exact (dss_cons (ds_set (i := 3) S.nd rfl (by first | exact Or.inl rfl | exact Or.inr rfl) (d_tup (da_cons d_str da_nil)))
    (dss_cons (ds_tryAs (i := 4) (E := fun _ _ _ _ => False) (R := fun _ _ _ _ => False) (cs := [("Wrong", "at")]) (exm := fun _ => true) rfl rfl S.nd rfl rfl ⟨by rfl, by decide, .inl m_Wrong⟩ takes0 (fun _ _ _ _ _ => XEnd.none) (by decide) (fun q hq C hC => by
        have e := List.mem_singleton.mp hq
        subst e
        cases Value.ref.inj (Option.some.inj (hC.symm.trans m_Wrong))
        exact em_Wrong_Wrong) (fun pn xe E R w' hw tk hE => by
        have ht := (congrArg Bg.ts hw).trans ht
        exact (dss_one (ds_expr (d_useX g__law_made ht ag (hr.mono (by decide)) (fun σ => passAt tk σ) hE (by rfl) m__law_made p__law_made (da_cons (d_var 0) (da_cons (d_var 1) (da_cons (d_var 2) da_nil))))))) (fun a oe pn c C n x v dd w' hw hcs hc wd hd rp hz hf => by
        have ht := (congrArg Bg.ts hw).trans ht
        obtain ⟨rfl, rfl⟩ := Prod.mk.inj (List.mem_singleton.mp hcs)
        cases Value.ref.inj (Option.some.inj (hc.symm.trans m_Wrong))
        exact (dss_one (ds_set (i := 3) S.nd rfl (by first | exact Or.inl rfl | exact Or.inr rfl) (d_tup (da_cons d_str (da_cons (d_atX xf_Wrong nf_Wrong hz hf wd hd rp (pv 4)) da_nil)))))))
    (dss_one (ds_retV 3))))) vc__law_refused
end
/-! _law_alike -/
abbrev s__law_alike : Stmt := topS 29
abbrev N__law_alike : List Str := ["_law_found", "_law_due_here"]
theorem sc__law_alike : FnScope N__law_alike ["_law_found", "_law_due_here"] (defScope s__law_alike) := ⟨rfl, rfl, rfl, by decide +kernel, rfl, by decide +kernel, by decide +kernel⟩
def rd__law_alike : DS := (tRetD (tAnV (tBin (gEqv id) (tVarD 0) (tVarD 1)) (tBin (gEqv id) (tCallD cRepr (tConsD (tVarD 0) tNilD)) (tCallD cRepr (tConsD (tVarD 1) tNilD)))))
def sp__law_alike : DSp := fun us P => ∃ x, us = [.d x, .d x] ∧ selfEq x ∧ Sh x ∧ P (.d (.bool true))
theorem vc__law_alike : ∀ dvs Q, sp__law_alike dvs Q → dvs.length = 2 ∧ rd__law_alike { nx := fun _ => Q (.d .none), rt := Q } (startD N__law_alike dvs) := by
  rintro dvs Q ⟨x, rfl, hs, sh, h⟩
  refine ⟨rfl, ?_⟩
  have e : ∀ P : DV → Prop, P (.d (.bool true)) → gEqv id x x P := fun P q => gEqv_self hs q
  unfold rd__law_alike
  generalize hg : gEqv id = g at *
  walk_at "dl"
  refine e _ ?_
  walk_at "dl"
  refine ⟨sh, sh, ?_⟩
  subst hg
  walk_at "dl"
  exact h
section
variable {ts : List Addr} {P : Program} {w : World} {K : PySem.W.Frag} {mg : Str → Option Value} {base : Heap}
theorem ok__law_alike {f : Addr} {fd : FuncData} (Fn : L2.Fun K "_law_alike" "_law_alike" s__law_alike f fd) (z_repr : mg "repr" = none) : Fg P w K mg base (L2.CX P w) 1 f (Pm K ts sp__law_alike) := d_def Fn sc__law_alike (fun _ _ _ _ _ _ us hl => match us, hl with | [_, _], _ => rfl) sp__law_alike rd__law_alike (fun cdv A outer s H E wn hcd ht ag hr => by
  have S := sc__law_alike
  have hu := hr.units
  exact (dss_one (ds_ret (d_and (d_cmp (o_eq hu) (d_var 0) (d_var 1)) (d_one (d_cmp (o_eq hu) (d_callB (k_repr ag hu) (by rfl) z_repr (by decide +kernel) (da_cons (d_var 0) da_nil)) (d_callB (k_repr ag hu) (by rfl) z_repr (by decide +kernel) (da_cons (d_var 1) da_nil)))))))) vc__law_alike
end
/-! _law_is_point -/
abbrev s__law_is_point : Stmt := topS 36
abbrev N__law_is_point : List Str := ["_law_thing"]
theorem sc__law_is_point : FnScope N__law_is_point ["_law_thing"] (defScope s__law_is_point) := ⟨rfl, rfl, rfl, by decide +kernel, rfl, by decide +kernel, by decide +kernel⟩
def rd__law_is_point : DS := (tRetD (tAnV (tCallD (cIsi "int") (tConsD (tVarD 0) (tConsD (tRaw (.ty "int")) tNilD))) (tAnV (tNoV (tCallD (cIsi "bool") (tConsD (tVarD 0) (tConsD (tRaw (.ty "bool")) tNilD)))) (tChD (gIn (fun i j => decide (i ≤ j)) fun i j => !decide (j.cps.toList < i.cps.toList)) (gIn (fun i j => decide (i ≤ j)) fun i j => !decide (j.cps.toList < i.cps.toList)) (tCD (.int 0)) (tVarD 0) (tCD (.int 1000))))))
def sp__law_is_point : DSp := fun us P => ∃ x, us = [.d x] ∧ P (.d (.bool (ptB x)))
theorem vc__law_is_point : ∀ dvs Q, sp__law_is_point dvs Q → dvs.length = 1 ∧ rd__law_is_point { nx := fun _ => Q (.d .none), rt := Q } (startD N__law_is_point dvs) := by
  rintro dvs Q ⟨x, rfl, h⟩
  refine ⟨rfl, ?_⟩
  unfold rd__law_is_point
  cases x with
  | int n =>
    walk_at "dl"
    simp only [ptB] at h
    by_cases c : 0 ≤ n
    · simp only [c, decide_true, Bool.true_and, if_true] at h ⊢
      exact h
    · simp only [c, decide_false, Bool.false_and, Bool.false_eq_true, if_false] at h ⊢
      exact h
  | _ => walk_at "dl"; exact h
section
variable {ts : List Addr} {P : Program} {w : World} {K : PySem.W.Frag} {mg : Str → Option Value} {base : Heap}
theorem ok__law_is_point {f : Addr} {fd : FuncData} (Fn : L2.Fun K "_law_is_point" "_law_is_point" s__law_is_point f fd) (z_isinstance : mg "isinstance" = none) (z_int : mg "int" = none) (z_bool : mg "bool" = none) : Fg P w K mg base (L2.CX P w) 1 f (Pm K ts sp__law_is_point) := d_def Fn sc__law_is_point (fun _ _ _ _ _ _ us hl => match us, hl with | [_], _ => rfl) sp__law_is_point rd__law_is_point (fun cdv A outer s H E wn hcd ht ag hr => by
  have S := sc__law_is_point
  have hu := hr.units
  exact (dss_one (ds_ret (d_and (d_callB (k_isi (n := "int") (by simp)) (by rfl) z_isinstance (by decide +kernel) (da_cons (d_var 0) (da_cons (d_ty (by rfl) z_int (by decide +kernel)) da_nil))) (d_and (d_not (d_callB (k_isi (n := "bool") (by simp)) (by rfl) z_isinstance (by decide +kernel) (da_cons (d_var 0) (da_cons (d_ty (by rfl) z_bool (by decide +kernel)) da_nil)))) (d_one (d_chain o_le o_le d_int (d_var 0) d_int))))))) vc__law_is_point
end
/-! _law_is_row -/
abbrev s__law_is_row : Stmt := topS 37
abbrev N__law_is_row : List Str := ["_law_thing", "_law_fewest", "_law_most", "_law_step", "_law_one", "_law_k"]
theorem sc__law_is_row : FnScope N__law_is_row ["_law_thing", "_law_fewest", "_law_most", "_law_step"] (defScope s__law_is_row) := ⟨rfl, rfl, rfl, by decide +kernel, rfl, by decide +kernel, by decide +kernel⟩
def rd__law_is_row : DS := (tSeqD (tIfD (tOrD (tNotD (tTru (tCallD (cIsi "list") (tConsD (tVarD 0) (tConsD (tRaw (.ty "list")) tNilD))))) (tNotD (tTst (tChD (gIn (fun i j => decide (i ≤ j)) fun i j => !decide (j.cps.toList < i.cps.toList)) (gIn (fun i j => decide (i ≤ j)) fun i j => !decide (j.cps.toList < i.cps.toList)) (tVarD 1) (tCallD cLen (tConsD (tVarD 0) tNilD)) (tVarD 2))))) (tRetD (tCD (.bool false))) (fun d env => d.nx env))
    (tSeqD (tIfD (tTst (tBin gNeN (tLcD (itLst (tVarD 0)) (gnD 4) (tNotD (tTru (tUse sp__law_is_point (tConsD (tVarD 4) tNilD)))) (tVarD 4) [4]) (tLstD tNilD))) (tRetD (tCD (.bool false))) (fun d env => d.nx env))
    (tRetD (tBin gEqN (tLcD (itR1 (tConsD (tBin gMinus (tCallD cLen (tConsD (tVarD 0) tNilD)) (tCD (.int 1))) tNilD)) (gnD 5) (tTst (tBin (gIn (fun i j => decide (j < i)) fun i j => decide (j.cps.toList < i.cps.toList)) (tBin gAdd (tBin gIx (tVarD 0) (tVarD 5)) (tVarD 3)) (tBin gIx (tVarD 0) (tBin gAdd (tVarD 5) (tCD (.int 1)))))) (tVarD 5) [5]) (tLstD tNilD)))))
def stB (st : Int) : PyData → List Int → Bool := fun _ ns => decide (ns.Pairwise fun a b => a + st ≤ b)
/-- the test of neighbours, from the first place on -/
def adj0F (r : Int → Int → Bool) (ns : List Int) : PyData → Bool
  | .int i => r (ns.getD i.toNat 0) (ns.getD (i + 1).toNat 0)
  | _ => false
theorem adj0_all (r : Int → Int → Bool) (tr : ∀ a b c, r a b = true → r b c = true → r a c = true) (ns : List Int) : (rngD 0 (ns.length - 1)).all (adj0F r ns) = decide (ns.Pairwise fun a b => r a b = true) := by
  rw [← adj_all r tr ns]
  unfold rngD
  rw [List.all_map, List.all_map]
  congr 1
  funext i
  show r (ns.getD (0 + (i : Nat) : Int).toNat 0) (ns.getD ((0 + (i : Nat) : Int) + 1).toNat 0) = r (ns.getD ((1 + (i : Nat) : Int) - 1).toNat 0) (ns.getD (1 + (i : Nat) : Int).toNat 0)
  congr 2 <;> congr 1 <;> omega
def ptsB (lo hi st : Int) : PyData → Bool
  | .list xs => decide (lo ≤ (xs.length : Int)) && (decide ((xs.length : Int) ≤ hi) && (xs.all ptB && decide ((numOf xs).Pairwise fun a b => a + st ≤ b)))
  | _ => false
theorem ptsB_spot (x : PyData) : ptsB 1 6 0 x = spotB x := by
  cases x with
  | list xs =>
    simp only [ptsB, spotB, Int.add_zero]
    congr 1
    · exact decide_eq_decide.mpr (by omega)
    · congr 1
      exact decide_eq_decide.mpr (by omega)
  | _ => rfl
theorem ptsB_marks (n : Nat) (x : PyData) : ptsB n 8 1 x = marksB n x := by
  cases x with
  | list xs =>
    simp only [ptsB, marksB]
    congr 1
    · exact decide_eq_decide.mpr (by omega)
    · congr 1
      exact decide_eq_decide.mpr (by omega)
  | _ => rfl
theorem filt_none {α : Type} {p : α → Bool} : ∀ {xs : List α}, ((xs.filter fun x => !p x).isEmpty) = xs.all p
  | [] => rfl
  | x :: xs => by
    rw [List.filter_cons, List.all_cons]
    cases c : p x with
    | true => simpa using filt_none (xs := xs)
    | false => simp
def sp__law_is_row : DSp := fun us P => ∃ (x : PyData) (lo hi st : Int), us = [.d x, .d (.int lo), .d (.int hi), .d (.int st)] ∧ hi ≤ 8 ∧ 0 ≤ st ∧ P (.d (.bool (ptsB lo hi st x)))
theorem vc__law_is_row : ∀ dvs Q, sp__law_is_row dvs Q → dvs.length = 4 ∧ rd__law_is_row { nx := fun _ => Q (.d .none), rt := Q } (startD N__law_is_row dvs) := by
  rintro dvs Q ⟨x, lo, hi, st, rfl, h8, s0, h⟩
  refine ⟨rfl, ?_⟩
  unfold rd__law_is_row
  refine seqG fun R hR => ?_
  cases x with
  | list xs =>
    simp only [ptsB] at h
    walk_at "dl"
    by_cases c1 : lo ≤ (xs.length : Int)
    · by_cases c2 : (xs.length : Int) ≤ hi
      · simp only [c1, c2, decide_true, Bool.true_and, Bool.not_true, Bool.false_eq_true, if_true, if_false] at h ⊢
        refine hR _ (seqG fun R hR => ?_)
        walk_at "dl"
        unfold tLcD
        walk_at "dl"
        refine lc_filter (fun x => !ptB x) (by omega) ?_ fun x hx acc R2 ha h1 h2 => ?_
        · walk_at "dl"
          rw [filt_none]
          by_cases c3 : xs.all ptB = true
          · rw [c3] at h ⊢
            simp only [Bool.true_and] at h
            walk_at "dl"
            refine ⟨by decide, hR _ ?_⟩
            have e := of_pts c3
            have el := il_len (numOf xs)
            rw [← e] at el
            generalize numOf xs = ns at e el h
            subst e
            walk_at "dl"
            unfold tLcD
            walk_at "dl"
            refine ⟨by omega, ?_⟩
            have tr : ∀ a b c : Int, decide (a + st ≤ b) = true → decide (b + st ≤ c) = true → decide (a + st ≤ c) = true := fun a b c h1 h2 => by
              simp only [decide_eq_true_eq] at *
              omega
            refine lc_filter (fun x => !adj0F (fun a b => decide (a + st ≤ b)) ns x) (by rw [rngD_len]; omega) ?_ fun x hx acc R2 ha h1 h2 => ?_
            · walk_at "dl"
              rw [filt_none, rng_len, adj0_all _ tr]
              simp only [decide_eq_true_eq]
              exact ⟨by decide, h⟩
            · rw [rng_len] at hx
              obtain ⟨i, hi, rfl⟩ := mem_rngD hx
              walk_at "dl"
              rw [ixIL (by omega) (by omega)]
              walk_at "dl"
              rw [ixIL (by omega) (by omega)]
              walk_at "dl"
              by_cases c : ns.getD (0 + (i : Int)).toNat 0 + st ≤ ns.getD ((0 + (i : Int)) + 1).toNat 0
              · have c' : ¬ (ns.getD ((0 + (i : Int)) + 1).toNat 0 < ns.getD (0 + (i : Int)).toNat 0 + st) := by omega
                simp only [c', decide_false, Bool.false_eq_true, if_false]
                exact h2 (by show (!decide (ns.getD (0 + (i : Int)).toNat 0 + st ≤ ns.getD ((0 + (i : Int)) + 1).toNat 0)) = false; rw [decide_eq_true c]; rfl)
              · have c' : ns.getD ((0 + (i : Int)) + 1).toNat 0 < ns.getD (0 + (i : Int)).toNat 0 + st := by omega
                simp only [c', decide_true, if_true]
                exact ⟨ha, h1 (by show (!decide (ns.getD (0 + (i : Int)).toNat 0 + st ≤ ns.getD ((0 + (i : Int)) + 1).toNat 0)) = true; rw [decide_eq_false c]; rfl)⟩
          · rw [eq_false_of_ne_true c3] at h ⊢
            walk_at "dl"
            exact ⟨by decide, h⟩
        · walk_at "dl"
          refine ⟨x, rfl, ?_⟩
          cases e : ptB x with
          | true =>
            walk_at "dl"
            exact h2 (by rw [e]; rfl)
          | false =>
            walk_at "dl"
            exact ⟨ha, h1 (by rw [e]; rfl)⟩
      · simp only [c1, c2, decide_true, decide_false, Bool.true_and, Bool.false_and, Bool.not_false, if_true] at h ⊢
        exact h
    · simp only [c1, decide_false, Bool.false_and, Bool.not_false, Bool.false_eq_true, if_true, if_false] at h ⊢
      exact h
  | _ => walk_at "dl"; exact h
section
variable {ts : List Addr} {P : Program} {w : World} {K : PySem.W.Frag} {mg : Str → Option Value} {base : Heap}
theorem ok__law_is_row {f : Addr} {fd : FuncData} (Fn : L2.Fun K "_law_is_row" "_law_is_row" s__law_is_row f fd) {f__law_is_point : Addr} (g__law_is_point : Fg P w K mg base (L2.CX P w) 1 f__law_is_point (Pm K ts sp__law_is_point)) (m__law_is_point : mg "_law_is_point" = some (.ref f__law_is_point)) (p__law_is_point : PySem.W.keepIn K (.ref f__law_is_point) = true) (z_isinstance : mg "isinstance" = none) (z_list : mg "list" = none) (z_len : mg "len" = none) (z_range : mg "range" = none) : Fg P w K mg base (L2.CX P w) 2 f (Pm K ts sp__law_is_row) := d_def Fn sc__law_is_row (fun _ _ _ _ _ _ us hl => match us, hl with | [_, _, _, _], _ => rfl) sp__law_is_row rd__law_is_row (fun cdv A outer s H E wn hcd ht ag hr => by
  have S := sc__law_is_row
  have hu := hr.units
  exact (dss_cons (ds_if (dt_w (dw_or (dt_not (dt_e (d_callB (k_isi (n := "list") (by simp)) (by rfl) z_isinstance (by decide +kernel) (da_cons (d_var 0) (da_cons (d_ty (by rfl) z_list (by decide +kernel)) da_nil))))) (dw_or1 (dt_not (dt_chain o_le o_le (d_var 1) (d_callB k_len (by rfl) z_len (by decide +kernel) (da_cons (d_var 0) da_nil)) (d_var 2)))))) (dss_one (ds_ret d_bl)) dss_nil)
    (dss_cons (ds_if (dt_cmp (o_neN (Nat.lt_of_le_of_lt (Nat.le_add_right _ 64) hu)) (d_lc (own := [("_law_one", 4)]) rfl S.nd (di_list (d_var 0)) (blkOk_by (N := N__law_is_row) (sc := defScope s__law_is_row) (by decide +kernel)) (tgt1 4) (fun _ _ _ _ _ => pg_name (i := 4) S.nd rfl (Or.inl rfl)) (fun _ _ _ _ _ => pts_oneD (dt_not (dt_e (d_use g__law_is_point ht ag (hr.mono (by decide)) passZ (by rfl) m__law_is_point p__law_is_point (da_cons (d_var 4) da_nil))))) (fun _ _ _ _ _ => (d_var 4))) (d_lst da_nil)) (dss_one (ds_ret d_bl)) dss_nil)
    (dss_one (ds_ret (d_cmp (o_eqN (Nat.lt_of_le_of_lt (Nat.le_add_right _ 64) hu)) (d_lc (own := [("_law_k", 5)]) rfl S.nd (di_r1 (by rfl) z_range (da_cons (d_bin o_sub (d_callB k_len (by rfl) z_len (by decide +kernel) (da_cons (d_var 0) da_nil)) d_int) da_nil)) (blkOk_by (N := N__law_is_row) (sc := defScope s__law_is_row) (by decide +kernel)) (tgt1 5) (fun _ _ _ _ _ => pg_name (i := 5) S.nd rfl (Or.inl rfl)) (fun _ _ _ _ _ => pts_oneD (dt_cmp o_gt (d_bin o_add (d_ix (d_var 0) (d_var 5)) (d_var 3)) (d_ix (d_var 0) (d_bin o_add (d_var 5) d_int)))) (fun _ _ _ _ _ => (d_var 5))) (d_lst da_nil))))))) vc__law_is_row
end
/-! _law_due -/
abbrev s__law_due : Stmt := topS 40
abbrev N__law_due : List Str := ["_law_sort", "_law_marks_here", "_law_way", "_law_fewest"]
theorem sc__law_due : FnScope N__law_due ["_law_sort", "_law_marks_here", "_law_way"] (defScope s__law_due) := ⟨rfl, rfl, rfl, by decide +kernel, rfl, by decide +kernel, by decide +kernel⟩
def rd__law_due : DS := (tSeqD (tSetD 3 (tDict2S "scale" "box" (tCD (.int 2)) (tCD (.int 1))))
    (tSeqD (tIfD (tTst (tBin (gEqv not) (tVarD 2) (tCD (.str "any")))) (tRetD (tBin gIx (tLstD (tConsD (tTupD (tConsD (tCD (.str "refused")) (tConsD (tCD (.int 0)) tNilD))) (tConsD (tTupD (tConsD (tCD (.str "told")) tNilD)) tNilD))) (tCallD cInt (tConsD (tUse sp__law_is_row (tConsD (tVarD 1) (tConsD (tGetD (tVarD 3) (tVarD 2)) (tConsD (tCD (.int 8)) (tConsD (tCD (.int 1)) tNilD))))) tNilD)))) (fun d env => d.nx env))
    (tSeqD (tIfD (tOrD (tNotD (tTru (tCallD (cIsi "str") (tConsD (tVarD 0) (tConsD (tRaw (.ty "str")) tNilD))))) (tTst (tBin (gInX not) (tVarD 0) (tTupD (tConsD (tCD (.str "scale")) (tConsD (tCD (.str "box")) tNilD)))))) (tRetD (tTupD (tConsD (tCD (.str "refused")) (tConsD (tCD (.int 0)) tNilD)))) (fun d env => d.nx env))
    (tRetD (tBin gIx (tLstD (tConsD (tTupD (tConsD (tCD (.str "refused")) (tConsD (tCD (.int 1)) tNilD))) (tConsD (tTupD (tConsD (tCD (.str "told")) tNilD)) tNilD))) (tCallD cInt (tConsD (tUse sp__law_is_row (tConsD (tVarD 1) (tConsD (tGetD (tVarD 3) (tVarD 0)) (tConsD (tCD (.int 8)) (tConsD (tCD (.int 1)) tNilD))))) tNilD)))))))
def sp__law_due : DSp := fun us P => ∃ (s x : PyData) (w : Str), us = [.d s, .d x, .d (.str w)] ∧ isOb s = false ∧ Ways w ∧ P (.d (toldR (wrgF s x w)))
theorem vc__law_due : ∀ dvs Q, sp__law_due dvs Q → dvs.length = 3 ∧ rd__law_due { nx := fun _ => Q (.d .none), rt := Q } (startD N__law_due dvs) := by
  rintro dvs Q ⟨s, x, w, rfl, os, hw, h⟩
  refine ⟨rfl, ?_⟩
  unfold rd__law_due
  refine seqG fun R hR => ?_
  walk_at "dl"
  refine hR _ (seqG fun R hR => ?_)
  refine ifG fun P1 P2 hP hN => ?_
  walk_at "dl"
  by_cases c : w = "any"
  · subst c
    rw [if_neg (by decide +kernel)]
    refine hN (hR _ (seqG fun R hR => ?_))
    refine ifG fun P1 P2 hP hN => ?_
    cases s with
    | str z =>
      walk_at "dl"
      refine ⟨by decide, rfl, ["scale", "box"], .inl rfl, ?_⟩
      have es : ((["scale", "box"] : List Str).any fun y => isTx y (.str z)) = sortB (.str z) := by
        simp only [List.any_cons, List.any_nil, Bool.or_false]
        rfl
      rw [es]
      cases e : sortB (.str z) with
      | false =>
        simp only [Bool.not_false, if_true]
        refine hP ?_
        walk_at "dl"
        simp only [wrgF, if_true, e, Bool.false_eq_true, if_false] at h
        exact ⟨by decide, h⟩
      | true =>
        simp only [Bool.not_true, Bool.false_eq_true, if_false]
        refine hN (hR _ ?_)
        obtain ⟨z', ez, hz⟩ := sort_str e
        cases ez
        walk_at "dl"
        refine ⟨by decide, by decide, by decide, _, .inr z, .int (few z : Nat), rfl, rfl, by rcases hz with rfl | rfl <;> rfl, x, (few z : Nat), 8, 1, rfl, by decide, by decide, ?_⟩
        rw [ptsB_marks]
        simp only [wrgF, if_true, e] at h
        cases em : marksB (few z) x with
        | true =>
          simp only [em, if_true] at h
          walk_at "dl"
          exact h
        | false =>
          simp only [em, Bool.false_eq_true, if_false] at h
          walk_at "dl"
          exact h
    | _ => walk_at "dl"; exact hP (by walk_at "dl"; exact ⟨by decide, h⟩)
  · rw [if_pos (by rw [decide_eq_false c]; rfl)]
    refine hP ?_
    have hz : w = "scale" ∨ w = "box" := by
      rcases hw with e | e | e
      · exact .inl e
      · exact .inr e
      · exact absurd e c
    walk_at "dl"
    refine ⟨by decide, by decide, by decide, _, .inr w, .int (few w : Nat), rfl, rfl, by rcases hz with rfl | rfl <;> rfl, x, (few w : Nat), 8, 1, rfl, by decide, by decide, ?_⟩
    rw [ptsB_marks]
    simp only [wrgF, if_neg c] at h
    cases em : marksB (few w) x with
    | true =>
      simp only [em, if_true] at h
      walk_at "dl"
      exact h
    | false =>
      simp only [em, Bool.false_eq_true, if_false] at h
      walk_at "dl"
      exact h
section
variable {ts : List Addr} {P : Program} {w : World} {K : PySem.W.Frag} {mg : Str → Option Value} {base : Heap}
theorem ok__law_due {f : Addr} {fd : FuncData} (Fn : L2.Fun K "_law_due" "_law_due" s__law_due f fd) {f__law_is_row : Addr} (g__law_is_row : Fg P w K mg base (L2.CX P w) 2 f__law_is_row (Pm K ts sp__law_is_row)) (m__law_is_row : mg "_law_is_row" = some (.ref f__law_is_row)) (p__law_is_row : PySem.W.keepIn K (.ref f__law_is_row) = true) (z_int : mg "int" = none) (z_isinstance : mg "isinstance" = none) (z_str : mg "str" = none) : Fg P w K mg base (L2.CX P w) 3 f (Pm K ts sp__law_due) := d_def Fn sc__law_due (fun _ _ _ _ _ _ us hl => match us, hl with | [_, _, _], _ => rfl) sp__law_due rd__law_due (fun cdv A outer s H E wn hcd ht ag hr => by
  have S := sc__law_due
  have hu := hr.units
  exact (dss_cons (ds_set (i := 3) S.nd rfl (by first | exact Or.inl rfl | exact Or.inr rfl) (d_dict2S d_int d_int))
    (dss_cons (ds_if (dt_cmp (o_ne hu) (d_var 2) d_str) (dss_one (ds_ret (d_ix (d_lst (da_cons (d_tup (da_cons d_str (da_cons d_int da_nil))) (da_cons (d_tup (da_cons d_str da_nil)) da_nil))) (d_callTy k_int (by rfl) z_int (by decide +kernel) (da_cons (d_use g__law_is_row ht ag (hr.mono (by decide)) passZ (by rfl) m__law_is_row p__law_is_row (da_cons (d_var 1) (da_cons (d_getD hu (d_var 3) (d_var 2) (fun _ _ => rfl)) (da_cons d_int (da_cons d_int da_nil))))) da_nil))))) dss_nil)
    (dss_cons (ds_if (dt_w (dw_or (dt_not (dt_e (d_callB (k_isi (n := "str") (by simp)) (by rfl) z_isinstance (by decide +kernel) (da_cons (d_var 0) (da_cons (d_ty (by rfl) z_str (by decide +kernel)) da_nil))))) (dw_or1 (dt_cmp (o_ninX (Nat.lt_of_le_of_lt (Nat.add_le_add_left (by decide) _) hu)) (d_var 0) (d_tup (da_cons d_str (da_cons d_str da_nil))))))) (dss_one (ds_ret (d_tup (da_cons d_str (da_cons d_int da_nil))))) dss_nil)
    (dss_one (ds_ret (d_ix (d_lst (da_cons (d_tup (da_cons d_str (da_cons d_int da_nil))) (da_cons (d_tup (da_cons d_str da_nil)) da_nil))) (d_callTy k_int (by rfl) z_int (by decide +kernel) (da_cons (d_use g__law_is_row ht ag (hr.mono (by decide)) passZ (by rfl) m__law_is_row p__law_is_row (da_cons (d_var 1) (da_cons (d_getD hu (d_var 3) (d_var 0) (fun _ _ => rfl)) (da_cons d_int (da_cons d_int da_nil))))) da_nil))))))))) vc__law_due
end
/-! _law_spot -/
abbrev s__law_spot : Stmt := topS 32
abbrev N__law_spot : List Str := ["_law_bag_here", "_law_sort", "_law_marks_here", "_law_many", "_law_found", "_law_k"]
theorem sc__law_spot : FnScope N__law_spot ["_law_bag_here", "_law_sort", "_law_marks_here"] (defScope s__law_spot) := ⟨rfl, rfl, rfl, by decide +kernel, rfl, by decide +kernel, by decide +kernel⟩
def rd__law_spot : DS := (tSeqD (tSetD 3 (tBin gIx (tLstD (tConsD (tCD (.int 1)) (tConsD (tCD (.int 1)) (tConsD (tCD (.int 2)) (tConsD (tCD (.int 6)) tNilD))))) (tUse sp__law_take (tConsD (tVarD 0) (tConsD (tCD (.int 4)) tNilD)))))
    (tSeqD (tSetD 4 (tLstD tNilD))
    (tSeqD (tForD (gnD 5) (itR1 (tConsD (tVarD 3) tNilD)) (tIfD (tOrD (tTst (tBin (gEqv id) (tVarD 1) (tCD (.str "box")))) (tTst (tBin (gEqv id) (tUse sp__law_take (tConsD (tVarD 0) (tConsD (tCD (.int 2)) tNilD))) (tCD (.int 0))))) (tAppD 4 (tBin gIx (tVarD 2) (tUse sp__law_take (tConsD (tVarD 0) (tConsD (tCallD cLen (tConsD (tVarD 2) tNilD)) tNilD))))) (tAppD 4 (tBin gAdd (tBin gIx (tVarD 2) (tCD (.int 0))) (tUse sp__law_take (tConsD (tVarD 0) (tConsD (tBin gAdd (tBin gMinus (tBin gIx (tVarD 2) (tUnD gNeg (tCD (.int 1)))) (tBin gIx (tVarD 2) (tCD (.int 0)))) (tCD (.int 1))) tNilD)))))))
    (tSeqD (tIfD (tTst (tBin (gEqv id) (tVarD 1) (tCD (.str "box")))) (tRetD (tSortSet (tVarD 4))) (fun d env => d.nx env))
    (tRetD (tCallD cSorted (tConsD (tVarD 4) tNilD)))))))
def LfS (ms ps : List Int) : List (Int × Int) := (ms.filter fun m => decide (0 < wS ms ps m)).map fun m => (m, wS ms ps m)
def LfB (ps : List Int) : List (Int × Int) := ps.map fun p => (p, DD)
def SpS (ms ps : List Int) : Prop := SpOk ps ∧ fitS ms ps = true
def SpB (ms ps : List Int) : Prop := SpOk ps ∧ fitB ms ps = true
/-- what there is of the sort z -/
def Kin (z : Str) (ms : List Int) (th : PyData) (Lf : List Int → List (Int × Int)) (Sp : List Int → Prop) : Prop := (z = "scale" ∧ MksOk 2 ms ∧ th = sx ms ∧ Lf = LfS ms ∧ Sp = SpS ms) ∨ (z = "box" ∧ MksOk 1 ms ∧ th = bx ms ∧ Lf = LfB ∧ Sp = SpB ms)
def sp__law_spot : DSp := fun us P => ∃ (z : Str) (ms : List Int) (th : PyData) (Lf : List Int → List (Int × Int)) (Sp : List Int → Prop), us = [.bag, .d (.str z), .d (.list (IL ms))] ∧ Kin z ms th Lf Sp ∧ ∀ ps : List Int, Sp ps → P (.fr (IL ps))
theorem vc__law_spot : ∀ dvs Q, sp__law_spot dvs Q → dvs.length = 3 ∧ rd__law_spot { nx := fun _ => Q (.d .none), rt := Q } (startD N__law_spot dvs) := by
  rintro dvs Q ⟨z, ms, th, Lf, Sp, rfl, kin, h⟩
  refine ⟨rfl, ?_⟩
  have hm : 1 ≤ ms.length ∧ ms.length ≤ 8 ∧ In1000 ms ∧ Rise ms := by
    rcases kin with ⟨_, hm, _⟩ | ⟨_, hm, _⟩
    · exact ⟨by have := hm.1; omega, hm.2⟩
    · exact hm
  obtain ⟨m1, m2, m3, m4⟩ := id hm
  have nm := ne_of_len m1
  have el := il_len ms
  unfold rd__law_spot
  refine seqG fun R hR => ?_
  walk_at "dl"
  refine ⟨by decide, 4, rfl, by decide, by decide, fun r r0 r1 => ?_⟩
  walk_at "dl"
  refine pick r0 r1 fun x hx => ?_
  have mk : ∃ k : Int, x = .int k ∧ 1 ≤ k ∧ k ≤ 6 := by
    simp only [List.mem_cons, List.not_mem_nil, or_false] at hx
    rcases hx with rfl | rfl | rfl | rfl <;> exact ⟨_, rfl, by decide, by decide⟩
  obtain ⟨k, rfl, k0, k1⟩ := mk
  walk_at "dl"
  refine hR _ (seqG fun R hR => ?_)
  walk_at "dl"
  refine ⟨by decide, fun l => hR _ (seqG fun R hR => ?_)⟩
  walk_at "dl"
  refine ⟨⟨by omega, by omega⟩, ?_⟩
  have g0 : ms.getD 0 0 ∈ ms := by rw [← headD nm]; exact List.head_mem nm
  have g1 : ms.getLastD 0 ∈ ms := by rw [← lastD nm]; exact List.getLast_mem nm
  have asc : ms.Pairwise (· ≤ ·) := m4.imp fun h => by omega
  have btw : ∀ m ∈ ms, ms.getD 0 0 ≤ m ∧ m ≤ ms.getLastD 0 := fit_ends2 nm asc
  have b0 := m3 _ g0
  have b1 := m3 _ g1
  have b2 := (btw _ g1).1
  refine forD_ind (fun zs env => ∃ ns s5, env = [.bag, .d (.str z), .d (.list (IL ms)), .d (.int k), .ow l (IL ns), s5] ∧ (∀ n ∈ ns, (ms.getD 0 0 ≤ n ∧ n ≤ ms.getLastD 0) ∧ (z = "box" → n ∈ ms)) ∧ (ns.length : Int) + zs.length = k) (fun env hI => ?_) (fun x zs env R2 hI hR2 => ?_) _ _ ⟨[], _, rfl, (fun _ h => nomatch h), by rw [rngD_len]; simp only [List.length_nil]; omega⟩
  · obtain ⟨ns, s5, rfl, hn, e⟩ := hI
    rw [List.length_nil] at e
    refine hR _ (seqG fun R hR => ?_)
    walk_at "dl"
    rcases kin with ⟨rfl, hm2, rfl, rfl, rfl⟩ | ⟨rfl, hm2, rfl, rfl, rfl⟩
    · rw [show decide (Str.ofString "scale" = Str.ofString "box") = false from by decide +kernel]
      simp only [Bool.false_eq_true, if_false]
      refine hR _ ?_
      walk_at "dl"
      refine ⟨ns, rfl, fun qs p q => ?_⟩
      have ln := p.length_eq
      have hq : ∀ n ∈ qs, ms.getD 0 0 ≤ n ∧ n ≤ ms.getLastD 0 := fun n hn2 => (hn n (p.mem_iff.mp hn2)).1
      exact h _ ⟨⟨by omega, by omega, fun n hn2 => by have := hq n hn2; omega, q⟩, fit_of (ne_of_len (k := 0) (by omega)) hq⟩
    · rw [show decide (Str.ofString "box" = Str.ofString "box") = true from by decide +kernel]
      simp only [if_true]
      refine ⟨ns, rfl, by omega, fun qs q mq => ?_⟩
      have nq : qs.Nodup := rise_nd q
      have lq := nodup_len nq fun x hx => (mq x).mp hx
      have qin : ∀ n ∈ qs, n ∈ ms := fun n hn2 => (hn n ((mq n).mp hn2)).2 rfl
      have q1 : 1 ≤ qs.length := by
        cases ns with
        | nil => simp at e; omega
        | cons a t => exact List.length_pos_of_mem ((mq a).mpr (List.mem_cons_self ..))
      refine h _ ⟨⟨q1, by omega, fun n hn2 => m3 n (qin n hn2), q.imp fun h => by omega⟩, ?_⟩
      unfold fitB
      rw [Bool.and_eq_true, List.all_eq_true]
      exact ⟨fun n hn2 => decide_eq_true (qin n hn2), decide_eq_true q⟩
  · obtain ⟨ns, s5, rfl, hn, e⟩ := hI
    rw [List.length_cons] at e
    have en := il_len ns
    have go : ∀ (n : Int) (s5 : Sl), (ms.getD 0 0 ≤ n ∧ n ≤ ms.getLastD 0) → (z = "box" → n ∈ ms) → R2 [.bag, .d (.str z), .d (.list (IL ms)), .d (.int k), .ow l (IL ns ++ [.int n]), s5] := fun n s5 h1 h2 => by
      rw [il_app]
      exact hR2 _ ⟨_, _, rfl, fun m hm => by
        rcases List.mem_append.mp hm with z | z
        · exact hn m z
        · rw [List.mem_singleton.mp z]; exact ⟨h1, h2⟩, by rw [List.length_append, List.length_singleton]; omega⟩
    have small : ∀ {r : Int}, 0 < r → r ≤ 1001 → r.natAbs.log2 < 9000 := fun h0 h1 => log_le (show _ < 2 ^ 20 by omega) (by decide) (by decide)
    have mark : ∀ (s5 : Sl), (IL ns).length < 100000 ∧ sp__law_take [DV.bag, DV.d (PyData.int (((IL ms).length : Nat) : Int))] fun r => rd r fun y => gIx (PyData.list (IL ms)) y fun dv => match frz dv with
        | DV.d x_1 => R2 [.bag, .d (.str z), .d (.list (IL ms)), .d (.int k), .ow l (IL ns ++ [x_1]), s5]
        | _ => False := fun s5 => by
      refine ⟨by omega, (IL ms).length, rfl, by omega, small (by omega) (by omega), fun j j0 j1 => ?_⟩
      simp only [rd]
      refine pick j0 j1 fun y hy => ?_
      obtain ⟨n, hn2, rfl⟩ := List.mem_map.mp hy
      exact go _ _ (btw n hn2) fun _ => hn2
    walk_at "dl"
    by_cases zb : z = "box"
    · have zb2 : decide (z = Str.ofString "box") = true := decide_eq_true zb
      rw [zb2, if_pos rfl]
      exact mark _
    · have zb2 : decide (z = Str.ofString "box") = false := decide_eq_false zb
      rw [zb2]
      simp only [Bool.false_eq_true, if_false]
      refine ⟨2, rfl, by decide, by decide, fun r r0 r1 => ?_⟩
      walk_at "dl"
      by_cases c : r = 0
      · simp only [c, decide_true, if_true]
        exact mark _
      · simp only [c, decide_false, Bool.false_eq_true, if_false]
        refine ⟨by omega, ?_⟩
        rw [ixIL (by decide) (by omega)]
        walk_at "dl"
        rw [ixNL nm]
        walk_at "dl"
        rw [ixIL (by decide) (by omega)]
        walk_at "dl"
        rw [lastD]
        refine ⟨_, rfl, ?_, ?_, fun j j0 j1 => ?_⟩
        · show 0 < ms.getLastD 0 - ms.getD 0 0 + 1
          omega
        · exact small (show 0 < ms.getLastD 0 - ms.getD 0 0 + 1 by omega) (show ms.getLastD 0 - ms.getD 0 0 + 1 ≤ 1001 by omega)
        · walk_at "dl"
          have j1 : j < ms.getLastD 0 - ms.getD 0 0 + 1 := j1
          exact go _ _ ⟨show ms.getD 0 0 ≤ ms.getD 0 0 + j by omega, show ms.getD 0 0 + j ≤ ms.getLastD 0 by omega⟩ fun z => absurd z zb
section
variable {ts : List Addr} {P : Program} {w : World} {K : PySem.W.Frag} {mg : Str → Option Value} {base : Heap}
theorem ok__law_spot {f : Addr} {fd : FuncData} (Fn : L2.Fun K "_law_spot" "_law_spot" s__law_spot f fd) {f__law_take : Addr} (g__law_take : Fg P w K mg base (L2.CX P w) 1 f__law_take (Pm K ts sp__law_take)) (m__law_take : mg "_law_take" = some (.ref f__law_take)) (p__law_take : PySem.W.keepIn K (.ref f__law_take) = true) (z_range : mg "range" = none) (z_len : mg "len" = none) (z_sorted : mg "sorted" = none) (z_set : mg "set" = none) : Fg P w K mg base (L2.CX P w) 2 f (Pm K ts sp__law_spot) := d_def Fn sc__law_spot (fun _ _ _ _ _ _ us hl => match us, hl with | [_, _, _], _ => rfl) sp__law_spot rd__law_spot (fun cdv A outer s H E wn hcd ht ag hr => by
  have S := sc__law_spot
  have hu := hr.units
  exact (dss_cons (ds_set (i := 3) S.nd rfl (by first | exact Or.inl rfl | exact Or.inr rfl) (d_ix (d_lst (da_cons d_int (da_cons d_int (da_cons d_int (da_cons d_int da_nil))))) (d_use g__law_take ht ag (hr.mono (by decide)) passZ (by rfl) m__law_take p__law_take (da_cons (d_var 0) (da_cons d_int da_nil)))))
    (dss_cons (ds_set (i := 4) S.nd rfl (by first | exact Or.inl rfl | exact Or.inr rfl) (d_lst da_nil))
    (dss_cons (ds_for PassesOwn.never rfl (di_r1 (by rfl) z_range (da_cons (d_var 3) da_nil)) (dg_name (i := 5) S.nd rfl (by first | exact Or.inl rfl | exact Or.inr rfl)) (dss_one (ds_if (dt_w (dw_or (dt_cmp (o_eq hu) (d_var 1) d_str) (dw_or1 (dt_cmp (o_eq hu) (d_use g__law_take ht ag (hr.mono (by decide)) passZ (by rfl) m__law_take p__law_take (da_cons (d_var 0) (da_cons d_int da_nil))) d_int)))) (dss_one (ds_app (i := 4) (pe_bm PySem.F.plainAttrs_list PySem.F.slot_list_append PySem.F.type_list_append mt_append (pv 4) (pa_cons (d_ix (d_var 2) (d_use g__law_take ht ag (hr.mono (by decide)) passZ (by rfl) m__law_take p__law_take (da_cons (d_var 0) (da_cons (d_callB k_len (by rfl) z_len (by decide +kernel) (da_cons (d_var 2) da_nil)) da_nil)))) pa_nil)))) (dss_one (ds_app (i := 4) (pe_bm PySem.F.plainAttrs_list PySem.F.slot_list_append PySem.F.type_list_append mt_append (pv 4) (pa_cons (d_bin o_add (d_ix (d_var 2) d_int) (d_use g__law_take ht ag (hr.mono (by decide)) passZ (by rfl) m__law_take p__law_take (da_cons (d_var 0) (da_cons (d_bin o_add (d_bin o_sub (d_ix (d_var 2) (d_neg d_int)) (d_ix (d_var 2) d_int)) d_int) da_nil)))) pa_nil)))))))
    (dss_cons (ds_if (dt_cmp (o_eq hu) (d_var 1) d_str) (dss_one (ds_ret (d_sortSet rfl (by rfl) z_sorted (by rfl) z_set (d_var 4)))) dss_nil)
    (dss_one (ds_ret (d_callB k_sorted (by rfl) z_sorted (by decide +kernel) (da_cons (d_var 4) da_nil))))))))) vc__law_spot
end
/-! is_spot -/
abbrev s_is_spot : Stmt := topS 11
abbrev N_is_spot : List Str := ["thing", "point", "at"]
theorem sc_is_spot : FnScope N_is_spot ["thing"] (defScope s_is_spot) := ⟨rfl, rfl, rfl, by decide +kernel, rfl, by decide +kernel, by decide +kernel⟩
def rd_is_spot : DS := (tSeqD (tIfD (tOrD (tNotD (tTru (tCallD (cIsi "list") (tConsD (tVarD 0) (tConsD (tRaw (.ty "list")) tNilD))))) (tNotD (tTst (tChD (gIn (fun i j => decide (i ≤ j)) fun i j => !decide (j.cps.toList < i.cps.toList)) (gIn (fun i j => decide (i ≤ j)) fun i j => !decide (j.cps.toList < i.cps.toList)) (tCD (.int 1)) (tCallD cLen (tConsD (tVarD 0) tNilD)) (tCD (.int 6)))))) (tRetD (tCD (.bool false))) (fun d env => d.nx env))
    (tSeqD (tIfD (tNotD (tTru (tAll1 (itLst (tVarD 0)) (tUse sp_is_point (tConsD (tVarD 0) tNilD)) []))) (tRetD (tCD (.bool false))) (fun d env => d.nx env))
    (tRetD (tAll1 (itR2 (tConsD (tCD (.int 1)) (tConsD (tCallD cLen (tConsD (tVarD 0) tNilD)) tNilD))) (tBin (gIn (fun i j => decide (i ≤ j)) fun i j => !decide (j.cps.toList < i.cps.toList)) (tBin gIx (tVarD 1) (tBin gMinus (tVarD 0) (tCD (.int 1)))) (tBin gIx (tVarD 1) (tVarD 0))) [0]))))
def sp_is_spot : DSp := fun us P => ∃ x, us = [.d x] ∧ P (.d (.bool (spotB x)))
theorem vc_is_spot : ∀ dvs Q, sp_is_spot dvs Q → dvs.length = 1 ∧ rd_is_spot { nx := fun _ => Q (.d .none), rt := Q } (startD N_is_spot dvs) := by
  rintro dvs Q ⟨x, rfl, h⟩
  refine ⟨rfl, ?_⟩
  unfold rd_is_spot
  refine seqG fun R hR => ?_
  cases x with
  | list xs =>
    simp only [spotB] at h
    walk_at "dl"
    by_cases c1 : 1 ≤ xs.length
    · have c1' : (1 : Int) ≤ (xs.length : Int) := by omega
      by_cases c2 : xs.length ≤ 6
      · have c2' : (xs.length : Int) ≤ 6 := by omega
        simp only [c1, c1', c2, c2', decide_true, Bool.true_and, Bool.not_true, Bool.false_eq_true, if_true, if_false] at h ⊢
        refine hR _ (seqG fun R hR => ?_)
        walk_at "dl"
        refine ⟨ptB, fun y hy => ⟨y, rfl, rfl⟩, ?_⟩
        · by_cases c3 : xs.all ptB = true
          · rw [c3] at h ⊢
            simp only [Bool.true_and] at h
            walk_at "dl"
            refine hR _ ?_
            have e := of_pts c3
            have el := il_len (numOf xs)
            rw [← e] at el
            generalize numOf xs = ns at e el h
            subst e
            walk_at "dl"
            refine ⟨⟨by decide, by decide, by omega, by omega⟩, adjF (fun a b => decide (a ≤ b)) ns, fun x hx => ?_, ?_⟩
            · rw [rng_len] at hx
              obtain ⟨i, hi, rfl⟩ := mem_rngD hx
              walk_at "dl"
              rw [ixIL (by omega) (by omega)]
              walk_at "dl"
              rw [ixIL (by omega) (by omega)]
              rfl
            · rw [rng_len, asc_all]
              exact h
          · rw [eq_false_of_ne_true c3] at h ⊢
            walk_at "dl"
            exact h
      · have c2' : ¬ (xs.length : Int) ≤ 6 := by omega
        simp only [c1, c1', c2, c2', decide_true, decide_false, Bool.true_and, Bool.false_and, Bool.not_false, if_true] at h ⊢
        exact h
    · have c1' : ¬ (1 : Int) ≤ (xs.length : Int) := by omega
      simp only [c1, c1', decide_false, Bool.false_and, Bool.not_false, Bool.false_eq_true, if_true, if_false] at h ⊢
      exact h
  | _ => walk_at "dl"; exact h
section
variable {ts : List Addr} {P : Program} {w : World} {K : PySem.W.Frag} {mg : Str → Option Value} {base : Heap}
theorem ok_is_spot {f : Addr} {fd : FuncData} (Fn : L2.Fun K "is_spot" "is_spot" s_is_spot f fd) {f_is_point : Addr} (g_is_point : Fg P w K mg base (L2.CX P w) 2 f_is_point (Pm K ts sp_is_point)) (m_is_point : mg "is_point" = some (.ref f_is_point)) (p_is_point : PySem.W.keepIn K (.ref f_is_point) = true) (z_isinstance : mg "isinstance" = none) (z_list : mg "list" = none) (z_len : mg "len" = none) (z_all : mg "all" = none) (z_range : mg "range" = none) {t_LONGEST_SPOT : Tok} (c_LONGEST_SPOT : mg "LONGEST_SPOT" = some (.int 6 t_LONGEST_SPOT)) {e_is_spot P_is_spot : Addr} (tb_is_spot : GxR.TabB base mg e_is_spot P_is_spot) (fc_is_spot : fd.code = .ref e_is_spot) (ti_is_spot : P_is_spot ∈ ts) : Fg P w K mg base (L2.CX P w) 4 f (Pm K ts sp_is_spot) := d_def Fn sc_is_spot (fun _ _ _ _ _ _ us hl => match us, hl with | [_], _ => rfl) sp_is_spot rd_is_spot (fun cdv A outer s H E wn hcd ht ag hr => by
  have S := sc_is_spot
  have hu := hr.units
  exact (dss_cons (ds_if (dt_w (dw_or (dt_not (dt_e (d_callB (k_isi (n := "list") (by simp)) (by rfl) z_isinstance (by decide +kernel) (da_cons (d_var 0) (da_cons (d_ty (by rfl) z_list (by decide +kernel)) da_nil))))) (dw_or1 (dt_not (dt_chain o_le o_le d_int (d_callB k_len (by rfl) z_len (by decide +kernel) (da_cons (d_var 0) da_nil)) (d_globI (by rfl) c_LONGEST_SPOT)))))) (dss_one (ds_ret d_bl)) dss_nil)
    (dss_cons (ds_if (dt_not (dt_e (d_all1 (N := ["point"]) (caps := []) ht hr (by rfl) z_all tb_is_spot (hcd.symm.trans fc_is_spot) ti_is_spot rfl rfl (by decide +kernel) (by rfl) (hfree0 (by decide +kernel)) (by show capOk ["point"] N_is_spot 1 [] _ (defScope s_is_spot) = true; decide +kernel) (by decide) rfl (by rfl) (di_list (d_var 0)) (by intro _; rfl) (fun _ _ _ _ _ _ hA wn ht => by
      have ag := Eq.mpr (congrArg (fun a => Around.guards a = some []) hA) (loop_guards ag)
      have hr := Eq.mpr (congrArg (Room _) hA) (loop_room hr)
      have hu := hr.units
      exact (d_use g_is_point ht ag (hr.mono (by decide)) passZ (by rfl) m_is_point p_is_point (da_cons (d_var 0) da_nil)))))) (dss_one (ds_ret d_bl)) dss_nil)
    (dss_one (ds_ret (d_all1 (N := ["at", "thing"]) (caps := [0]) ht hr (by rfl) z_all tb_is_spot (hcd.symm.trans fc_is_spot) ti_is_spot rfl rfl (by decide +kernel) (by rfl) (hfreeC (so := defScope s_is_spot) (by decide +kernel)) (by show capOk ["at", "thing"] N_is_spot 1 [0] _ (defScope s_is_spot) = true; decide +kernel) (by decide) rfl (by rfl) (di_r2 (by rfl) z_range (da_cons d_int (da_cons (d_callB k_len (by rfl) z_len (by decide +kernel) (da_cons (d_var 0) da_nil)) da_nil))) (by intro _; rfl) (fun _ _ _ _ _ _ hA wn ht => by
      have ag := Eq.mpr (congrArg (fun a => Around.guards a = some []) hA) (loop_guards ag)
      have hr := Eq.mpr (congrArg (Room _) hA) (loop_room hr)
      have hu := hr.units
      exact (d_cmp o_le (d_ix (d_var 1) (d_bin o_sub (d_var 0) d_int)) (d_ix (d_var 1) (d_var 0)))))))))) vc_is_spot
end
/-! Scale.fits -/
abbrev s_Scale_fits : Stmt := inS (topS 19) 2
abbrev N_Scale_fits : List Str := ["self", "spot"]
theorem sc_Scale_fits : FnScope N_Scale_fits ["self", "spot"] (defScope s_Scale_fits) := ⟨rfl, rfl, rfl, by decide +kernel, rfl, by decide +kernel, by decide +kernel⟩
def rd_Scale_fits (R : List Sl → XD) : DS := (tSeqD (tDropD (tUseX sp_require R (tConsD (tUse sp_is_spot (tConsD (tVarD 1) tNilD)) tNilD)))
    (tRetD (tAnV (tBin (gIn (fun i j => decide (i ≤ j)) fun i j => !decide (j.cps.toList < i.cps.toList)) (tBin gIx (tFldD ["Scale"] "_marks" (tVarD 0)) (tCD (.int 0))) (tBin gIx (tVarD 1) (tCD (.int 0)))) (tBin (gIn (fun i j => decide (i ≤ j)) fun i j => !decide (j.cps.toList < i.cps.toList)) (tBin gIx (tVarD 1) (tUnD gNeg (tCD (.int 1)))) (tBin gIx (tFldD ["Scale"] "_marks" (tVarD 0)) (tUnD gNeg (tCD (.int 1))))))))
def sp_Scale_fits : DSpX := fun us P R => ∃ (ms : List Int) (x : PyData), us = [.d (sx ms), .d x] ∧ MksOk 2 ms ∧ ((∃ ps, x = .list (IL ps) ∧ SpOk ps ∧ P (.d (.bool (fitS ms ps)))) ∨ (spotB x = false ∧ R "Wrong" "at" (.int 0)))
theorem vc_Scale_fits : ∀ dvs Q R, sp_Scale_fits dvs Q R → dvs.length = 2 ∧ rd_Scale_fits (fun _ => R) { nx := fun _ => Q (.d .none), rt := Q } (startD N_Scale_fits dvs) := by
  rintro dvs Q R ⟨ms, x, rfl, hm, h⟩
  refine ⟨rfl, ?_⟩
  unfold rd_Scale_fits
  refine seqG fun R hR => ?_
  walk_at "dl"
  refine ⟨x, rfl, ?_⟩
  walk_at "dl"
  refine ⟨[spotB x], rfl, by simp, ?_⟩
  rcases h with ⟨ps, rfl, hp, h⟩ | ⟨e, q⟩
  · obtain ⟨m1, m2, m3, m4⟩ := id hm
    obtain ⟨p1, p2, p3, p4⟩ := id hp
    have nm := ne_of_len m1
    have np := ne_of_len p1
    rw [spot_ok hp]
    refine hR _ ?_
    walk_at "dl"
    refine ⟨"Scale", _, _, rfl, List.mem_singleton.mpr rfl, rfl, ?_⟩
    rw [ixIT (by decide) (by omega)]
    walk_at "dl"
    rw [ixIL (by decide) (by omega)]
    walk_at "dl"
    unfold fitS at h
    by_cases c : ms.getD 0 0 ≤ ps.getD 0 0
    · rw [decide_eq_true c, Bool.true_and] at h
      have c : ms.getD (Int.toNat 0) 0 ≤ ps.getD (Int.toNat 0) 0 := c
      simp only [c, decide_true, if_true]
      rw [ixNL np]
      walk_at "dl"
      refine ⟨"Scale", _, _, rfl, List.mem_singleton.mpr rfl, rfl, ?_⟩
      rw [ixNT nm]
      walk_at "dl"
      rw [lastD, lastD]
      exact h
    · rw [decide_eq_false c, Bool.false_and] at h
      have c : ¬ ms.getD (Int.toNat 0) 0 ≤ ps.getD (Int.toNat 0) 0 := c
      simp only [c, decide_false, Bool.false_eq_true, if_false]
      exact h
  · rw [e]
    exact q
section
variable {ts : List Addr} {P : Program} {w : World} {K : PySem.W.Frag} {mg : Str → Option Value} {base : Heap}
theorem ok_Scale_fits {f : Addr} {fd : FuncData} (Fn : L2.Fun K "fits" "Scale.fits" s_Scale_fits f fd) {C_Scale : Addr} (m_Scale : mg "Scale" = some (.ref C_Scale)) (ob_Scale : ObC K "Scale" C_Scale) (na_Scale__marks : NoAttr K C_Scale "_marks") {f_require : Addr} (g_require : Fg P w K mg base (L2.CX P w) 3 f_require (PmX mg K ts sp_require)) (m_require : mg "require" = some (.ref f_require)) (p_require : PySem.W.keepIn K (.ref f_require) = true) {f_is_spot : Addr} (g_is_spot : Fg P w K mg base (L2.CX P w) 4 f_is_spot (Pm K ts sp_is_spot)) (m_is_spot : mg "is_spot" = some (.ref f_is_spot)) (p_is_spot : PySem.W.keepIn K (.ref f_is_spot) = true) : Fg P w K mg base (L2.CX P w) 5 f (PmX mg K ts sp_Scale_fits) := d_defX Fn sc_Scale_fits (fun _ _ _ _ _ _ us hl => match us, hl with | [_, _], _ => rfl) sp_Scale_fits (fun R => rd_Scale_fits fun _ => R) (fun cdv A outer s H E R wn hcd ht hE ag hr tk => by
  have S := sc_Scale_fits
  have hu := hr.units
  have hE := XEnd.at hE
  exact (dss_cons (ds_expr (d_useX g_require ht ag (hr.mono (by decide)) (fun σ => passAt tk σ) hE (by rfl) m_require p_require (da_cons (d_use g_is_spot ht ag (hr.mono (by decide)) passZ (by rfl) m_is_spot p_is_spot (da_cons (d_var 1) da_nil)) da_nil)))
    (dss_one (ds_ret (d_and (d_cmp o_le (d_ix (d_fld (na1 ob_Scale na_Scale__marks) (d_var 0)) d_int) (d_ix (d_var 1) d_int)) (d_one (d_cmp o_le (d_ix (d_var 1) (d_neg d_int)) (d_ix (d_fld (na1 ob_Scale na_Scale__marks) (d_var 0)) (d_neg d_int))))))))) vc_Scale_fits
end
/-! in_lowest_terms -/
abbrev s_in_lowest_terms : Stmt := topS 13
abbrev N_in_lowest_terms : List Str := ["top", "bottom", "common"]
theorem sc_in_lowest_terms : FnScope N_in_lowest_terms ["top", "bottom"] (defScope s_in_lowest_terms) := ⟨rfl, rfl, rfl, by decide +kernel, rfl, by decide +kernel, by decide +kernel⟩
def rd_in_lowest_terms : DS := (tSeqD (tSetD 2 (tCallD cGcd (tConsD (tVarD 0) (tConsD (tVarD 1) tNilD))))
    (tSeqD (tIfD (tTst (tBin gLt (tVarD 1) (tCD (.int 0)))) (tSetD 2 (tUnD gNeg (tVarD 2))) (fun d env => d.nx env))
    (tRetD (tTupD (tConsD (tBin gFdiv (tVarD 0) (tVarD 2)) (tConsD (tBin gFdiv (tVarD 1) (tVarD 2)) tNilD))))))
def sp_in_lowest_terms : DSp := fun us P => ∃ t b : Int, us = [.d (.int t), .d (.int b)] ∧ b ≠ 0 ∧ b.natAbs.log2 < 9000 ∧ P (.d (.tuple [.int (loT t b), .int (loB t b)]))
theorem vc_in_lowest_terms : ∀ dvs Q, sp_in_lowest_terms dvs Q → dvs.length = 2 ∧ rd_in_lowest_terms { nx := fun _ => Q (.d .none), rt := Q } (startD N_in_lowest_terms dvs) := by
  rintro dvs Q ⟨t, b, rfl, hb, hs, h⟩
  refine ⟨rfl, ?_⟩
  have hp : 0 < Int.gcd t b := gcd_pos hb
  have hl : (Int.gcd t b).log2 < 9000 := log_lt (by decide) (Nat.lt_of_le_of_lt (gcd_le hb) (lt_two hs))
  have d1 : ((Int.gcd t b : Nat) : Int) ∣ t := Int.gcd_dvd_left _ _
  have d2 : ((Int.gcd t b : Nat) : Int) ∣ b := Int.gcd_dvd_right _ _
  have eg : t.natAbs.gcd b.natAbs = Int.gcd t b := rfl
  unfold rd_in_lowest_terms
  by_cases hn : b < 0
  · walk_at "dl"
    simp only [eg, hn, decide_true, if_true]
    refine ⟨by omega, by rw [Int.natAbs_neg, Int.natAbs_natCast]; exact hl, by omega, by rw [Int.natAbs_neg, Int.natAbs_natCast]; exact hl, by decide, ?_⟩
    rw [Int.fdiv_eq_ediv_of_dvd (Int.neg_dvd.mpr d1), Int.fdiv_eq_ediv_of_dvd (Int.neg_dvd.mpr d2), Int.ediv_neg, Int.ediv_neg]
    rw [loT, loB, if_pos hn, if_pos hn] at h
    exact h
  · walk_at "dl"
    simp only [eg, hn, decide_false, Bool.false_eq_true, if_false]
    refine ⟨by omega, by rw [Int.natAbs_natCast]; exact hl, by omega, by rw [Int.natAbs_natCast]; exact hl, by decide, ?_⟩
    rw [Int.fdiv_eq_ediv_of_dvd d1, Int.fdiv_eq_ediv_of_dvd d2]
    rw [loT, loB, if_neg hn, if_neg hn] at h
    exact h
section
variable {ts : List Addr} {P : Program} {w : World} {K : PySem.W.Frag} {mg : Str → Option Value} {base : Heap}
theorem ok_in_lowest_terms {f : Addr} {fd : FuncData} (Fn : L2.Fun K "in_lowest_terms" "in_lowest_terms" s_in_lowest_terms f fd) (i_gcd : mg "gcd" = some (.builtin "math.gcd")) : Fg P w K mg base (L2.CX P w) 1 f (Pm K ts sp_in_lowest_terms) := d_def Fn sc_in_lowest_terms (fun _ _ _ _ _ _ us hl => match us, hl with | [_, _], _ => rfl) sp_in_lowest_terms rd_in_lowest_terms (fun cdv A outer s H E wn hcd ht ag hr => by
  have S := sc_in_lowest_terms
  have hu := hr.units
  exact (dss_cons (ds_set (i := 2) S.nd rfl (by first | exact Or.inl rfl | exact Or.inr rfl) (d_callM k_gcd (by rfl) i_gcd (da_cons (d_var 0) (da_cons (d_var 1) da_nil))))
    (dss_cons (ds_if (dt_cmp o_lt (d_var 1) d_int) (dss_one (ds_set (i := 2) S.nd rfl (by first | exact Or.inl rfl | exact Or.inr rfl) (d_neg (d_var 2)))) dss_nil)
    (dss_one (ds_ret (d_tup (da_cons (d_bin o_fdiv (d_var 0) (d_var 2)) (da_cons (d_bin o_fdiv (d_var 1) (d_var 2)) da_nil)))))))) vc_in_lowest_terms
end
/-! shares -/
abbrev s_shares : Stmt := topS 25
abbrev N_shares : List Str := ["marks", "point", "above", "mark", "below", "gap"]
theorem sc_shares : FnScope N_shares ["marks", "point"] (defScope s_shares) := ⟨rfl, rfl, rfl, by decide +kernel, rfl, by decide +kernel, by decide +kernel⟩
def rd_shares : DS := (tSeqD (tIfD (tTst (tBin gMem (tVarD 1) (tVarD 0))) (tRetD (tLstD (tConsD (tTupD (tConsD (tVarD 1) (tConsD (tCD (.tuple [(.int 1), (.int 1)])) tNilD))) tNilD))) (fun d env => d.nx env))
    (tSeqD (tSetD 2 (tCallD (cMinL fun m y => m ≤ y) (tConsD (tLcD (itTup (tVarD 0)) (gnD 3) (tTst (tBin (gIn (fun i j => decide (j < i)) fun i j => decide (j.cps.toList < i.cps.toList)) (tVarD 3) (tVarD 1))) (tVarD 3) [3]) tNilD)))
    (tSeqD (tSetD 4 (tCallD (cMinL fun m y => y ≤ m) (tConsD (tLcD (itTup (tVarD 0)) (gnD 3) (tTst (tBin gLt (tVarD 3) (tVarD 1))) (tVarD 3) [3]) tNilD)))
    (tSeqD (tSetD 5 (tBin gMinus (tVarD 2) (tVarD 4)))
    (tRetD (tLstD (tConsD (tTupD (tConsD (tVarD 4) (tConsD (tUse sp_in_lowest_terms (tConsD (tBin gMinus (tVarD 2) (tVarD 1)) (tConsD (tVarD 5) tNilD))) tNilD))) (tConsD (tTupD (tConsD (tVarD 2) (tConsD (tUse sp_in_lowest_terms (tConsD (tBin gMinus (tVarD 1) (tVarD 4)) (tConsD (tVarD 5) tNilD))) tNilD))) tNilD))))))))
def sp_shares : DSp := fun us P => ∃ (ms : List Int) (p : Int), us = [.d (.tuple (IL ms)), .d (.int p)] ∧ MksOk 2 ms ∧ ms.getD 0 0 ≤ p ∧ p ≤ ms.getLastD 0 ∧ P (.fr (shD ms p))
theorem vc_shares : ∀ dvs Q, sp_shares dvs Q → dvs.length = 2 ∧ rd_shares { nx := fun _ => Q (.d .none), rt := Q } (startD N_shares dvs) := by
  rintro dvs Q ⟨ms, p, rfl, hm, h1, h2, h⟩
  refine ⟨rfl, ?_⟩
  obtain ⟨m1, m2, m3, m4⟩ := id hm
  have ne := ne_of_len m1
  have el := il_len ms
  unfold rd_shares
  refine seqG fun R hR => ?_
  walk_at "dl"
  refine mem_it (f := id) ?_
  walk_at "dl"
  by_cases hp : p ∈ ms
  · simp only [hp, decide_true, if_true]
    refine ⟨by decide, by decide, ?_⟩
    unfold shD at h
    rw [sh_in m4 hp] at h
    simp only [List.map_cons, List.map_nil, fr_one] at h
    exact h
  · simp only [hp, decide_false, Bool.false_eq_true, if_false]
    rcases sh_where ne m4 (by rw [headD]; exact h1) (by rw [lastD]; exact h2) with q | ⟨i, hi, q1, q2⟩
    · exact absurd q hp
    obtain ⟨k1, k2, k3⟩ := near m4 hi q1 q2
    obtain ⟨g1, g2⟩ := gap_of m4 m3 hi
    refine hR _ (seqG fun R hR => ?_)
    walk_at "dl"
    have ea : ms[i + 1] ∈ ms := List.getElem_mem _
    have eb : ms[i] ∈ ms := List.getElem_mem _
    have ef : ∀ f : Int → Bool, (IL ms).filter (onI f) = IL (ms.filter f) := fun f => by rw [List.filter_map]; rfl
    refine lc_filter (onI fun m => decide (p < m)) (by omega) ?_ fun x hx acc R2 ha r1 r2 => ?_
    · rw [ef]
      walk_at "dl"
      refine ⟨ms.filter fun m => decide (p < m), rfl, List.length_pos_of_mem (List.mem_filter.mpr ⟨ea, decide_eq_true q2⟩), fun m hm hl => ?_⟩
      have hm1 := List.mem_filter.mp hm
      have em : m = ms[i + 1] := by
        have a := hl _ (List.mem_filter.mpr ⟨ea, decide_eq_true q2⟩)
        have b := k3 m hm1.1 (of_decide_eq_true hm1.2)
        omega
      subst em
      refine hR _ (seqG fun R hR => ?_)
      walk_at "dl"
      refine lc_filter (onI fun m => decide (m < p)) (by omega) ?_ fun x hx acc R2 ha r1 r2 => ?_
      · rw [ef]
        walk_at "dl"
        refine ⟨ms.filter fun m => decide (m < p), rfl, List.length_pos_of_mem (List.mem_filter.mpr ⟨eb, decide_eq_true q1⟩), fun m hm hl => ?_⟩
        have hm1 := List.mem_filter.mp hm
        have em : m = ms[i] := by
          have a := hl _ (List.mem_filter.mpr ⟨eb, decide_eq_true q1⟩)
          have b := k2 m hm1.1 (of_decide_eq_true hm1.2)
          omega
        subst em
        refine hR _ (seqG fun R hR => ?_)
        walk_at "dl"
        refine hR _ ?_
        walk_at "dl"
        have gn : ms[i + 1] - ms[i] ≠ 0 := by omega
        have gl : (ms[i + 1] - ms[i]).natAbs.log2 < 9000 := log_le (show (ms[i + 1] - ms[i]).natAbs < 2 ^ 20 by omega) (by decide) (by decide)
        refine ⟨_, _, rfl, gn, gl, ?_⟩
        walk_at "dl"
        refine ⟨by decide, _, _, rfl, gn, gl, ?_⟩
        walk_at "dl"
        refine ⟨by decide, by decide, ?_⟩
        obtain ⟨f1, e1⟩ := lo_ok (t := ms[i + 1] - p) gn
        obtain ⟨f2, e2⟩ := lo_ok (t := p - ms[i]) gn
        unfold shD at h
        rw [sh_near m4 hi q1 q2] at h
        simp only [List.map_cons, List.map_nil] at h
        rw [frD (dd_part g1 g2 f1 e1), frD (dd_part g1 g2 f2 e2)]
        exact h
      · obtain ⟨m, hm, rfl⟩ := List.mem_map.mp hx
        walk_at "dl"
        by_cases c : m < p
        · simp only [c, decide_true, if_true]
          exact ⟨ha, r1 (decide_eq_true c)⟩
        · simp only [c, decide_false, Bool.false_eq_true, if_false]
          exact r2 (decide_eq_false c)
    · obtain ⟨m, hm, rfl⟩ := List.mem_map.mp hx
      walk_at "dl"
      by_cases c : p < m
      · simp only [c, decide_true, if_true]
        exact ⟨ha, r1 (decide_eq_true c)⟩
      · simp only [c, decide_false, Bool.false_eq_true, if_false]
        exact r2 (decide_eq_false c)
section
variable {ts : List Addr} {P : Program} {w : World} {K : PySem.W.Frag} {mg : Str → Option Value} {base : Heap}
theorem ok_shares {f : Addr} {fd : FuncData} (Fn : L2.Fun K "shares" "shares" s_shares f fd) {f_in_lowest_terms : Addr} (g_in_lowest_terms : Fg P w K mg base (L2.CX P w) 1 f_in_lowest_terms (Pm K ts sp_in_lowest_terms)) (m_in_lowest_terms : mg "in_lowest_terms" = some (.ref f_in_lowest_terms)) (p_in_lowest_terms : PySem.W.keepIn K (.ref f_in_lowest_terms) = true) (z_min : mg "min" = none) (z_max : mg "max" = none) {u_WHOLE : Value} {v_WHOLE : V} (c_WHOLE : mg "WHOLE" = some u_WHOLE) (r_WHOLE : RelV v_WHOLE u_WHOLE) (e_WHOLE : ∀ F, Rp K F v_WHOLE (.tuple [(.int 1), (.int 1)])) : Fg P w K mg base (L2.CX P w) 2 f (Pm K ts sp_shares) := d_def Fn sc_shares (fun _ _ _ _ _ _ us hl => match us, hl with | [_, _], _ => rfl) sp_shares rd_shares (fun cdv A outer s H E wn hcd ht ag hr => by
  have S := sc_shares
  have hu := hr.units
  exact (dss_cons (ds_if (dt_cmp o_in (d_var 1) (d_var 0)) (dss_one (ds_ret (d_lst (da_cons (d_tup (da_cons (d_var 1) (da_cons (d_globC (by rfl) c_WHOLE r_WHOLE e_WHOLE) da_nil))) da_nil)))) dss_nil)
    (dss_cons (ds_set (i := 2) S.nd rfl (by first | exact Or.inl rfl | exact Or.inr rfl) (d_callB (k_minL rfl) (by rfl) z_min (by decide +kernel) (da_cons (d_lc (own := [("mark", 3)]) rfl S.nd (di_tup (d_var 0)) (blkOk_by (N := N_shares) (sc := defScope s_shares) (by decide +kernel)) (tgt1 3) (fun _ _ _ _ _ => pg_name (i := 3) S.nd rfl (Or.inl rfl)) (fun _ _ _ _ _ => pts_oneD (dt_cmp o_gt (d_var 3) (d_var 1))) (fun _ _ _ _ _ => (d_var 3))) da_nil)))
    (dss_cons (ds_set (i := 4) S.nd rfl (by first | exact Or.inl rfl | exact Or.inr rfl) (d_callB (k_maxL rfl) (by rfl) z_max (by decide +kernel) (da_cons (d_lc (own := [("mark", 3)]) rfl S.nd (di_tup (d_var 0)) (blkOk_by (N := N_shares) (sc := defScope s_shares) (by decide +kernel)) (tgt1 3) (fun _ _ _ _ _ => pg_name (i := 3) S.nd rfl (Or.inl rfl)) (fun _ _ _ _ _ => pts_oneD (dt_cmp o_lt (d_var 3) (d_var 1))) (fun _ _ _ _ _ => (d_var 3))) da_nil)))
    (dss_cons (ds_set (i := 5) S.nd rfl (by first | exact Or.inl rfl | exact Or.inr rfl) (d_bin o_sub (d_var 2) (d_var 4)))
    (dss_one (ds_ret (d_lst (da_cons (d_tup (da_cons (d_var 4) (da_cons (d_use g_in_lowest_terms ht ag (hr.mono (by decide)) passZ (by rfl) m_in_lowest_terms p_in_lowest_terms (da_cons (d_bin o_sub (d_var 2) (d_var 1)) (da_cons (d_var 5) da_nil))) da_nil))) (da_cons (d_tup (da_cons (d_var 2) (da_cons (d_use g_in_lowest_terms ht ag (hr.mono (by decide)) passZ (by rfl) m_in_lowest_terms p_in_lowest_terms (da_cons (d_bin o_sub (d_var 1) (d_var 4)) (da_cons (d_var 5) da_nil))) da_nil))) da_nil)))))))))) vc_shares
end
/-! added -/
abbrev s_added : Stmt := topS 14
abbrev N_added : List Str := ["one", "other", "common", "part", "top", "rest"]
theorem sc_added : FnScope N_added ["one", "other"] (defScope s_added) := ⟨rfl, rfl, rfl, by decide +kernel, rfl, by decide +kernel, by decide +kernel⟩
def rd_added : DS := (tSeqD (tSetD 2 (tCallD cGcd (tConsD (tBin gIx (tVarD 0) (tCD (.int 1))) (tConsD (tBin gIx (tVarD 1) (tCD (.int 1))) tNilD))))
    (tSeqD (tSetD 3 (tBin gFdiv (tBin gIx (tVarD 0) (tCD (.int 1))) (tVarD 2)))
    (tSeqD (tSetD 4 (tBin gAdd (tBin gMul (tBin gIx (tVarD 0) (tCD (.int 0))) (tBin gFdiv (tBin gIx (tVarD 1) (tCD (.int 1))) (tVarD 2))) (tBin gMul (tBin gIx (tVarD 1) (tCD (.int 0))) (tVarD 3))))
    (tSeqD (tSetD 5 (tCallD cGcd (tConsD (tVarD 4) (tConsD (tVarD 2) tNilD))))
    (tRetD (tTupD (tConsD (tBin gFdiv (tVarD 4) (tVarD 5)) (tConsD (tBin gMul (tVarD 3) (tBin gFdiv (tBin gIx (tVarD 1) (tCD (.int 1))) (tVarD 5))) tNilD))))))))
def sp_added : DSp := fun us P => ∃ p q u v : Int, us = [.d (.tuple [.int p, .int q]), .d (.tuple [.int u, .int v])] ∧ Frac p q ∧ Frac u v ∧ p.natAbs < 2 ^ 8000 ∧ q.natAbs < 2 ^ 8000 ∧ u.natAbs < 2 ^ 8000 ∧ v.natAbs < 2 ^ 8000 ∧
  ∀ s r, Frac s r → (p * v + u * q) * r = (q * v) * s → P (.d (.tuple [.int s, .int r]))
theorem vc_added : ∀ dvs Q, sp_added dvs Q → dvs.length = 2 ∧ rd_added { nx := fun _ => Q (.d .none), rt := Q } (startD N_added dvs) := by
  rintro dvs Q ⟨p, q, u, v, rfl, f, g, sp, sq, su, sv, h⟩
  refine ⟨rfl, ?_⟩
  obtain ⟨c, hc⟩ : ∃ c : Int, c = Int.gcd q v := ⟨_, rfl⟩
  obtain ⟨part, hpart⟩ : ∃ part, part = q / c := ⟨_, rfl⟩
  obtain ⟨top, htop⟩ : ∃ top, top = p * (v / c) + u * part := ⟨_, rfl⟩
  obtain ⟨rest, hrest⟩ : ∃ rest : Int, rest = Int.gcd top c := ⟨_, rfl⟩
  obtain ⟨c0, cq, dq, dv, r0, rc, dt, dr, ff, hx⟩ := sum_ok f g hc hpart htop hrest
  have hv := g.pos
  have hq := f.pos
  have lc : c.natAbs.log2 < 9000 := log_le (Nat.lt_of_le_of_lt cq sq) (by decide) (by decide)
  have lr : rest.natAbs.log2 < 9000 := log_le (Nat.lt_of_le_of_lt (Nat.le_trans rc cq) sq) (by decide) (by decide)
  have bpart : part.natAbs < 2 ^ 8000 := by rw [hpart, Int.natAbs_ediv_of_dvd dq]; exact Nat.lt_of_le_of_lt (Nat.div_le_self _ _) sq
  have bvc : (v / c).natAbs < 2 ^ 8000 := by rw [Int.natAbs_ediv_of_dvd dv]; exact Nat.lt_of_le_of_lt (Nat.div_le_self _ _) sv
  have bvr : (v / rest).natAbs < 2 ^ 8000 := by rw [Int.natAbs_ediv_of_dvd dr]; exact Nat.lt_of_le_of_lt (Nat.div_le_self _ _) sv
  have eg : (((q.natAbs.gcd v.natAbs : Nat)) : Int) = c := hc.symm
  unfold rd_added
  walk_at "dl"
  simp only [eg, Int.fdiv_eq_ediv_of_dvd dq, Int.fdiv_eq_ediv_of_dvd dv, ← hpart, ← htop]
  have eg2 : (((top.natAbs.gcd c.natAbs : Nat)) : Int) = rest := hrest.symm
  simp only [eg2, Int.fdiv_eq_ediv_of_dvd dt, Int.fdiv_eq_ediv_of_dvd dr]
  refine ⟨Int.ne_of_gt c0, lc, Int.ne_of_gt c0, lc, mul_log sp bvc (by decide) (by decide) (by decide), mul_log su bpart (by decide) (by decide) (by decide), Int.ne_of_gt r0, lr, Int.ne_of_gt r0, lr, mul_log bpart bvr (by decide) (by decide) (by decide), by decide, ?_⟩
  exact h _ _ ff hx
section
variable {ts : List Addr} {P : Program} {w : World} {K : PySem.W.Frag} {mg : Str → Option Value} {base : Heap}
theorem ok_added {f : Addr} {fd : FuncData} (Fn : L2.Fun K "added" "added" s_added f fd) (i_gcd : mg "gcd" = some (.builtin "math.gcd")) : Fg P w K mg base (L2.CX P w) 1 f (Pm K ts sp_added) := d_def Fn sc_added (fun _ _ _ _ _ _ us hl => match us, hl with | [_, _], _ => rfl) sp_added rd_added (fun cdv A outer s H E wn hcd ht ag hr => by
  have S := sc_added
  have hu := hr.units
  exact (dss_cons (ds_set (i := 2) S.nd rfl (by first | exact Or.inl rfl | exact Or.inr rfl) (d_callM k_gcd (by rfl) i_gcd (da_cons (d_ix (d_var 0) d_int) (da_cons (d_ix (d_var 1) d_int) da_nil))))
    (dss_cons (ds_set (i := 3) S.nd rfl (by first | exact Or.inl rfl | exact Or.inr rfl) (d_bin o_fdiv (d_ix (d_var 0) d_int) (d_var 2)))
    (dss_cons (ds_set (i := 4) S.nd rfl (by first | exact Or.inl rfl | exact Or.inr rfl) (d_bin o_add (d_bin o_mul (d_ix (d_var 0) d_int) (d_bin o_fdiv (d_ix (d_var 1) d_int) (d_var 2))) (d_bin o_mul (d_ix (d_var 1) d_int) (d_var 3))))
    (dss_cons (ds_set (i := 5) S.nd rfl (by first | exact Or.inl rfl | exact Or.inr rfl) (d_callM k_gcd (by rfl) i_gcd (da_cons (d_var 4) (da_cons (d_var 2) da_nil))))
    (dss_one (ds_ret (d_tup (da_cons (d_bin o_fdiv (d_var 4) (d_var 5)) (da_cons (d_bin o_mul (d_var 3) (d_bin o_fdiv (d_ix (d_var 1) d_int) (d_var 5))) da_nil)))))))))) vc_added
end
/-! Scale.mix -/
abbrev s_Scale_mix : Stmt := inS (topS 19) 3
abbrev N_Scale_mix : List Str := ["self", "spot", "weights", "point", "mark", "weight"]
theorem sc_Scale_mix : FnScope N_Scale_mix ["self", "spot"] (defScope s_Scale_mix) := ⟨rfl, rfl, rfl, by decide +kernel, rfl, by decide +kernel, by decide +kernel⟩
def rd_Scale_mix (R : List Sl → XD) : DS := (tSeqD (tIfD (tNotD (tTru (tMethX "Scale" "fits" sp_Scale_fits R (tVarD 0) (tConsD (tVarD 1) tNilD)))) (tRaise0 R "NoSpot") (fun d env => d.nx env))
    (tSeqD (tSetD 2 tEmpT)
    (tSeqD (tForD (gnD 3) (itLst (tVarD 1)) (tForD (gtD 2 (gconsD (gnD 4) (gconsD (gnD 5) gnilD))) (itLst (tUse sp_shares (tConsD (tFldD ["Scale"] "_marks" (tVarD 0)) (tConsD (tVarD 3) tNilD)))) (tPutT 2 (tVarD 4) (tIteD (tTst (tInT 2 (tVarD 4))) (tUse sp_added (tConsD (tGetT 2 (tVarD 4)) (tConsD (tVarD 5) tNilD))) (tVarD 5)))))
    (tRetD (tSortIt 2)))))
theorem sh_all {ms : List Int} (m4 : Rise ms) (m3 : In1000 ms) (w : Int → Int) (w0 : ∀ m, 0 ≤ w m) {l : List (Int × Int)} (hl : ∀ q ∈ l, 0 < q.2) (m : Int) : 0 ≤ w m + cAt m l := Int.add_nonneg (w0 m) (cAt_nn hl m)
def sp_Scale_mix : DSpX := fun us P R => ∃ (ms : List Int) (x : PyData), us = [.d (sx ms), .d x] ∧ MksOk 2 ms ∧ ((∃ ps, x = .list (IL ps) ∧ SpOk ps ∧ ((fitS ms ps = true ∧ P (.fr (mixW ms (wS ms ps)))) ∨ (fitS ms ps = false ∧ R "NoSpot" "" .none))) ∨ (spotB x = false ∧ R "Wrong" "at" (.int 0)))
theorem vc_Scale_mix : ∀ dvs Q R, sp_Scale_mix dvs Q R → dvs.length = 2 ∧ rd_Scale_mix (fun _ => R) { nx := fun _ => Q (.d .none), rt := Q } (startD N_Scale_mix dvs) := by
  rintro dvs Q R ⟨ms, x, rfl, hm, ⟨ps, rfl, hp, h⟩ | ⟨bad, q⟩⟩
  case inr =>
    refine ⟨rfl, ?_⟩
    unfold rd_Scale_mix
    refine seqG fun R hR => ?_
    walk_at "dl"
    exact ⟨_, rfl, nf1 (by decide), ms, _, rfl, hm, .inr ⟨bad, q⟩⟩
  refine ⟨rfl, ?_⟩
  obtain ⟨m1, m2, m3, m4⟩ := id hm
  obtain ⟨p1, p2, p3, p4⟩ := id hp
  have ne := ne_of_len m1
  have np := ne_of_len p1
  have el := il_len ps
  unfold rd_Scale_mix
  refine seqG fun R hR => ?_
  walk_at "dl"
  refine ⟨_, rfl, nf1 (by decide), ms, _, rfl, hm, .inl ⟨ps, rfl, hp, ?_⟩⟩
  walk_at "dl"
  rcases h with ⟨e, q⟩ | ⟨e, q⟩
  · rw [e]
    refine hR _ (seqG fun R hR => ?_)
    walk_at "dl"
    refine fun S0 => hR _ (seqG fun R hR => ?_)
    -- each point lies on the scale
    have ends := fit_ends hp e
    refine forD_ind (fun zs env => ∃ qs rs kvs S s3 s4 s5, qs ++ rs = ps ∧ zs = IL rs ∧ env = [.d (sx ms), .d (.list (IL ps)), .tr true S (dK kvs), s3, s4, s5] ∧ Cnt ms (wS ms qs) kvs) (fun env hI => ?_) (fun x zs env R2 hI hR2 => ?_) _ _ ⟨[], ps, [], S0, _, _, _, rfl, rfl, rfl, cnt_nil ms⟩
    · obtain ⟨qs, rs, kvs, S, s3, s4, s5, eq, ez, rfl, ct⟩ := hI
      have er : rs = [] := by cases rs with | nil => rfl | cons a t => cases ez
      rw [er, List.append_nil] at eq
      subst eq
      refine hR _ ?_
      walk_at "dl"
      obtain ⟨f1, f2, f3⟩ := ct.flat
      refine ⟨kvs, ⟨S, rfl, ct.allN⟩, f1, f2, by have := ct.len; omega, f3, fun ys py so => ?_⟩
      rw [ct.told m4 (fun m => wS_nn m4 m3 m _) (fun m hm => wS_out hm _) py so]
      exact q
    · obtain ⟨qs, rs, kvs, S, s3, s4, s5, eq, ez, rfl, ct⟩ := hI
      cases rs with
      | nil => cases ez
      | cons p rs =>
        obtain ⟨e1, e2⟩ := List.cons.inj ez
        subst e1
        subst e2
        have hps : p ∈ ps := by rw [← eq]; exact List.mem_append.mpr (.inr (List.mem_cons_self ..))
        obtain ⟨n1, n2⟩ := ends p hps
        walk_at "dl"
        refine ⟨"Scale", _, _, rfl, List.mem_singleton.mpr rfl, rfl, ms, p, rfl, hm, n1, n2, ?_⟩
        walk_at "dl"
        have hsh : ∀ q ∈ sh ms p, 0 < q.2 := sh_pos m4 m3
        have qle : qs.length + 1 ≤ 6 := by
          have := congrArg List.length eq
          rw [List.length_append, List.length_cons] at this
          omega
        refine forD_ind (fun zs env => ∃ l r kvs S s4 s5, l ++ r = sh ms p ∧ zs = r.map (fun q => .tuple [.int q.1, frP q.2]) ∧ env = [.d (sx ms), .d (.list (IL ps)), .tr true S (dK kvs), .d (.int p), s4, s5] ∧ Cnt ms (fun m => wS ms qs m + cAt m l) kvs) (fun env hI => ?_) (fun x zs env R3 hI hR3 => ?_) _ _ ⟨[], sh ms p, kvs, S, _, _, rfl, rfl, rfl, by simpa only [cAt_nil, Int.add_zero] using ct⟩
        · obtain ⟨l, r, kvs, S, s4, s5, el, ez, rfl, ct⟩ := hI
          have er : r = [] := by cases r with | nil => rfl | cons a t => cases ez
          rw [er, List.append_nil] at el
          subst el
          refine hR2 _ ⟨qs ++ [p], rs, kvs, S, _, _, _, by rw [List.append_assoc]; exact eq, rfl, rfl, ?_⟩
          have : wS ms (qs ++ [p]) = fun m => wS ms qs m + cAt m (sh ms p) := funext fun m => wS_snoc ms qs p m
          rw [this]
          exact ct
        · obtain ⟨l, r, kvs, S, s4, s5, el, ez, rfl, ct⟩ := hI
          cases r with
          | nil => cases ez
          | cons a r =>
            obtain ⟨m, c⟩ := a
            obtain ⟨e1, e2⟩ := List.cons.inj ez
            subst e1
            subst e2
            have hmem : (m, c) ∈ sh ms p := by rw [← el]; exact List.mem_append.mpr (.inr (List.mem_cons_self ..))
            have hmm : m ∈ ms := sh_keys _ hmem
            have hc : 0 < c := hsh _ hmem
            have lsub : ∀ q ∈ l, 0 < q.2 := fun q hq => hsh q (by rw [← el]; exact List.mem_append.mpr (.inl hq))
            have w0 : 0 ≤ wS ms qs m + cAt m l := Int.add_nonneg (wS_nn m4 m3 m qs) (cAt_nn lsub m)
            have tot : cAt m l + c ≤ DD := by
              have a := cAt_le hsh m
              have b := sh_le (p := p) m4 m3
              have d : cAt m (sh ms p) = cAt m l + (c + cAt m r) := by rw [← el, cAt_app, cAt_cons, if_pos rfl]
              have f : 0 ≤ cAt m r := cAt_nn (fun q hq => hsh q (by rw [← el]; exact List.mem_append.mpr (.inr (List.mem_cons_of_mem _ hq)))) m
              omega
            have w1 : wS ms qs m + cAt m l + c ≤ DD * 16 := by
              have a := wS_le m4 m3 m qs
              have dp := DD_pos
              have : DD * (qs.length : Int) ≤ DD * 5 := Int.mul_le_mul_of_nonneg_left (by omega) (Int.le_of_lt dp)
              omega
            have step : ∀ kvs', kvs' = ptD kvs (.inl m) (frP (wS ms qs m + cAt m l + c)) → Cnt ms (fun j => wS ms qs j + cAt j (l ++ [(m, c)])) kvs' := by
              rintro _ rfl
              have e0 : (wS ms qs m + cAt m (l ++ [(m, c)])) = wS ms qs m + cAt m l + c := by rw [cAt_app, cAt_cons, if_pos rfl, cAt_nil]; omega
              have := ct.put (w' := fun j => wS ms qs j + cAt j (l ++ [(m, c)])) hmm (fun j hj => by
                show wS ms qs j + cAt j (l ++ [(m, c)]) = wS ms qs j + cAt j l
                rw [cAt_app, cAt_cons, if_neg (Ne.symm hj), cAt_nil]
                omega) (by
                show wS ms qs m + cAt m (l ++ [(m, c)]) ≠ 0
                rw [e0]
                omega)
              have this : Cnt ms (fun j => wS ms qs j + cAt j (l ++ [(m, c)])) (ptD kvs (.inl m) (frP (wS ms qs m + cAt m (l ++ [(m, c)])))) := this
              rw [e0] at this
              exact this
            have sl : ∀ (s4 s5 : Sl), slD [.d (sx ms), .d (.list (IL ps)), .tr true S (dK kvs), .d (.int p), s4, s5] 2 kvs := fun _ _ => ⟨S, rfl, ct.allN⟩
            have kl : kvs.length < 100000 := by have := ct.len; omega
            walk_at "dl"
            refine ⟨kvs, sl _ _, kl, .inl m, kvs, rfl, sl _ _, ?_⟩
            have hat := ct.at' m
            have fin : ∀ S', R3 [.d (sx ms), .d (.list (IL ps)), .tr true S' (dK (ptD kvs (.inl m) (frP (wS ms qs m + cAt m l + c)))), .d (.int p), .d (.int m), .d (frP c)] := fun S' => hR3 _ ⟨l ++ [(m, c)], r, _, S', _, _, by rw [List.append_assoc]; exact el, rfl, rfl, step _ rfl⟩
            by_cases z : wS ms qs m + cAt m l = 0
            · rw [if_pos z] at hat
              rw [hat]
              simp only [Option.isSome_none, Bool.false_eq_true, if_false]
              refine ⟨.inl m, rfl, rfl, fun S' => ?_⟩
              have := fin S'
              rw [z, Int.zero_add] at this
              exact this
            · rw [if_neg z] at hat
              rw [hat]
              simp only [Option.isSome_some, if_true]
              obtain ⟨b1, b2⟩ := fr_lt w0 (by omega : wS ms qs m + cAt m l ≤ DD * 16)
              obtain ⟨b3, b4⟩ := fr_lt (Int.le_of_lt hc) (by omega : c ≤ DD * 16)
              refine ⟨kvs, sl _ _, .inl m, _, rfl, hat, ?_⟩
              have up : ∀ {x : Nat}, x < 2 ^ 1505 → x < 2 ^ 8000 := fun z => up16 z (by decide)
              refine ⟨_, _, _, _, rfl, (frN _).f, (frN _).f, up b1, up b2, up b3, up b4, fun s r fr er => ?_⟩
              walk_at "dl"
              refine ⟨.inl m, rfl, rfl, fun S' => ?_⟩
              rw [frD ((frN _).plus (frN _) fr er)]
              exact fin S'
  · rw [e]
    exact q
section
variable {ts : List Addr} {P : Program} {w : World} {K : PySem.W.Frag} {mg : Str → Option Value} {base : Heap}
theorem ok_Scale_mix {f : Addr} {fd : FuncData} (Fn : L2.Fun K "mix" "Scale.mix" s_Scale_mix f fd) {C_Scale C_NoSpot : Addr} (m_Scale : mg "Scale" = some (.ref C_Scale)) (ob_Scale : ObC K "Scale" C_Scale) (m_NoSpot : mg "NoSpot" = some (.ref C_NoSpot)) (q0_NoSpot : PySem.W.excIn K C_NoSpot He.veBase "ValueError.__new__" = true) (k0_NoSpot : PySem.W.keepIn K (.ref C_NoSpot) = true) (e0_NoSpot : PySem.W.subIn K (.ref C_NoSpot) (.type "BaseException") = some true) (t0_NoSpot : PySem.W.typeIn K (.ref C_NoSpot) = some (.type "type")) (na_Scale__marks : NoAttr K C_Scale "_marks") {f_Scale_fits : Addr} (g_Scale_fits : Fg P w K mg base (L2.CX P w) 5 f_Scale_fits (PmX mg K ts sp_Scale_fits)) (mt_Scale_fits : Meth K C_Scale "fits" f_Scale_fits) {f_shares : Addr} (g_shares : Fg P w K mg base (L2.CX P w) 2 f_shares (Pm K ts sp_shares)) (m_shares : mg "shares" = some (.ref f_shares)) (p_shares : PySem.W.keepIn K (.ref f_shares) = true) {f_added : Addr} (g_added : Fg P w K mg base (L2.CX P w) 1 f_added (Pm K ts sp_added)) (m_added : mg "added" = some (.ref f_added)) (p_added : PySem.W.keepIn K (.ref f_added) = true) (z_sorted : mg "sorted" = none) : Fg P w K mg base (L2.CX P w) 6 f (PmX mg K ts sp_Scale_mix) := d_defX Fn sc_Scale_mix (fun _ _ _ _ _ _ us hl => match us, hl with | [_, _], _ => rfl) sp_Scale_mix (fun R => rd_Scale_mix fun _ => R) (fun cdv A outer s H E R wn hcd ht hE ag hr tk => by
  have S := sc_Scale_mix
  have hu := hr.units
  have hE := XEnd.at hE
  exact (dss_cons (ds_if (dt_not (dt_e (d_methX (d_var 0) (fun D h => ob_Scale.uniq h) mt_Scale_fits ob_Scale.cls g_Scale_fits ht ag (hr.mono (by decide)) (fun σ => passAt tk σ) hE (da_cons (d_var 1) da_nil)))) (dss_one (ds_raise0 (E := fun _ => E) rfl tk PySem.F.excBase_ValueError q0_NoSpot m_NoSpot k0_NoSpot (raises_own e0_NoSpot t0_NoSpot) (by rfl) hE)) dss_nil)
    (dss_cons (ds_set (i := 2) S.nd rfl (by first | exact Or.inl rfl | exact Or.inr rfl) d_empT)
    (dss_cons (ds_for (passes_of rfl) rfl (di_list (d_var 1)) (dg_name (i := 3) S.nd rfl (by first | exact Or.inl rfl | exact Or.inr rfl)) (dss_one (ds_for (passes_of rfl) rfl (di_list (d_use g_shares ht ag (hr.mono (by decide)) passZ (by rfl) m_shares p_shares (da_cons (d_fld (na1 ob_Scale na_Scale__marks) (d_var 0)) (da_cons (d_var 3) da_nil)))) (dg_tup rfl (dgs_cons (dg_name (i := 4) S.nd rfl (by first | exact Or.inl rfl | exact Or.inr rfl)) (dgs_cons (dg_name (i := 5) S.nd rfl (by first | exact Or.inl rfl | exact Or.inr rfl)) dgs_nil))) (dss_one (ds_putT hu (pv 2) (d_var 4) (d_ite (dt_inT hu (d_var 4) (pv 2)) (d_use g_added ht ag (hr.mono (by decide)) passZ (by rfl) m_added p_added (da_cons (d_getT hu (pv 2) (d_var 4) (fun _ _ => rfl)) (da_cons (d_var 5) da_nil))) (d_var 5)))))))
    (dss_one (ds_ret (d_sortIt rfl hu (by rfl) z_sorted (pv 2)))))))) vc_Scale_mix
end
/-! Box.fits -/
abbrev s_Box_fits : Stmt := inS (topS 20) 2
abbrev N_Box_fits : List Str := ["self", "spot", "point"]
theorem sc_Box_fits : FnScope N_Box_fits ["self", "spot"] (defScope s_Box_fits) := ⟨rfl, rfl, rfl, by decide +kernel, rfl, by decide +kernel, by decide +kernel⟩
def rd_Box_fits (R : List Sl → XD) : DS := (tSeqD (tDropD (tUseX sp_require R (tConsD (tUse sp_is_spot (tConsD (tVarD 1) tNilD)) tNilD)))
    (tRetD (tAnV (tAll1 (itLst (tVarD 1)) (tBin gMem (tVarD 0) (tFldD ["Box"] "_marks" (tVarD 1))) [0]) (tUse sp_do_rise (tConsD (tVarD 1) tNilD)))))
def sp_Box_fits : DSpX := fun us P R => ∃ (ms : List Int) (x : PyData), us = [.d (bx ms), .d x] ∧ ((∃ ps, x = .list (IL ps) ∧ SpOk ps ∧ P (.d (.bool (fitB ms ps)))) ∨ (spotB x = false ∧ R "Wrong" "at" (.int 0)))
theorem vc_Box_fits : ∀ dvs Q R, sp_Box_fits dvs Q R → dvs.length = 2 ∧ rd_Box_fits (fun _ => R) { nx := fun _ => Q (.d .none), rt := Q } (startD N_Box_fits dvs) := by
  rintro dvs Q R ⟨ms, x, rfl, h⟩
  refine ⟨rfl, ?_⟩
  unfold rd_Box_fits
  refine seqG fun R hR => ?_
  walk_at "dl"
  refine ⟨x, rfl, ?_⟩
  walk_at "dl"
  refine ⟨[spotB x], rfl, by simp, ?_⟩
  rcases h with ⟨ps, rfl, hp, h⟩ | ⟨e, q⟩
  · rw [spot_ok hp]
    refine hR _ ?_
    walk_at "dl"
    refine ⟨onI fun p => decide (p ∈ ms), fun x hx => ?_, ?_⟩
    · obtain ⟨p, hp, rfl⟩ := List.mem_map.mp hx
      exact ⟨_, _, _, rfl, List.mem_singleton.mpr rfl, rfl, mem_it (f := id) rfl⟩
    · rw [all_onI]
      unfold fitB at h
      cases q : ps.all fun p => decide (p ∈ ms) with
      | false =>
        rw [q] at h
        exact h
      | true =>
        rw [q] at h
        exact ⟨ps, rfl, Nat.le_trans hp.2.1 (by decide), h⟩
  · rw [e]
    exact q
section
variable {ts : List Addr} {P : Program} {w : World} {K : PySem.W.Frag} {mg : Str → Option Value} {base : Heap}
theorem ok_Box_fits {f : Addr} {fd : FuncData} (Fn : L2.Fun K "fits" "Box.fits" s_Box_fits f fd) {C_Box : Addr} (m_Box : mg "Box" = some (.ref C_Box)) (ob_Box : ObC K "Box" C_Box) (na_Box__marks : NoAttr K C_Box "_marks") {f_require : Addr} (g_require : Fg P w K mg base (L2.CX P w) 3 f_require (PmX mg K ts sp_require)) (m_require : mg "require" = some (.ref f_require)) (p_require : PySem.W.keepIn K (.ref f_require) = true) {f_is_spot : Addr} (g_is_spot : Fg P w K mg base (L2.CX P w) 4 f_is_spot (Pm K ts sp_is_spot)) (m_is_spot : mg "is_spot" = some (.ref f_is_spot)) (p_is_spot : PySem.W.keepIn K (.ref f_is_spot) = true) {f_do_rise : Addr} (g_do_rise : Fg P w K mg base (L2.CX P w) 2 f_do_rise (Pm K ts sp_do_rise)) (m_do_rise : mg "do_rise" = some (.ref f_do_rise)) (p_do_rise : PySem.W.keepIn K (.ref f_do_rise) = true) (z_all : mg "all" = none) {e_Box_fits P_Box_fits : Addr} (tb_Box_fits : GxR.TabB base mg e_Box_fits P_Box_fits) (fc_Box_fits : fd.code = .ref e_Box_fits) (ti_Box_fits : P_Box_fits ∈ ts) : Fg P w K mg base (L2.CX P w) 6 f (PmX mg K ts sp_Box_fits) := d_defX Fn sc_Box_fits (fun _ _ _ _ _ _ us hl => match us, hl with | [_, _], _ => rfl) sp_Box_fits (fun R => rd_Box_fits fun _ => R) (fun cdv A outer s H E R wn hcd ht hE ag hr tk => by
  have S := sc_Box_fits
  have hu := hr.units
  have hE := XEnd.at hE
  exact (dss_cons (ds_expr (d_useX g_require ht ag (hr.mono (by decide)) (fun σ => passAt tk σ) hE (by rfl) m_require p_require (da_cons (d_use g_is_spot ht ag (hr.mono (by decide)) passZ (by rfl) m_is_spot p_is_spot (da_cons (d_var 1) da_nil)) da_nil)))
    (dss_one (ds_ret (d_and (d_all1 (N := ["point", "self"]) (caps := [0]) ht hr (by rfl) z_all tb_Box_fits (hcd.symm.trans fc_Box_fits) ti_Box_fits rfl rfl (by decide +kernel) (by rfl) (hfreeC (so := defScope s_Box_fits) (by decide +kernel)) (by show capOk ["point", "self"] N_Box_fits 1 [0] _ (defScope s_Box_fits) = true; decide +kernel) (by decide) rfl (by rfl) (di_list (d_var 1)) (by intro _; rfl) (fun _ _ _ _ _ _ hA wn ht => by
      have ag := Eq.mpr (congrArg (fun a => Around.guards a = some []) hA) (loop_guards ag)
      have hr := Eq.mpr (congrArg (Room _) hA) (loop_room hr)
      have hu := hr.units
      exact (d_cmp o_in (d_var 0) (d_fld (na1 ob_Box na_Box__marks) (d_var 1))))) (d_one (d_use g_do_rise ht ag (hr.mono (by decide)) passZ (by rfl) m_do_rise p_do_rise (da_cons (d_var 1) da_nil)))))))) vc_Box_fits
end
/-! Box.mix -/
abbrev s_Box_mix : Stmt := inS (topS 20) 3
abbrev N_Box_mix : List Str := ["self", "spot", "mark"]
theorem sc_Box_mix : FnScope N_Box_mix ["self", "spot"] (defScope s_Box_mix) := ⟨rfl, rfl, rfl, by decide +kernel, rfl, by decide +kernel, by decide +kernel⟩
def rd_Box_mix (R : List Sl → XD) : DS := (tSeqD (tIfD (tNotD (tTru (tMethX "Box" "fits" sp_Box_fits R (tVarD 0) (tConsD (tVarD 1) tNilD)))) (tRaise0 R "NoSpot") (fun d env => d.nx env))
    (tRetD (tLcD (itLst (tVarD 1)) (gnD 2) (fun _ P => P true) (tTupD (tConsD (tVarD 2) (tConsD (tCD (.tuple [(.int 1), (.int 1)])) tNilD))) [2])))
def sp_Box_mix : DSpX := fun us P R => ∃ (ms : List Int) (x : PyData), us = [.d (bx ms), .d x] ∧ ((∃ ps, x = .list (IL ps) ∧ SpOk ps ∧ ((fitB ms ps = true ∧ P (.fr (mixD ps))) ∨ (fitB ms ps = false ∧ R "NoSpot" "" .none))) ∨ (spotB x = false ∧ R "Wrong" "at" (.int 0)))
theorem vc_Box_mix : ∀ dvs Q R, sp_Box_mix dvs Q R → dvs.length = 2 ∧ rd_Box_mix (fun _ => R) { nx := fun _ => Q (.d .none), rt := Q } (startD N_Box_mix dvs) := by
  rintro dvs Q R ⟨ms, x, rfl, ⟨ps, rfl, hp, h⟩ | ⟨bad, q⟩⟩
  case inr =>
    refine ⟨rfl, ?_⟩
    unfold rd_Box_mix
    refine seqG fun R hR => ?_
    walk_at "dl"
    exact ⟨_, rfl, nf1 (by decide), ms, _, rfl, .inr ⟨bad, q⟩⟩
  refine ⟨rfl, ?_⟩
  unfold rd_Box_mix
  refine seqG fun R hR => ?_
  walk_at "dl"
  refine ⟨_, rfl, nf1 (by decide), ms, _, rfl, .inl ⟨ps, rfl, hp, ?_⟩⟩
  walk_at "dl"
  rcases h with ⟨e, q⟩ | ⟨e, q⟩
  · rw [e]
    refine hR _ ?_
    have e2 := il_len ps
    obtain ⟨p1, p2, _⟩ := hp
    walk_at "dl"
    refine lc_map (fun x => .tuple [x, .tuple [.int 1, .int 1]]) (by omega) ?_ fun x hx R2 hR2 => ?_
    · rw [List.map_map]
      exact q
    · walk_at "dl"
      exact ⟨by decide, hR2⟩
  · rw [e]
    exact q
--! frz _law_spoilt:_law_found = _law_other(_law_bag_here, _law_found, _law_way) => _law_found
--! frz _law_spoilt:return [_law_found, tuple(_law_found), _law_odd(_law_bag_here), []][max(0, _law_ways[0] - 9)] => _law_found
--! frz law:_law_spoilt_here = _law_spoilt(_law_bag_here, _law_marks_here, _law_ways) => _law_marks_here,_law_ways
--! frz law:_law_spot_here = _law_spoilt(_law_bag_here, _law_good, _law_also) => _law_good,_law_also
--! op _law_other:_law_some[_law_at] == 1 => eqI
section
variable {ts : List Addr} {P : Program} {w : World} {K : PySem.W.Frag} {mg : Str → Option Value} {base : Heap}
theorem ok_Box_mix {f : Addr} {fd : FuncData} (Fn : L2.Fun K "mix" "Box.mix" s_Box_mix f fd) {C_Box C_NoSpot : Addr} (m_Box : mg "Box" = some (.ref C_Box)) (ob_Box : ObC K "Box" C_Box) (m_NoSpot : mg "NoSpot" = some (.ref C_NoSpot)) (q0_NoSpot : PySem.W.excIn K C_NoSpot He.veBase "ValueError.__new__" = true) (k0_NoSpot : PySem.W.keepIn K (.ref C_NoSpot) = true) (e0_NoSpot : PySem.W.subIn K (.ref C_NoSpot) (.type "BaseException") = some true) (t0_NoSpot : PySem.W.typeIn K (.ref C_NoSpot) = some (.type "type")) {f_Box_fits : Addr} (g_Box_fits : Fg P w K mg base (L2.CX P w) 6 f_Box_fits (PmX mg K ts sp_Box_fits)) (mt_Box_fits : Meth K C_Box "fits" f_Box_fits) {u_WHOLE : Value} {v_WHOLE : V} (c_WHOLE : mg "WHOLE" = some u_WHOLE) (r_WHOLE : RelV v_WHOLE u_WHOLE) (e_WHOLE : ∀ F, Rp K F v_WHOLE (.tuple [(.int 1), (.int 1)])) : Fg P w K mg base (L2.CX P w) 7 f (PmX mg K ts sp_Box_mix) := d_defX Fn sc_Box_mix (fun _ _ _ _ _ _ us hl => match us, hl with | [_, _], _ => rfl) sp_Box_mix (fun R => rd_Box_mix fun _ => R) (fun cdv A outer s H E R wn hcd ht hE ag hr tk => by
  have S := sc_Box_mix
  have hu := hr.units
  have hE := XEnd.at hE
  exact (dss_cons (ds_if (dt_not (dt_e (d_methX (d_var 0) (fun D h => ob_Box.uniq h) mt_Box_fits ob_Box.cls g_Box_fits ht ag (hr.mono (by decide)) (fun σ => passAt tk σ) hE (da_cons (d_var 1) da_nil)))) (dss_one (ds_raise0 (E := fun _ => E) rfl tk PySem.F.excBase_ValueError q0_NoSpot m_NoSpot k0_NoSpot (raises_own e0_NoSpot t0_NoSpot) (by rfl) hE)) dss_nil)
    (dss_one (ds_ret (d_lc (own := [("mark", 2)]) rfl S.nd (di_list (d_var 1)) (blkOk_by (N := N_Box_mix) (sc := defScope s_Box_mix) (by decide +kernel)) (tgt1 2) (fun _ _ _ _ _ => pg_name (i := 2) S.nd rfl (Or.inl rfl)) (fun _ _ _ _ _ => pts_nilD) (fun _ _ _ _ _ => (d_tup (da_cons (d_var 2) (da_cons (d_globC (by rfl) c_WHOLE r_WHOLE e_WHOLE) da_nil))))))))) vc_Box_mix
end
/-! _law_spot_told -/
abbrev s__law_spot_told : Stmt := topS 41
abbrev N__law_spot_told : List Str := ["_law_thing", "_law_spot_here", "_law_way", "_law_told", "e"]
theorem sc__law_spot_told : FnScope N__law_spot_told ["_law_thing", "_law_spot_here", "_law_way"] (defScope s__law_spot_told) := ⟨rfl, rfl, rfl, by decide +kernel, rfl, by decide +kernel, by decide +kernel⟩
def rd__law_spot_told : DS := (tSeqD (tSetD 3 (tTupD (tConsD (tCD (.str "told")) tNilD)))
    (tSeqD (tTryTwo 4 [("Wrong", "at"), ("NoSpot", "")] (fun c => c == "Wrong") (fun c => c == "NoSpot") (fun a c n x => (tSetD 3 (tTupD (tConsD (tCD (.str "refused")) (tConsD (tAtX 4 a x) tNilD))))) (tSetD 3 (tTupD (tConsD (tCD (.str "unfit")) tNilD))) (fun _ _ _ _ => False) (fun R => (tIfD (tTst (tBin (gEqv id) (tVarD 2) (tCD (.int 0)))) (tDropD (tEith (tMethX "Scale" "fits" sp_Scale_fits R (tVarD 0) (tConsD (tVarD 1) tNilD)) (tMethX "Box" "fits" sp_Box_fits R (tVarD 0) (tConsD (tVarD 1) tNilD)))) (tDropD (tEith (tMethX "Scale" "mix" sp_Scale_mix R (tVarD 0) (tConsD (tVarD 1) tNilD)) (tMethX "Box" "mix" sp_Box_mix R (tVarD 0) (tConsD (tVarD 1) tNilD)))))))
    (tRetVD 3)))
/-- an exception of the class c is one of d -/
def isx (c d : Str) : Bool := c == d || d == ("ChainError" : Str) || d == ("ValueError" : Str)
theorem st_cpR (o : PyData) (i : Nat) (env : List Sl) (k : List Sl → Prop) (h : ∀ s, IsO s o → k (env.set i s)) : stD i (cpR o) env k := by
  cases o with
  | list xs => exact fun l => h _ .ow
  | _ => exact h _ .d
theorem gnG {i : Nat} {x : PyData} {env : List Sl} {k : List Sl → Prop} (h : k (env.set i (.d x))) : gnD i x env k := h
/-- a thing of marks, as it answers a spot -/
structure Thg (th : PyData) (ms : List Int) (fit : List Int → Bool) (mx : List Int → List PyData) : Prop where
  k : (th = sx ms ∧ MksOk 2 ms ∧ fit = fitS ms ∧ mx = fun ps => mixW ms (wS ms ps)) ∨ (th = bx ms ∧ MksOk 1 ms ∧ fit = fitB ms ∧ mx = mixD)
theorem Thg.fits {th x : PyData} {ms : List Int} {fit : List Int → Bool} {mx : List Int → List PyData} {P : DV → Prop} {R : XD} (ht : Thg th ms fit mx) (h : (spotB x = false ∧ R "Wrong" "at" (.int 0)) ∨ ∃ ps, x = .list (IL ps) ∧ SpOk ps ∧ P (.d (.bool (fit ps)))) :
    (∃ ds, DV.d th = DV.d (obD "Scale" ds) ∧ ¬ ("fits" : Str) ∈ List.map Prod.fst ds ∧ sp_Scale_fits [.d (obD "Scale" ds), .d x] P R) ∨ ∃ ds, DV.d th = DV.d (obD "Box" ds) ∧ ¬ ("fits" : Str) ∈ List.map Prod.fst ds ∧ sp_Box_fits [.d (obD "Box" ds), .d x] P R := by
  rcases ht.k with ⟨rfl, hm, rfl, rfl⟩ | ⟨rfl, hm, rfl, rfl⟩
  · refine .inl ⟨_, rfl, nf1 (by decide), ms, x, rfl, hm, ?_⟩
    exact h.symm
  · refine .inr ⟨_, rfl, nf1 (by decide), ms, x, rfl, ?_⟩
    exact h.symm
theorem Thg.mix {th x : PyData} {ms : List Int} {fit : List Int → Bool} {mx : List Int → List PyData} {P : DV → Prop} {R : XD} (ht : Thg th ms fit mx) (h : (spotB x = false ∧ R "Wrong" "at" (.int 0)) ∨ ∃ ps, x = .list (IL ps) ∧ SpOk ps ∧ ((fit ps = true ∧ P (.fr (mx ps))) ∨ (fit ps = false ∧ R "NoSpot" "" .none))) :
    (∃ ds, DV.d th = DV.d (obD "Scale" ds) ∧ ¬ ("mix" : Str) ∈ List.map Prod.fst ds ∧ sp_Scale_mix [.d (obD "Scale" ds), .d x] P R) ∨ ∃ ds, DV.d th = DV.d (obD "Box" ds) ∧ ¬ ("mix" : Str) ∈ List.map Prod.fst ds ∧ sp_Box_mix [.d (obD "Box" ds), .d x] P R := by
  rcases ht.k with ⟨rfl, hm, rfl, rfl⟩ | ⟨rfl, hm, rfl, rfl⟩
  · refine .inl ⟨_, rfl, nf1 (by decide), ms, x, rfl, hm, ?_⟩
    exact h.symm
  · refine .inr ⟨_, rfl, nf1 (by decide), ms, x, rfl, ?_⟩
    exact h.symm
def sp__law_spot_told : DSp := fun us P => ∃ (th x : PyData) (w : Int) (ms : List Int) (fit : List Int → Bool) (mx : List Int → List PyData), us = [.d th, .d x, .d (.int w)] ∧ Thg th ms fit mx ∧
  ((spotB x = false ∧ P (.d (toldR (some 0)))) ∨ (∃ ps, x = .list (IL ps) ∧ SpOk ps ∧ (fit ps = true ∨ w = 0 → P (.d (toldR none))) ∧ (fit ps = false → w ≠ 0 → P (.d (.tuple [.str "unfit"])))))
theorem vc__law_spot_told : ∀ dvs Q, sp__law_spot_told dvs Q → dvs.length = 3 ∧ rd__law_spot_told { nx := fun _ => Q (.d .none), rt := Q } (startD N__law_spot_told dvs) := by
  rintro dvs Q ⟨th, x, w, ms, fit, mx, rfl, ht, h⟩
  refine ⟨rfl, ?_⟩
  unfold rd__law_spot_told
  refine seqG fun R hR => ?_
  walk_at "dl"
  refine ⟨by decide, hR _ (seqG fun R hR => ?_)⟩
  refine ⟨noOw_ok _ rfl, ?_⟩
  refine ifG fun P1 P2 hP hN => ?_
  walk_at "dl"
  have wrong : ∀ {S : List Sl → Prop}, (∀ e, e = [Sl.d th, .d x, .d (.int w), .d (toldR (some 0)), .un] → S e) → ∀ t2 : DS, rTwo 4 [("Wrong", "at"), ("NoSpot", "")] (fun c => c == "Wrong") (fun c => c == "NoSpot") (fun a c n x => tSetD 3 (tTupD (tConsD (tCD (PyData.str "refused")) (tConsD (tAtX 4 a x) tNilD)))) t2 (fun _ _ _ _ => False) { nx := S, rt := Q } [Sl.d th, .d x, .d (.int w), .d (.tuple [.str "told"]), .un] "Wrong" "at" (.int 0) := fun hS t2 => by
    refine ⟨by decide, fun _ => ⟨by decide, noOw_ok _ rfl, fun a => ?_⟩, fun z => absurd z (by decide)⟩
    walk_at "dl"
    exact ⟨by decide, hS _ rfl⟩
  have unfit : ∀ {S : List Sl → Prop}, (∀ e, e = [Sl.d th, .d x, .d (.int w), .d (.tuple [.str "unfit"]), .un] → S e) → ∀ t1 : DSuite, rTwo 4 [("Wrong", "at"), ("NoSpot", "")] (fun c => c == "Wrong") (fun c => c == "NoSpot") t1 (tSetD 3 (tTupD (tConsD (tCD (PyData.str "unfit")) tNilD))) (fun _ _ _ _ => False) { nx := S, rt := Q } [Sl.d th, .d x, .d (.int w), .d (.tuple [.str "told"]), .un] "NoSpot" "" .none := fun hS t1 => by
    refine ⟨by decide, fun z => absurd z (by decide), fun _ => ⟨fun _ => ⟨noOw_ok _ rfl, ?_⟩, fun z => absurd z (by decide)⟩⟩
    walk_at "dl"
    exact ⟨by decide, hS _ rfl⟩
  by_cases c : w = 0
  · rw [if_pos (decide_eq_true c)]
    refine hP ?_
    walk_at "dl"
    refine ht.fits ?_
    rcases h with ⟨e, h⟩ | ⟨ps, rfl, hp, h, _⟩
    · refine .inl ⟨e, wrong (fun e he => hR _ ?_) _⟩
      subst he
      walk_at "dl"
      exact h
    · refine .inr ⟨ps, rfl, hp, hR _ ?_⟩
      walk_at "dl"
      exact h (.inr c)
  · rw [if_neg (by rw [decide_eq_false c]; decide)]
    refine hN ?_
    walk_at "dl"
    refine ht.mix ?_
    rcases h with ⟨e, h⟩ | ⟨ps, rfl, hp, h, h2⟩
    · refine .inl ⟨e, wrong (fun e he => hR _ ?_) _⟩
      subst he
      walk_at "dl"
      exact h
    · refine .inr ⟨ps, rfl, hp, ?_⟩
      cases ef : fit ps with
      | true =>
        refine .inl ⟨rfl, hR _ ?_⟩
        walk_at "dl"
        exact h (.inl ef)
      | false =>
        refine .inr ⟨rfl, unfit (fun e he => hR _ ?_) _⟩
        subst he
        walk_at "dl"
        exact h2 ef c
section
variable {ts : List Addr} {P : Program} {w : World} {K : PySem.W.Frag} {mg : Str → Option Value} {base : Heap}
theorem ok__law_spot_told {f : Addr} {fd : FuncData} (Fn : L2.Fun K "_law_spot_told" "_law_spot_told" s__law_spot_told f fd) {C_Wrong C_NoSpot C_Scale C_Box : Addr} (m_Wrong : mg "Wrong" = some (.ref C_Wrong)) (m_NoSpot : mg "NoSpot" = some (.ref C_NoSpot)) (em_Wrong_Wrong : PySem.W.exmOne K (.ref C_Wrong) (.ref C_Wrong) = some true) (em_NoSpot_Wrong : PySem.W.exmOne K (.ref C_NoSpot) (.ref C_Wrong) = some false) (em_Wrong_NoSpot : PySem.W.exmOne K (.ref C_Wrong) (.ref C_NoSpot) = some false) (em_NoSpot_NoSpot : PySem.W.exmOne K (.ref C_NoSpot) (.ref C_NoSpot) = some true) (m_Scale : mg "Scale" = some (.ref C_Scale)) (ob_Scale : ObC K "Scale" C_Scale) (m_Box : mg "Box" = some (.ref C_Box)) (ob_Box : ObC K "Box" C_Box) (ex_Wrong : ExcC K C_Wrong) (xf_Wrong : XfC K C_Wrong) (nf_Wrong : PySem.W.findIn K (.ref C_Wrong) "at" = some none) {f_Scale_fits : Addr} (g_Scale_fits : Fg P w K mg base (L2.CX P w) 5 f_Scale_fits (PmX mg K ts sp_Scale_fits)) (mt_Scale_fits : Meth K C_Scale "fits" f_Scale_fits) {f_Box_fits : Addr} (g_Box_fits : Fg P w K mg base (L2.CX P w) 6 f_Box_fits (PmX mg K ts sp_Box_fits)) (mt_Box_fits : Meth K C_Box "fits" f_Box_fits) {f_Scale_mix : Addr} (g_Scale_mix : Fg P w K mg base (L2.CX P w) 6 f_Scale_mix (PmX mg K ts sp_Scale_mix)) (mt_Scale_mix : Meth K C_Scale "mix" f_Scale_mix) {f_Box_mix : Addr} (g_Box_mix : Fg P w K mg base (L2.CX P w) 7 f_Box_mix (PmX mg K ts sp_Box_mix)) (mt_Box_mix : Meth K C_Box "mix" f_Box_mix) : Fg P w K mg base (L2.CX P w) 8 f (Pm K ts sp__law_spot_told) := d_def Fn sc__law_spot_told (fun _ _ _ _ _ _ us hl => match us, hl with | [_, _, _], _ => rfl) sp__law_spot_told rd__law_spot_told (fun cdv A outer s H E wn hcd ht ag hr => by
  have S := sc__law_spot_told
  have hu := hr.units
  exact (dss_cons (ds_set (i := 3) S.nd rfl (by first | exact Or.inl rfl | exact Or.inr rfl) (d_tup (da_cons d_str da_nil)))
    (dss_cons (ds_tryTwo (i := 4) (E := fun _ _ _ _ => False) (R := fun _ _ _ _ => False) (cs := [("Wrong", "at"), ("NoSpot", "")]) (m1 := (fun c => c == "Wrong")) (m2 := (fun c => c == "NoSpot")) rfl rfl S.nd rfl rfl ⟨by rfl, by decide, .inl m_Wrong⟩ ⟨by rfl, by decide, .inl m_NoSpot⟩ takes0 (fun _ _ _ _ _ => XEnd.none) (fun q hq C hC => by
        simp only [List.mem_cons, List.not_mem_nil, or_false] at hq
        rcases hq with rfl | rfl
        · cases Value.ref.inj (Option.some.inj (hC.symm.trans m_Wrong))
          exact em_Wrong_Wrong
        · cases Value.ref.inj (Option.some.inj (hC.symm.trans m_NoSpot))
          exact em_NoSpot_Wrong) (fun q hq C hC => by
        simp only [List.mem_cons, List.not_mem_nil, or_false] at hq
        rcases hq with rfl | rfl
        · cases Value.ref.inj (Option.some.inj (hC.symm.trans m_Wrong))
          exact em_Wrong_NoSpot
        · cases Value.ref.inj (Option.some.inj (hC.symm.trans m_NoSpot))
          exact em_NoSpot_NoSpot) (fun pn xe E R w' hw tk hE => by
        have ht := (congrArg Bg.ts hw).trans ht
        exact (dss_one (ds_if (dt_cmp (o_eq hu) (d_var 2) d_int) (dss_one (ds_expr (d_eith (d_methX (d_var 0) (fun D h => ob_Scale.uniq h) mt_Scale_fits ob_Scale.cls g_Scale_fits ht ag (hr.mono (by decide)) (fun σ => passAt tk σ) hE (da_cons (d_var 1) da_nil)) (d_methX (d_var 0) (fun D h => ob_Box.uniq h) mt_Box_fits ob_Box.cls g_Box_fits ht ag (hr.mono (by decide)) (fun σ => passAt tk σ) hE (da_cons (d_var 1) da_nil))))) (dss_one (ds_expr (d_eith (d_methX (d_var 0) (fun D h => ob_Scale.uniq h) mt_Scale_mix ob_Scale.cls g_Scale_mix ht ag (hr.mono (by decide)) (fun σ => passAt tk σ) hE (da_cons (d_var 1) da_nil)) (d_methX (d_var 0) (fun D h => ob_Box.uniq h) mt_Box_mix ob_Box.cls g_Box_mix ht ag (hr.mono (by decide)) (fun σ => passAt tk σ) hE (da_cons (d_var 1) da_nil)))))))) (fun a oe pn c C n x v dd w' hw hcs hm hc wd hd rp hz hf => by
        have ht := (congrArg Bg.ts hw).trans ht
        simp only [List.mem_cons, List.not_mem_nil, or_false, Prod.mk.injEq] at hcs
        rcases hcs with ⟨rfl, rfl⟩ | ⟨rfl, rfl⟩
        · cases Value.ref.inj (Option.some.inj (hc.symm.trans m_Wrong))
          exact (dss_one (ds_set (i := 3) S.nd rfl (by first | exact Or.inl rfl | exact Or.inr rfl) (d_tup (da_cons d_str (da_cons (d_atX xf_Wrong nf_Wrong hz hf wd hd rp (pv 4)) da_nil)))))
        · exact absurd hm (by decide)) (fun a oe pn w' hw => by
        have ht := (congrArg Bg.ts hw).trans ht
        exact (dss_one (ds_set (i := 3) S.nd rfl (by first | exact Or.inl rfl | exact Or.inr rfl) (d_tup (da_cons d_str da_nil))))))
    (dss_one (ds_retV 3))))) vc__law_spot_told
end
/-! _law_any_refused -/
abbrev s__law_any_refused : Stmt := topS 42
abbrev N__law_any_refused : List Str := ["_law_thing", "_law_spot_here", "e"]
theorem sc__law_any_refused : FnScope N__law_any_refused ["_law_thing", "_law_spot_here"] (defScope s__law_any_refused) := ⟨rfl, rfl, rfl, by decide +kernel, rfl, by decide +kernel, by decide +kernel⟩
def rd__law_any_refused : DS := (tSeqD (tTryAs 2 [("Wrong", "at")] (fun _ => true) (fun a c n x => (tRetD (tAnV (tIsX 2 a (isx c "ValueError")) (tNoV (tIsX 2 a (isx c "NoSpot")))))) (fun _ _ _ _ => False) (fun R => (tDropD (tEith (tMethX "Scale" "mix" sp_Scale_mix R (tVarD 0) (tConsD (tVarD 1) tNilD)) (tMethX "Box" "mix" sp_Box_mix R (tVarD 0) (tConsD (tVarD 1) tNilD))))))
    (tRetD (tCD (.bool false))))
def sp__law_any_refused : DSp := fun us P => ∃ (th x : PyData) (ms : List Int) (fit : List Int → Bool) (mx : List Int → List PyData), us = [.d th, .d x] ∧ Thg th ms fit mx ∧ spotB x = false ∧ P (.d (.bool true))
theorem vc__law_any_refused : ∀ dvs Q, sp__law_any_refused dvs Q → dvs.length = 2 ∧ rd__law_any_refused { nx := fun _ => Q (.d .none), rt := Q } (startD N__law_any_refused dvs) := by
  rintro dvs Q ⟨th, x, ms, fit, mx, rfl, ht, e, h⟩
  refine ⟨rfl, ?_⟩
  unfold rd__law_any_refused
  refine seqG fun R hR => ?_
  refine ⟨noOw_ok _ rfl, ?_⟩
  walk_at "dl"
  refine ht.mix (.inl ⟨e, ?_⟩)
  refine ⟨by decide, fun _ => ⟨noOw_ok _ rfl, fun a => ?_⟩, fun z => nomatch z⟩
  walk_at "dl"
  rw [show isx "Wrong" "ValueError" = true from by decide +kernel, show isx "Wrong" "NoSpot" = false from by decide +kernel]
  simp only [if_true]
  exact h
section
variable {ts : List Addr} {P : Program} {w : World} {K : PySem.W.Frag} {mg : Str → Option Value} {base : Heap}
theorem ok__law_any_refused {f : Addr} {fd : FuncData} (Fn : L2.Fun K "_law_any_refused" "_law_any_refused" s__law_any_refused f fd) {C_ChainError C_Wrong C_Scale C_Box C_NoSpot : Addr} (m_ChainError : mg "ChainError" = some (.ref C_ChainError)) (m_Wrong : mg "Wrong" = some (.ref C_Wrong)) (em_Wrong_ChainError : PySem.W.exmOne K (.ref C_Wrong) (.ref C_ChainError) = some true) (m_Scale : mg "Scale" = some (.ref C_Scale)) (ob_Scale : ObC K "Scale" C_Scale) (m_Box : mg "Box" = some (.ref C_Box)) (ob_Box : ObC K "Box" C_Box) (ex_Wrong : ExcC K C_Wrong) (xf_Wrong : XfC K C_Wrong) (nf_Wrong : PySem.W.findIn K (.ref C_Wrong) "at" = some none) (kt_Wrong_ValueError : PySem.W.kitOne K (.ref C_Wrong) (.type "ValueError") = some (isx "Wrong" "ValueError")) (m_NoSpot : mg "NoSpot" = some (.ref C_NoSpot)) (kt_Wrong_NoSpot : PySem.W.kitOne K (.ref C_Wrong) (.ref C_NoSpot) = some (isx "Wrong" "NoSpot")) {f_Scale_mix : Addr} (g_Scale_mix : Fg P w K mg base (L2.CX P w) 6 f_Scale_mix (PmX mg K ts sp_Scale_mix)) (mt_Scale_mix : Meth K C_Scale "mix" f_Scale_mix) {f_Box_mix : Addr} (g_Box_mix : Fg P w K mg base (L2.CX P w) 7 f_Box_mix (PmX mg K ts sp_Box_mix)) (mt_Box_mix : Meth K C_Box "mix" f_Box_mix) (z_isinstance : mg "isinstance" = none) (z_ValueError : mg "ValueError" = none) : Fg P w K mg base (L2.CX P w) 8 f (Pm K ts sp__law_any_refused) := d_def Fn sc__law_any_refused (fun _ _ _ _ _ _ us hl => match us, hl with | [_, _], _ => rfl) sp__law_any_refused rd__law_any_refused (fun cdv A outer s H E wn hcd ht ag hr => by
  have S := sc__law_any_refused
  have hu := hr.units
  exact (dss_cons (ds_tryAs (i := 2) (E := fun _ _ _ _ => False) (R := fun _ _ _ _ => False) (cs := [("Wrong", "at")]) (exm := fun _ => true) rfl rfl S.nd rfl rfl ⟨by rfl, by decide, .inl m_ChainError⟩ takes0 (fun _ _ _ _ _ => XEnd.none) (by decide) (fun q hq C hC => by
        have e := List.mem_singleton.mp hq
        subst e
        cases Value.ref.inj (Option.some.inj (hC.symm.trans m_Wrong))
        exact em_Wrong_ChainError) (fun pn xe E R w' hw tk hE => by
        have ht := (congrArg Bg.ts hw).trans ht
        exact (dss_one (ds_expr (d_eith (d_methX (d_var 0) (fun D h => ob_Scale.uniq h) mt_Scale_mix ob_Scale.cls g_Scale_mix ht ag (hr.mono (by decide)) (fun σ => passAt tk σ) hE (da_cons (d_var 1) da_nil)) (d_methX (d_var 0) (fun D h => ob_Box.uniq h) mt_Box_mix ob_Box.cls g_Box_mix ht ag (hr.mono (by decide)) (fun σ => passAt tk σ) hE (da_cons (d_var 1) da_nil)))))) (fun a oe pn c C n x v dd w' hw hcs hc wd hd rp hz hf => by
        have ht := (congrArg Bg.ts hw).trans ht
        obtain ⟨rfl, rfl⟩ := Prod.mk.inj (List.mem_singleton.mp hcs)
        cases Value.ref.inj (Option.some.inj (hc.symm.trans m_Wrong))
        exact (dss_one (ds_ret (d_and (d_isX ex_Wrong hz hf wd hd (by rfl) z_isinstance (pv 2) (pe_bltn (v := .ty "ValueError") (by rfl) z_ValueError (by decide +kernel) rfl) (fun u h => h) kt_Wrong_ValueError) (d_one (d_not (d_isX ex_Wrong hz hf wd hd (by rfl) z_isinstance (pv 2) (pe_glob (v := .ref C_NoSpot) (by rfl) m_NoSpot rfl) (fun u h => h) kt_Wrong_NoSpot))))))))
    (dss_one (ds_ret d_bl)))) vc__law_any_refused
end
/-! Scale.marks -/
abbrev s_Scale_marks : Stmt := inS (topS 19) 1
abbrev N_Scale_marks : List Str := ["self"]
theorem sc_Scale_marks : FnScope N_Scale_marks ["self"] (defScope s_Scale_marks) := ⟨rfl, rfl, rfl, by decide +kernel, rfl, by decide +kernel, by decide +kernel⟩
def rd_Scale_marks : DS := (tRetD (tCallD cList (tConsD (tFldD ["Scale"] "_marks" (tVarD 0)) tNilD)))
def sp_Scale_marks : DSp := fun us P => ∃ ms : List Int, us = [.d (sx ms)] ∧ ms.length ≤ 8 ∧ P (.fr (IL ms))
theorem vc_Scale_marks : ∀ dvs Q, sp_Scale_marks dvs Q → dvs.length = 1 ∧ rd_Scale_marks { nx := fun _ => Q (.d .none), rt := Q } (startD N_Scale_marks dvs) := by
  rintro dvs Q ⟨ms, rfl, hl, h⟩
  refine ⟨rfl, ?_⟩
  have e := il_len ms
  unfold rd_Scale_marks
  walk_at "dl"
  exact ⟨_, _, _, rfl, List.mem_singleton.mpr rfl, rfl, h⟩
section
variable {ts : List Addr} {P : Program} {w : World} {K : PySem.W.Frag} {mg : Str → Option Value} {base : Heap}
theorem ok_Scale_marks {f : Addr} {fd : FuncData} (Fn : L2.Fun K "marks" "Scale.marks" s_Scale_marks f fd) {C_Scale : Addr} (m_Scale : mg "Scale" = some (.ref C_Scale)) (ob_Scale : ObC K "Scale" C_Scale) (na_Scale__marks : NoAttr K C_Scale "_marks") (z_list : mg "list" = none) : Fg P w K mg base (L2.CX P w) 1 f (Pm K ts sp_Scale_marks) := d_def Fn sc_Scale_marks (fun _ _ _ _ _ _ us hl => match us, hl with | [_], _ => rfl) sp_Scale_marks rd_Scale_marks (fun cdv A outer s H E wn hcd ht ag hr => by
  have S := sc_Scale_marks
  have hu := hr.units
  exact (dss_one (ds_ret (d_callTy k_list (by rfl) z_list (by decide +kernel) (da_cons (d_fld (na1 ob_Scale na_Scale__marks) (d_var 0)) da_nil))))) vc_Scale_marks
end
/-! Box.marks -/
abbrev s_Box_marks : Stmt := inS (topS 20) 1
abbrev N_Box_marks : List Str := ["self"]
theorem sc_Box_marks : FnScope N_Box_marks ["self"] (defScope s_Box_marks) := ⟨rfl, rfl, rfl, by decide +kernel, rfl, by decide +kernel, by decide +kernel⟩
def rd_Box_marks : DS := (tRetD (tCallD cList (tConsD (tFldD ["Box"] "_marks" (tVarD 0)) tNilD)))
def sp_Box_marks : DSp := fun us P => ∃ ms : List Int, us = [.d (bx ms)] ∧ ms.length ≤ 8 ∧ P (.fr (IL ms))
theorem vc_Box_marks : ∀ dvs Q, sp_Box_marks dvs Q → dvs.length = 1 ∧ rd_Box_marks { nx := fun _ => Q (.d .none), rt := Q } (startD N_Box_marks dvs) := by
  rintro dvs Q ⟨ms, rfl, hl, h⟩
  refine ⟨rfl, ?_⟩
  have e := il_len ms
  unfold rd_Box_marks
  walk_at "dl"
  exact ⟨_, _, _, rfl, List.mem_singleton.mpr rfl, rfl, h⟩
section
variable {ts : List Addr} {P : Program} {w : World} {K : PySem.W.Frag} {mg : Str → Option Value} {base : Heap}
theorem ok_Box_marks {f : Addr} {fd : FuncData} (Fn : L2.Fun K "marks" "Box.marks" s_Box_marks f fd) {C_Box : Addr} (m_Box : mg "Box" = some (.ref C_Box)) (ob_Box : ObC K "Box" C_Box) (na_Box__marks : NoAttr K C_Box "_marks") (z_list : mg "list" = none) : Fg P w K mg base (L2.CX P w) 1 f (Pm K ts sp_Box_marks) := d_def Fn sc_Box_marks (fun _ _ _ _ _ _ us hl => match us, hl with | [_], _ => rfl) sp_Box_marks rd_Box_marks (fun cdv A outer s H E wn hcd ht ag hr => by
  have S := sc_Box_marks
  have hu := hr.units
  exact (dss_one (ds_ret (d_callTy k_list (by rfl) z_list (by decide +kernel) (da_cons (d_fld (na1 ob_Box na_Box__marks) (d_var 0)) da_nil))))) vc_Box_marks
end
/-! _law_spots_right -/
abbrev s__law_spots_right : Stmt := topS 43
abbrev N__law_spots_right : List Str := ["_law_thing", "_law_marks_here", "_law_good", "_law_spot_here", "_law_doors", "_law_due_here", "_law_first", "_law_way", "_law_handed", "_law_told"]
theorem sc__law_spots_right : FnScope N__law_spots_right ["_law_thing", "_law_marks_here", "_law_good", "_law_spot_here", "_law_doors"] (defScope s__law_spots_right) := ⟨rfl, rfl, rfl, by decide +kernel, rfl, by decide +kernel, by decide +kernel⟩
def rd__law_spots_right : DS := (tSeqD (tSetD 5 (tTupD (tConsD (tCD (.str "told")) tNilD)))
    (tSeqD (tIfD (tNotD (tTru (tUse sp__law_is_row (tConsD (tVarD 3) (tConsD (tCD (.int 1)) (tConsD (tCD (.int 6)) (tConsD (tCD (.int 0)) tNilD))))))) (tSetD 5 (tTupD (tConsD (tCD (.str "refused")) (tConsD (tCD (.int 0)) tNilD)))) (fun d env => d.nx env))
    (tSeqD (tSetD 6 (tCallD cRepr (tConsD (tEith (tMethX "Scale" "mix" sp_Scale_mix (fun _ _ _ _ => False) (tVarD 0) (tConsD (tCallD cList (tConsD (tVarD 2) tNilD)) tNilD)) (tMethX "Box" "mix" sp_Box_mix (fun _ _ _ _ => False) (tVarD 0) (tConsD (tCallD cList (tConsD (tVarD 2) tNilD)) tNilD))) tNilD)))
    (tSeqD (tForD (gnD 7) (itLst (tVarD 4)) (tSeqD (tSetD 8 (tUse (sp__law_copy 8) (tConsD (tVarD 3) tNilD)))
        (tSeqD (fun d env => (tSetD 9 (tUse sp__law_spot_told (tConsD (tVarD 0) (tConsD (tVarD 8) (tConsD (tVarD 7) tNilD))))) d (frzS 8 env))
        (tSeqD (tIfD (tOrD (tAndD (tTst (tBin (gEqv id) (tVarD 9) (tTupD (tConsD (tCD (.str "unfit")) tNilD)))) (tOrD (tTst (tBin (gEqv id) (tVarD 7) (tCD (.int 0)))) (tTst (tBin (gEqv not) (tVarD 5) (tTupD (tConsD (tCD (.str "told")) tNilD)))))) (tAndD (tTst (tBin (gEqv id) (tBin gIx (tVarD 9) (tCD (.int 0))) (tCD (.str "refused")))) (tNotD (tTru (tUse sp__law_alike (tConsD (tVarD 9) (tConsD (tVarD 5) tNilD))))))) (tRetD (tCD (.bool false))) (fun d env => d.nx env))
        (tSeqD (tIfD (tOrD (tAndD (tTst (tBin (gEqv id) (tVarD 9) (tTupD (tConsD (tCD (.str "told")) tNilD)))) (tTst (tBin (gEqv not) (tVarD 5) (tTupD (tConsD (tCD (.str "told")) tNilD))))) (tTst (tBin (gEqv not) (tCallD cRepr (tConsD (tVarD 8) tNilD)) (tCallD cRepr (tConsD (tVarD 3) tNilD))))) (tRetD (tCD (.bool false))) (fun d env => d.nx env))
        (tSeqD (tIfD (tAndD (tTst (tBin (gEqv not) (tVarD 5) (tTupD (tConsD (tCD (.str "told")) tNilD)))) (tNotD (tTru (tUse sp__law_any_refused (tConsD (tVarD 0) (tConsD (tVarD 8) tNilD)))))) (tRetD (tCD (.bool false))) (fun d env => d.nx env))
        (tIfD (tOrD (tTst (tBin (gEqv not) (tCallD cRepr (tConsD (tEith (tMethX "Scale" "mix" sp_Scale_mix (fun _ _ _ _ => False) (tVarD 0) (tConsD (tCallD cList (tConsD (tVarD 2) tNilD)) tNilD)) (tMethX "Box" "mix" sp_Box_mix (fun _ _ _ _ => False) (tVarD 0) (tConsD (tCallD cList (tConsD (tVarD 2) tNilD)) tNilD))) tNilD)) (tVarD 6))) (tNotD (tTru (tUse sp__law_alike (tConsD (tEith (tMethX "Scale" "marks" (xOf sp_Scale_marks) (fun _ _ _ _ => False) (tVarD 0) tNilD) (tMethX "Box" "marks" (xOf sp_Box_marks) (fun _ _ _ _ => False) (tVarD 0) tNilD)) (tConsD (tVarD 1) tNilD)))))) (tRetD (tCD (.bool false))) (fun d env => d.nx env))))))))
    (tRetD (tCD (.bool true)))))))
theorem il_sh {ns : List Int} (hl : ns.length ≤ 8) (h : ∀ n ∈ ns, 0 ≤ n ∧ n ≤ 1000) : Sn 1 300 (.list (IL ns)) := (sn_lst (n := 0) (k := 11) (m := 8) (fun x hx => by
  obtain ⟨n, hn, rfl⟩ := List.mem_map.mp hx
  have := h n hn
  exact sn_int (j := 10) (by omega)) (by rw [il_len]; exact hl)).up
theorem mixW_sn {ms : List Int} {w : Int → Int} (hm : MksOk 2 ms) (w0 : ∀ m, 0 ≤ w m) (w1 : ∀ m, w m ≤ DD * 16) : Sn 3 48379 (.list (mixW ms w)) := (sn_lst (n := 2) (k := 6045) (m := 8) (fun x hx => by
  obtain ⟨n, hn, rfl⟩ := List.mem_map.mp hx
  have := hm.2.2.1 n (List.mem_filter.mp hn).1
  obtain ⟨b1, b2⟩ := fr_lt (w0 n) (w1 n)
  refine (sn_tup (n := 1) (k := 3019) (m := 2) fun y hy => ?_).up
  simp only [List.mem_cons, List.not_mem_nil, or_false] at hy
  rcases hy with rfl | rfl
  · exact (sn_int (j := 10) (show n.natAbs < 2 ^ 10 by omega)).up
  · refine (sn_tup (n := 0) (k := 1506) (m := 2) fun z hz => ?_).up
    simp only [List.mem_cons, List.not_mem_nil, or_false] at hz
    rcases hz with rfl | rfl
    · exact sn_int (j := 1505) b1
    · exact sn_int (j := 1505) b2) (by
    unfold mixW
    rw [List.length_map]
    exact Nat.le_trans (List.length_filter_le _ _) hm.2.1)).up
theorem mix_sn {ps : List Int} (hl : ps.length ≤ 6) (h : ∀ n ∈ ps, 0 ≤ n ∧ n ≤ 1000) : Sn 3 1000 (.list (mixD ps)) := (sn_lst (n := 2) (k := 100) (m := 6) (fun x hx => by
  obtain ⟨n, hn, rfl⟩ := List.mem_map.mp hx
  have := h n hn
  refine (sn_tup (n := 1) (k := 40) (m := 2) fun y hy => ?_).up
  simp only [List.mem_cons, List.not_mem_nil, or_false] at hy
  rcases hy with rfl | rfl
  · exact (sn_int (j := 10) (show n.natAbs < 2 ^ 10 by omega)).up
  · refine (sn_tup (n := 0) (k := 11) (m := 2) fun z hz => ?_).up
    simp only [List.mem_cons, List.not_mem_nil, or_false] at hz
    rcases hz with rfl | rfl <;> exact sn_int (j := 10) (by decide)) (by unfold mixD; rw [List.length_map]; exact hl)).up
theorem sh0 : SeqAt.shaped (PyData.tuple [PyData.str "refused", PyData.int 0]) = true := by
  simp [SeqAt.shaped, PyData.canLay0, PyData.canLayAll0, PyData.depth, PyData.depthAll]
  decide +kernel
theorem sh1 : SeqAt.shaped (PyData.tuple [PyData.str "told"]) = true := by
  simp [SeqAt.shaped, PyData.canLay0, PyData.canLayAll0, PyData.depth, PyData.depthAll]
  decide +kernel
theorem sh2 : SeqAt.shaped (PyData.tuple [PyData.str "unfit"]) = true := by
  simp [SeqAt.shaped, PyData.canLay0, PyData.canLayAll0, PyData.depth, PyData.depthAll]
  decide +kernel
theorem eqv1 (a b : Str) : (PyData.tuple [PyData.str a]).eqv (PyData.tuple [PyData.str b]) = decide (a = b) := by
  simp [PyData.eqv, PyData.eqvAll]
  try rfl
theorem eqv2 (a b : Str) (i : Int) : (PyData.tuple [PyData.str a, .int i]).eqv (PyData.tuple [PyData.str b]) = false := by
  simp [PyData.eqv, PyData.eqvAll]
theorem d_ut : decide (("unfit" : Str) = "told") = false := by decide +kernel
theorem d_tu : decide (("told" : Str) = "unfit") = false := by decide +kernel
theorem d_tr : decide (("told" : Str) = "refused") = false := by decide +kernel
theorem d_ur : decide (("unfit" : Str) = "refused") = false := by decide +kernel
theorem al0 : selfEq (PyData.tuple [PyData.str "refused", PyData.int 0]) ∧ Sh (PyData.tuple [PyData.str "refused", PyData.int 0]) := by
  refine ⟨⟨sh0, by simp [PyData.eqv, PyData.eqvAll]⟩, (sn_tup (n := 0) (k := 20) (m := 2) fun y hy => ?_).sh⟩
  simp only [List.mem_cons, List.not_mem_nil, or_false] at hy
  rcases hy with rfl | rfl
  · exact (sn_str (k := 20) (by decide +kernel))
  · exact (sn_int (j := 4) (by decide)).up
theorem il_ly (ns : List Int) : Ly 1 (.list (IL ns)) := ly_lst fun x hx => by
  obtain ⟨n, _, rfl⟩ := List.mem_map.mp hx
  exact ly_int n
theorem Thg.marks {th : PyData} {ms : List Int} {fit : List Int → Bool} {mx : List Int → List PyData} {P : DV → Prop} (ht : Thg th ms fit mx) (h : P (.fr (IL ms))) :
    (∃ ds, DV.d th = DV.d (obD "Scale" ds) ∧ ¬ ("marks" : Str) ∈ List.map Prod.fst ds ∧ sp_Scale_marks [.d (obD "Scale" ds)] P) ∨ ∃ ds, DV.d th = DV.d (obD "Box" ds) ∧ ¬ ("marks" : Str) ∈ List.map Prod.fst ds ∧ sp_Box_marks [.d (obD "Box" ds)] P := by
  rcases ht.k with ⟨rfl, hm, rfl, rfl⟩ | ⟨rfl, hm, rfl, rfl⟩
  · exact .inl ⟨_, rfl, nf1 (by decide), ms, rfl, hm.2.1, h⟩
  · exact .inr ⟨_, rfl, nf1 (by decide), ms, rfl, hm.2.1, h⟩
theorem Thg.sn {th : PyData} {ms gs : List Int} {fit : List Int → Bool} {mx : List Int → List PyData} (ht : Thg th ms fit mx) (hg : SpOk gs) : Sh (.list (mx gs)) ∧ Sn 1 300 (.list (IL ms)) := by
  rcases ht.k with ⟨rfl, hm, rfl, rfl⟩ | ⟨rfl, hm, rfl, rfl⟩
  · obtain ⟨m1, m2, m3, m4⟩ := id hm
    refine ⟨(mixW_sn hm (fun m => wS_nn m4 m3 m _) fun m => ?_).sh, il_sh m2 m3⟩
    have a := wS_le m4 m3 m gs
    have dp := DD_pos
    have := hg.2.1
    have : DD * (gs.length : Int) ≤ DD * 16 := Int.mul_le_mul_of_nonneg_left (by omega) (Int.le_of_lt dp)
    omega
  · obtain ⟨m1, m2, m3, m4⟩ := id hm
    exact ⟨(mix_sn hg.2.1 hg.2.2.1).sh, il_sh m2 m3⟩
def sp__law_spots_right : DSp := fun us P => ∃ (th x : PyData) (ms gs : List Int) (fit : List Int → Bool) (mx : List Int → List PyData) (d1 d2 : Int), us = [.d th, .d (.list (IL ms)), .d (.list (IL gs)), .d x, .d (.list [.int d1, .int d2])] ∧ Thg th ms fit mx ∧ SpOk gs ∧ fit gs = true ∧ Sn 3 3000 x ∧ okC x = true ∧ P (.d (.bool true))
theorem vc__law_spots_right : ∀ dvs Q, sp__law_spots_right dvs Q → dvs.length = 5 ∧ rd__law_spots_right { nx := fun _ => Q (.d .none), rt := Q } (startD N__law_spots_right dvs) := by
  rintro dvs Q ⟨th, x, ms, gs, fit, mx, d1, d2, rfl, ht, hg, fg, hs, hc, h⟩
  refine ⟨rfl, ?_⟩
  obtain ⟨shm, shl⟩ := ht.sn hg
  unfold rd__law_spots_right
  refine seqG fun R hR => ?_
  walk_at "dl"
  refine ⟨by decide, hR _ (seqG fun R hR => ?_)⟩
  have nxt : R [.d th, .d (.list (IL ms)), .d (.list (IL gs)), .d x, .d (.list [.int d1, .int d2]), .d (if spotB x = true then toldR none else toldR (some 0)), .un, .un, .un, .un] := hR _ (seqG fun R hR => by
    walk_at "dl"
    refine ht.mix (.inr ⟨gs, rfl, hg, .inl ⟨fg, ?_⟩⟩)
    walk_at "dl"
    refine ⟨shm, hR _ (seqG fun R hR => ?_)⟩
    refine forD_ind (fun zs env => ∃ s7 s8 s9, env = [.d th, .d (.list (IL ms)), .d (.list (IL gs)), .d x, .d (.list [.int d1, .int d2]), .d (if spotB x = true then toldR none else toldR (some 0)), .d (.str (PyData.list (mx gs)).shown), s7, s8, s9] ∧ ∀ z ∈ zs, ∃ k : Int, z = .int k) (fun env hI => ?_) (fun z zs env R2 hI hR2 => ?_) _ _ ⟨_, _, _, rfl, by simp⟩
    · obtain ⟨s7, s8, s9, rfl, _⟩ := hI
      refine hR _ ?_
      walk_at "dl"
      exact h
    · obtain ⟨s7, s8, s9, rfl, hz⟩ := hI
      obtain ⟨k, rfl⟩ := hz z List.mem_cons_self
      have go : ∀ s7 s8 s9, R2 [.d th, .d (.list (IL ms)), .d (.list (IL gs)), .d x, .d (.list [.int d1, .int d2]), .d (if spotB x = true then toldR none else toldR (some 0)), .d (.str (PyData.list (mx gs)).shown), s7, s8, s9] := fun s7 s8 s9 => hR2 _ ⟨s7, s8, s9, rfl, fun y hy => hz y (List.mem_cons_of_mem _ hy)⟩
      refine gnG (seqG fun R hR => ?_)
      walk_at "dl"
      refine ⟨x, rfl, Nat.le_trans hs.deep (by decide), hc, ?_⟩
      refine st_cpR x _ _ _ fun s hs8 => hR _ (seqG fun R hR => ?_)
      have told : ∀ t, (t = toldR (some 0) ∧ spotB x = false) ∨ (t = toldR none ∧ spotB x = true) ∨ (t = .tuple [.str "unfit"] ∧ spotB x = true ∧ k ≠ 0) → R [.d th, .d (.list (IL ms)), .d (.list (IL gs)), .d x, .d (.list [.int d1, .int d2]), .d (if spotB x = true then toldR none else toldR (some 0)), .d (.str (PyData.list (mx gs)).shown), .d (.int k), .d x, .d t] := fun t ht3 => hR _ (seqG fun R hR => by
        have rest : ∀ A, A = R [.d th, .d (.list (IL ms)), .d (.list (IL gs)), .d x, .d (.list [.int d1, .int d2]), .d (if spotB x = true then toldR none else toldR (some 0)), .d (.str (PyData.list (mx gs)).shown), .d (.int k), .d x, .d t] → True := fun _ _ => trivial
        refine ifG fun P1 P2 hP hN => ?_
        rcases ht3 with ⟨rfl, e⟩ | ⟨rfl, e⟩ | ⟨rfl, e, nk⟩
        · simp only [e, Bool.false_eq_true, if_false, toldR]
          walk_at "dl"
          simp only [sh0, sh1, sh2, eqv1, eqv2, d_ut, d_tu, d_tr, d_ur, true_and, Bool.false_eq_true, if_false]
          refine ⟨by decide, ?_⟩
          rw [if_pos (by decide)]
          refine ⟨_, rfl, al0.1, al0.2, ?_⟩
          walk_at "dl"
          refine hN (hR _ (seqG fun R hR => ?_))
          refine ifG fun P1 P2 hP hN => ?_
          simp only [e, Bool.false_eq_true, if_false, toldR]
          walk_at "dl"
          simp only [sh0, sh1, sh2, eqv1, eqv2, d_ut, d_tu, d_tr, d_ur, true_and, Bool.false_eq_true, if_false]
          refine ⟨by decide, hs.sh, hs.sh, ?_⟩
          rw [if_neg (by decide)]
          refine hN (hR _ (seqG fun R hR => ?_))
          refine ifG fun P1 P2 hP hN => ?_
          simp only [e, Bool.false_eq_true, if_false, toldR]
          walk_at "dl"
          simp only [sh0, sh1, sh2, eqv1, eqv2, d_ut, d_tu, d_tr, d_ur, true_and, Bool.false_eq_true, if_false]
          refine ⟨by decide, ?_⟩
          rw [if_pos (by decide)]
          refine ⟨th, x, ms, fit, mx, rfl, ht, e, ?_⟩
          walk_at "dl"
          refine hN (hR _ ?_)
          refine ifG fun P1 P2 hP hN => ?_
          walk_at "dl"
          refine ht.mix (.inr ⟨gs, rfl, hg, .inl ⟨fg, ?_⟩⟩)
          walk_at "dl"
          refine ⟨shm, ?_⟩
          rw [if_neg (by decide)]
          refine ht.marks ?_
          walk_at "dl"
          refine ⟨_, rfl, (il_ly ms).selfEq, shl.sh, ?_⟩
          walk_at "dl"
          exact hN (go _ _ _)
        · simp only [e, if_true, toldR]
          walk_at "dl"
          simp only [sh0, sh1, sh2, eqv1, eqv2, d_ut, d_tu, d_tr, d_ur, true_and, Bool.false_eq_true, if_false]
          refine ⟨by decide, hN (hR _ (seqG fun R hR => ?_))⟩
          refine ifG fun P1 P2 hP hN => ?_
          simp only [e, if_true, toldR]
          walk_at "dl"
          simp only [sh0, sh1, sh2, eqv1, eqv2, d_ut, d_tu, d_tr, d_ur, true_and, Bool.false_eq_true, if_false]
          refine ⟨by decide, ?_⟩
          rw [if_pos (by decide)]
          refine ⟨by decide, ?_⟩
          rw [if_neg (by decide)]
          refine ⟨hs.sh, hs.sh, ?_⟩
          rw [if_neg (by decide)]
          refine hN (hR _ (seqG fun R hR => ?_))
          refine ifG fun P1 P2 hP hN => ?_
          simp only [e, if_true, toldR]
          walk_at "dl"
          simp only [sh0, sh1, sh2, eqv1, eqv2, d_ut, d_tu, d_tr, d_ur, true_and, Bool.false_eq_true, if_false]
          refine ⟨by decide, ?_⟩
          rw [if_neg (by decide)]
          refine hN (hR _ ?_)
          refine ifG fun P1 P2 hP hN => ?_
          walk_at "dl"
          refine ht.mix (.inr ⟨gs, rfl, hg, .inl ⟨fg, ?_⟩⟩)
          walk_at "dl"
          refine ⟨shm, ?_⟩
          rw [if_neg (by decide)]
          refine ht.marks ?_
          walk_at "dl"
          refine ⟨_, rfl, (il_ly ms).selfEq, shl.sh, ?_⟩
          walk_at "dl"
          exact hN (go _ _ _)
        · simp only [e, if_true, toldR]
          walk_at "dl"
          simp only [sh0, sh1, sh2, eqv1, eqv2, d_ut, d_tu, d_tr, d_ur, true_and, Bool.false_eq_true, if_false]
          refine ⟨by decide, ?_⟩
          rw [if_pos (by decide), if_neg (by rw [decide_eq_false nk]; decide)]
          refine ⟨by decide, ?_⟩
          rw [if_neg (by decide)]
          refine hN (hR _ (seqG fun R hR => ?_))
          refine ifG fun P1 P2 hP hN => ?_
          simp only [e, if_true, toldR]
          walk_at "dl"
          simp only [sh0, sh1, sh2, eqv1, eqv2, d_ut, d_tu, d_tr, d_ur, true_and, Bool.false_eq_true, if_false]
          refine ⟨by decide, hs.sh, hs.sh, ?_⟩
          rw [if_neg (by decide)]
          refine hN (hR _ (seqG fun R hR => ?_))
          refine ifG fun P1 P2 hP hN => ?_
          simp only [e, if_true, toldR]
          walk_at "dl"
          simp only [sh0, sh1, sh2, eqv1, eqv2, d_ut, d_tu, d_tr, d_ur, true_and, Bool.false_eq_true, if_false]
          refine ⟨by decide, ?_⟩
          rw [if_neg (by decide)]
          refine hN (hR _ ?_)
          refine ifG fun P1 P2 hP hN => ?_
          walk_at "dl"
          refine ht.mix (.inr ⟨gs, rfl, hg, .inl ⟨fg, ?_⟩⟩)
          walk_at "dl"
          refine ⟨shm, ?_⟩
          rw [if_neg (by decide)]
          refine ht.marks ?_
          walk_at "dl"
          refine ⟨_, rfl, (il_ly ms).selfEq, shl.sh, ?_⟩
          walk_at "dl"
          exact hN (go _ _ _))
      have call : sp__law_spot_told [.d th, .d x, .d (.int k)] fun r => stD 9 r [.d th, .d (.list (IL ms)), .d (.list (IL gs)), .d x, .d (.list [.int d1, .int d2]), .d (if spotB x = true then toldR none else toldR (some 0)), .d (.str (PyData.list (mx gs)).shown), .d (.int k), .d x, s9] R := by
        refine ⟨th, x, k, ms, fit, mx, rfl, ht, ?_⟩
        cases e : spotB x with
        | false =>
          rw [e] at told
          exact .inl ⟨rfl, told _ (.inl ⟨rfl, rfl⟩)⟩
        | true =>
          obtain ⟨ps, rfl, hp⟩ := spot_cases e
          rw [e] at told
          exact .inr ⟨ps, rfl, hp, fun _ => told _ (.inr (.inl ⟨rfl, rfl⟩)), fun _ nk => told _ (.inr (.inr ⟨rfl, rfl, nk⟩))⟩
      cases hs8 with
      | d =>
        walk_at "dl"
        exact call
      | ow =>
        walk_at "dl"
        exact call)
  refine ifG fun P1 P2 hP hN => ?_
  walk_at "dl"
  refine ⟨x, 1, 6, 0, rfl, by decide, by decide, ?_⟩
  rw [ptsB_spot]
  cases e : spotB x with
  | true =>
    rw [e] at nxt
    walk_at "dl"
    exact hN nxt
  | false =>
    rw [e] at nxt
    walk_at "dl"
    refine hP ?_
    walk_at "dl"
    exact ⟨by decide, nxt⟩
section
variable {ts : List Addr} {P : Program} {w : World} {K : PySem.W.Frag} {mg : Str → Option Value} {base : Heap}
theorem ok__law_spots_right {f : Addr} {fd : FuncData} (Fn : L2.Fun K "_law_spots_right" "_law_spots_right" s__law_spots_right f fd) {C_Scale C_Box : Addr} (m_Scale : mg "Scale" = some (.ref C_Scale)) (ob_Scale : ObC K "Scale" C_Scale) (m_Box : mg "Box" = some (.ref C_Box)) (ob_Box : ObC K "Box" C_Box) {f__law_is_row : Addr} (g__law_is_row : Fg P w K mg base (L2.CX P w) 2 f__law_is_row (Pm K ts sp__law_is_row)) (m__law_is_row : mg "_law_is_row" = some (.ref f__law_is_row)) (p__law_is_row : PySem.W.keepIn K (.ref f__law_is_row) = true) {f_Scale_mix : Addr} (g_Scale_mix : Fg P w K mg base (L2.CX P w) 6 f_Scale_mix (PmX mg K ts sp_Scale_mix)) (mt_Scale_mix : Meth K C_Scale "mix" f_Scale_mix) {f_Box_mix : Addr} (g_Box_mix : Fg P w K mg base (L2.CX P w) 7 f_Box_mix (PmX mg K ts sp_Box_mix)) (mt_Box_mix : Meth K C_Box "mix" f_Box_mix) {f__law_copy : Addr} (g__law_copy : Fg P w K mg base (L2.CX P w) 9 f__law_copy (Pm K ts (sp__law_copy 8))) (m__law_copy : mg "_law_copy" = some (.ref f__law_copy)) (p__law_copy : PySem.W.keepIn K (.ref f__law_copy) = true) {f__law_spot_told : Addr} (g__law_spot_told : Fg P w K mg base (L2.CX P w) 8 f__law_spot_told (Pm K ts sp__law_spot_told)) (m__law_spot_told : mg "_law_spot_told" = some (.ref f__law_spot_told)) (p__law_spot_told : PySem.W.keepIn K (.ref f__law_spot_told) = true) {f__law_alike : Addr} (g__law_alike : Fg P w K mg base (L2.CX P w) 1 f__law_alike (Pm K ts sp__law_alike)) (m__law_alike : mg "_law_alike" = some (.ref f__law_alike)) (p__law_alike : PySem.W.keepIn K (.ref f__law_alike) = true) {f__law_any_refused : Addr} (g__law_any_refused : Fg P w K mg base (L2.CX P w) 8 f__law_any_refused (Pm K ts sp__law_any_refused)) (m__law_any_refused : mg "_law_any_refused" = some (.ref f__law_any_refused)) (p__law_any_refused : PySem.W.keepIn K (.ref f__law_any_refused) = true) {f_Scale_marks : Addr} (g_Scale_marks : Fg P w K mg base (L2.CX P w) 1 f_Scale_marks (Pm K ts sp_Scale_marks)) (mt_Scale_marks : Meth K C_Scale "marks" f_Scale_marks) {f_Box_marks : Addr} (g_Box_marks : Fg P w K mg base (L2.CX P w) 1 f_Box_marks (Pm K ts sp_Box_marks)) (mt_Box_marks : Meth K C_Box "marks" f_Box_marks) (z_repr : mg "repr" = none) (z_list : mg "list" = none) : Fg P w K mg base (L2.CX P w) 10 f (Pm K ts sp__law_spots_right) := d_def Fn sc__law_spots_right (fun _ _ _ _ _ _ us hl => match us, hl with | [_, _, _, _, _], _ => rfl) sp__law_spots_right rd__law_spots_right (fun cdv A outer s H E wn hcd ht ag hr => by
  have S := sc__law_spots_right
  have hu := hr.units
  exact (dss_cons (ds_set (i := 5) S.nd rfl (by first | exact Or.inl rfl | exact Or.inr rfl) (d_tup (da_cons d_str da_nil)))
    (dss_cons (ds_if (dt_not (dt_e (d_use g__law_is_row ht ag (hr.mono (by decide)) passZ (by rfl) m__law_is_row p__law_is_row (da_cons (d_var 3) (da_cons d_int (da_cons d_int (da_cons d_int da_nil))))))) (dss_one (ds_set (i := 5) S.nd rfl (by first | exact Or.inl rfl | exact Or.inr rfl) (d_tup (da_cons d_str (da_cons d_int da_nil))))) dss_nil)
    (dss_cons (ds_set (i := 6) S.nd rfl (by first | exact Or.inl rfl | exact Or.inr rfl) (d_callB (k_repr ag hu) (by rfl) z_repr (by decide +kernel) (da_cons (d_eith (d_methX (E := fun _ _ _ _ => False) (R := fun _ _ _ _ => False) (d_var 0) (fun D h => ob_Scale.uniq h) mt_Scale_mix ob_Scale.cls g_Scale_mix ht ag (hr.mono (by decide)) (ps_at passZ) (fun _ _ _ _ _ => XEnd.none) (da_cons (d_callTy k_list (by rfl) z_list (by decide +kernel) (da_cons (d_var 2) da_nil)) da_nil)) (d_methX (E := fun _ _ _ _ => False) (R := fun _ _ _ _ => False) (d_var 0) (fun D h => ob_Box.uniq h) mt_Box_mix ob_Box.cls g_Box_mix ht ag (hr.mono (by decide)) (ps_at passZ) (fun _ _ _ _ _ => XEnd.none) (da_cons (d_callTy k_list (by rfl) z_list (by decide +kernel) (da_cons (d_var 2) da_nil)) da_nil))) da_nil)))
    (dss_cons (ds_for PassesOwn.never rfl (di_list (d_var 4)) (dg_name (i := 7) S.nd rfl (by first | exact Or.inl rfl | exact Or.inr rfl)) (dss_cons (ds_set (i := 8) S.nd rfl (by first | exact Or.inl rfl | exact Or.inr rfl) (d_use g__law_copy ht ag (hr.mono (by decide)) passZ (by rfl) m__law_copy p__law_copy (da_cons (d_var 3) da_nil)))
        (dss_cons (ds_frz 8 (ds_set (i := 9) S.nd rfl (by first | exact Or.inl rfl | exact Or.inr rfl) (d_use g__law_spot_told ht ag (hr.mono (by decide)) passZ (by rfl) m__law_spot_told p__law_spot_told (da_cons (d_var 0) (da_cons (d_var 8) (da_cons (d_var 7) da_nil))))))
        (dss_cons (ds_if (dt_w (dw_or (dt_w (dw_and (dt_cmp (o_eq hu) (d_var 9) (d_tup (da_cons d_str da_nil))) (dw_and1 (dt_w (dw_or (dt_cmp (o_eq hu) (d_var 7) d_int) (dw_or1 (dt_cmp (o_ne hu) (d_var 5) (d_tup (da_cons d_str da_nil))))))))) (dw_or1 (dt_w (dw_and (dt_cmp (o_eq hu) (d_ix (d_var 9) d_int) d_str) (dw_and1 (dt_not (dt_e (d_use g__law_alike ht ag (hr.mono (by decide)) passZ (by rfl) m__law_alike p__law_alike (da_cons (d_var 9) (da_cons (d_var 5) da_nil))))))))))) (dss_one (ds_ret d_bl)) dss_nil)
        (dss_cons (ds_if (dt_w (dw_or (dt_w (dw_and (dt_cmp (o_eq hu) (d_var 9) (d_tup (da_cons d_str da_nil))) (dw_and1 (dt_cmp (o_ne hu) (d_var 5) (d_tup (da_cons d_str da_nil)))))) (dw_or1 (dt_cmp (o_ne hu) (d_callB (k_repr ag hu) (by rfl) z_repr (by decide +kernel) (da_cons (d_var 8) da_nil)) (d_callB (k_repr ag hu) (by rfl) z_repr (by decide +kernel) (da_cons (d_var 3) da_nil)))))) (dss_one (ds_ret d_bl)) dss_nil)
        (dss_cons (ds_if (dt_w (dw_and (dt_cmp (o_ne hu) (d_var 5) (d_tup (da_cons d_str da_nil))) (dw_and1 (dt_not (dt_e (d_use g__law_any_refused ht ag (hr.mono (by decide)) passZ (by rfl) m__law_any_refused p__law_any_refused (da_cons (d_var 0) (da_cons (d_var 8) da_nil)))))))) (dss_one (ds_ret d_bl)) dss_nil)
        (dss_one (ds_if (dt_w (dw_or (dt_cmp (o_ne hu) (d_callB (k_repr ag hu) (by rfl) z_repr (by decide +kernel) (da_cons (d_eith (d_methX (E := fun _ _ _ _ => False) (R := fun _ _ _ _ => False) (d_var 0) (fun D h => ob_Scale.uniq h) mt_Scale_mix ob_Scale.cls g_Scale_mix ht ag (hr.mono (by decide)) (ps_at passZ) (fun _ _ _ _ _ => XEnd.none) (da_cons (d_callTy k_list (by rfl) z_list (by decide +kernel) (da_cons (d_var 2) da_nil)) da_nil)) (d_methX (E := fun _ _ _ _ => False) (R := fun _ _ _ _ => False) (d_var 0) (fun D h => ob_Box.uniq h) mt_Box_mix ob_Box.cls g_Box_mix ht ag (hr.mono (by decide)) (ps_at passZ) (fun _ _ _ _ _ => XEnd.none) (da_cons (d_callTy k_list (by rfl) z_list (by decide +kernel) (da_cons (d_var 2) da_nil)) da_nil))) da_nil)) (d_var 6)) (dw_or1 (dt_not (dt_e (d_use g__law_alike ht ag (hr.mono (by decide)) passZ (by rfl) m__law_alike p__law_alike (da_cons (d_eith (d_methX0 (E := fun _ _ _ _ => False) (R := fun _ _ _ _ => False) (d_var 0) (fun D h => ob_Scale.uniq h) mt_Scale_marks ob_Scale.cls (fg_x g_Scale_marks) ht ag (hr.mono (by decide)) (ps_at passZ) (fun _ _ _ _ _ => XEnd.none)) (d_methX0 (E := fun _ _ _ _ => False) (R := fun _ _ _ _ => False) (d_var 0) (fun D h => ob_Box.uniq h) mt_Box_marks ob_Box.cls (fg_x g_Box_marks) ht ag (hr.mono (by decide)) (ps_at passZ) (fun _ _ _ _ _ => XEnd.none))) (da_cons (d_var 1) da_nil)))))))) (dss_one (ds_ret d_bl)) dss_nil))))))))
    (dss_one (ds_ret d_bl))))))) vc__law_spots_right
end
/-! law -/
abbrev s_law : Stmt := topS 44
abbrev N_law : List Str := ["_law_script", "_law_bag_here", "_law_ways", "_law_k", "_law_also", "_law_sort", "_law_doors", "_law_real", "_law_marks_here", "_law_spoilt_here", "_law_way", "_law_handed", "_law_told", "_law_good", "_law_spot_here", "_law_thing"]
theorem sc_law : FnScope N_law ["_law_script"] (defScope s_law) := ⟨rfl, rfl, rfl, by decide +kernel, rfl, by decide +kernel, by decide +kernel⟩
def rd_law : DS := (tSeqD (tSetD 2 (tLcD (itR1 (tConsD (tCD (.int 2)) tNilD)) (gnD 3) (fun _ P => P true) (tUse sp__law_take (tConsD (tVarD 1) (tConsD (tCD (.int 13)) tNilD))) [3]))
    (tSeqD (tSetD 4 (tLcD (itR1 (tConsD (tCD (.int 2)) tNilD)) (gnD 3) (fun _ P => P true) (tUse sp__law_take (tConsD (tVarD 1) (tConsD (tCD (.int 13)) tNilD))) [3]))
    (tSeqD (tSetD 5 (tUse sp__law_take (tConsD (tVarD 1) (tConsD (tCD (.int 12)) tNilD))))
    (tSeqD (tSetD 5 (tBin gIx (tLstD (tConsD (tCD (.str "scale")) (tConsD (tCD (.str "box")) (tConsD (tCD (.str "scale")) (tConsD (tCD (.str "box")) (tConsD (tCD (.str "Scale")) (tConsD (tCD (.str "")) (tConsD (tCD (.str "any")) (tConsD (tCD .none) (tConsD (tCD (.int 5)) (tConsD (tLstD (tConsD (tCD (.str "box")) tNilD)) (tConsD (tTupD (tConsD (tCD (.str "scale")) tNilD)) (tConsD (tCD (.str "boxes")) tNilD))))))))))))) (tVarD 5)))
    (tSeqD (tSetD 6 (tBin gIx (tLstD (tConsD (tLstD (tConsD (tCD (.int 0)) (tConsD (tCD (.int 1)) tNilD))) (tConsD (tLstD (tConsD (tCD (.int 1)) (tConsD (tCD (.int 0)) tNilD))) tNilD))) (tUse sp__law_take (tConsD (tVarD 1) (tConsD (tCD (.int 2)) tNilD)))))
    (tSeqD (tSetD 7 (tBin gIx (tLstD (tConsD (tCD (.str "scale")) (tConsD (tCD (.str "box")) tNilD))) (tUse sp__law_take (tConsD (tVarD 1) (tConsD (tCD (.int 2)) tNilD)))))
    (tSeqD (tSetD 8 (tUse sp__law_marks (tConsD (tVarD 1) (tConsD (tVarD 7) tNilD))))
    (tSeqD (fun d env => (fun d env => (tSetD 9 (tUse sp__law_spoilt (tConsD (tVarD 1) (tConsD (tVarD 8) (tConsD (tVarD 2) tNilD))))) d (frzS 8 env)) d (frzS 2 env))
    (tSeqD (tForD (gnD 10) (itLst (tLstD (tConsD (tCD (.str "scale")) (tConsD (tCD (.str "box")) (tConsD (tCD (.str "any")) tNilD))))) (tSeqD (tSetD 11 (tUse (sp__law_copy 8) (tConsD (tVarD 9) tNilD)))
        (tSeqD (tSetD 12 (tUse sp__law_refused (tConsD (tVarD 5) (tConsD (tVarD 11) (tConsD (tVarD 10) tNilD)))))
        (tIfD (tOrD (tNotD (tTru (tUse sp__law_alike (tConsD (tVarD 12) (tConsD (tUse sp__law_due (tConsD (tVarD 5) (tConsD (tVarD 9) (tConsD (tVarD 10) tNilD)))) tNilD))))) (tTst (tBin (gEqv not) (tCallD cRepr (tConsD (tVarD 11) tNilD)) (tCallD cRepr (tConsD (tVarD 9) tNilD))))) (tRetD (tCD (.bool false))) (fun d env => d.nx env)))))
    (tSeqD (tSetD 13 (tUse sp__law_spot (tConsD (tVarD 1) (tConsD (tVarD 7) (tConsD (tVarD 8) tNilD)))))
    (tSeqD (fun d env => (fun d env => (tSetD 14 (tUse sp__law_spoilt (tConsD (tVarD 1) (tConsD (tVarD 13) (tConsD (tVarD 4) tNilD))))) d (frzS 13 env)) d (frzS 4 env))
    (tSeqD (tSetD 15 (tUseX sp__law_made (fun _ _ _ _ => False) (tConsD (tVarD 7) (tConsD (tCallD cList (tConsD (tVarD 8) tNilD)) (tConsD (tBin gIx (tLstD (tConsD (tVarD 7) (tConsD (tCD (.str "any")) tNilD))) (tUse sp__law_take (tConsD (tVarD 1) (tConsD (tCD (.int 2)) tNilD)))) tNilD)))))
    (tRetD (tUse sp__law_spots_right (tConsD (tVarD 15) (tConsD (tVarD 8) (tConsD (tVarD 13) (tConsD (tVarD 14) (tConsD (tVarD 6) tNilD)))))))))))))))))))
theorem toldR_ok (s x : PyData) (w : Str) : selfEq (toldR (wrgF s x w)) ∧ Sh (toldR (wrgF s x w)) := by
  have one : selfEq (toldR none) ∧ Sh (toldR none) := by
    refine ⟨⟨sh1, by rw [show toldR none = .tuple [.str "told"] from rfl, eqv1]; rfl⟩, (sn_tup (n := 0) (k := 20) (m := 1) fun y hy => ?_).sh⟩
    rw [List.mem_singleton.mp hy]
    exact sn_str (k := 20) (by decide +kernel)
  have two : ∀ i : Int, i = 0 ∨ i = 1 → selfEq (toldR (some i)) ∧ Sh (toldR (some i)) := fun i hi => by
    rcases hi with rfl | rfl
    · exact al0
    · refine ⟨⟨by
        simp [toldR, SeqAt.shaped, PyData.canLay0, PyData.canLayAll0, PyData.depth, PyData.depthAll]
        decide +kernel, by simp [toldR, PyData.eqv, PyData.eqvAll]⟩, (sn_tup (n := 0) (k := 20) (m := 2) fun y hy => ?_).sh⟩
      simp only [List.mem_cons, List.not_mem_nil, or_false] at hy
      rcases hy with rfl | rfl
      · exact (sn_str (k := 20) (by decide +kernel))
      · exact (sn_int (j := 4) (by decide)).up
  unfold wrgF
  split
  · split
    · split
      · split
        · exact one
        · exact two 1 (.inr rfl)
      · exact one
    · exact two 0 (.inl rfl)
  · split
    · exact one
    · exact two 0 (.inl rfl)
theorem toldR_noL (o : Option Int) : noL (toldR o) = true := by cases o <;> rfl
theorem made_th {z w : Str} {ms : List Int} {th : PyData} {Lf : List Int → List (Int × Int)} {Sp : List Int → Prop} {P : DV → Prop} {R : XD} (kin : Kin z ms th Lf Sp) (hw : w = z ∨ w = "any") (h : P (.d th)) : sp__law_made [.d (.str z), .d (.list (IL ms)), .d (.str w)] P R := by
  refine ⟨_, _, w, rfl, ?_⟩
  rcases kin with ⟨rfl, hm, rfl, _, _⟩ | ⟨rfl, hm, rfl, _, _⟩
  · rcases hw with rfl | rfl
    · exact .inl ⟨rfl, .inl ⟨ms, rfl, hm, h⟩⟩
    · exact .inr (.inr ⟨by decide +kernel, by decide +kernel, _, _, rfl, .inl ⟨_, ms, rfl, rfl, .inl ⟨rfl, hm, h⟩⟩⟩)
  · rcases hw with rfl | rfl
    · exact .inr (.inl ⟨rfl, .inl ⟨ms, rfl, hm, h⟩⟩)
    · exact .inr (.inr ⟨by decide +kernel, by decide +kernel, _, _, rfl, .inl ⟨_, ms, rfl, rfl, .inr ⟨rfl, hm, h⟩⟩⟩)
theorem kin_thg {z : Str} {ms gs : List Int} {th : PyData} {Lf : List Int → List (Int × Int)} {Sp : List Int → Prop} (kin : Kin z ms th Lf Sp) (h : Sp gs) : ∃ fit mx, Thg th ms fit mx ∧ SpOk gs ∧ fit gs = true := by
  rcases kin with ⟨rfl, hm, rfl, _, rfl⟩ | ⟨rfl, hm, rfl, _, rfl⟩
  · exact ⟨_, _, ⟨.inl ⟨rfl, hm, rfl, rfl⟩⟩, h.1, h.2⟩
  · exact ⟨_, _, ⟨.inr ⟨rfl, hm, rfl, rfl⟩⟩, h.1, h.2⟩
theorem vc_law : rd_law { nx := fun _ => False, rt := fun dv => dv = .d (.bool true) } (.un :: .bag :: List.replicate 14 .un) := by
  unfold rd_law
  refine seqG fun R hR => ?_
  walk_at "dl"
  unfold tLcD
  walk_at "dl"
  refine ⟨⟨by decide, by decide⟩, ?_⟩
  refine lc_all (fun y => ∃ k : Int, y = .int k ∧ 0 ≤ k ∧ k ≤ 12) (by rw [rngD_len]; decide) (fun ws yl yp => ?_) (fun y hy S hS => by
    obtain ⟨j, hj, rfl⟩ := mem_rngD hy
    walk_at "dl"
    refine ⟨13, rfl, by decide, by decide, fun r r0 r1 => ?_⟩
    walk_at "dl"
    exact hS _ ⟨r, rfl, r0, by omega⟩)
  rw [rngD_len] at yl
  obtain ⟨a1, b1, rfl⟩ : ∃ a b, ws = [a, b] := by
    match ws, yl with
    | [a, b], _ => exact ⟨a, b, rfl⟩
  obtain ⟨w1, rfl, p0, p1⟩ := yp a1 List.mem_cons_self
  obtain ⟨w2, rfl, _, _⟩ := yp b1 (List.mem_cons_of_mem _ List.mem_cons_self)
  walk_at "dl"
  refine fun l2 => hR _ (seqG fun R hR => ?_)
  walk_at "dl"
  unfold tLcD
  walk_at "dl"
  refine ⟨⟨by decide, by decide⟩, ?_⟩
  refine lc_all (fun y => ∃ k : Int, y = .int k ∧ 0 ≤ k ∧ k ≤ 12) (by rw [rngD_len]; decide) (fun vs yl yp => ?_) (fun y hy S hS => by
    obtain ⟨j, hj, rfl⟩ := mem_rngD hy
    walk_at "dl"
    refine ⟨13, rfl, by decide, by decide, fun r r0 r1 => ?_⟩
    walk_at "dl"
    exact hS _ ⟨r, rfl, r0, by omega⟩)
  rw [rngD_len] at yl
  obtain ⟨a2, b2, rfl⟩ : ∃ a b, vs = [a, b] := by
    match vs, yl with
    | [a, b], _ => exact ⟨a, b, rfl⟩
  obtain ⟨v1, rfl, q0, q1⟩ := yp a2 List.mem_cons_self
  obtain ⟨v2, rfl, _, _⟩ := yp b2 (List.mem_cons_of_mem _ List.mem_cons_self)
  walk_at "dl"
  refine fun l4 => hR _ (seqG fun R hR => ?_)
  walk_at "dl"
  refine ⟨12, rfl, by decide, by decide, fun r r0 r1 => ?_⟩
  walk_at "dl"
  refine hR _ (seqG fun R hR => ?_)
  walk_at "dl"
  (repeat (refine ⟨by decide, ?_⟩))
  refine pick r0 r1 fun so hso => ?_
  have oso : isOb so = false := by
    simp only [List.mem_cons, List.not_mem_nil, or_false] at hso
    rcases hso with rfl | rfl | rfl | rfl | rfl | rfl | rfl | rfl | rfl | rfl | rfl | rfl <;> rfl
  walk_at "dl"
  refine hR _ (seqG fun R hR => ?_)
  walk_at "dl"
  refine ⟨by decide, by decide, by decide, 2, rfl, by decide, by decide, fun dr dr0 dr1 => ?_⟩
  walk_at "dl"
  refine pick dr0 dr1 fun dd hdd => ?_
  obtain ⟨d1, d2, rfl⟩ : ∃ d1 d2 : Int, dd = .list [.int d1, .int d2] := by
    simp only [List.mem_cons, List.not_mem_nil, or_false] at hdd
    rcases hdd with rfl | rfl <;> exact ⟨_, _, rfl⟩
  walk_at "dl"
  refine hR _ (seqG fun R hR => ?_)
  walk_at "dl"
  refine ⟨by decide, 2, rfl, by decide, by decide, fun zr zr0 zr1 => ?_⟩
  walk_at "dl"
  refine pick zr0 zr1 fun zz hzz => ?_
  obtain ⟨z, rfl, hz⟩ : ∃ z : Str, zz = .str z ∧ (z = "scale" ∨ z = "box") := by
    simp only [List.mem_cons, List.not_mem_nil, or_false] at hzz
    rcases hzz with rfl | rfl
    · exact ⟨_, rfl, .inl rfl⟩
    · exact ⟨_, rfl, .inr rfl⟩
  walk_at "dl"
  refine hR _ (seqG fun R hR => ?_)
  walk_at "dl"
  refine ⟨z, rfl, hz, fun ms hm => ?_⟩
  walk_at "dl"
  refine fun l8 => hR _ (seqG fun R hR => ?_)
  have itm : Its 8 (IL ms) := by
    refine ⟨fun y hy => ?_, by rw [il_len]; exact hm.2.1⟩
    obtain ⟨m, hmm, rfl⟩ := List.mem_map.mp hy
    have := hm.2.2.1 m hmm
    exact oki_int (Nat.lt_of_lt_of_le (show m.natAbs < 2 ^ 10 by omega) (by decide))
  walk_at "dl"
  refine ⟨IL ms, w1, w2, rfl, itm, p0, p1, fun x sx1 sx2 => ?_⟩
  walk_at "dl"
  refine hR _ (seqG fun R hR => ?_)
  walk_at "dl"
  refine ⟨by decide, ?_⟩
  refine forD_ind (fun zs env => ∃ s10 s11 s12, env = [.un, .bag, .d (.list [.int w1, .int w2]), .un, .ow l4 [.int v1, .int v2], .d so, .d (.list [.int d1, .int d2]), .d (.str z), .d (.list (IL ms)), .d x, s10, s11, s12, .un, .un, .un] ∧ ∀ y ∈ zs, ∃ w : Str, y = .str w ∧ Ways w) (fun env hI => ?_) (fun y zs env R2 hI hR2 => ?_) _ _ ⟨_, _, _, rfl, fun y hy => by
    simp only [List.mem_cons, List.not_mem_nil, or_false] at hy
    rcases hy with rfl | rfl | rfl
    · exact ⟨_, rfl, .inl rfl⟩
    · exact ⟨_, rfl, .inr (.inl rfl)⟩
    · exact ⟨_, rfl, .inr (.inr rfl)⟩⟩
  · obtain ⟨s10, s11, s12, rfl, _⟩ := hI
    refine hR _ (seqG fun R hR => ?_)
    walk_at "dl"
    have kin : ∃ th Lf Sp, Kin z ms th Lf Sp := by
      rcases hz with rfl | rfl
      · exact ⟨_, _, _, .inl ⟨rfl, hm, rfl, rfl, rfl⟩⟩
      · exact ⟨_, _, _, .inr ⟨rfl, hm, rfl, rfl, rfl⟩⟩
    obtain ⟨th, Lf, Sp, kin⟩ := kin
    refine ⟨z, ms, th, Lf, Sp, rfl, kin, fun gs hgs => ?_⟩
    have hg : SpOk gs := by
      rcases kin with ⟨_, _, _, _, rfl⟩ | ⟨_, _, _, _, rfl⟩ <;> exact hgs.1
    walk_at "dl"
    refine fun l13 => hR _ (seqG fun R hR => ?_)
    have itg : Its 8 (IL gs) := by
      refine ⟨fun y hy => ?_, by rw [il_len]; have := hg.2.1; omega⟩
      obtain ⟨m, hmm, rfl⟩ := List.mem_map.mp hy
      have := hg.2.2.1 m hmm
      exact oki_int (Nat.lt_of_lt_of_le (show m.natAbs < 2 ^ 10 by omega) (by decide))
    walk_at "dl"
    refine ⟨IL gs, v1, v2, rfl, itg, q0, q1, fun x2 sy1 sy2 => ?_⟩
    walk_at "dl"
    refine hR _ (seqG fun R hR => ?_)
    walk_at "dl"
    refine ⟨by decide, 2, rfl, by decide, by decide, fun ar ar0 ar1 => ?_⟩
    walk_at "dl"
    refine pick ar0 ar1 fun u hu => ?_
    obtain ⟨w', rfl, hw'⟩ : ∃ w' : Str, u = .str w' ∧ (w' = z ∨ w' = "any") := by
      simp only [List.mem_cons, List.not_mem_nil, or_false] at hu
      rcases hu with rfl | rfl
      · exact ⟨_, rfl, .inl rfl⟩
      · exact ⟨_, rfl, .inr rfl⟩
    walk_at "dl"
    refine made_th kin hw' ?_
    walk_at "dl"
    refine hR _ ?_
    walk_at "dl"
    obtain ⟨fit, mx, tg, _, fg⟩ := kin_thg kin hgs
    refine ⟨th, x2, ms, gs, fit, mx, d1, d2, rfl, tg, hg, fg, sy1, sy2, ?_⟩
    walk_at "dl"
    try trivial
  · obtain ⟨s10, s11, s12, rfl, hz2⟩ := hI
    obtain ⟨w, rfl, hw⟩ := hz2 y List.mem_cons_self
    have go : ∀ s10 s11 s12, R2 [.un, .bag, .d (.list [.int w1, .int w2]), .un, .ow l4 [.int v1, .int v2], .d so, .d (.list [.int d1, .int d2]), .d (.str z), .d (.list (IL ms)), .d x, s10, s11, s12, .un, .un, .un] := fun s10 s11 s12 => hR2 _ ⟨s10, s11, s12, rfl, fun y hy => hz2 y (List.mem_cons_of_mem _ hy)⟩
    refine gnG (seqG fun R hR => ?_)
    walk_at "dl"
    refine ⟨x, rfl, Nat.le_trans sx1.deep (by decide), sx2, ?_⟩
    refine st_cpR x _ _ _ fun s hs11 => hR _ (seqG fun R hR => ?_)
    obtain ⟨t1, t2⟩ := toldR_ok so x w
    cases hs11 with
    | d =>
      walk_at "dl"
      refine ⟨so, _, w, rfl, hw, ?_⟩
      walk_at "dl"
      refine hR _ ?_
      refine ifG fun P1 P2 hP hN => ?_
      walk_at "dl"
      refine ⟨so, _, w, rfl, oso, hw, ?_⟩
      walk_at "dl"
      refine ⟨_, rfl, t1, t2, ?_⟩
      walk_at "dl"
      refine ⟨sx1.sh, sx1.sh, ?_⟩
      rw [if_neg (by decide)]
      exact hN (go _ _ _)
    | ow =>
      walk_at "dl"
      refine ⟨so, _, w, rfl, hw, ?_⟩
      walk_at "dl"
      refine ⟨.inr (toldR_noL _), hR _ ?_⟩
      refine ifG fun P1 P2 hP hN => ?_
      walk_at "dl"
      refine ⟨so, _, w, rfl, oso, hw, ?_⟩
      walk_at "dl"
      refine ⟨_, rfl, t1, t2, ?_⟩
      walk_at "dl"
      refine ⟨sx1.sh, sx1.sh, ?_⟩
      rw [if_neg (by decide)]
      exact hN (go _ _ _)
section
variable {ts : List Addr} {P : Program} {w : World} {K : PySem.W.Frag} {mg : Str → Option Value} {base : Heap}
theorem ok_law {f : Addr} {fd : FuncData} (Fn : L2.Fun K "law" "law" s_law f fd) {f__law_bag : Addr} (g__law_bag : Fg P w K mg base (L2.CX P w) 1 f__law_bag (spBag K)) (m__law_bag : mg "_law_bag" = some (.ref f__law_bag)) (p__law_bag : PySem.W.keepIn K (.ref f__law_bag) = true) {f__law_take : Addr} (g__law_take : Fg P w K mg base (L2.CX P w) 1 f__law_take (Pm K ts sp__law_take)) (m__law_take : mg "_law_take" = some (.ref f__law_take)) (p__law_take : PySem.W.keepIn K (.ref f__law_take) = true) {f__law_marks : Addr} (g__law_marks : Fg P w K mg base (L2.CX P w) 2 f__law_marks (Pm K ts sp__law_marks)) (m__law_marks : mg "_law_marks" = some (.ref f__law_marks)) (p__law_marks : PySem.W.keepIn K (.ref f__law_marks) = true) {f__law_spoilt : Addr} (g__law_spoilt : Fg P w K mg base (L2.CX P w) 4 f__law_spoilt (Pm K ts sp__law_spoilt)) (m__law_spoilt : mg "_law_spoilt" = some (.ref f__law_spoilt)) (p__law_spoilt : PySem.W.keepIn K (.ref f__law_spoilt) = true) {f__law_copy : Addr} (g__law_copy : Fg P w K mg base (L2.CX P w) 9 f__law_copy (Pm K ts (sp__law_copy 8))) (m__law_copy : mg "_law_copy" = some (.ref f__law_copy)) (p__law_copy : PySem.W.keepIn K (.ref f__law_copy) = true) {f__law_refused : Addr} (g__law_refused : Fg P w K mg base (L2.CX P w) 9 f__law_refused (Pm K ts sp__law_refused)) (m__law_refused : mg "_law_refused" = some (.ref f__law_refused)) (p__law_refused : PySem.W.keepIn K (.ref f__law_refused) = true) {f__law_alike : Addr} (g__law_alike : Fg P w K mg base (L2.CX P w) 1 f__law_alike (Pm K ts sp__law_alike)) (m__law_alike : mg "_law_alike" = some (.ref f__law_alike)) (p__law_alike : PySem.W.keepIn K (.ref f__law_alike) = true) {f__law_due : Addr} (g__law_due : Fg P w K mg base (L2.CX P w) 3 f__law_due (Pm K ts sp__law_due)) (m__law_due : mg "_law_due" = some (.ref f__law_due)) (p__law_due : PySem.W.keepIn K (.ref f__law_due) = true) {f__law_spot : Addr} (g__law_spot : Fg P w K mg base (L2.CX P w) 2 f__law_spot (Pm K ts sp__law_spot)) (m__law_spot : mg "_law_spot" = some (.ref f__law_spot)) (p__law_spot : PySem.W.keepIn K (.ref f__law_spot) = true) {f__law_made : Addr} (g__law_made : Fg P w K mg base (L2.CX P w) 8 f__law_made (PmX mg K ts sp__law_made)) (m__law_made : mg "_law_made" = some (.ref f__law_made)) (p__law_made : PySem.W.keepIn K (.ref f__law_made) = true) {f__law_spots_right : Addr} (g__law_spots_right : Fg P w K mg base (L2.CX P w) 10 f__law_spots_right (Pm K ts sp__law_spots_right)) (m__law_spots_right : mg "_law_spots_right" = some (.ref f__law_spots_right)) (p__law_spots_right : PySem.W.keepIn K (.ref f__law_spots_right) = true) (z_range : mg "range" = none) (z_repr : mg "repr" = none) (z_list : mg "list" = none) : Fg P w K mg base (L2.CX P w) 11 f (spLaw K ts) := law_ok (z1 := "_law_bag_here") (n := 14) Fn sc_law rfl (fun _ _ _ _ _ _ us hl => match us, hl with | [_], _ => rfl) rd_law (fun cdv A outer s H E ag hr => by
  have S := sc_law
  have hu := hr.units
  exact pss_cons (ps_set (i := 1) S.nd rfl (by first | exact Or.inl rfl | exact Or.inr rfl) (g_call g__law_bag ag (hr.mono (by decide)) passZ (by rfl) m__law_bag p__law_bag (pa_cons (pv 0) pa_nil)))
    (pss_any fun wn ht => (dss_cons (ds_setLc (i := 2) (vs := [3]) (tgt1 3) (ps_setLc (i := 2) (own := [("_law_k", 3)]) rfl S.nd rfl rfl (sw_true rfl rfl rfl (by decide +kernel)) (di_r1 (by rfl) z_range (da_cons d_int da_nil)) (blkOk_by (N := N_law) (sc := defScope s_law) (by decide +kernel)) (fun _ _ _ _ _ => pg_name (i := 3) S.nd rfl (Or.inl rfl)) (fun _ _ _ _ _ => pts_nilD) (fun _ _ _ _ _ => (d_use g__law_take ht ag (hr.mono (by decide)) passZ (by rfl) m__law_take p__law_take (da_cons (d_var 1) (da_cons d_int da_nil))))))
    (dss_cons (ds_setLc (i := 4) (vs := [3]) (tgt1 3) (ps_setLc (i := 4) (own := [("_law_k", 3)]) rfl S.nd rfl rfl (sw_true rfl rfl rfl (by decide +kernel)) (di_r1 (by rfl) z_range (da_cons d_int da_nil)) (blkOk_by (N := N_law) (sc := defScope s_law) (by decide +kernel)) (fun _ _ _ _ _ => pg_name (i := 3) S.nd rfl (Or.inl rfl)) (fun _ _ _ _ _ => pts_nilD) (fun _ _ _ _ _ => (d_use g__law_take ht ag (hr.mono (by decide)) passZ (by rfl) m__law_take p__law_take (da_cons (d_var 1) (da_cons d_int da_nil))))))
    (dss_cons (ds_set (i := 5) S.nd rfl (by first | exact Or.inl rfl | exact Or.inr rfl) (d_use g__law_take ht ag (hr.mono (by decide)) passZ (by rfl) m__law_take p__law_take (da_cons (d_var 1) (da_cons d_int da_nil))))
    (dss_cons (ds_set (i := 5) S.nd rfl (by first | exact Or.inl rfl | exact Or.inr rfl) (d_ix (d_lst (da_cons d_str (da_cons d_str (da_cons d_str (da_cons d_str (da_cons d_str (da_cons d_str (da_cons d_str (da_cons d_non (da_cons d_int (da_cons (d_lst (da_cons d_str da_nil)) (da_cons (d_tup (da_cons d_str da_nil)) (da_cons d_str da_nil))))))))))))) (d_var 5)))
    (dss_cons (ds_set (i := 6) S.nd rfl (by first | exact Or.inl rfl | exact Or.inr rfl) (d_ix (d_lst (da_cons (d_lst (da_cons d_int (da_cons d_int da_nil))) (da_cons (d_lst (da_cons d_int (da_cons d_int da_nil))) da_nil))) (d_use g__law_take ht ag (hr.mono (by decide)) passZ (by rfl) m__law_take p__law_take (da_cons (d_var 1) (da_cons d_int da_nil)))))
    (dss_cons (ds_set (i := 7) S.nd rfl (by first | exact Or.inl rfl | exact Or.inr rfl) (d_ix (d_lst (da_cons d_str (da_cons d_str da_nil))) (d_use g__law_take ht ag (hr.mono (by decide)) passZ (by rfl) m__law_take p__law_take (da_cons (d_var 1) (da_cons d_int da_nil)))))
    (dss_cons (ds_set (i := 8) S.nd rfl (by first | exact Or.inl rfl | exact Or.inr rfl) (d_use g__law_marks ht ag (hr.mono (by decide)) passZ (by rfl) m__law_marks p__law_marks (da_cons (d_var 1) (da_cons (d_var 7) da_nil))))
    (dss_cons (ds_frz 2 (ds_frz 8 (ds_set (i := 9) S.nd rfl (by first | exact Or.inl rfl | exact Or.inr rfl) (d_use g__law_spoilt ht ag (hr.mono (by decide)) passZ (by rfl) m__law_spoilt p__law_spoilt (da_cons (d_var 1) (da_cons (d_var 8) (da_cons (d_var 2) da_nil)))))))
    (dss_cons (ds_for PassesOwn.never rfl (di_list (d_lst (da_cons d_str (da_cons d_str (da_cons d_str da_nil))))) (dg_name (i := 10) S.nd rfl (by first | exact Or.inl rfl | exact Or.inr rfl)) (dss_cons (ds_set (i := 11) S.nd rfl (by first | exact Or.inl rfl | exact Or.inr rfl) (d_use g__law_copy ht ag (hr.mono (by decide)) passZ (by rfl) m__law_copy p__law_copy (da_cons (d_var 9) da_nil)))
        (dss_cons (ds_set (i := 12) S.nd rfl (by first | exact Or.inl rfl | exact Or.inr rfl) (d_use g__law_refused ht ag (hr.mono (by decide)) passZ (by rfl) m__law_refused p__law_refused (da_cons (d_var 5) (da_cons (d_var 11) (da_cons (d_var 10) da_nil)))))
        (dss_one (ds_if (dt_w (dw_or (dt_not (dt_e (d_use g__law_alike ht ag (hr.mono (by decide)) passZ (by rfl) m__law_alike p__law_alike (da_cons (d_var 12) (da_cons (d_use g__law_due ht ag (hr.mono (by decide)) passZ (by rfl) m__law_due p__law_due (da_cons (d_var 5) (da_cons (d_var 9) (da_cons (d_var 10) da_nil)))) da_nil))))) (dw_or1 (dt_cmp (o_ne hu) (d_callB (k_repr ag hu) (by rfl) z_repr (by decide +kernel) (da_cons (d_var 11) da_nil)) (d_callB (k_repr ag hu) (by rfl) z_repr (by decide +kernel) (da_cons (d_var 9) da_nil)))))) (dss_one (ds_ret d_bl)) dss_nil)))))
    (dss_cons (ds_set (i := 13) S.nd rfl (by first | exact Or.inl rfl | exact Or.inr rfl) (d_use g__law_spot ht ag (hr.mono (by decide)) passZ (by rfl) m__law_spot p__law_spot (da_cons (d_var 1) (da_cons (d_var 7) (da_cons (d_var 8) da_nil)))))
    (dss_cons (ds_frz 4 (ds_frz 13 (ds_set (i := 14) S.nd rfl (by first | exact Or.inl rfl | exact Or.inr rfl) (d_use g__law_spoilt ht ag (hr.mono (by decide)) passZ (by rfl) m__law_spoilt p__law_spoilt (da_cons (d_var 1) (da_cons (d_var 13) (da_cons (d_var 4) da_nil)))))))
    (dss_cons (ds_set (i := 15) S.nd rfl (by first | exact Or.inl rfl | exact Or.inr rfl) (d_useX (E := fun _ _ _ _ => False) (R := fun _ _ _ _ => False) g__law_made ht ag (hr.mono (by decide)) (ps_at passZ) (fun _ _ _ _ _ => XEnd.none) (by rfl) m__law_made p__law_made (da_cons (d_var 7) (da_cons (d_callTy k_list (by rfl) z_list (by decide +kernel) (da_cons (d_var 8) da_nil)) (da_cons (d_ix (d_lst (da_cons (d_var 7) (da_cons d_str da_nil))) (d_use g__law_take ht ag (hr.mono (by decide)) passZ (by rfl) m__law_take p__law_take (da_cons (d_var 1) (da_cons d_int da_nil)))) da_nil)))))
    (dss_one (ds_ret (d_use g__law_spots_right ht ag (hr.mono (by decide)) passZ (by rfl) m__law_spots_right p__law_spots_right (da_cons (d_var 15) (da_cons (d_var 8) (da_cons (d_var 13) (da_cons (d_var 14) (da_cons (d_var 6) da_nil)))))))))))))))))))))) vc_law
end
abbrev sI_Wrong : Stmt := inS (topS 3) 0
theorem scI_Wrong : FnScope ["self", "at"] ["self", "at"] (defScope sI_Wrong) := ⟨rfl, rfl, rfl, by decide +kernel, rfl, by decide +kernel, by decide +kernel⟩
/-! what the top has left -/
def d__law_bag : He.DefD := ⟨("_law_bag", none), "_law_bag", "_law_bag", defArgs s__law_bag, defBody s__law_bag, defScope s__law_bag, [], []⟩
def d__law_take : He.DefD := ⟨("_law_take", none), "_law_take", "_law_take", defArgs s__law_take, defBody s__law_take, defScope s__law_take, [], []⟩
def d__law_marks : He.DefD := ⟨("_law_marks", none), "_law_marks", "_law_marks", defArgs s__law_marks, defBody s__law_marks, defScope s__law_marks, [], []⟩
def d__law_odd : He.DefD := ⟨("_law_odd", none), "_law_odd", "_law_odd", defArgs s__law_odd, defBody s__law_odd, defScope s__law_odd, [], []⟩
def d__law_other : He.DefD := ⟨("_law_other", none), "_law_other", "_law_other", defArgs s__law_other, defBody s__law_other, defScope s__law_other, [], []⟩
def d__law_spoilt : He.DefD := ⟨("_law_spoilt", none), "_law_spoilt", "_law_spoilt", defArgs s__law_spoilt, defBody s__law_spoilt, defScope s__law_spoilt, [], []⟩
def d__law_copy : He.DefD := ⟨("_law_copy", none), "_law_copy", "_law_copy", defArgs s__law_copy, defBody s__law_copy, defScope s__law_copy, [], []⟩
def d_require : He.DefD := ⟨("require", none), "require", "require", defArgs s_require, defBody s_require, defScope s_require, [], []⟩
def d_is_whole : He.DefD := ⟨("is_whole", none), "is_whole", "is_whole", defArgs s_is_whole, defBody s_is_whole, defScope s_is_whole, [], []⟩
def d_is_point : He.DefD := ⟨("is_point", none), "is_point", "is_point", defArgs s_is_point, defBody s_is_point, defScope s_is_point, [], []⟩
def d_do_rise : He.DefD := ⟨("do_rise", none), "do_rise", "do_rise", defArgs s_do_rise, defBody s_do_rise, defScope s_do_rise, [], []⟩
def d_are_marks : He.DefD := ⟨("are_marks", none), "are_marks", "are_marks", defArgs s_are_marks, defBody s_are_marks, defScope s_are_marks, [], []⟩
def d_Scale___init__ : He.DefD := ⟨("Scale", some "__init__"), "__init__", "Scale.__init__", defArgs s_Scale___init__, defBody s_Scale___init__, defScope s_Scale___init__, [], []⟩
def d_Box___init__ : He.DefD := ⟨("Box", some "__init__"), "__init__", "Box.__init__", defArgs s_Box___init__, defBody s_Box___init__, defScope s_Box___init__, [], []⟩
def d_is_sort : He.DefD := ⟨("is_sort", none), "is_sort", "is_sort", defArgs s_is_sort, defBody s_is_sort, defScope s_is_sort, [], []⟩
def d_marks_of : He.DefD := ⟨("marks_of", none), "marks_of", "marks_of", defArgs s_marks_of, defBody s_marks_of, defScope s_marks_of, [], []⟩
def d__law_made : He.DefD := ⟨("_law_made", none), "_law_made", "_law_made", defArgs s__law_made, defBody s__law_made, defScope s__law_made, [], []⟩
def d__law_refused : He.DefD := ⟨("_law_refused", none), "_law_refused", "_law_refused", defArgs s__law_refused, defBody s__law_refused, defScope s__law_refused, [], []⟩
def d__law_alike : He.DefD := ⟨("_law_alike", none), "_law_alike", "_law_alike", defArgs s__law_alike, defBody s__law_alike, defScope s__law_alike, [], []⟩
def d__law_is_point : He.DefD := ⟨("_law_is_point", none), "_law_is_point", "_law_is_point", defArgs s__law_is_point, defBody s__law_is_point, defScope s__law_is_point, [], []⟩
def d__law_is_row : He.DefD := ⟨("_law_is_row", none), "_law_is_row", "_law_is_row", defArgs s__law_is_row, defBody s__law_is_row, defScope s__law_is_row, [], []⟩
def d__law_due : He.DefD := ⟨("_law_due", none), "_law_due", "_law_due", defArgs s__law_due, defBody s__law_due, defScope s__law_due, [], []⟩
def d__law_spot : He.DefD := ⟨("_law_spot", none), "_law_spot", "_law_spot", defArgs s__law_spot, defBody s__law_spot, defScope s__law_spot, [], []⟩
def d_is_spot : He.DefD := ⟨("is_spot", none), "is_spot", "is_spot", defArgs s_is_spot, defBody s_is_spot, defScope s_is_spot, [], []⟩
def d_Scale_fits : He.DefD := ⟨("Scale", some "fits"), "fits", "Scale.fits", defArgs s_Scale_fits, defBody s_Scale_fits, defScope s_Scale_fits, [], []⟩
def d_in_lowest_terms : He.DefD := ⟨("in_lowest_terms", none), "in_lowest_terms", "in_lowest_terms", defArgs s_in_lowest_terms, defBody s_in_lowest_terms, defScope s_in_lowest_terms, [], []⟩
def d_shares : He.DefD := ⟨("shares", none), "shares", "shares", defArgs s_shares, defBody s_shares, defScope s_shares, [], []⟩
def d_added : He.DefD := ⟨("added", none), "added", "added", defArgs s_added, defBody s_added, defScope s_added, [], []⟩
def d_Scale_mix : He.DefD := ⟨("Scale", some "mix"), "mix", "Scale.mix", defArgs s_Scale_mix, defBody s_Scale_mix, defScope s_Scale_mix, [], []⟩
def d_Box_fits : He.DefD := ⟨("Box", some "fits"), "fits", "Box.fits", defArgs s_Box_fits, defBody s_Box_fits, defScope s_Box_fits, [], []⟩
def d_Box_mix : He.DefD := ⟨("Box", some "mix"), "mix", "Box.mix", defArgs s_Box_mix, defBody s_Box_mix, defScope s_Box_mix, [], []⟩
def d__law_spot_told : He.DefD := ⟨("_law_spot_told", none), "_law_spot_told", "_law_spot_told", defArgs s__law_spot_told, defBody s__law_spot_told, defScope s__law_spot_told, [], []⟩
def d__law_any_refused : He.DefD := ⟨("_law_any_refused", none), "_law_any_refused", "_law_any_refused", defArgs s__law_any_refused, defBody s__law_any_refused, defScope s__law_any_refused, [], []⟩
def d_Scale_marks : He.DefD := ⟨("Scale", some "marks"), "marks", "Scale.marks", defArgs s_Scale_marks, defBody s_Scale_marks, defScope s_Scale_marks, [], []⟩
def d_Box_marks : He.DefD := ⟨("Box", some "marks"), "marks", "Box.marks", defArgs s_Box_marks, defBody s_Box_marks, defScope s_Box_marks, [], []⟩
def d__law_spots_right : He.DefD := ⟨("_law_spots_right", none), "_law_spots_right", "_law_spots_right", defArgs s__law_spots_right, defBody s__law_spots_right, defScope s__law_spots_right, [], []⟩
def d_law : He.DefD := ⟨("law", none), "law", "law", defArgs s_law, defBody s_law, defScope s_law, [], []⟩
def dI_Wrong : He.DefD := ⟨("Wrong", some "__init__"), "__init__", "Wrong.__init__", defArgs sI_Wrong, defBody sI_Wrong, defScope sI_Wrong, [], []⟩
def fn : List He.DefD := [d__law_bag, d__law_take, d__law_marks, d__law_odd, d__law_other, d__law_spoilt, d__law_copy, d_require, d_is_whole, d_is_point, d_do_rise, d_are_marks, d_Scale___init__, d_Box___init__, d_is_sort, d_marks_of, d__law_made, d__law_refused, d__law_alike, d__law_is_point, d__law_is_row, d__law_due, d__law_spot, d_is_spot, d_Scale_fits, d_in_lowest_terms, d_shares, d_added, d_Scale_mix, d_Box_fits, d_Box_mix, d__law_spot_told, d__law_any_refused, d_Scale_marks, d_Box_marks, d__law_spots_right, d_law, dI_Wrong]
def fa : List He.Fa := [.glo "_law_bag", .glo "_law_take", .glo "_law_marks", .glo "_law_odd", .glo "_law_other", .glo "_law_spoilt", .glo "_law_copy", .glo "require", .glo "is_whole", .glo "is_point", .glo "do_rise", .glo "are_marks", .glo "is_sort", .glo "marks_of", .glo "_law_made", .glo "_law_refused", .glo "_law_alike", .glo "_law_is_point", .glo "_law_is_row", .glo "_law_due", .glo "_law_spot", .glo "is_spot", .glo "in_lowest_terms", .glo "shares", .glo "added", .glo "_law_spot_told", .glo "_law_any_refused", .glo "_law_spots_right", .glo "law", .free "abs", .free "len", .free "int", .free "range", .free "list", .free "tuple", .free "max", .free "isinstance", .free "enumerate", .glo "Wrong", .free "bool", .int "LAST_POINT" 1000, .free "all", .glo "FEWEST_MARKS", .int "MOST_MARKS" 8, .glo "Scale", .cls "Scale", .noat "Scale" "_marks", .glo "Box", .cls "Box", .noat "Box" "_marks", .free "str", .mkr "Scale", .mkr "Box", .exm "Wrong" "Wrong" true, .free "repr", .free "sorted", .free "set", .int "LONGEST_SPOT" 6, .free "min", .glo "WHOLE", .glo "NoSpot", .exc "NoSpot", .meth "Scale" "fits", .meth "Box" "fits", .exm "NoSpot" "Wrong" false, .exm "Wrong" "NoSpot" false, .exm "NoSpot" "NoSpot" true, .meth "Scale" "mix", .meth "Box" "mix", .free "ValueError", .glo "ChainError", .exm "Wrong" "ChainError" true, .meth "Scale" "marks", .meth "Box" "marks"]
def tb : List He.Tab := [(fun K => He.ga K "FEWEST_MARKS", ["scale", "box"])]
def tf : List He.Defn := [("do_rise", none), ("are_marks", none), ("is_spot", none), ("Box", some "fits")]
def exs : List (PySem.W.Frag → Bool) := [fun K => He.valsB K (He.ga K "FEWEST_MARKS") [("scale", (.int 2)), ("box", (.int 1))],
  fun K => decide (PySem.W.kitOne K (.ref (He.ga K "Scale")) (.type "int") = some false),
  fun K => decide (PySem.W.kitOne K (.ref (He.ga K "Scale")) (.type "bool") = some false),
  fun K => decide (PySem.W.kitOne K (.ref (He.ga K "Scale")) (.type "str") = some false),
  fun K => decide (PySem.W.kitOne K (.ref (He.ga K "Scale")) (.type "list") = some false),
  fun K => decide (PySem.W.kitOne K (.ref (He.ga K "Scale")) (.type "tuple") = some false),
  fun K => decide (PySem.W.kitOne K (.ref (He.ga K "Scale")) (.type "dict") = some false),
  fun K => He.eqO (PySem.W.findIn K (.ref (He.ga K "Scale")) "__class__") (some (some (.builtin "object.__class__"))),
  fun K => He.eqO (PySem.W.specialIn K (.builtin "object.__class__") "__get__") (some (some (.builtin "getset_descriptor.__get__"))),
  fun K => decide (PySem.W.takesIn K (.builtin "object.__class__") = some true),
  fun K => decide (PySem.W.mroIn K (He.ga K "Scale") (.type "object") = some true),
  fun K => decide (PySem.W.kitOne K (.ref (He.ga K "Box")) (.type "int") = some false),
  fun K => decide (PySem.W.kitOne K (.ref (He.ga K "Box")) (.type "bool") = some false),
  fun K => decide (PySem.W.kitOne K (.ref (He.ga K "Box")) (.type "str") = some false),
  fun K => decide (PySem.W.kitOne K (.ref (He.ga K "Box")) (.type "list") = some false),
  fun K => decide (PySem.W.kitOne K (.ref (He.ga K "Box")) (.type "tuple") = some false),
  fun K => decide (PySem.W.kitOne K (.ref (He.ga K "Box")) (.type "dict") = some false),
  fun K => He.eqO (PySem.W.findIn K (.ref (He.ga K "Box")) "__class__") (some (some (.builtin "object.__class__"))),
  fun K => decide (PySem.W.mroIn K (He.ga K "Box") (.type "object") = some true),
  fun K => He.eqO (PySem.W.findIn K (.ref (He.ga K "Wrong")) "__getattribute__") (some (some (.builtin "BaseException.__getattribute__"))),
  fun K => He.eqO (PySem.W.findIn K (.ref (He.ga K "Wrong")) "__getattr__") (some none),
  fun K => decide (PySem.W.subIn K (.ref (He.ga K "Wrong")) (.type "BaseException") = some true),
  fun K => decide (PySem.W.hasDictIn K (He.ga K "Wrong") = true),
  fun K => He.eqO (PySem.W.findIn K (.ref (He.ga K "Wrong")) "__class__") (some (some (.builtin "object.__class__"))),
  fun K => decide (PySem.W.mroIn K (He.ga K "Wrong") (.type "object") = some true),
  fun K => He.eqO (PySem.W.findIn K (.ref (He.ga K "Wrong")) "at") (some none),
  fun K => He.eqO (PySem.W.nsIn K mainGlobals "gcd") (some (some (.builtin "math.gcd"))),
  fun K => He.tupB K "WHOLE" [(.int 1), (.int 1)],
  fun K => decide (PySem.W.kitOne K (.ref (He.ga K "Wrong")) (.type "ValueError") = some (isx "Wrong" "ValueError")),
  fun K => decide (PySem.W.kitOne K (.ref (He.ga K "Wrong")) (.ref (He.ga K "NoSpot")) = some (isx "Wrong" "NoSpot")),
  fun K => oexB K (He.ga K "Wrong"),
  fun K => He.eqO (PySem.W.findIn K (.ref (He.ga K "Wrong")) "__setattr__") (some (some (.builtin "object.__setattr__"))),
  fun K => decide (PySem.W.typeIn K (.ref (He.ga K "Wrong")) = some (.type "type")),
  fun K => PySem.W.keepIn K (.ref (He.ga K "Wrong")),
  fun K => He.eqO (PySem.W.findIn K (.ref (He.ga K "Wrong")) "__init__") (some (some (.ref (He.ma K (He.ga K "Wrong") "__init__")))),
  fun K => decide (PySem.W.typeIn K (.ref (He.ma K (He.ga K "Wrong") "__init__")) = some (.type "function"))]
def ex (K : PySem.W.Frag) : Bool := exs.all fun b => b K
abbrev hk : PySem.W.Hook := He.hookX 6 fa fn tb tf ex
theorem all_mk {q : Program} {lo : List Str} {mean : ExcName → Option Value} {mb : Str → Option Value} {w : World} {K : PySem.W.Frag} {h : Heap} {mg : Str → Option Value} {fa0 : Addr} (X : K.In h) (T : PyProof.Rows.Top q lo mean mg mb h) (hfa : mg "law" = some (.ref fa0)) (c : He.SaysX fa fn tb tf ex w h K) :
  ∃ cs : List (Addr × Addr), K.In h ∧ Tabs K h cs ∧ ∀ base : Heap, K.In base → base.Ns mainGlobals mg → (∀ p ∈ cs, GxR.TabB base mg p.1 p.2) → Fg PySem.Challenge.rw_truechain_k27_marks_refused.prog w K mg base (L2.CX PySem.Challenge.rw_truechain_k27_marks_refused.prog w) 11 fa0 (spLaw K (cs.map Prod.snd)) := by
  have G := T.g
  refine ⟨tf.map (He.cT K), X, tabsX X c, fun base _ _ tb => ?_⟩
  obtain ⟨fd__law_bag, F__law_bag⟩ := c.t.d.def_ 0 (d := d__law_bag) rfl
  have m__law_bag := He.glo_ok X G (c.t.d.fact 0 (f := .glo "_law_bag") rfl)
  have p__law_bag := F__law_bag.kp
  obtain ⟨fd__law_take, F__law_take⟩ := c.t.d.def_ 1 (d := d__law_take) rfl
  have m__law_take := He.glo_ok X G (c.t.d.fact 1 (f := .glo "_law_take") rfl)
  have p__law_take := F__law_take.kp
  obtain ⟨fd__law_marks, F__law_marks⟩ := c.t.d.def_ 2 (d := d__law_marks) rfl
  have m__law_marks := He.glo_ok X G (c.t.d.fact 2 (f := .glo "_law_marks") rfl)
  have p__law_marks := F__law_marks.kp
  obtain ⟨fd__law_odd, F__law_odd⟩ := c.t.d.def_ 3 (d := d__law_odd) rfl
  have m__law_odd := He.glo_ok X G (c.t.d.fact 3 (f := .glo "_law_odd") rfl)
  have p__law_odd := F__law_odd.kp
  obtain ⟨fd__law_other, F__law_other⟩ := c.t.d.def_ 4 (d := d__law_other) rfl
  have m__law_other := He.glo_ok X G (c.t.d.fact 4 (f := .glo "_law_other") rfl)
  have p__law_other := F__law_other.kp
  obtain ⟨fd__law_spoilt, F__law_spoilt⟩ := c.t.d.def_ 5 (d := d__law_spoilt) rfl
  have m__law_spoilt := He.glo_ok X G (c.t.d.fact 5 (f := .glo "_law_spoilt") rfl)
  have p__law_spoilt := F__law_spoilt.kp
  obtain ⟨fd__law_copy, F__law_copy⟩ := c.t.d.def_ 6 (d := d__law_copy) rfl
  have m__law_copy := He.glo_ok X G (c.t.d.fact 6 (f := .glo "_law_copy") rfl)
  have p__law_copy := F__law_copy.kp
  obtain ⟨fd_require, F_require⟩ := c.t.d.def_ 7 (d := d_require) rfl
  have m_require := He.glo_ok X G (c.t.d.fact 7 (f := .glo "require") rfl)
  have p_require := F_require.kp
  obtain ⟨fd_is_whole, F_is_whole⟩ := c.t.d.def_ 8 (d := d_is_whole) rfl
  have m_is_whole := He.glo_ok X G (c.t.d.fact 8 (f := .glo "is_whole") rfl)
  have p_is_whole := F_is_whole.kp
  obtain ⟨fd_is_point, F_is_point⟩ := c.t.d.def_ 9 (d := d_is_point) rfl
  have m_is_point := He.glo_ok X G (c.t.d.fact 9 (f := .glo "is_point") rfl)
  have p_is_point := F_is_point.kp
  obtain ⟨fd_do_rise, F_do_rise⟩ := c.t.d.def_ 10 (d := d_do_rise) rfl
  have m_do_rise := He.glo_ok X G (c.t.d.fact 10 (f := .glo "do_rise") rfl)
  have p_do_rise := F_do_rise.kp
  have tb_do_rise := tb (He.cT K ("do_rise", none)) (List.mem_map_of_mem (by simp [tf]))
  have fc_do_rise := code_ofD (p := ("do_rise", none)) (st := s_do_rise) F_do_rise
  have ti_do_rise : (He.cT K ("do_rise", none)).2 ∈ (tf.map (He.cT K)).map Prod.snd := List.mem_map_of_mem (List.mem_map_of_mem (by simp [tf]))
  obtain ⟨fd_are_marks, F_are_marks⟩ := c.t.d.def_ 11 (d := d_are_marks) rfl
  have m_are_marks := He.glo_ok X G (c.t.d.fact 11 (f := .glo "are_marks") rfl)
  have p_are_marks := F_are_marks.kp
  have tb_are_marks := tb (He.cT K ("are_marks", none)) (List.mem_map_of_mem (by simp [tf]))
  have fc_are_marks := code_ofD (p := ("are_marks", none)) (st := s_are_marks) F_are_marks
  have ti_are_marks : (He.cT K ("are_marks", none)).2 ∈ (tf.map (He.cT K)).map Prod.snd := List.mem_map_of_mem (List.mem_map_of_mem (by simp [tf]))
  obtain ⟨fd_Scale___init__, F_Scale___init__⟩ := c.t.d.def_ 12 (d := d_Scale___init__) rfl
  obtain ⟨fd_Box___init__, F_Box___init__⟩ := c.t.d.def_ 13 (d := d_Box___init__) rfl
  obtain ⟨fd_is_sort, F_is_sort⟩ := c.t.d.def_ 14 (d := d_is_sort) rfl
  have m_is_sort := He.glo_ok X G (c.t.d.fact 12 (f := .glo "is_sort") rfl)
  have p_is_sort := F_is_sort.kp
  obtain ⟨fd_marks_of, F_marks_of⟩ := c.t.d.def_ 15 (d := d_marks_of) rfl
  have m_marks_of := He.glo_ok X G (c.t.d.fact 13 (f := .glo "marks_of") rfl)
  have p_marks_of := F_marks_of.kp
  obtain ⟨fd__law_made, F__law_made⟩ := c.t.d.def_ 16 (d := d__law_made) rfl
  have m__law_made := He.glo_ok X G (c.t.d.fact 14 (f := .glo "_law_made") rfl)
  have p__law_made := F__law_made.kp
  obtain ⟨fd__law_refused, F__law_refused⟩ := c.t.d.def_ 17 (d := d__law_refused) rfl
  have m__law_refused := He.glo_ok X G (c.t.d.fact 15 (f := .glo "_law_refused") rfl)
  have p__law_refused := F__law_refused.kp
  obtain ⟨fd__law_alike, F__law_alike⟩ := c.t.d.def_ 18 (d := d__law_alike) rfl
  have m__law_alike := He.glo_ok X G (c.t.d.fact 16 (f := .glo "_law_alike") rfl)
  have p__law_alike := F__law_alike.kp
  obtain ⟨fd__law_is_point, F__law_is_point⟩ := c.t.d.def_ 19 (d := d__law_is_point) rfl
  have m__law_is_point := He.glo_ok X G (c.t.d.fact 17 (f := .glo "_law_is_point") rfl)
  have p__law_is_point := F__law_is_point.kp
  obtain ⟨fd__law_is_row, F__law_is_row⟩ := c.t.d.def_ 20 (d := d__law_is_row) rfl
  have m__law_is_row := He.glo_ok X G (c.t.d.fact 18 (f := .glo "_law_is_row") rfl)
  have p__law_is_row := F__law_is_row.kp
  obtain ⟨fd__law_due, F__law_due⟩ := c.t.d.def_ 21 (d := d__law_due) rfl
  have m__law_due := He.glo_ok X G (c.t.d.fact 19 (f := .glo "_law_due") rfl)
  have p__law_due := F__law_due.kp
  obtain ⟨fd__law_spot, F__law_spot⟩ := c.t.d.def_ 22 (d := d__law_spot) rfl
  have m__law_spot := He.glo_ok X G (c.t.d.fact 20 (f := .glo "_law_spot") rfl)
  have p__law_spot := F__law_spot.kp
  obtain ⟨fd_is_spot, F_is_spot⟩ := c.t.d.def_ 23 (d := d_is_spot) rfl
  have m_is_spot := He.glo_ok X G (c.t.d.fact 21 (f := .glo "is_spot") rfl)
  have p_is_spot := F_is_spot.kp
  have tb_is_spot := tb (He.cT K ("is_spot", none)) (List.mem_map_of_mem (by simp [tf]))
  have fc_is_spot := code_ofD (p := ("is_spot", none)) (st := s_is_spot) F_is_spot
  have ti_is_spot : (He.cT K ("is_spot", none)).2 ∈ (tf.map (He.cT K)).map Prod.snd := List.mem_map_of_mem (List.mem_map_of_mem (by simp [tf]))
  obtain ⟨fd_Scale_fits, F_Scale_fits⟩ := c.t.d.def_ 24 (d := d_Scale_fits) rfl
  obtain ⟨fd_in_lowest_terms, F_in_lowest_terms⟩ := c.t.d.def_ 25 (d := d_in_lowest_terms) rfl
  have m_in_lowest_terms := He.glo_ok X G (c.t.d.fact 22 (f := .glo "in_lowest_terms") rfl)
  have p_in_lowest_terms := F_in_lowest_terms.kp
  obtain ⟨fd_shares, F_shares⟩ := c.t.d.def_ 26 (d := d_shares) rfl
  have m_shares := He.glo_ok X G (c.t.d.fact 23 (f := .glo "shares") rfl)
  have p_shares := F_shares.kp
  obtain ⟨fd_added, F_added⟩ := c.t.d.def_ 27 (d := d_added) rfl
  have m_added := He.glo_ok X G (c.t.d.fact 24 (f := .glo "added") rfl)
  have p_added := F_added.kp
  obtain ⟨fd_Scale_mix, F_Scale_mix⟩ := c.t.d.def_ 28 (d := d_Scale_mix) rfl
  obtain ⟨fd_Box_fits, F_Box_fits⟩ := c.t.d.def_ 29 (d := d_Box_fits) rfl
  have tb_Box_fits := tb (He.cT K ("Box", some "fits")) (List.mem_map_of_mem (by simp [tf]))
  have fc_Box_fits := code_ofD (p := ("Box", some "fits")) (st := s_Box_fits) F_Box_fits
  have ti_Box_fits : (He.cT K ("Box", some "fits")).2 ∈ (tf.map (He.cT K)).map Prod.snd := List.mem_map_of_mem (List.mem_map_of_mem (by simp [tf]))
  obtain ⟨fd_Box_mix, F_Box_mix⟩ := c.t.d.def_ 30 (d := d_Box_mix) rfl
  obtain ⟨fd__law_spot_told, F__law_spot_told⟩ := c.t.d.def_ 31 (d := d__law_spot_told) rfl
  have m__law_spot_told := He.glo_ok X G (c.t.d.fact 25 (f := .glo "_law_spot_told") rfl)
  have p__law_spot_told := F__law_spot_told.kp
  obtain ⟨fd__law_any_refused, F__law_any_refused⟩ := c.t.d.def_ 32 (d := d__law_any_refused) rfl
  have m__law_any_refused := He.glo_ok X G (c.t.d.fact 26 (f := .glo "_law_any_refused") rfl)
  have p__law_any_refused := F__law_any_refused.kp
  obtain ⟨fd_Scale_marks, F_Scale_marks⟩ := c.t.d.def_ 33 (d := d_Scale_marks) rfl
  obtain ⟨fd_Box_marks, F_Box_marks⟩ := c.t.d.def_ 34 (d := d_Box_marks) rfl
  obtain ⟨fd__law_spots_right, F__law_spots_right⟩ := c.t.d.def_ 35 (d := d__law_spots_right) rfl
  have m__law_spots_right := He.glo_ok X G (c.t.d.fact 27 (f := .glo "_law_spots_right") rfl)
  have p__law_spots_right := F__law_spots_right.kp
  obtain ⟨fd_law, F_law⟩ := c.t.d.def_ 36 (d := d_law) rfl
  have m_law := He.glo_ok X G (c.t.d.fact 28 (f := .glo "law") rfl)
  have p_law := F_law.kp
  have e := hfa.symm.trans m_law
  cases e
  have z_abs := He.free_ok X G (c.t.d.fact 29 (f := .free "abs") rfl)
  have z_len := He.free_ok X G (c.t.d.fact 30 (f := .free "len") rfl)
  have z_int := He.free_ok X G (c.t.d.fact 31 (f := .free "int") rfl)
  have z_range := He.free_ok X G (c.t.d.fact 32 (f := .free "range") rfl)
  have z_list := He.free_ok X G (c.t.d.fact 33 (f := .free "list") rfl)
  have z_tuple := He.free_ok X G (c.t.d.fact 34 (f := .free "tuple") rfl)
  have z_max := He.free_ok X G (c.t.d.fact 35 (f := .free "max") rfl)
  have z_isinstance := He.free_ok X G (c.t.d.fact 36 (f := .free "isinstance") rfl)
  have z_enumerate := He.free_ok X G (c.t.d.fact 37 (f := .free "enumerate") rfl)
  have m_Wrong := He.glo_ok X G (c.t.d.fact 38 (f := .glo "Wrong") rfl)
  have z_bool := He.free_ok X G (c.t.d.fact 39 (f := .free "bool") rfl)
  obtain ⟨t_LAST_POINT, c_LAST_POINT⟩ := He.int_ok X G (c.t.d.fact 40 (f := .int "LAST_POINT" 1000) rfl)
  have z_all := He.free_ok X G (c.t.d.fact 41 (f := .free "all") rfl)
  have c_FEWEST_MARKS := He.glo_ok X G (c.t.d.fact 42 (f := .glo "FEWEST_MARKS") rfl)
  have kd_FEWEST_MARKS : KCon K w (He.ga K "FEWEST_MARKS") [("scale", (.int 2)), ("box", (.int 1))] := kcon_of (ks := ["scale", "box"]) (kvs := [("scale", (.int 2)), ("box", (.int 1))]) (tabW c.t 0 (t := (fun K => He.ga K "FEWEST_MARKS", ["scale", "box"])) rfl) rfl (exsAt (K := K) c.more 0 (b := fun K => He.valsB K (He.ga K "FEWEST_MARKS") [("scale", (.int 2)), ("box", (.int 1))]) rfl) (.cons (fun F => (Rp.int _)) (.cons (fun F => (Rp.int _)) (.nil)))
  have kl_FEWEST_MARKS : KLst K w (He.ga K "FEWEST_MARKS") ["scale", "box"] := klst_of (tabW c.t 0 (t := (fun K => He.ga K "FEWEST_MARKS", ["scale", "box"])) rfl) (by decide +kernel) (by decide)
  obtain ⟨t_MOST_MARKS, c_MOST_MARKS⟩ := He.int_ok X G (c.t.d.fact 43 (f := .int "MOST_MARKS" 8) rfl)
  have m_Scale := He.glo_ok X G (c.t.d.fact 44 (f := .glo "Scale") rfl)
  have cl_Scale := He.cls_ok (c.t.d.fact 45 (f := .cls "Scale") rfl)
  have ob_Scale : ObC K "Scale" (He.ga K "Scale") := ⟨He.eqO_ok (c.t.d.fact 44 (f := .glo "Scale") rfl), cl_Scale, (He.eqO_ok (exsAt (K := K) c.more 7 (b := fun K => He.eqO (PySem.W.findIn K (.ref (He.ga K "Scale")) "__class__") (some (some (.builtin "object.__class__")))) rfl)), (He.eqO_ok (exsAt (K := K) c.more 8 (b := fun K => He.eqO (PySem.W.specialIn K (.builtin "object.__class__") "__get__") (some (some (.builtin "getset_descriptor.__get__")))) rfl)), (of_decide_eq_true (exsAt (K := K) c.more 9 (b := fun K => decide (PySem.W.takesIn K (.builtin "object.__class__") = some true)) rfl)), (of_decide_eq_true (exsAt (K := K) c.more 10 (b := fun K => decide (PySem.W.mroIn K (He.ga K "Scale") (.type "object") = some true)) rfl)), fun n hn => by
    rcases hn with rfl | rfl | rfl | rfl | rfl | rfl <;> first | exact (of_decide_eq_true (exsAt (K := K) c.more 1 (b := fun K => decide (PySem.W.kitOne K (.ref (He.ga K "Scale")) (.type "int") = some false)) rfl)) | exact (of_decide_eq_true (exsAt (K := K) c.more 2 (b := fun K => decide (PySem.W.kitOne K (.ref (He.ga K "Scale")) (.type "bool") = some false)) rfl)) | exact (of_decide_eq_true (exsAt (K := K) c.more 3 (b := fun K => decide (PySem.W.kitOne K (.ref (He.ga K "Scale")) (.type "str") = some false)) rfl)) | exact (of_decide_eq_true (exsAt (K := K) c.more 4 (b := fun K => decide (PySem.W.kitOne K (.ref (He.ga K "Scale")) (.type "list") = some false)) rfl)) | exact (of_decide_eq_true (exsAt (K := K) c.more 5 (b := fun K => decide (PySem.W.kitOne K (.ref (He.ga K "Scale")) (.type "tuple") = some false)) rfl)) | exact (of_decide_eq_true (exsAt (K := K) c.more 6 (b := fun K => decide (PySem.W.kitOne K (.ref (He.ga K "Scale")) (.type "dict") = some false)) rfl))⟩
  have na_Scale__marks := He.noat_ok (c.t.d.fact 46 (f := .noat "Scale" "_marks") rfl)
  have m_Box := He.glo_ok X G (c.t.d.fact 47 (f := .glo "Box") rfl)
  have cl_Box := He.cls_ok (c.t.d.fact 48 (f := .cls "Box") rfl)
  have ob_Box : ObC K "Box" (He.ga K "Box") := ⟨He.eqO_ok (c.t.d.fact 47 (f := .glo "Box") rfl), cl_Box, (He.eqO_ok (exsAt (K := K) c.more 17 (b := fun K => He.eqO (PySem.W.findIn K (.ref (He.ga K "Box")) "__class__") (some (some (.builtin "object.__class__")))) rfl)), (He.eqO_ok (exsAt (K := K) c.more 8 (b := fun K => He.eqO (PySem.W.specialIn K (.builtin "object.__class__") "__get__") (some (some (.builtin "getset_descriptor.__get__")))) rfl)), (of_decide_eq_true (exsAt (K := K) c.more 9 (b := fun K => decide (PySem.W.takesIn K (.builtin "object.__class__") = some true)) rfl)), (of_decide_eq_true (exsAt (K := K) c.more 18 (b := fun K => decide (PySem.W.mroIn K (He.ga K "Box") (.type "object") = some true)) rfl)), fun n hn => by
    rcases hn with rfl | rfl | rfl | rfl | rfl | rfl <;> first | exact (of_decide_eq_true (exsAt (K := K) c.more 11 (b := fun K => decide (PySem.W.kitOne K (.ref (He.ga K "Box")) (.type "int") = some false)) rfl)) | exact (of_decide_eq_true (exsAt (K := K) c.more 12 (b := fun K => decide (PySem.W.kitOne K (.ref (He.ga K "Box")) (.type "bool") = some false)) rfl)) | exact (of_decide_eq_true (exsAt (K := K) c.more 13 (b := fun K => decide (PySem.W.kitOne K (.ref (He.ga K "Box")) (.type "str") = some false)) rfl)) | exact (of_decide_eq_true (exsAt (K := K) c.more 14 (b := fun K => decide (PySem.W.kitOne K (.ref (He.ga K "Box")) (.type "list") = some false)) rfl)) | exact (of_decide_eq_true (exsAt (K := K) c.more 15 (b := fun K => decide (PySem.W.kitOne K (.ref (He.ga K "Box")) (.type "tuple") = some false)) rfl)) | exact (of_decide_eq_true (exsAt (K := K) c.more 16 (b := fun K => decide (PySem.W.kitOne K (.ref (He.ga K "Box")) (.type "dict") = some false)) rfl))⟩
  have na_Box__marks := He.noat_ok (c.t.d.fact 49 (f := .noat "Box" "_marks") rfl)
  have z_str := He.free_ok X G (c.t.d.fact 50 (f := .free "str") rfl)
  have mk_Scale := He.mkr_ok (c.t.d.fact 51 (f := .mkr "Scale") rfl)
  have mk_Box := He.mkr_ok (c.t.d.fact 52 (f := .mkr "Box") rfl)
  have em_Wrong_Wrong := He.exm_ok (c.t.d.fact 53 (f := .exm "Wrong" "Wrong" true) rfl)
  have ex_Wrong : ExcC K (He.ga K "Wrong") := ⟨(He.eqO_ok (exsAt (K := K) c.more 19 (b := fun K => He.eqO (PySem.W.findIn K (.ref (He.ga K "Wrong")) "__getattribute__") (some (some (.builtin "BaseException.__getattribute__")))) rfl)), (He.eqO_ok (exsAt (K := K) c.more 20 (b := fun K => He.eqO (PySem.W.findIn K (.ref (He.ga K "Wrong")) "__getattr__") (some none)) rfl)), (of_decide_eq_true (exsAt (K := K) c.more 21 (b := fun K => decide (PySem.W.subIn K (.ref (He.ga K "Wrong")) (.type "BaseException") = some true)) rfl)), (of_decide_eq_true (exsAt (K := K) c.more 22 (b := fun K => decide (PySem.W.hasDictIn K (He.ga K "Wrong") = true)) rfl)), (He.eqO_ok (exsAt (K := K) c.more 23 (b := fun K => He.eqO (PySem.W.findIn K (.ref (He.ga K "Wrong")) "__class__") (some (some (.builtin "object.__class__")))) rfl)), (He.eqO_ok (exsAt (K := K) c.more 8 (b := fun K => He.eqO (PySem.W.specialIn K (.builtin "object.__class__") "__get__") (some (some (.builtin "getset_descriptor.__get__")))) rfl)), (of_decide_eq_true (exsAt (K := K) c.more 9 (b := fun K => decide (PySem.W.takesIn K (.builtin "object.__class__") = some true)) rfl)), (of_decide_eq_true (exsAt (K := K) c.more 24 (b := fun K => decide (PySem.W.mroIn K (He.ga K "Wrong") (.type "object") = some true)) rfl))⟩
  have xf_Wrong : XfC K (He.ga K "Wrong") := ⟨(He.eqO_ok (exsAt (K := K) c.more 19 (b := fun K => He.eqO (PySem.W.findIn K (.ref (He.ga K "Wrong")) "__getattribute__") (some (some (.builtin "BaseException.__getattribute__")))) rfl)), (He.eqO_ok (exsAt (K := K) c.more 20 (b := fun K => He.eqO (PySem.W.findIn K (.ref (He.ga K "Wrong")) "__getattr__") (some none)) rfl)), (of_decide_eq_true (exsAt (K := K) c.more 21 (b := fun K => decide (PySem.W.subIn K (.ref (He.ga K "Wrong")) (.type "BaseException") = some true)) rfl)), (of_decide_eq_true (exsAt (K := K) c.more 22 (b := fun K => decide (PySem.W.hasDictIn K (He.ga K "Wrong") = true)) rfl))⟩
  have nf_Wrong := (He.eqO_ok (exsAt (K := K) c.more 25 (b := fun K => He.eqO (PySem.W.findIn K (.ref (He.ga K "Wrong")) "at") (some none)) rfl))
  have z_repr := He.free_ok X G (c.t.d.fact 54 (f := .free "repr") rfl)
  have z_sorted := He.free_ok X G (c.t.d.fact 55 (f := .free "sorted") rfl)
  have z_set := He.free_ok X G (c.t.d.fact 56 (f := .free "set") rfl)
  obtain ⟨t_LONGEST_SPOT, c_LONGEST_SPOT⟩ := He.int_ok X G (c.t.d.fact 57 (f := .int "LONGEST_SPOT" 6) rfl)
  have i_gcd := PySem.W.mg_of X G (He.eqO_ok (exsAt (K := K) c.more 26 (b := fun K => He.eqO (PySem.W.nsIn K mainGlobals "gcd") (some (some (.builtin "math.gcd")))) rfl))
  have z_min := He.free_ok X G (c.t.d.fact 58 (f := .free "min") rfl)
  have c_WHOLE := He.glo_ok X G (c.t.d.fact 59 (f := .glo "WHOLE") rfl)
  have r_WHOLE : RelV (.ref (He.ga K "WHOLE")) (.ref (He.ga K "WHOLE")) := rfl
  have e_WHOLE := tup_ofB (xs := [(.int 1), (.int 1)]) (exsAt (K := K) c.more 27 (b := fun K => He.tupB K "WHOLE" [(.int 1), (.int 1)]) rfl) fun F => .cons (Rp.int _) (.cons (Rp.int _) (.nil))
  have m_NoSpot := He.glo_ok X G (c.t.d.fact 60 (f := .glo "NoSpot") rfl)
  obtain ⟨q0_NoSpot, k0_NoSpot, e0_NoSpot, t0_NoSpot⟩ := He.exc_ok (c.t.d.fact 61 (f := .exc "NoSpot") rfl)
  have mt_Scale_fits := He.meth_ok (c.t.d.fact 62 (f := .meth "Scale" "fits") rfl)
  have mt_Box_fits := He.meth_ok (c.t.d.fact 63 (f := .meth "Box" "fits") rfl)
  have em_NoSpot_Wrong := He.exm_ok (c.t.d.fact 64 (f := .exm "NoSpot" "Wrong" false) rfl)
  have em_Wrong_NoSpot := He.exm_ok (c.t.d.fact 65 (f := .exm "Wrong" "NoSpot" false) rfl)
  have em_NoSpot_NoSpot := He.exm_ok (c.t.d.fact 66 (f := .exm "NoSpot" "NoSpot" true) rfl)
  have mt_Scale_mix := He.meth_ok (c.t.d.fact 67 (f := .meth "Scale" "mix") rfl)
  have mt_Box_mix := He.meth_ok (c.t.d.fact 68 (f := .meth "Box" "mix") rfl)
  have z_ValueError := He.free_ok X G (c.t.d.fact 69 (f := .free "ValueError") rfl)
  have m_ChainError := He.glo_ok X G (c.t.d.fact 70 (f := .glo "ChainError") rfl)
  have em_Wrong_ChainError := He.exm_ok (c.t.d.fact 71 (f := .exm "Wrong" "ChainError" true) rfl)
  have kt_Wrong_ValueError := (of_decide_eq_true (exsAt (K := K) c.more 28 (b := fun K => decide (PySem.W.kitOne K (.ref (He.ga K "Wrong")) (.type "ValueError") = some (isx "Wrong" "ValueError"))) rfl))
  have kt_Wrong_NoSpot := (of_decide_eq_true (exsAt (K := K) c.more 29 (b := fun K => decide (PySem.W.kitOne K (.ref (He.ga K "Wrong")) (.ref (He.ga K "NoSpot")) = some (isx "Wrong" "NoSpot"))) rfl))
  have mt_Scale_marks := He.meth_ok (c.t.d.fact 72 (f := .meth "Scale" "marks") rfl)
  have mt_Box_marks := He.meth_ok (c.t.d.fact 73 (f := .meth "Box" "marks") rfl)
  have T_Wrong := oexB_ok (exsAt (K := K) c.more 30 (b := fun K => oexB K (He.ga K "Wrong")) rfl) (He.eqO_ok (exsAt (K := K) c.more 31 (b := fun K => He.eqO (PySem.W.findIn K (.ref (He.ga K "Wrong")) "__setattr__") (some (some (.builtin "object.__setattr__")))) rfl)) (of_decide_eq_true (exsAt (K := K) c.more 21 (b := fun K => decide (PySem.W.subIn K (.ref (He.ga K "Wrong")) (.type "BaseException") = some true)) rfl)) (of_decide_eq_true (exsAt (K := K) c.more 32 (b := fun K => decide (PySem.W.typeIn K (.ref (He.ga K "Wrong")) = some (.type "type"))) rfl)) (exsAt (K := K) c.more 33 (b := fun K => PySem.W.keepIn K (.ref (He.ga K "Wrong"))) rfl)
  have ic_Wrong := (He.eqO_ok (exsAt (K := K) c.more 34 (b := fun K => He.eqO (PySem.W.findIn K (.ref (He.ga K "Wrong")) "__init__") (some (some (.ref (He.ma K (He.ga K "Wrong") "__init__"))))) rfl))
  have ti_Wrong := (of_decide_eq_true (exsAt (K := K) c.more 35 (b := fun K => decide (PySem.W.typeIn K (.ref (He.ma K (He.ga K "Wrong") "__init__")) = some (.type "function"))) rfl))
  obtain ⟨fdI_Wrong, FI_Wrong⟩ := c.t.d.def_ 37 (d := dI_Wrong) rfl
  have F1_Wrong := fun_ofD (st := sI_Wrong) FI_Wrong
  have i1_Wrong := ini_ok (P := PySem.Challenge.rw_truechain_k27_marks_refused.prog) (w := w) (mg := mg) (base := base) (n := "at") F1_Wrong scI_Wrong T_Wrong (He.eqO_ok (exsAt (K := K) c.more 25 (b := fun K => He.eqO (PySem.W.findIn K (.ref (He.ga K "Wrong")) "at") (some none)) rfl)) (by decide) (by decide) (by decide) (by first | exact Or.inl rfl | exact Or.inr (Or.inl rfl)) (by first | exact Or.inl rfl | exact Or.inr (Or.inl rfl)) rfl
  have hb_Wrong := F1_Wrong.binds (ps := ["self", "at"]) fun _ _ _ _ _ _ us hl => match us, hl with | [_, _], _ => rfl
  have g__law_bag := ok__law_bag (P := PySem.Challenge.rw_truechain_k27_marks_refused.prog) (w := w) (mg := mg) (base := base) (fun_ofD (st := s__law_bag) F__law_bag) (z_abs := z_abs)
  have g__law_take := ok__law_take (ts := (tf.map (He.cT K)).map Prod.snd) (P := PySem.Challenge.rw_truechain_k27_marks_refused.prog) (w := w) (mg := mg) (base := base) (fun_ofD (st := s__law_take) F__law_take) (z_len := z_len)
  have g__law_marks := ok__law_marks (ts := (tf.map (He.cT K)).map Prod.snd) (P := PySem.Challenge.rw_truechain_k27_marks_refused.prog) (w := w) (mg := mg) (base := base) (fun_ofD (st := s__law_marks) F__law_marks) (g__law_take := g__law_take) (m__law_take := m__law_take) (p__law_take := p__law_take) (z_int := z_int) (z_range := z_range)
  have g__law_odd := ok__law_odd (ts := (tf.map (He.cT K)).map Prod.snd) (P := PySem.Challenge.rw_truechain_k27_marks_refused.prog) (w := w) (mg := mg) (base := base) (fun_ofD (st := s__law_odd) F__law_odd) (g__law_take := g__law_take) (m__law_take := m__law_take) (p__law_take := p__law_take)
  have g__law_other := ok__law_other (ts := (tf.map (He.cT K)).map Prod.snd) (P := PySem.Challenge.rw_truechain_k27_marks_refused.prog) (w := w) (mg := mg) (base := base) (fun_ofD (st := s__law_other) F__law_other) (g__law_take := g__law_take) (m__law_take := m__law_take) (p__law_take := p__law_take) (g__law_odd := g__law_odd) (m__law_odd := m__law_odd) (p__law_odd := p__law_odd) (z_len := z_len) (z_range := z_range) (z_list := z_list)
  have g__law_spoilt := ok__law_spoilt (ts := (tf.map (He.cT K)).map Prod.snd) (P := PySem.Challenge.rw_truechain_k27_marks_refused.prog) (w := w) (mg := mg) (base := base) (fun_ofD (st := s__law_spoilt) F__law_spoilt) (g__law_other := g__law_other) (m__law_other := m__law_other) (p__law_other := p__law_other) (g__law_odd := g__law_odd) (m__law_odd := m__law_odd) (p__law_odd := p__law_odd) (z_list := z_list) (z_tuple := z_tuple) (z_max := z_max)
  have g__law_copy := ok__law_copy (ts := (tf.map (He.cT K)).map Prod.snd) (P := PySem.Challenge.rw_truechain_k27_marks_refused.prog) (w := w) (mg := mg) (base := base) (fun_ofD (st := s__law_copy) F__law_copy) (m__law_copy := m__law_copy) (p__law_copy := p__law_copy) (z_isinstance := z_isinstance) (z_list := z_list) (z_tuple := z_tuple) 8
  have g_require := ok_require (ts := (tf.map (He.cT K)).map Prod.snd) (P := PySem.Challenge.rw_truechain_k27_marks_refused.prog) (w := w) (mg := mg) (base := base) (fun_ofD (st := s_require) F_require) (z_enumerate := z_enumerate) (T_Wrong := T_Wrong) (ic_Wrong := ic_Wrong) (ti_Wrong := ti_Wrong) (i1_Wrong := i1_Wrong) (hb_Wrong := hb_Wrong) (m_Wrong := m_Wrong)
  have g_is_whole := ok_is_whole (ts := (tf.map (He.cT K)).map Prod.snd) (P := PySem.Challenge.rw_truechain_k27_marks_refused.prog) (w := w) (mg := mg) (base := base) (fun_ofD (st := s_is_whole) F_is_whole) (z_isinstance := z_isinstance) (z_int := z_int) (z_bool := z_bool)
  have g_is_point := ok_is_point (ts := (tf.map (He.cT K)).map Prod.snd) (P := PySem.Challenge.rw_truechain_k27_marks_refused.prog) (w := w) (mg := mg) (base := base) (fun_ofD (st := s_is_point) F_is_point) (g_is_whole := g_is_whole) (m_is_whole := m_is_whole) (p_is_whole := p_is_whole) (c_LAST_POINT := c_LAST_POINT)
  have g_do_rise := ok_do_rise (ts := (tf.map (He.cT K)).map Prod.snd) (P := PySem.Challenge.rw_truechain_k27_marks_refused.prog) (w := w) (mg := mg) (base := base) (fun_ofD (st := s_do_rise) F_do_rise) (z_all := z_all) (z_range := z_range) (z_len := z_len) (tb_do_rise := tb_do_rise) (fc_do_rise := fc_do_rise) (ti_do_rise := ti_do_rise)
  have g_are_marks := ok_are_marks (ts := (tf.map (He.cT K)).map Prod.snd) (P := PySem.Challenge.rw_truechain_k27_marks_refused.prog) (w := w) (mg := mg) (base := base) (fun_ofD (st := s_are_marks) F_are_marks) (g_is_point := g_is_point) (m_is_point := m_is_point) (p_is_point := p_is_point) (g_do_rise := g_do_rise) (m_do_rise := m_do_rise) (p_do_rise := p_do_rise) (z_isinstance := z_isinstance) (z_list := z_list) (z_len := z_len) (z_all := z_all) (c_FEWEST_MARKS := c_FEWEST_MARKS) (kd_FEWEST_MARKS := kd_FEWEST_MARKS) (kl_FEWEST_MARKS := kl_FEWEST_MARKS) (c_MOST_MARKS := c_MOST_MARKS) (tb_are_marks := tb_are_marks) (fc_are_marks := fc_are_marks) (ti_are_marks := ti_are_marks)
  have g_Scale___init__ := ok_Scale___init__ (ts := (tf.map (He.cT K)).map Prod.snd) (P := PySem.Challenge.rw_truechain_k27_marks_refused.prog) (w := w) (mg := mg) (base := base) (fun_ofD (st := s_Scale___init__) F_Scale___init__) (m_Scale := m_Scale) (ob_Scale := ob_Scale) (na_Scale__marks := na_Scale__marks) (g_require := g_require) (m_require := m_require) (p_require := p_require) (g_are_marks := g_are_marks) (m_are_marks := m_are_marks) (p_are_marks := p_are_marks) (z_tuple := z_tuple)
  have g_Box___init__ := ok_Box___init__ (ts := (tf.map (He.cT K)).map Prod.snd) (P := PySem.Challenge.rw_truechain_k27_marks_refused.prog) (w := w) (mg := mg) (base := base) (fun_ofD (st := s_Box___init__) F_Box___init__) (m_Box := m_Box) (ob_Box := ob_Box) (na_Box__marks := na_Box__marks) (g_require := g_require) (m_require := m_require) (p_require := p_require) (g_are_marks := g_are_marks) (m_are_marks := m_are_marks) (p_are_marks := p_are_marks) (z_tuple := z_tuple)
  have g_is_sort := ok_is_sort (ts := (tf.map (He.cT K)).map Prod.snd) (P := PySem.Challenge.rw_truechain_k27_marks_refused.prog) (w := w) (mg := mg) (base := base) (fun_ofD (st := s_is_sort) F_is_sort) (z_isinstance := z_isinstance) (z_str := z_str) (c_FEWEST_MARKS := c_FEWEST_MARKS) (kd_FEWEST_MARKS := kd_FEWEST_MARKS) (kl_FEWEST_MARKS := kl_FEWEST_MARKS)
  have g_marks_of := ok_marks_of (ts := (tf.map (He.cT K)).map Prod.snd) (P := PySem.Challenge.rw_truechain_k27_marks_refused.prog) (w := w) (mg := mg) (base := base) (fun_ofD (st := s_marks_of) F_marks_of) (m_Scale := m_Scale) (ob_Scale := ob_Scale) (m_Box := m_Box) (ob_Box := ob_Box) (g_require := g_require) (m_require := m_require) (p_require := p_require) (g_is_sort := g_is_sort) (m_is_sort := m_is_sort) (p_is_sort := p_is_sort) (g_are_marks := g_are_marks) (m_are_marks := m_are_marks) (p_are_marks := p_are_marks) (g_Scale___init__ := g_Scale___init__) (mk_Scale := mk_Scale) (g_Box___init__ := g_Box___init__) (mk_Box := mk_Box)
  have g__law_made := ok__law_made (ts := (tf.map (He.cT K)).map Prod.snd) (P := PySem.Challenge.rw_truechain_k27_marks_refused.prog) (w := w) (mg := mg) (base := base) (fun_ofD (st := s__law_made) F__law_made) (m_Scale := m_Scale) (ob_Scale := ob_Scale) (m_Box := m_Box) (ob_Box := ob_Box) (g_Scale___init__ := g_Scale___init__) (mk_Scale := mk_Scale) (g_Box___init__ := g_Box___init__) (mk_Box := mk_Box) (g_marks_of := g_marks_of) (m_marks_of := m_marks_of) (p_marks_of := p_marks_of)
  have g__law_refused := ok__law_refused (ts := (tf.map (He.cT K)).map Prod.snd) (P := PySem.Challenge.rw_truechain_k27_marks_refused.prog) (w := w) (mg := mg) (base := base) (fun_ofD (st := s__law_refused) F__law_refused) (m_Wrong := m_Wrong) (em_Wrong_Wrong := em_Wrong_Wrong) (ex_Wrong := ex_Wrong) (xf_Wrong := xf_Wrong) (nf_Wrong := nf_Wrong) (g__law_made := g__law_made) (m__law_made := m__law_made) (p__law_made := p__law_made)
  have g__law_alike := ok__law_alike (ts := (tf.map (He.cT K)).map Prod.snd) (P := PySem.Challenge.rw_truechain_k27_marks_refused.prog) (w := w) (mg := mg) (base := base) (fun_ofD (st := s__law_alike) F__law_alike) (z_repr := z_repr)
  have g__law_is_point := ok__law_is_point (ts := (tf.map (He.cT K)).map Prod.snd) (P := PySem.Challenge.rw_truechain_k27_marks_refused.prog) (w := w) (mg := mg) (base := base) (fun_ofD (st := s__law_is_point) F__law_is_point) (z_isinstance := z_isinstance) (z_int := z_int) (z_bool := z_bool)
  have g__law_is_row := ok__law_is_row (ts := (tf.map (He.cT K)).map Prod.snd) (P := PySem.Challenge.rw_truechain_k27_marks_refused.prog) (w := w) (mg := mg) (base := base) (fun_ofD (st := s__law_is_row) F__law_is_row) (g__law_is_point := g__law_is_point) (m__law_is_point := m__law_is_point) (p__law_is_point := p__law_is_point) (z_isinstance := z_isinstance) (z_list := z_list) (z_len := z_len) (z_range := z_range)
  have g__law_due := ok__law_due (ts := (tf.map (He.cT K)).map Prod.snd) (P := PySem.Challenge.rw_truechain_k27_marks_refused.prog) (w := w) (mg := mg) (base := base) (fun_ofD (st := s__law_due) F__law_due) (g__law_is_row := g__law_is_row) (m__law_is_row := m__law_is_row) (p__law_is_row := p__law_is_row) (z_int := z_int) (z_isinstance := z_isinstance) (z_str := z_str)
  have g__law_spot := ok__law_spot (ts := (tf.map (He.cT K)).map Prod.snd) (P := PySem.Challenge.rw_truechain_k27_marks_refused.prog) (w := w) (mg := mg) (base := base) (fun_ofD (st := s__law_spot) F__law_spot) (g__law_take := g__law_take) (m__law_take := m__law_take) (p__law_take := p__law_take) (z_range := z_range) (z_len := z_len) (z_sorted := z_sorted) (z_set := z_set)
  have g_is_spot := ok_is_spot (ts := (tf.map (He.cT K)).map Prod.snd) (P := PySem.Challenge.rw_truechain_k27_marks_refused.prog) (w := w) (mg := mg) (base := base) (fun_ofD (st := s_is_spot) F_is_spot) (g_is_point := g_is_point) (m_is_point := m_is_point) (p_is_point := p_is_point) (z_isinstance := z_isinstance) (z_list := z_list) (z_len := z_len) (z_all := z_all) (z_range := z_range) (c_LONGEST_SPOT := c_LONGEST_SPOT) (tb_is_spot := tb_is_spot) (fc_is_spot := fc_is_spot) (ti_is_spot := ti_is_spot)
  have g_Scale_fits := ok_Scale_fits (ts := (tf.map (He.cT K)).map Prod.snd) (P := PySem.Challenge.rw_truechain_k27_marks_refused.prog) (w := w) (mg := mg) (base := base) (fun_ofD (st := s_Scale_fits) F_Scale_fits) (m_Scale := m_Scale) (ob_Scale := ob_Scale) (na_Scale__marks := na_Scale__marks) (g_require := g_require) (m_require := m_require) (p_require := p_require) (g_is_spot := g_is_spot) (m_is_spot := m_is_spot) (p_is_spot := p_is_spot)
  have g_in_lowest_terms := ok_in_lowest_terms (ts := (tf.map (He.cT K)).map Prod.snd) (P := PySem.Challenge.rw_truechain_k27_marks_refused.prog) (w := w) (mg := mg) (base := base) (fun_ofD (st := s_in_lowest_terms) F_in_lowest_terms) (i_gcd := i_gcd)
  have g_shares := ok_shares (ts := (tf.map (He.cT K)).map Prod.snd) (P := PySem.Challenge.rw_truechain_k27_marks_refused.prog) (w := w) (mg := mg) (base := base) (fun_ofD (st := s_shares) F_shares) (g_in_lowest_terms := g_in_lowest_terms) (m_in_lowest_terms := m_in_lowest_terms) (p_in_lowest_terms := p_in_lowest_terms) (z_min := z_min) (z_max := z_max) (c_WHOLE := c_WHOLE) (r_WHOLE := r_WHOLE) (e_WHOLE := e_WHOLE)
  have g_added := ok_added (ts := (tf.map (He.cT K)).map Prod.snd) (P := PySem.Challenge.rw_truechain_k27_marks_refused.prog) (w := w) (mg := mg) (base := base) (fun_ofD (st := s_added) F_added) (i_gcd := i_gcd)
  have g_Scale_mix := ok_Scale_mix (ts := (tf.map (He.cT K)).map Prod.snd) (P := PySem.Challenge.rw_truechain_k27_marks_refused.prog) (w := w) (mg := mg) (base := base) (fun_ofD (st := s_Scale_mix) F_Scale_mix) (m_Scale := m_Scale) (ob_Scale := ob_Scale) (m_NoSpot := m_NoSpot) (q0_NoSpot := q0_NoSpot) (k0_NoSpot := k0_NoSpot) (e0_NoSpot := e0_NoSpot) (t0_NoSpot := t0_NoSpot) (na_Scale__marks := na_Scale__marks) (g_Scale_fits := g_Scale_fits) (mt_Scale_fits := mt_Scale_fits) (g_shares := g_shares) (m_shares := m_shares) (p_shares := p_shares) (g_added := g_added) (m_added := m_added) (p_added := p_added) (z_sorted := z_sorted)
  have g_Box_fits := ok_Box_fits (ts := (tf.map (He.cT K)).map Prod.snd) (P := PySem.Challenge.rw_truechain_k27_marks_refused.prog) (w := w) (mg := mg) (base := base) (fun_ofD (st := s_Box_fits) F_Box_fits) (m_Box := m_Box) (ob_Box := ob_Box) (na_Box__marks := na_Box__marks) (g_require := g_require) (m_require := m_require) (p_require := p_require) (g_is_spot := g_is_spot) (m_is_spot := m_is_spot) (p_is_spot := p_is_spot) (g_do_rise := g_do_rise) (m_do_rise := m_do_rise) (p_do_rise := p_do_rise) (z_all := z_all) (tb_Box_fits := tb_Box_fits) (fc_Box_fits := fc_Box_fits) (ti_Box_fits := ti_Box_fits)
  have g_Box_mix := ok_Box_mix (ts := (tf.map (He.cT K)).map Prod.snd) (P := PySem.Challenge.rw_truechain_k27_marks_refused.prog) (w := w) (mg := mg) (base := base) (fun_ofD (st := s_Box_mix) F_Box_mix) (m_Box := m_Box) (ob_Box := ob_Box) (m_NoSpot := m_NoSpot) (q0_NoSpot := q0_NoSpot) (k0_NoSpot := k0_NoSpot) (e0_NoSpot := e0_NoSpot) (t0_NoSpot := t0_NoSpot) (g_Box_fits := g_Box_fits) (mt_Box_fits := mt_Box_fits) (c_WHOLE := c_WHOLE) (r_WHOLE := r_WHOLE) (e_WHOLE := e_WHOLE)
  have g__law_spot_told := ok__law_spot_told (ts := (tf.map (He.cT K)).map Prod.snd) (P := PySem.Challenge.rw_truechain_k27_marks_refused.prog) (w := w) (mg := mg) (base := base) (fun_ofD (st := s__law_spot_told) F__law_spot_told) (m_Wrong := m_Wrong) (m_NoSpot := m_NoSpot) (em_Wrong_Wrong := em_Wrong_Wrong) (em_NoSpot_Wrong := em_NoSpot_Wrong) (em_Wrong_NoSpot := em_Wrong_NoSpot) (em_NoSpot_NoSpot := em_NoSpot_NoSpot) (m_Scale := m_Scale) (ob_Scale := ob_Scale) (m_Box := m_Box) (ob_Box := ob_Box) (ex_Wrong := ex_Wrong) (xf_Wrong := xf_Wrong) (nf_Wrong := nf_Wrong) (g_Scale_fits := g_Scale_fits) (mt_Scale_fits := mt_Scale_fits) (g_Box_fits := g_Box_fits) (mt_Box_fits := mt_Box_fits) (g_Scale_mix := g_Scale_mix) (mt_Scale_mix := mt_Scale_mix) (g_Box_mix := g_Box_mix) (mt_Box_mix := mt_Box_mix)
  have g__law_any_refused := ok__law_any_refused (ts := (tf.map (He.cT K)).map Prod.snd) (P := PySem.Challenge.rw_truechain_k27_marks_refused.prog) (w := w) (mg := mg) (base := base) (fun_ofD (st := s__law_any_refused) F__law_any_refused) (m_ChainError := m_ChainError) (m_Wrong := m_Wrong) (em_Wrong_ChainError := em_Wrong_ChainError) (m_Scale := m_Scale) (ob_Scale := ob_Scale) (m_Box := m_Box) (ob_Box := ob_Box) (ex_Wrong := ex_Wrong) (xf_Wrong := xf_Wrong) (nf_Wrong := nf_Wrong) (kt_Wrong_ValueError := kt_Wrong_ValueError) (m_NoSpot := m_NoSpot) (kt_Wrong_NoSpot := kt_Wrong_NoSpot) (g_Scale_mix := g_Scale_mix) (mt_Scale_mix := mt_Scale_mix) (g_Box_mix := g_Box_mix) (mt_Box_mix := mt_Box_mix) (z_isinstance := z_isinstance) (z_ValueError := z_ValueError)
  have g_Scale_marks := ok_Scale_marks (ts := (tf.map (He.cT K)).map Prod.snd) (P := PySem.Challenge.rw_truechain_k27_marks_refused.prog) (w := w) (mg := mg) (base := base) (fun_ofD (st := s_Scale_marks) F_Scale_marks) (m_Scale := m_Scale) (ob_Scale := ob_Scale) (na_Scale__marks := na_Scale__marks) (z_list := z_list)
  have g_Box_marks := ok_Box_marks (ts := (tf.map (He.cT K)).map Prod.snd) (P := PySem.Challenge.rw_truechain_k27_marks_refused.prog) (w := w) (mg := mg) (base := base) (fun_ofD (st := s_Box_marks) F_Box_marks) (m_Box := m_Box) (ob_Box := ob_Box) (na_Box__marks := na_Box__marks) (z_list := z_list)
  have g__law_spots_right := ok__law_spots_right (ts := (tf.map (He.cT K)).map Prod.snd) (P := PySem.Challenge.rw_truechain_k27_marks_refused.prog) (w := w) (mg := mg) (base := base) (fun_ofD (st := s__law_spots_right) F__law_spots_right) (m_Scale := m_Scale) (ob_Scale := ob_Scale) (m_Box := m_Box) (ob_Box := ob_Box) (g__law_is_row := g__law_is_row) (m__law_is_row := m__law_is_row) (p__law_is_row := p__law_is_row) (g_Scale_mix := g_Scale_mix) (mt_Scale_mix := mt_Scale_mix) (g_Box_mix := g_Box_mix) (mt_Box_mix := mt_Box_mix) (g__law_copy := g__law_copy) (m__law_copy := m__law_copy) (p__law_copy := p__law_copy) (g__law_spot_told := g__law_spot_told) (m__law_spot_told := m__law_spot_told) (p__law_spot_told := p__law_spot_told) (g__law_alike := g__law_alike) (m__law_alike := m__law_alike) (p__law_alike := p__law_alike) (g__law_any_refused := g__law_any_refused) (m__law_any_refused := m__law_any_refused) (p__law_any_refused := p__law_any_refused) (g_Scale_marks := g_Scale_marks) (mt_Scale_marks := mt_Scale_marks) (g_Box_marks := g_Box_marks) (mt_Box_marks := mt_Box_marks) (z_repr := z_repr) (z_list := z_list)
  have g_law := ok_law (ts := (tf.map (He.cT K)).map Prod.snd) (P := PySem.Challenge.rw_truechain_k27_marks_refused.prog) (w := w) (mg := mg) (base := base) (fun_ofD (st := s_law) F_law) (g__law_bag := g__law_bag) (m__law_bag := m__law_bag) (p__law_bag := p__law_bag) (g__law_take := g__law_take) (m__law_take := m__law_take) (p__law_take := p__law_take) (g__law_marks := g__law_marks) (m__law_marks := m__law_marks) (p__law_marks := p__law_marks) (g__law_spoilt := g__law_spoilt) (m__law_spoilt := m__law_spoilt) (p__law_spoilt := p__law_spoilt) (g__law_copy := g__law_copy) (m__law_copy := m__law_copy) (p__law_copy := p__law_copy) (g__law_refused := g__law_refused) (m__law_refused := m__law_refused) (p__law_refused := p__law_refused) (g__law_alike := g__law_alike) (m__law_alike := m__law_alike) (p__law_alike := p__law_alike) (g__law_due := g__law_due) (m__law_due := m__law_due) (p__law_due := p__law_due) (g__law_spot := g__law_spot) (m__law_spot := m__law_spot) (p__law_spot := p__law_spot) (g__law_made := g__law_made) (m__law_made := m__law_made) (p__law_made := p__law_made) (g__law_spots_right := g__law_spots_right) (m__law_spots_right := m__law_spots_right) (p__law_spots_right := p__law_spots_right) (z_range := z_range) (z_repr := z_repr) (z_list := z_list)
  exact g_law
end Lk
open PySem PySem.W PyProof.Rows
set_option maxHeartbeats 0 in
theorem PySem.Challenge.cw_truechain_k27_marks_refused_holds : PySem.Challenge.rw_truechain_k27_marks_refused.Holds := by
  w_on; o_law; o_head Lk.hk
  case hw => w_witness2
  case hc =>
    refine Dl.law_endX (l := PySem.Challenge.rw_truechain_k27_marks_refused) (k := 11) (sp := fun K ts => Dl.spLaw K ts) rfl rfl ⟨rfl, by decide, by decide⟩ rfl (fun w mg mb lo mean fa h Y T hmg => ?F) (fun K H a ns ts hl ht hS => ⟨ht, a, ns, rfl, hS, hl, fun _ => rfl⟩)
    obtain ⟨K, KX, c⟩ := Y
    exact ⟨K, Lk.all_mk KX T hmg c⟩
