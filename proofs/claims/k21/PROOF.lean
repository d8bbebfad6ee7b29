import PyProof.Rows.All
import Wide.All
import OpenK.AllK
import Wide.FinOn
import HandS.ForMost
import HandS.Flow
import HandS.Wide
import HandS.WideBits
import HandS.Gcd
import HandS.IsInst
import HandS.Call
import HandS.SortInts
import HandS.Walk
import HandS.Star
import PyProof.ReprRoads
import HandS.AnyAll
import HandS.EndBits
import HandS.Exc
import HandS.Text
import KE.GoesEnum
import HandS.RaiseMore
import HandS.Comp
import HandS.Style
import PyProof.P3Eq
import HandS.Deep
import HandS.More
import HandS.TupAny
import HandS.ExcOwn
import HandS.ExcInit
import HandS.WordsExc
import HandS.TryOnly
import HandS.ExcField
import HandS.ExcIs
import KE.KExcIs
import HandS.Small
import PyProof.Rows.SeqMore
import HandS.HeadHook4
import HandS.Words
import HandS.DictTup
import KE.SortData
import HandS.SetFor
import HandS.Strs
import PyProof.Rows.SetFrom
import PyProof.StrLawsRepr
import HandS.ListEq
import PySem.Challenge.RW_truechain_k21_stretches_known
set_option Elab.async false
set_option linter.all false
set_option maxRecDepth 100000
set_option exponentiation.threshold 100000
/-! the data layer: values as trees, heaps out of sight -/
namespace Dl
open PySem PySem.Spec PyProof.Rows L2 GxR
/-- what is asked of a class whose objects are held as data -/
structure ObC (K : PySem.W.Frag) (c : Str) (C : Addr) : Prop where
  name : PySem.W.nsIn K mainGlobals c = some (some (.ref C))
  cls : Cls K C
  ha : PySem.W.findIn K (.ref C) "__class__" = some (some (.builtin "object.__class__"))
  hn : PySem.W.specialIn K (.builtin "object.__class__") "__get__" = some (some (.builtin "getset_descriptor.__get__"))
  ht : PySem.W.takesIn K (.builtin "object.__class__") = some true
  hm : PySem.W.mroIn K C (.type "object") = some true
  kit : ∀ n, (n = "int" ∨ n = "bool" ∨ n = "str" ∨ n = "list" ∨ n = "tuple" ∨ n = "dict") → PySem.W.kitOne K (.ref C) (.type n) = some false
/-- an object of a class of the module as data: its class by its name, its fields -/
def obD (c : Str) (ds : List (Str × PyData)) : PyData := .dict ((.none, .str c) :: ds.map fun p => (.str p.1, p.2))
mutual
inductive Rp (K : PySem.W.Frag) (F : Hp) : V → PyData → Prop
  | non : Rp K F .non .none
  | bl (b : Bool) : Rp K F (.bl b) (.bool b)
  | int (i : Int) : Rp K F (.int i) (.int i)
  | str (x : Str) : Rp K F (.str x) (.str x)
  | lst {a : Addr} {vs : List V} {xs : List PyData} (h : F a = some (.lst vs)) (r : RpA K F vs xs) : Rp K F (.ref a) (.list xs)
  | tup {a : Addr} {vs : List V} {xs : List PyData} (h : SqT K F a vs) (r : RpA K F vs xs) : Rp K F (.ref a) (.tuple xs)
  | dct {a : Addr} {kvs : List (Key × V)} {ks xs : List PyData} (h : F a = some (.dK kvs)) (r : RpA K F (kvs.map fun p => kV p.1) ks) (q : RpA K F (kvs.map Prod.snd) xs) : Rp K F (.ref a) (.dict (ks.zip xs))
  | obj {a C dx : Addr} {fs : List (Str × V)} {c : Str} {vs : List V} {ds : List (Str × PyData)} (h : F a = some (.ins C dx fs)) (hc : ObC K c C) (hn : ds.map (fun p => fs.lookup p.1) = vs.map some) (ho : ∀ n, n ∉ ds.map Prod.fst → fs.lookup n = none) (r : RpA K F vs (ds.map Prod.snd)) : Rp K F (.ref a) (obD c ds)
inductive RpA (K : PySem.W.Frag) (F : Hp) : List V → List PyData → Prop
  | nil : RpA K F [] []
  | cons {v : V} {vs : List V} {x : PyData} {xs : List PyData} (h : Rp K F v x) (t : RpA K F vs xs) : RpA K F (v :: vs) (x :: xs)
end
section
variable {K : PySem.W.Frag} {F F' : Hp}
theorem sq_up {a : Addr} {vs : List V} (e : Same F F') (h : SqL K F a vs) : SqL K F' a vs := e.seq h
theorem sqt_up {a : Addr} {vs : List V} (e : Same F F') (h : SqT K F a vs) : SqT K F' a vs := by
  rcases h with (h | ⟨o, h⟩) | h
  · exact .inl (.inl (e _ _ h))
  · exact .inl (.inr ⟨o, e _ _ h⟩)
  · exact .inr h
mutual
theorem Rp.up (e : Same F F') : ∀ {v : V} {x : PyData}, Rp K F v x → Rp K F' v x
  | _, _, .non => .non
  | _, _, .bl b => .bl b
  | _, _, .int b => .int b
  | _, _, .str b => .str b
  | _, _, .lst h r => .lst (e _ _ h) (RpA.up e r)
  | _, _, .tup h r => .tup (sqt_up e h) (RpA.up e r)
  | _, _, .dct h r q => .dct (e _ _ h) (RpA.up e r) (RpA.up e q)
  | _, _, .obj h hc hn ho r => .obj (e _ _ h) hc hn ho (RpA.up e r)
theorem RpA.up (e : Same F F') : ∀ {v : List V} {x : List PyData}, RpA K F v x → RpA K F' v x
  | _, _, .nil => .nil
  | _, _, .cons h t => .cons (Rp.up e h) (RpA.up e t)
end
theorem RpA.len : ∀ {vs : List V} {xs : List PyData}, RpA K F vs xs → vs.length = xs.length
  | _, _, .nil => rfl
  | _, _, .cons _ t => congrArg (· + 1) (RpA.len t)
theorem RpA.app : ∀ {vs ws : List V} {xs ys : List PyData}, RpA K F vs xs → RpA K F ws ys → RpA K F (vs ++ ws) (xs ++ ys)
  | _, _, _, _, .nil, q => q
  | _, _, _, _, .cons h t, q => .cons h (RpA.app t q)
theorem RpA.get : ∀ {vs : List V} {xs : List PyData} {i : Nat} {x : PyData}, RpA K F vs xs → xs[i]? = some x → ∃ v, vs[i]? = some v ∧ Rp K F v x
  | _, _, _, _, .nil, e => by simp at e
  | _, _, 0, _, .cons h _, e => by simp at e; subst e; exact ⟨_, rfl, h⟩
  | _, _, i + 1, x, .cons _ t, e => by
    obtain ⟨v, h1, h2⟩ := RpA.get (i := i) (x := x) t (by simpa using e)
    exact ⟨v, by simpa using h1, h2⟩
theorem RpA.getV : ∀ {vs : List V} {xs : List PyData} {i : Nat} {v : V}, RpA K F vs xs → vs[i]? = some v → ∃ x, xs[i]? = some x ∧ Rp K F v x
  | _, _, _, _, .nil, e => by simp at e
  | _, _, 0, _, .cons h _, e => by simp at e; subst e; exact ⟨_, rfl, h⟩
  | _, _, i + 1, x, .cons _ t, e => by
    obtain ⟨v, h1, h2⟩ := RpA.getV (i := i) (v := x) t (by simpa using e)
    exact ⟨v, by simpa using h1, h2⟩
theorem RpA.set {v : V} {x : PyData} (h : Rp K F v x) : ∀ {vs : List V} {xs : List PyData} (i : Nat), RpA K F vs xs → RpA K F (vs.set i v) (xs.set i x)
  | _, _, _, .nil => .nil
  | _, _, 0, .cons _ t => .cons h t
  | _, _, i + 1, .cons q t => .cons q (RpA.set h i t)
theorem RpA.take : ∀ {vs : List V} {xs : List PyData} (n : Nat), RpA K F vs xs → RpA K F (vs.take n) (xs.take n)
  | _, _, 0, _ => .nil
  | _, _, _ + 1, .nil => .nil
  | _, _, n + 1, .cons h t => .cons h (RpA.take n t)
theorem RpA.drop : ∀ {vs : List V} {xs : List PyData} (n : Nat), RpA K F vs xs → RpA K F (vs.drop n) (xs.drop n)
  | _, _, 0, h => h
  | _, _, _ + 1, .nil => .nil
  | _, _, n + 1, .cons _ t => RpA.drop n t
theorem RpA.ints : ∀ ns : List Int, RpA K F (ns.map V.int) (ns.map PyData.int)
  | [] => .nil
  | n :: ns => .cons (.int n) (RpA.ints ns)
/-- the ints of data that are all ints -/
theorem RpA.ofInts : ∀ {vs : List V} {ns : List Int}, RpA K F vs (ns.map PyData.int) → vs = ns.map V.int
  | _, [], .nil => rfl
  | _, n :: ns, .cons h t => by
    cases h
    rw [RpA.ofInts t]
    rfl
end
mutual
def noL : PyData → Bool
  | .none => true
  | .bool _ => true
  | .int _ => true
  | .str _ => true
  | .list _ => false
  | .tuple xs => noLs xs
  | .dict _ => false
def noLs : List PyData → Bool
  | [] => true
  | x :: xs => noL x && noLs xs
end
section
variable {K : PySem.W.Frag} {b : Bg} {F H F' H' : Hp}
/-- what may change -/
def isM : HO → Bool
  | .lst _ => true
  | .dK _ => true
  | .ins _ _ _ => true
  | .own _ => true
  | _ => false
mutual
theorem noL_up {F2 : Hp} (h : ∀ a o, isM o = false → F a = some o → F2 a = some o) : ∀ {v : V} {x : PyData}, noL x = true → Rp K F v x → Rp K F2 v x
  | _, _, _, .non => .non
  | _, _, _, .bl b => .bl b
  | _, _, _, .int b => .int b
  | _, _, _, .str b => .str b
  | _, _, n, .lst _ _ => by simp only [noL] at n; cases n
  | _, _, n, .tup e r => by
    refine .tup ?_ (noLs_up h (by simpa only [noL] using n) r)
    rcases e with (e | ⟨o, e⟩) | e
    · exact .inl (.inl (h _ _ rfl e))
    · exact .inl (.inr ⟨o, h _ _ rfl e⟩)
    · exact .inr e
  | _, _, n, .dct _ _ _ => by simp only [noL] at n; cases n
  | _, _, n, .obj _ _ _ _ _ => by simp only [obD, noL] at n; cases n
theorem noLs_up {F2 : Hp} (h : ∀ a o, isM o = false → F a = some o → F2 a = some o) : ∀ {v : List V} {x : List PyData}, noLs x = true → RpA K F v x → RpA K F2 v x
  | _, _, _, .nil => .nil
  | _, _, n, .cons a t => by
    rw [noLs, Bool.and_eq_true] at n
    exact .cons (noL_up h n.1 a) (noLs_up h n.2 t)
end
end
theorem key_up {K : PySem.W.Frag} {F F2 : Hp} {k : Key} {x : PyData} (h : Rp K F (kV k) x) : Rp K F2 (kV k) x := by
  cases k with
  | inl i => cases h; exact .int i
  | inr z => cases h; exact .str z
theorem noKs_up {K : PySem.W.Frag} {F F2 : Hp} : ∀ {kvs : List (Key × V)} {ks : List PyData}, RpA K F (kvs.map fun p => kV p.1) ks → RpA K F2 (kvs.map fun p => kV p.1) ks
  | [], _, .nil => .nil
  | (_, _) :: _, _, .cons h t => .cons (key_up h) (noKs_up t)
/-! ### trees of objects that are owned: S, the addresses of what may change -/
mutual
inductive Ot (K : PySem.W.Frag) (F H : Hp) (dp : Bool) : List Addr → V → PyData → Prop
  | leaf {v : V} {x : PyData} (r : Rp K F v x) (n : dp = true → noL x = true) : Ot K F H dp [] v x
  | lst {a : Addr} {S : List Addr} {vs : List V} {xs : List PyData} (h : H a = some (.lst vs)) (r : OtA K F H dp S vs xs) : Ot K F H dp (a :: S) (.ref a) (.list xs)
  | tup {a : Addr} {S : List Addr} {vs : List V} {xs : List PyData} (h : SqT K F a vs) (r : OtA K F H dp S vs xs) : Ot K F H dp S (.ref a) (.tuple xs)
  | dct {a : Addr} {S : List Addr} {kvs : List (Key × V)} {ks xs : List PyData} (h : H a = some (.dK kvs)) (r : RpA K F (kvs.map fun p => kV p.1) ks) (q : OtA K F H dp S (kvs.map Prod.snd) xs) : Ot K F H dp (a :: S) (.ref a) (.dict (ks.zip xs))
  | obj {a C dx : Addr} {S : List Addr} {fs : List (Str × V)} {c : Str} {vs : List V} {ds : List (Str × PyData)} (h : H a = some (.ins C dx fs)) (hd : H dx = some (.own a)) (hc : ObC K c C) (hn : ds.map (fun p => fs.lookup p.1) = vs.map some) (ho : ∀ n, n ∉ ds.map Prod.fst → fs.lookup n = none) (hl : fs.length = ds.length) (r : OtA K F H dp S vs (ds.map Prod.snd)) : Ot K F H dp (a :: dx :: S) (.ref a) (obD c ds)
inductive OtA (K : PySem.W.Frag) (F H : Hp) (dp : Bool) : List Addr → List V → List PyData → Prop
  | nil : OtA K F H dp [] [] []
  | cons {S T : List Addr} {v : V} {vs : List V} {x : PyData} {xs : List PyData} (h : Ot K F H dp S v x) (t : OtA K F H dp T vs xs) : OtA K F H dp (S ++ T) (v :: vs) (x :: xs)
end
section
variable {K : PySem.W.Frag} {F F' H H' : Hp} {dp : Bool}
mutual
theorem Ot.up (e : Same F F') : ∀ {S : List Addr} {v : V} {x : PyData}, (∀ a ∈ S, ∀ o, H a = some o → H' a = some o) → Ot K F H dp S v x → Ot K F' H' dp S v x
  | _, _, _, _, .leaf r n => .leaf (r.up e) n
  | _, _, _, k, .lst h r => .lst (k _ (List.mem_cons_self ..) _ h) (OtA.up e (fun a m => k a (List.mem_cons_of_mem _ m)) r)
  | _, _, _, k, .tup h r => .tup (sqt_up e h) (OtA.up e k r)
  | _, _, _, k, .dct h r q => .dct (k _ (List.mem_cons_self ..) _ h) (r.up e) (OtA.up e (fun a m => k a (List.mem_cons_of_mem _ m)) q)
  | _, _, _, k, .obj h hd hc hn ho hl r => .obj (k _ (List.mem_cons_self ..) _ h) (k _ (List.mem_cons_of_mem _ (List.mem_cons_self ..)) _ hd) hc hn ho hl (OtA.up e (fun a m => k a (List.mem_cons_of_mem _ (List.mem_cons_of_mem _ m))) r)
theorem OtA.up (e : Same F F') : ∀ {S : List Addr} {v : List V} {x : List PyData}, (∀ a ∈ S, ∀ o, H a = some o → H' a = some o) → OtA K F H dp S v x → OtA K F' H' dp S v x
  | _, _, _, _, .nil => .nil
  | _, _, _, k, .cons h t => .cons (Ot.up e (fun a m => k a (List.mem_append.mpr (.inl m))) h) (OtA.up e (fun a m => k a (List.mem_append.mpr (.inr m))) t)
end
/-- known too: what S holds -/
def opn (ls : List Addr) (F H : Hp) : Hp := fun a => if a ∈ ls then H a else F a
theorem opn_same {ls : List Addr} (h : ∀ l ∈ ls, F l = none) : Same F (opn ls F H) := fun a o e => by
  unfold opn
  rw [if_neg (fun z => by rw [h a z] at e; cases e)]
  exact e
mutual
theorem Ot.open {Z : List Addr} (e : Same F (opn Z F H)) : ∀ {S : List Addr} {v : V} {x : PyData}, (∀ a ∈ S, a ∈ Z) → Ot K F H dp S v x → Rp K (opn Z F H) v x
  | _, _, _, _, .leaf r _ => r.up e
  | _, _, _, k, .lst h r => .lst (by unfold opn; rw [if_pos (k _ (List.mem_cons_self ..))]; exact h) (OtA.open e (fun a m => k a (List.mem_cons_of_mem _ m)) r)
  | _, _, _, k, .tup h r => .tup (sqt_up e h) (OtA.open e k r)
  | _, _, _, k, .dct h r q => .dct (by unfold opn; rw [if_pos (k _ (List.mem_cons_self ..))]; exact h) (r.up e) (OtA.open e (fun a m => k a (List.mem_cons_of_mem _ m)) q)
  | _, _, _, k, .obj h hd hc hn ho hl r => .obj (by unfold opn; rw [if_pos (k _ (List.mem_cons_self ..))]; exact h) hc hn ho (OtA.open e (fun a m => k a (List.mem_cons_of_mem _ (List.mem_cons_of_mem _ m))) r)
theorem OtA.open {Z : List Addr} (e : Same F (opn Z F H)) : ∀ {S : List Addr} {v : List V} {x : List PyData}, (∀ a ∈ S, a ∈ Z) → OtA K F H dp S v x → RpA K (opn Z F H) v x
  | _, _, _, _, .nil => .nil
  | _, _, _, k, .cons h t => .cons (Ot.open e (fun a m => k a (List.mem_append.mpr (.inl m))) h) (OtA.open e (fun a m => k a (List.mem_append.mpr (.inr m))) t)
end
mutual
/-- what is owned stands there, and may change -/
theorem Ot.there : ∀ {S : List Addr} {v : V} {x : PyData}, Ot K F H dp S v x → ∀ a ∈ S, ∃ o, H a = some o ∧ isM o = true
  | _, _, _, .leaf _ _, _, m => absurd m List.not_mem_nil
  | _, _, _, .lst h r, a, m => by
    rcases List.mem_cons.mp m with rfl | m
    · exact ⟨_, h, rfl⟩
    · exact OtA.there r a m
  | _, _, _, .tup _ r, a, m => OtA.there r a m
  | _, _, _, .dct h _ q, a, m => by
    rcases List.mem_cons.mp m with rfl | m
    · exact ⟨_, h, rfl⟩
    · exact OtA.there q a m
  | _, _, _, .obj h hd _ _ _ _ r, a, m => by
    rcases List.mem_cons.mp m with rfl | m
    · exact ⟨_, h, rfl⟩
    · rcases List.mem_cons.mp m with rfl | m
      · exact ⟨_, hd, rfl⟩
      · exact OtA.there r a m
theorem OtA.there : ∀ {S : List Addr} {v : List V} {x : List PyData}, OtA K F H dp S v x → ∀ a ∈ S, ∃ o, H a = some o ∧ isM o = true
  | _, _, _, .nil, _, m => absurd m List.not_mem_nil
  | _, _, _, .cons h t, a, m => by
    rcases List.mem_append.mp m with m | m
    · exact Ot.there h a m
    · exact OtA.there t a m
end
theorem isM_tbl {o : HO} (h : isM o = true) : ∀ ps, o ≠ .tbl ps := fun ps e => by subst e; cases h
mutual
theorem Ot.shut {F2 : Hp} (h : ∀ a o, isM o = false → F a = some o → F2 a = some o) : ∀ {S : List Addr} {v : V} {x : PyData}, Ot K F H true S v x → Ot K F2 H true S v x
  | _, _, _, .leaf r n => .leaf (noL_up h (n rfl) r) n
  | _, _, _, .lst e r => .lst e (OtA.shut h r)
  | _, _, _, .tup e r => .tup (by
      rcases e with (e | ⟨o, e⟩) | e
      · exact .inl (.inl (h _ _ rfl e))
      · exact .inl (.inr ⟨o, h _ _ rfl e⟩)
      · exact .inr e) (OtA.shut h r)
  | _, _, _, .dct e r q => .dct e (noKs_up r) (OtA.shut h q)
  | _, _, _, .obj e hd hc hn ho hl r => .obj e hd hc hn ho hl (OtA.shut h r)
theorem OtA.shut {F2 : Hp} (h : ∀ a o, isM o = false → F a = some o → F2 a = some o) : ∀ {S : List Addr} {v : List V} {x : List PyData}, OtA K F H true S v x → OtA K F2 H true S v x
  | _, _, _, .nil => .nil
  | _, _, _, .cons q t => .cons (Ot.shut h q) (OtA.shut h t)
end
theorem OtA.len : ∀ {S : List Addr} {vs : List V} {xs : List PyData}, OtA K F H dp S vs xs → vs.length = xs.length
  | _, _, _, .nil => rfl
  | _, _, _, .cons _ t => congrArg (· + 1) (OtA.len t)
theorem OtA.of : ∀ {vs : List V} {xs : List PyData}, RpA K F vs xs → OtA K F H false [] vs xs
  | _, _, .nil => .nil
  | _, _, .cons h t => OtA.cons (S := []) (T := []) (.leaf h fun z => nomatch z) (OtA.of t)
mutual
theorem Ot.any : ∀ {S : List Addr} {v : V} {x : PyData}, Ot K F H dp S v x → Ot K F H false S v x
  | _, _, _, .leaf r _ => .leaf r fun z => nomatch z
  | _, _, _, .lst h r => .lst h (OtA.any r)
  | _, _, _, .tup h r => .tup h (OtA.any r)
  | _, _, _, .dct h r q => .dct h r (OtA.any q)
  | _, _, _, .obj h hd hc hn ho hl r => .obj h hd hc hn ho hl (OtA.any r)
theorem OtA.any : ∀ {S : List Addr} {v : List V} {x : List PyData}, OtA K F H dp S v x → OtA K F H false S v x
  | _, _, _, .nil => .nil
  | _, _, _, .cons h t => .cons (Ot.any h) (OtA.any t)
end
end
/-- what is a list or a dict at its root -/
def mutR : PyData → Bool
  | .list _ => true
  | .dict _ => true
  | _ => false
theorem Ot.root {K : PySem.W.Frag} {F H : Hp} {S : List Addr} {v : V} {x : PyData} (h : Ot K F H true S v x) : mutR x = true → S ≠ [] := by
  cases h with
  | leaf r n =>
    have n := n rfl
    cases x with
    | list xs => simp [noL] at n
    | dict xs => simp [noL] at n
    | _ => exact fun z => nomatch z
  | tup => exact fun z => nomatch z
  | lst => exact fun _ z => nomatch z
  | dct => exact fun _ z => nomatch z
  | obj => exact fun _ z => nomatch z
/-! ### the world of a running def: the bag, what is known F, the heap H -/
/-- where the bag stands, and the cells that it was made of; where the tables of codes stand -/
structure Bg where
  b : Addr
  c : Addr
  ns : List Int
  ts : List Addr
/-- the draws' list: three numbers and the cells -/
def Bag (b : Bg) (F H : Hp) : Prop := (∃ x y z : Int, H b.b = some (.lst [.int x, .int y, .int z, .ref b.c]) ∧ 0 ≤ x ∧ 0 ≤ y ∧ 0 ≤ z) ∧ F b.c = some (.lst (b.ns.map V.int)) ∧ (∀ n ∈ b.ns, 0 ≤ n) ∧ ∀ t ∈ b.ts, F t = none ∧ TabG H t
/-- a step of the world -/
structure Stp (K : PySem.W.Frag) (b : Bg) (F H F' H' : Hp) : Prop where
  keep : ∀ a o, a ≠ b.b → (∀ ps, o ≠ .tbl ps) → H a = some o → H' a = some o
  bag : Bag b F' H'
  ex : Same F F'
  sub : Same F' H'
  fb : F' b.b = none
  new : ∀ a, F a = none → H a ≠ none → F' a = none
  tab : ∀ a ps, a ≠ b.b → H a = some (.tbl ps) → ∃ qs, H' a = some (.tbl qs) ∧ (TriplesOk ps.toList → TriplesOk qs.toList)
/-- a step may begin here -/
structure Wd (K : PySem.W.Frag) (b : Bg) (F H : Hp) : Prop where
  bag : Bag b F H
  sub : Same F H
  fb : F b.b = none
section
variable {K : PySem.W.Frag} {b : Bg} {F H F' H' F2 H2 : Hp}
theorem Wd.refl (w : Wd K b F H) : Stp K b F H F H := ⟨fun _ _ _ _ h => h, w.bag, fun _ _ h => h, w.sub, w.fb, fun _ h _ => h, fun _ ps _ h => ⟨ps, h, fun q => q⟩⟩
theorem Stp.wd (s : Stp K b F H F' H') : Wd K b F' H' := ⟨s.bag, s.sub, s.fb⟩
theorem Stp.there (s : Stp K b F H F' H') {a : Addr} (ne : a ≠ b.b) (h : H a ≠ none) : H' a ≠ none := by
  cases e : H a with
  | none => exact absurd e h
  | some o =>
    by_cases t : ∃ ps, o = .tbl ps
    · obtain ⟨ps, rfl⟩ := t
      obtain ⟨qs, q, _⟩ := s.tab a ps ne e
      rw [q]; exact fun z => nomatch z
    · rw [s.keep a o ne (fun ps z => t ⟨ps, z⟩) e]; exact fun z => nomatch z
theorem Stp.trans (s : Stp K b F H F' H') (t : Stp K b F' H' F2 H2) : Stp K b F H F2 H2 :=
  ⟨fun a o ne nt h => t.keep a o ne nt (s.keep a o ne nt h), t.bag, s.ex.trans t.ex, t.sub, t.fb, fun a hf hh => by
    by_cases e : a = b.b
    · rw [e]; exact t.fb
    · exact t.new a (s.new a hf hh) (s.there e hh), fun a ps ne h => by
    obtain ⟨qs, h1, k1⟩ := s.tab a ps ne h
    obtain ⟨rs, h2, k2⟩ := t.tab a qs ne h1
    exact ⟨rs, h2, fun z => k2 (k1 z)⟩⟩
theorem Bag.up (h : Bag b F H) (e : Same F F') (hb : H' b.b = H b.b) (ht : ∀ t ∈ b.ts, F t = none → TabG H t → F' t = none ∧ TabG H' t) : Bag b F' H' := by
  obtain ⟨⟨x, y, z, eb, r⟩, ec, q, k⟩ := h
  exact ⟨⟨x, y, z, hb.trans eb, r⟩, e _ _ ec, q, fun t m => ht t m (k t m).1 (k t m).2⟩
theorem TabG.ne {t p : Addr} (h : TabG H t) (hp : H p = none) : t ≠ p := fun e => by
  obtain ⟨ps, z, _⟩ := h
  rw [e, hp] at z
  cases z
theorem TabG.up {t p : Addr} {o : HO} (h : TabG H t) (hp : H p = none) : TabG (upd H p o) t := by
  obtain ⟨ps, z, k⟩ := id h
  exact ⟨ps, by rw [upd_ne (TabG.ne h hp)]; exact z, k⟩
theorem Bag.lst (h : Bag b F H) : ∃ vs, H b.b = some (.lst vs) := let ⟨⟨_, _, _, e, _⟩, _⟩ := h; ⟨_, e⟩
theorem same_laid {p : Addr} {o : HO} (hf : F p = none) : Same F (upd F p o) := fun a u h => by
  rw [upd_ne (ne_of_none h hf)]; exact h
/-- a new object is laid, known from now on -/
theorem Wd.laid (w : Wd K b F H) {p : Addr} {o : HO} (hp : H p = none) : Stp K b F H (upd F p o) (upd H p o) := by
  obtain ⟨vs, eb⟩ := w.bag.lst
  have pb : p ≠ b.b := fun e => by rw [e, eb] at hp; cases hp
  have fp : F p = none := by
    cases e : F p with
    | none => rfl
    | some o => rw [w.sub _ _ e] at hp; cases hp
  refine ⟨fun a u ne _ h => ?_, w.bag.up (same_laid fp) (upd_ne (Ne.symm pb)) (fun t _ h1 h2 => ⟨by rw [upd_ne (TabG.ne h2 hp)]; exact h1, TabG.up h2 hp⟩), same_laid fp, fun a u h => ?_, ?_, fun a hf hh => ?_, fun a ps ne h => ⟨ps, by rw [upd_ne (ne_of_none h hp)]; exact h, fun q => q⟩⟩
  · rw [upd_ne (ne_of_none h hp)]; exact h
  · by_cases e : a = p
    · rw [e, upd_same] at h ⊢; exact h
    · rw [upd_ne e] at h ⊢; exact w.sub _ _ h
  · rw [upd_ne (Ne.symm pb)]; exact w.fb
  · by_cases e : a = p
    · rw [e] at hh; exact absurd hp hh
    · rw [upd_ne e]; exact hf
/-- .. not known yet -/
theorem Wd.laidM (w : Wd K b F H) {p : Addr} {o : HO} (hp : H p = none) : Stp K b F H F (upd H p o) := by
  obtain ⟨vs, eb⟩ := w.bag.lst
  have pb : p ≠ b.b := fun e => by rw [e, eb] at hp; cases hp
  refine ⟨fun a u ne _ h => ?_, w.bag.up (fun _ _ h => h) (upd_ne (Ne.symm pb)) (fun t _ h1 h2 => ⟨h1, TabG.up h2 hp⟩), fun a u h => h, fun a u h => ?_, w.fb, fun a hf hh => hf, fun a ps ne h => ⟨ps, by rw [upd_ne (ne_of_none h hp)]; exact h, fun q => q⟩⟩
  · rw [upd_ne (ne_of_none h hp)]; exact h
  · have := w.sub _ _ h
    rw [upd_ne (ne_of_none this hp)]; exact this
end
/-! ### values and slots -/
inductive DV where
  | d (x : PyData)
  | fr (xs : List PyData)
  /-- a new tree -/
  | ft (x : PyData)
  | ow (l : Addr) (xs : List PyData)
  /-- a tree that stands in a slot -/
  | tr (p : Bool) (S : List Addr) (x : PyData)
  | raw (v : V)
  | bag
inductive Sl where
  | un
  | d (x : PyData)
  | ow (l : Addr) (xs : List PyData)
  | tr (p : Bool) (S : List Addr) (x : PyData)
  | raw (v : V)
  | bag
/-- a value v stands for dv: H₀ ahead of the evaluation, F H behind it -/
def Res (K : PySem.W.Frag) (b : Bg) (H₀ F H : Hp) : DV → V → Prop
  | .d x, v => Rp K F v x
  | .fr xs, v => ∃ p vs, v = .ref p ∧ H₀ p = none ∧ F p = none ∧ p ≠ b.b ∧ H p = some (.lst vs) ∧ RpA K F vs xs
  | .ow l xs, v => v = .ref l ∧ F l = none ∧ l ≠ b.b ∧ ∃ vs, H l = some (.lst vs) ∧ RpA K F vs xs
  | .ft x, v => ∃ S, S.Nodup ∧ (∀ a ∈ S, H₀ a = none ∧ F a = none ∧ a ≠ b.b) ∧ Ot K F H true S v x
  | .tr p S x, v => (∀ a ∈ S, F a = none ∧ a ≠ b.b) ∧ Ot K F H p S v x
  | .raw u, v => v = u
  | .bag, v => v = .ref b.b
/-- what a slot owns -/
def slA : Sl → List Addr
  | .ow l _ => [l]
  | .tr _ S _ => S
  | _ => []
def SlOk (K : PySem.W.Frag) (b : Bg) (H₀ F H : Hp) : Sl → Option (Option V) → Prop
  | .un, _ => True
  | .d x, o => ∃ v, o = some (some v) ∧ Rp K F v x
  | .ow l xs, o => o = some (some (.ref l)) ∧ H₀ l = none ∧ F l = none ∧ l ≠ b.b ∧ ∃ vs, H l = some (.lst vs) ∧ RpA K F vs xs
  | .tr p S x, o => ∃ v, o = some (some v) ∧ S.Nodup ∧ (∀ a ∈ S, H₀ a = none ∧ F a = none ∧ a ≠ b.b) ∧ (mutR x = true → S ≠ []) ∧ Ot K F H p S v x
  | .raw v, o => o = some (some v)
  | .bag, o => o = some (some (.ref b.b))
/-- the slots stand for env; since the def's entry (F₀ H₀) -/
structure Rel (K : PySem.W.Frag) (b : Bg) (F₀ H₀ : Hp) (env : List Sl) (σ : L2.St) (F H : Hp) : Prop where
  len : σ.length = env.length
  st : Stp K b F₀ H₀ F H
  at' : ∀ (i : Nat) (s : Sl), env[i]? = some s → SlOk K b H₀ F H s σ[i]?
  own : ∀ (i j : Nat) (s t : Sl) (a : Addr), env[i]? = some s → env[j]? = some t → a ∈ slA s → a ∈ slA t → i = j
section
variable {K : PySem.W.Frag} {b : Bg} {F₀ H₀ F H F' H' : Hp} {env : List Sl} {σ : L2.St}
theorem Rel.wd (r : Rel K b F₀ H₀ env σ F H) : Wd K b F H := r.st.wd
theorem SlOk.step (w : Wd K b F H) (s : Stp K b F H F' H') : ∀ {z : Sl} {o : Option (Option V)}, SlOk K b H₀ F H z o → SlOk K b H₀ F' H' z o
  | .un, _, _ => True.intro
  | .d _, _, ⟨v, e, r⟩ => ⟨v, e, r.up s.ex⟩
  | .ow l xs, _, ⟨e, h0, hf, ne, vs, hl, r⟩ => ⟨e, h0, s.new l hf (by rw [hl]; exact fun z => nomatch z), ne, vs, s.keep _ _ ne (fun _ z => nomatch z) hl, r.up s.ex⟩
  | .tr p S x, _, ⟨v, e, nd, k, mr, q⟩ => ⟨v, e, nd, fun a m => by
      obtain ⟨o, ho, _⟩ := q.there a m
      exact ⟨(k a m).1, s.new a (k a m).2.1 (by rw [ho]; exact fun z => nomatch z), (k a m).2.2⟩, mr, q.up s.ex fun a m o ho => by
      obtain ⟨o', ho', nt⟩ := q.there a m
      rw [ho] at ho'
      cases ho'
      exact s.keep a o (k a m).2.2 (isM_tbl nt) ho⟩
  | .raw _, _, e => e
  | .bag, _, e => e
theorem Rel.step (r : Rel K b F₀ H₀ env σ F H) (s : Stp K b F H F' H') : Rel K b F₀ H₀ env σ F' H' :=
  ⟨r.len, r.st.trans s, fun i z h => (r.at' i z h).step r.wd s, r.own⟩
theorem Res.step (s : Stp K b F H F' H') {Hz : Hp} : ∀ {dv : DV} {v : V}, Res K b Hz F H dv v → Res K b Hz F' H' dv v
  | .d _, _, r => Rp.up s.ex r
  | .fr xs, _, ⟨p, vs, e, h0, hf, ne, hp, r⟩ => ⟨p, vs, e, h0, s.new p hf (by rw [hp]; exact fun z => nomatch z), ne, s.keep _ _ ne (fun _ z => nomatch z) hp, r.up s.ex⟩
  | .ow l xs, _, ⟨e, hf, ne, vs, hp, r⟩ => ⟨e, s.new l hf (by rw [hp]; exact fun z => nomatch z), ne, vs, s.keep _ _ ne (fun _ z => nomatch z) hp, r.up s.ex⟩
  | .ft x, _, ⟨S, nd, k, q⟩ => ⟨S, nd, fun a m => by
      obtain ⟨o, ho, _⟩ := q.there a m
      exact ⟨(k a m).1, s.new a (k a m).2.1 (by rw [ho]; exact fun z => nomatch z), (k a m).2.2⟩, q.up s.ex fun a m o ho => by
      obtain ⟨o', ho', nt⟩ := q.there a m
      rw [ho] at ho'
      cases ho'
      exact s.keep a o (k a m).2.2 (isM_tbl nt) ho⟩
  | .tr p S x, _, ⟨k, q⟩ => ⟨fun a m => by
      obtain ⟨o, ho, _⟩ := q.there a m
      exact ⟨s.new a (k a m).1 (by rw [ho]; exact fun z => nomatch z), (k a m).2⟩, q.up s.ex fun a m o ho => by
      obtain ⟨o', ho', nt⟩ := q.there a m
      rw [ho] at ho'
      cases ho'
      exact s.keep a o (k a m).2 (isM_tbl nt) ho⟩
  | .raw _, _, e => e
  | .bag, _, e => e
theorem Stp.back (s : Stp K b F H F' H') {p : Addr} (ne : p ≠ b.b) (h : H' p = none) : H p = none := by
  cases e : H p with
  | none => rfl
  | some o => exact absurd h (s.there ne (by rw [e]; exact fun z => nomatch z))
theorem Res.early (s : Stp K b F H F' H') {F2 H2 : Hp} : ∀ {dv : DV} {v : V}, Res K b H' F2 H2 dv v → Res K b H F2 H2 dv v
  | .d _, _, r => r
  | .fr xs, _, ⟨p, vs, e, h0, hf, ne, hp, r⟩ => ⟨p, vs, e, s.back ne h0, hf, ne, hp, r⟩
  | .ft x, _, ⟨S, nd, k, q⟩ => ⟨S, nd, fun a m => ⟨s.back (k a m).2.2 (k a m).1, (k a m).2⟩, q⟩
  | .tr p S x, _, r => r
  | .ow l xs, _, r => r
  | .raw _, _, e => e
  | .bag, _, e => e
/-- a fresh list becomes known: seen from Fz Hz, ahead of its making -/
theorem Stp.freeze {Fz Hz : Hp} (s : Stp K b Fz Hz F H) {p : Addr} {vs : List V} (h0 : Hz p = none) (hf : F p = none) (ne : p ≠ b.b) (hp : H p = some (.lst vs)) : Stp K b Fz Hz (upd F p (.lst vs)) H := by
  refine ⟨s.keep, s.bag.up (same_laid hf) rfl (fun t _ h1 h2 => ⟨by rw [upd_ne (fun e => by obtain ⟨ps, z, _⟩ := h2; rw [e, hp] at z; cases z)]; exact h1, h2⟩), fun a o h => ?_, fun a o h => ?_, ?_, fun a h1 h2 => ?_, s.tab⟩
  · have := s.ex a o h
    rw [upd_ne (ne_of_none this hf)]; exact this
  · by_cases e : a = p
    · rw [e, upd_same] at h; rw [e, hp]; exact h
    · rw [upd_ne e] at h; exact s.sub _ _ h
  · rw [upd_ne (Ne.symm ne)]; exact s.fb
  · by_cases e : a = p
    · rw [e] at h2; exact absurd h0 h2
    · rw [upd_ne e]; exact s.new a h1 h2
/-- a tree becomes known: seen from Fz Hz, ahead of its making -/
theorem Stp.freezeT {Fz Hz : Hp} (s : Stp K b Fz Hz F H) {S : List Addr} (k : ∀ a ∈ S, Hz a = none ∧ F a = none ∧ a ≠ b.b) (th : ∀ a ∈ S, ∃ o, H a = some o ∧ isM o = true) : Stp K b Fz Hz (opn S F H) H := by
  have e : Same F (opn S F H) := opn_same fun l m => (k l m).2.1
  refine ⟨s.keep, s.bag.up e rfl (fun t _ h1 h2 => ⟨by
    unfold opn
    rw [if_neg fun m => by
      obtain ⟨ps, z, _⟩ := h2
      obtain ⟨o, ho, nt⟩ := th t m
      rw [ho] at z
      cases z
      cases nt]
    exact h1, h2⟩), s.ex.trans e, fun a o h => ?_, ?_, fun a h1 h2 => ?_, s.tab⟩
  · unfold opn at h
    split at h
    · exact h
    · exact s.sub _ _ h
  · unfold opn
    rw [if_neg fun m => (k _ m).2.2 rfl]
    exact s.fb
  · unfold opn
    rw [if_neg fun m => h2 (k _ m).1]
    exact s.new a h1 h2
end
end Dl
namespace Dl
open PySem PySem.Spec PyProof.Rows L2
theorem pe_weak {X : Cx} {e : Expr} {t u : TE} (h : PE X e t) (i : ∀ σ H Q, u σ H Q → t σ H Q) : PE X e u := ⟨fun p s σ H Q I q => h.run p s σ H Q I (i σ H Q q)⟩
theorem pt_weak {X : Cx} {e : Expr} {t u : TT} (h : PT X e t) (i : ∀ σ H Q, u σ H Q → t σ H Q) : PT X e u := ⟨fun p s σ H Q I q => h.run p s σ H Q I (i σ H Q q)⟩
theorem pw_weak {X : Cx} {e : Expr} {t u : TT} (h : PW X e t) (i : ∀ σ H Q, u σ H Q → t σ H Q) : PW X e u := ⟨fun wh p s σ H Q I q => h.run wh p s σ H Q I (i σ H Q q)⟩
theorem pa_weak {X : Cx} {e : List Expr} {t u : TA} (h : PA X e t) (i : ∀ σ H Q, u σ H Q → t σ H Q) : PA X e u := ⟨fun wh p s σ H Q I q => h.run wh p s σ H Q I (i σ H Q q)⟩
theorem ps_weak {X : Cx} {e : Stmt} {t u : TS} (h : PS X e t) (i : ∀ D σ H, u D σ H → t D σ H) : PS X e u := ⟨fun p s σ H D I q => h.run p s σ H D I (i D σ H q)⟩
theorem pss_weak {X : Cx} {e : List Stmt} {t u : TS} (h : PSs X e t) (i : ∀ D σ H, u D σ H → t D σ H) : PSs X e u := ⟨fun p s σ H D I q => h.run p s σ H D I (i D σ H q)⟩
/-- what stays through a def's run: the bag's place, what was known and what stood at the entry -/
structure Wn where
  b : Bg
  F : Hp
  H : Hp
abbrev RelW (K : PySem.W.Frag) (w : Wn) (env : List Sl) (σ : L2.St) (F H : Hp) : Prop := Rel K w.b w.F w.H env σ F H
abbrev DT := List Sl → (DV → Prop) → Prop
abbrev DTT := List Sl → (Bool → Prop) → Prop
abbrev DA := List Sl → (List DV → Prop) → Prop
structure DK where
  nx : List Sl → Prop
  rt : DV → Prop
  bk : List Sl → Prop := fun _ => False
  ct : List Sl → Prop := fun _ => False
abbrev DS := DK → List Sl → Prop
/-- an argument's value -/
def ArR (K : PySem.W.Frag) (b : Bg) (F H : Hp) : DV → V → Prop
  | .d x, v => Rp K F v x
  | .ow l xs, v => v = .ref l ∧ F l = none ∧ l ≠ b.b ∧ ∃ vs, H l = some (.lst vs) ∧ RpA K F vs xs
  | .raw u, v => v = u
  | .bag, v => v = .ref b.b
  | .tr p S x, v => (∀ a ∈ S, F a = none ∧ a ≠ b.b) ∧ Ot K F H p S v x
  | .fr _, _ => False
  | .ft _, _ => False
def lf (K : PySem.W.Frag) (w : Wn) (t : DT) : TE := fun σ H Q => ∃ env F P, RelW K w env σ F H ∧ t env P ∧ ∀ dv v F' H', Stp K w.b F H F' H' → Res K w.b H F' H' dv v → P dv → Q v H'
def lfT (K : PySem.W.Frag) (w : Wn) (t : DTT) : TT := fun σ H Q => ∃ env F P, RelW K w env σ F H ∧ t env P ∧ ∀ c F' H', Stp K w.b F H F' H' → P c → Q c H'
def lfA (K : PySem.W.Frag) (w : Wn) (t : DA) : TA := fun σ H Q => ∃ env F P, RelW K w env σ F H ∧ t env P ∧ ∀ dvs vs F' H', Stp K w.b F H F' H' → Paired (ArR K w.b F' H') dvs vs → P dvs → Q vs H'
structure Fit (K : PySem.W.Frag) (w : Wn) (F₁ : Hp) (d : DK) (D : Ends) : Prop where
  nx : ∀ env σ F H, RelW K w env σ F H → Same F₁ F → d.nx env → D.nx σ H
  bk : ∀ env σ F H, RelW K w env σ F H → Same F₁ F → d.bk env → D.bk σ H
  ct : ∀ env σ F H, RelW K w env σ F H → Same F₁ F → d.ct env → D.ct σ H
  rt : ∀ dv v F H, Stp K w.b w.F w.H F H → Res K w.b w.H F H dv v → d.rt dv → D.rt v H
theorem Fit.up {K : PySem.W.Frag} {w : Wn} {F₁ F₂ : Hp} {d : DK} {D : Ends} (f : Fit K w F₁ d D) (s : Same F₁ F₂) : Fit K w F₂ d D :=
  ⟨fun env σ F H r z => f.nx env σ F H r (s.trans z), fun env σ F H r z => f.bk env σ F H r (s.trans z), fun env σ F H r z => f.ct env σ F H r (s.trans z), f.rt⟩
theorem sm0 {F : Hp} : Same F F := fun _ _ z => z
def lfS (K : PySem.W.Frag) (w : Wn) (t : DS) : TS := fun D σ H => ∃ env F d, RelW K w env σ F H ∧ t d env ∧ Fit K w F d D
abbrev DPE (X : Cx) (w : Wn) (e : Expr) (t : DT) : Prop := PE X e (lf X.K w t)
abbrev DPT (X : Cx) (w : Wn) (e : Expr) (t : DTT) : Prop := PT X e (lfT X.K w t)
abbrev DPW (X : Cx) (w : Wn) (e : Expr) (t : DTT) : Prop := PW X e (lfT X.K w t)
abbrev DPA (X : Cx) (w : Wn) (e : List Expr) (t : DA) : Prop := PA X e (lfA X.K w t)
abbrev DPS (X : Cx) (w : Wn) (e : Stmt) (t : DS) : Prop := PS X e (lfS X.K w t)
abbrev DPSs (X : Cx) (w : Wn) (e : List Stmt) (t : DS) : Prop := PSs X e (lfS X.K w t)
/-! ### what a value is read as -/
def rd : DV → (PyData → Prop) → Prop
  | .d x, k => k x
  | .fr xs, k => k (.list xs)
  | .ow _ xs, k => k (.list xs)
  | .raw _, _ => False
  | .bag, _ => False
  | .ft _, _ => False
  | .tr _ _ _, _ => False
inductive Rr (K : PySem.W.Frag) (b : Bg) (F H : Hp) : V → PyData → Prop
  | d {v : V} {x : PyData} (h : Rp K F v x) : Rr K b F H v x
  | o {l : Addr} {vs : List V} {xs : List PyData} (hf : F l = none) (ne : l ≠ b.b) (h : H l = some (.lst vs)) (r : RpA K F vs xs) : Rr K b F H (.ref l) (.list xs)
section
variable {K : PySem.W.Frag} {b : Bg} {F H F' H' Hz : Hp} {v : V}
theorem Rr.step (s : Stp K b F H F' H') {x : PyData} : Rr K b F H v x → Rr K b F' H' v x
  | .d h => .d (h.up s.ex)
  | .o hf ne h r => .o (s.new _ hf (by rw [h]; exact fun z => nomatch z)) ne (s.keep _ _ ne (by intro _ z; cases z) h) (r.up s.ex)
theorem rd_ok {dv : DV} {k : PyData → Prop} (r : Res K b Hz F H dv v) (h : rd dv k) : ∃ x, Rr K b F H v x ∧ k x := by
  cases dv with
  | d x => exact ⟨x, .d r, h⟩
  | fr xs =>
    obtain ⟨p, vs, rfl, _, hf, ne, hp, q⟩ := r
    exact ⟨_, .o hf ne hp q, h⟩
  | ow l xs =>
    obtain ⟨rfl, hf, ne, vs, hp, q⟩ := r
    exact ⟨_, .o hf ne hp q, h⟩
  | raw u => exact False.elim h
  | bag => exact False.elim h
  | ft x => exact False.elim h
  | tr p S x => exact False.elim h
theorem Rr.int {i : Int} (h : Rr K b F H v (.int i)) : v = .int i := by cases h with | d h => cases h; rfl
theorem Rr.bl {i : Bool} (h : Rr K b F H v (.bool i)) : v = .bl i := by cases h with | d h => cases h; rfl
theorem Rr.str {i : Str} (h : Rr K b F H v (.str i)) : v = .str i := by cases h with | d h => cases h; rfl
theorem Rr.non (h : Rr K b F H v .none) : v = .non := by cases h with | d h => cases h; rfl
theorem Rr.lst {xs : List PyData} (w : Same F H) (h : Rr K b F H v (.list xs)) : ∃ l vs, v = .ref l ∧ H l = some (.lst vs) ∧ RpA K F vs xs := by
  cases h with
  | d h => cases h with | lst h r => exact ⟨_, _, rfl, w _ _ h, r⟩
  | o _ _ h r => exact ⟨_, _, rfl, h, r⟩
theorem Rr.tup {xs : List PyData} (w : Same F H) (h : Rr K b F H v (.tuple xs)) : ∃ l vs, v = .ref l ∧ SqT K H l vs ∧ RpA K F vs xs := by
  cases h with
  | d h => cases h with | tup h r => exact ⟨_, _, rfl, sqt_up w h, r⟩
theorem Rr.all {x : PyData} (w : Same F H) (h : Rr K b F H v x) : Rp K H v x := by
  cases h with
  | d h => exact h.up w
  | o hf ne h r => exact .lst h (r.up w)
theorem Res.intOf {i : Int} (r : Res K b Hz F H (.d (.int i)) v) : v = .int i := by cases (show Rp K F v (.int i) from r); rfl
theorem Res.blOf {i : Bool} (r : Res K b Hz F H (.d (.bool i)) v) : v = .bl i := by cases (show Rp K F v (.bool i) from r); rfl
end
/-! ### expressions -/
section
variable {X : Cx} {w : Wn} {a b e c : Expr} {ta tb tc te : DT} {pos : Pos}
def tVarD (i : Nat) : DT := fun env P => match env[i]? with
  | some (.d x) => P (.d x)
  | some (.ow l xs) => P (.ow l xs)
  | some (.tr p S x) => P (.tr p S x)
  | some (.raw v) => P (.raw v)
  | some .bag => P .bag
  | _ => False
theorem d_var (i : Nat) {x : Str} (hN : X.N[i]? = some x := by rfl) (hv : Vis X.env.scope x := by first | exact Or.inl rfl | exact Or.inr (Or.inl rfl) | exact Or.inr (Or.inr rfl)) (hd : (x == ("__debug__" : Str)) = false := by decide) (hc : (x == ("__classdict__" : Str)) = false := by decide) :
    DPE X w (.Name x pos) (tVarD i) := pe_weak (pe_var hN hv hd hc) fun σ H Q ⟨env, F, P, r, h, q⟩ => by
  unfold tVarD at h
  split at h
  · next x e =>
    obtain ⟨v, e1, r1⟩ := r.at' i _ e
    exact ⟨v, e1, q (.d x) _ F H r.wd.refl r1 h⟩
  · next l xs e =>
    obtain ⟨e1, h0, hf, ne, vs, hl, r1⟩ := r.at' i _ e
    exact ⟨_, e1, q (.ow l xs) _ F H r.wd.refl ⟨rfl, hf, ne, vs, hl, r1⟩ h⟩
  · next p S x e =>
    obtain ⟨v, e1, _, k, _, q1⟩ := r.at' i _ e
    exact ⟨v, e1, q (.tr p S x) v F H r.wd.refl ⟨fun a m => (k a m).2, q1⟩ h⟩
  · next v e => exact ⟨v, r.at' i _ e, q (.raw v) v F H r.wd.refl rfl h⟩
  · next e => exact ⟨_, r.at' i _ e, q .bag _ F H r.wd.refl rfl h⟩
  · exact h.elim
def tCD (x : PyData) : DT := fun _ P => P (.d x)
theorem d_int {i : Int} {j} : DPE X w (.Constant (.int i) j pos) (tCD (.int i)) := pe_weak pe_int fun σ H Q ⟨env, F, P, r, h, q⟩ => q (.d (.int i)) _ F H r.wd.refl (Rp.int i) h
theorem d_bl {i : Bool} {j} : DPE X w (.Constant (.bool i) j pos) (tCD (.bool i)) := pe_weak pe_bl fun σ H Q ⟨env, F, P, r, h, q⟩ => q (.d (.bool i)) _ F H r.wd.refl (Rp.bl i) h
theorem d_str {i : Str} {j} : DPE X w (.Constant (.str i) j pos) (tCD (.str i)) := pe_weak pe_str fun σ H Q ⟨env, F, P, r, h, q⟩ => q (.d (.str i)) _ F H r.wd.refl (Rp.str i) h
theorem d_non {j} : DPE X w (.Constant .none j pos) (tCD .none) := pe_weak pe_non fun σ H Q ⟨env, F, P, r, h, q⟩ => q (.d .none) _ F H r.wd.refl Rp.non h
/-- a number that the module names -/
theorem d_globI {x : Str} {i : Int} {t : Tok} (hg : Gl X x) (hm : X.mg x = some (.int i t)) (hd : (x == ("__debug__" : Str)) = false := by decide) : DPE X w (.Name x pos) (tCD (.int i)) :=
  pe_weak (pe_glob (v := .int i) hg hm ⟨t, rfl⟩ hd) fun σ H Q ⟨env, F, P, r, h, q⟩ => q (.d (.int i)) _ F H r.wd.refl (Rp.int i) h
def tRaw (v : V) : DT := fun _ P => P (.raw v)
/-- a built-in class as a value -/
theorem d_ty {x : Str} {n : String} (hg : Gl X x) (hm : X.mg x = none) (hv : bootBuiltins x = some (.type n)) (hn : x ≠ "__name__" := by decide) (hd : (x == ("__debug__" : Str)) = false := by decide) : DPE X w (.Name x pos) (tRaw (.ty n)) :=
  pe_weak (pe_bltn (v := .ty n) hg hm hv rfl hn hd) fun σ H Q ⟨env, F, P, r, h, q⟩ => q (.raw (.ty n)) _ F H r.wd.refl rfl h
/-! two operands -/
abbrev G2 := PyData → PyData → (DV → Prop) → Prop
def lR (K : PySem.W.Frag) (b : Bg) (g : G2) : R2 := fun x y H Q => ∃ F dx dy P, Wd K b F H ∧ Rr K b F H x dx ∧ Rr K b F H y dy ∧ g dx dy P ∧ ∀ dv v F' H', Stp K b F H F' H' → Res K b H F' H' dv v → P dv → Q v H'
def tBin (g : G2) (ta tb : DT) : DT := fun env P => ta env fun u => rd u fun x => tb env fun z => rd z fun y => g x y P
theorem bin_go {g : G2} {σ : L2.St} {H : Hp} {Q : VK} (h : lf X.K w (tBin g ta tb) σ H Q) : tOp (lR X.K w.b g) (lf X.K w ta) (lf X.K w tb) σ H Q := by
  obtain ⟨env, F, P, r, h, q⟩ := h
  refine ⟨env, F, _, r, h, fun dv v F1 H1 s1 r1 h1 => ?_⟩
  obtain ⟨x, x1, h1⟩ := rd_ok r1 h1
  refine ⟨env, F1, _, r.step s1, h1, fun dv2 v2 F2 H2 s2 r2 h2 => ?_⟩
  obtain ⟨y, y1, h2⟩ := rd_ok r2 h2
  exact ⟨F2, x, y, P, s2.wd, x1.step s2, y1, h2, fun dv3 v3 F3 H3 s3 r3 h3 => q dv3 v3 F3 H3 ((s1.trans s2).trans s3) (r3.early (s1.trans s2)) h3⟩
theorem d_bin {op : Operator} {g : G2} (ho : OpR X (binaryOp op) (lR X.K w.b g)) (ha : DPE X w a ta) (hb : DPE X w b tb) : DPE X w (.BinOp a op b pos) (tBin g ta tb) :=
  pe_weak (pe_op ho ha hb) fun _ _ _ h => bin_go h
theorem d_cmp {op : CmpOp} {g : G2} (ho : OpR X (compareOp op) (lR X.K w.b g)) (ha : DPE X w a ta) (hb : DPE X w b tb) (hm : behindInMarks op b = false := by first | exact nomark _ | rfl) : DPE X w (.Compare a [op] [b] pos) (tBin g ta tb) :=
  pe_weak (pe_cmpR ho ha hb hm) fun _ _ _ h => bin_go h
/-- the Bool that a value of True, False is -/
def isB : DV → (Bool → Prop) → Prop
  | .d (.bool c), k => k c
  | _, _ => False
theorem isB_ok {K : PySem.W.Frag} {b : Bg} {Hz F H : Hp} {v : V} {dv : DV} {k : Bool → Prop} (r : Res K b Hz F H dv v) (h : isB dv k) : ∃ c, v = .bl c ∧ k c := by
  unfold isB at h
  split at h
  · next c => exact ⟨c, r.blOf, h⟩
  · exact h.elim
def tTst (t : DT) : DTT := fun env P => t env fun u => isB u P
theorem dt_cmp {op : CmpOp} {g : G2} (ho : OpR X (compareOp op) (lR X.K w.b g)) (ha : DPE X w a ta) (hb : DPE X w b tb) (hm : behindInMarks op b = false := by first | exact nomark _ | rfl) : DPT X w (.Compare a [op] [b] pos) (tTst (tBin g ta tb)) :=
  pt_weak (pt_cmpR ho ha hb hm) fun σ H Q ⟨env, F, P, r, h, q⟩ => bin_go ⟨env, F, _, r, h, fun dv v F1 H1 s1 r1 h1 => by
    obtain ⟨c, rfl, h1⟩ := isB_ok r1 h1
    exact ⟨c, rfl, q c F1 H1 s1 h1⟩⟩
/-! one operand -/
abbrev G1 := PyData → (DV → Prop) → Prop
def tUnD (g : G1) (ta : DT) : DT := fun env P => ta env fun u => rd u fun x => g x P
def gNeg : G1 := fun x P => match x with
  | .int i => P (.d (.int (-i)))
  | _ => False
theorem d_neg (ha : DPE X w a ta) : DPE X w (.UnaryOp .USub a pos) (tUnD gNeg ta) := pe_weak (pe_un un_neg ha) fun σ H Q ⟨env, F, P, r, h, q⟩ => by
  refine ⟨env, F, _, r, h, fun dv v F1 H1 s1 r1 h1 => ?_⟩
  obtain ⟨x, x1, h1⟩ := rd_ok r1 h1
  unfold gNeg at h1
  split at h1
  · next i => exact ⟨i, x1.int, q (.d (.int (-i))) _ F1 H1 s1 (Rp.int _) h1⟩
  · exact h1.elim
/-! ### tests -/
variable {tA tB tC : DTT} {rest : List Expr}
def tAndD (t u : DTT) : DTT := fun env P => t env fun c => if c = true then u env P else P false
def tOrD (t u : DTT) : DTT := fun env P => t env fun c => if c = true then P true else u env P
def tNotD (t : DTT) : DTT := fun env P => t env fun c => P (!c)
theorem dw_and1 (ha : DPT X w a tA) : DPW X w (.BoolOp .And [a] pos) tA := pw_and1 ha
theorem dw_or1 (ha : DPT X w a tA) : DPW X w (.BoolOp .Or [a] pos) tA := pw_or1 ha
theorem dw_and (ha : DPT X w a tA) (hb : DPW X w (.BoolOp .And (b :: rest) pos) tB) : DPW X w (.BoolOp .And (a :: b :: rest) pos) (tAndD tA tB) :=
  pw_weak (pw_and ha hb) fun σ H Q ⟨env, F, P, r, h, q⟩ => ⟨env, F, _, r, h, fun c F1 H1 s1 h1 => by
    cases c with
    | true => exact ⟨env, F1, P, r.step s1, h1, fun c F2 H2 s2 h2 => q c F2 H2 (s1.trans s2) h2⟩
    | false => exact q false F1 H1 s1 h1⟩
theorem dw_or (ha : DPT X w a tA) (hb : DPW X w (.BoolOp .Or (b :: rest) pos) tB) : DPW X w (.BoolOp .Or (a :: b :: rest) pos) (tOrD tA tB) :=
  pw_weak (pw_or ha hb) fun σ H Q ⟨env, F, P, r, h, q⟩ => ⟨env, F, _, r, h, fun c F1 H1 s1 h1 => by
    cases c with
    | false => exact ⟨env, F1, P, r.step s1, h1, fun c F2 H2 s2 h2 => q c F2 H2 (s1.trans s2) h2⟩
    | true => exact q true F1 H1 s1 h1⟩
theorem dt_w (h : DPW X w a tA) : DPT X w a tA := PW.pt h
theorem dt_not (ha : DPT X w a tA) : DPT X w (.UnaryOp .Not a pos) (tNotD tA) :=
  pt_weak (pt_not ha) fun σ H Q ⟨env, F, P, r, h, q⟩ => ⟨env, F, _, r, h, fun c F1 H1 s1 h1 => q _ F1 H1 s1 h1⟩
/-- an expression by its truth -/
def truD : PyData → Bool
  | .none => false
  | .bool c => c
  | .int i => i != 0
  | .str x => x.length != 0
  | .list xs => !xs.isEmpty
  | .tuple xs => !xs.isEmpty
  | .dict kvs => !kvs.isEmpty
def truOk : PyData → Prop
  | .str x => x.length ≤ 100000
  | .dict _ => False
  | _ => True
theorem lim_le {n : Nat} (h : n ≤ 100000) : n ≤ sizeLine := Nat.le_trans h (by decide)
theorem lim_lt {n : Nat} (h : n < 100000) : n < sizeLine := Nat.lt_of_lt_of_le h (by decide)
theorem rpa_empty {K : PySem.W.Frag} {F : Hp} {vs : List V} {xs : List PyData} (r : RpA K F vs xs) : vs.isEmpty = xs.isEmpty := by cases r <;> rfl
theorem tru_of {K : PySem.W.Frag} {b : Bg} {F H : Hp} {v : V} {x : PyData} (s : Same F H) (h : Rr K b F H v x) (ok : truOk x) : TruV K v H (truD x) := by
  cases x with
  | none => cases h.non; rfl
  | bool c => cases h.bl; rfl
  | int i => cases h.int; rfl
  | str x =>
    cases h.str
    refine ⟨lim_le ok, ?_⟩
    show (x.length != 0) = ((x.length : Int) != 0)
    cases hx : x.length with
    | zero => rfl
    | succ n => rw [bne_iff_ne.mpr (show n + 1 ≠ 0 by omega), bne_iff_ne.mpr (show ((n + 1 : Nat) : Int) ≠ 0 by omega)]
  | list xs =>
    obtain ⟨l, vs, rfl, e, r⟩ := h.lst s
    exact .inl ⟨vs, SqL.of e, by rw [rpa_empty r]; rfl⟩
  | tuple xs =>
    obtain ⟨l, vs, rfl, e, r⟩ := h.tup s
    exact .inr (.inl ⟨vs, e, by rw [rpa_empty r]; rfl⟩)
  | dict kvs => exact False.elim ok
def tTru (t : DT) : DTT := fun env P => t env fun u => rd u fun x => truOk x ∧ P (truD x)
theorem dt_e (ha : DPE X w a ta) (he : ∀ whole, isTrue a X.env whole = (do let v ← whole; standAt a.pos; holding [v] (truthy v)) := by intro _; rfl) : DPT X w a (tTru ta) :=
  pt_weak (pt_truth ha he) fun σ H Q ⟨env, F, P, r, h, q⟩ => by
    refine ⟨env, F, _, r, h, fun dv v F1 H1 s1 r1 h1 => ?_⟩
    obtain ⟨x, x1, ok, h1⟩ := rd_ok r1 h1
    exact ⟨truD x, tru_of s1.sub x1 ok, q _ F1 H1 s1 h1⟩
/-- values of and, or, not, if-else -/
theorem lf_early {t : DT} {σ : L2.St} {F H F1 H1 : Hp} {env : List Sl} {P : DV → Prop} {Q : VK} (s1 : Stp X.K w.b F H F1 H1) (r : RelW X.K w env σ F H) (h : t env P)
    (q : ∀ dv v F' H', Stp X.K w.b F H F' H' → Res X.K w.b H F' H' dv v → P dv → Q v H') : lf X.K w t σ H1 Q :=
  ⟨env, F1, P, r.step s1, h, fun dv v F2 H2 s2 r2 h2 => q dv v F2 H2 (s1.trans s2) (r2.early s1) h2⟩
def tAndV (ta tb : DT) : DT := fun env P => ta env fun u => rd u fun x => truOk x ∧ if truD x = true then tb env P else P (match u with | .fr xs => .fr xs | _ => .d x)
theorem d_one {op} {t : DT} (h : DPE X w a t) : DPE X w (.BoolOp op [a] pos) t := pe_one h
def tIteD (t : DTT) (ta tb : DT) : DT := fun env P => t env fun c => if c = true then ta env P else tb env P
theorem d_ite (hc : DPT X w c tC) (ha : DPE X w a ta) (hb : DPE X w b tb) : DPE X w (.IfExp c a b pos) (tIteD tC ta tb) :=
  pe_weak (pe_ifExp hc ha hb) fun σ H Q ⟨env, F, P, r, h, q⟩ => ⟨env, F, _, r, h, fun c F1 H1 s1 h1 => by
    cases c with
    | true => exact lf_early s1 r h1 q
    | false => exact lf_early s1 r h1 q⟩
end
end Dl
namespace Dl
open PySem PySem.Spec PyProof.Rows L2
/-! ### operators by what they are given -/
def gAdd : G2 := fun x y P => match x, y with
  | .int i, .int j => P (.d (.int (i + j)))
  | .str i, .str j => i.length + j.length ≤ 100000 ∧ P (.d (.str (i ++ j)))
  | .list xs, .list ys => xs.length + ys.length ≤ 100000 ∧ P (.fr (xs ++ ys))
  | .tuple xs, .tuple ys => xs ≠ [] ∧ xs.length + ys.length ≤ 100000 ∧ P (.d (.tuple (xs ++ ys)))
  | _, _ => False
def gMinus : G2 := fun x y P => match x, y with
  | .int i, .int j => P (.d (.int (i - j)))
  | _, _ => False
def gMul : G2 := fun x y P => match x, y with
  | .int i, .int j => i.natAbs.log2 + j.natAbs.log2 < 1000000 ∧ P (.d (.int (i * j)))
  | _, _ => False
def gFdiv : G2 := fun x y P => match x, y with
  | .int i, .int j => j ≠ 0 ∧ j.natAbs.log2 < 9000 ∧ P (.d (.int (i.fdiv j)))
  | _, _ => False
def gMod : G2 := fun x y P => match x, y with
  | .int i, .int j => j ≠ 0 ∧ P (.d (.int (i.fmod j)))
  | _, _ => False
def gPow : G2 := fun x y P => match x, y with
  | .int i, .int j => (0 ≤ j ∧ j ≤ 1000000 ∧ i.natAbs < 2 ^ 64) ∧ P (.d (.int (i ^ j.toNat)))
  | _, _ => False
section
variable {X : Cx} {w : Wn}
theorem res_d {K : PySem.W.Frag} {b : Bg} {Hz F H : Hp} {v : V} {x : PyData} (h : Rp K F v x) : Res K b Hz F H (.d x) v := h
/-- a fresh list is laid -/
theorem res_new {K : PySem.W.Frag} {b : Bg} {F H : Hp} {vs : List V} {xs : List PyData} {P : DV → Prop} {Q : VK} (wd : Wd K b F H) (r : RpA K F vs xs) (q : ∀ dv v F' H', Stp K b F H F' H' → Res K b H F' H' dv v → P dv → Q v H') (h : P (.fr xs)) :
    ∀ p, H p = none → Q (.ref p) (upd H p (.lst vs)) := fun p hp => by
  obtain ⟨us, eb⟩ := wd.bag.lst
  have pb : p ≠ b.b := fun e => by rw [e, eb] at hp; cases hp
  refine q (.fr xs) _ F _ (wd.laidM hp) ⟨p, vs, rfl, hp, ?_, pb, upd_same, r⟩ h
  cases e : F p with
  | none => rfl
  | some o => rw [wd.sub _ _ e] at hp; cases hp
theorem res_newT {K : PySem.W.Frag} {b : Bg} {F H : Hp} {vs : List V} {xs : List PyData} {P : DV → Prop} {Q : VK} (wd : Wd K b F H) (r : RpA K F vs xs) (q : ∀ dv v F' H', Stp K b F H F' H' → Res K b H F' H' dv v → P dv → Q v H') (h : P (.d (.tuple xs))) :
    ∀ p, H p = none → Q (.ref p) (upd H p (.tup vs)) := fun p hp => by
  have st := wd.laid (o := .tup vs) hp
  exact q (.d (.tuple xs)) _ _ _ st (Rp.tup (SqT.of upd_same) (r.up st.ex)) h
theorem nonempty_vs {K : PySem.W.Frag} {F : Hp} {vs : List V} {xs : List PyData} (r : RpA K F vs xs) (h : xs ≠ []) : vs ≠ [] := by
  cases r with
  | nil => exact absurd rfl h
  | cons _ _ => exact fun z => nomatch z
theorem o_add : OpR X (binaryOp .Add) (lR X.K w.b gAdd) := by
  intro pins s σ H x y v u Q I rx ry h
  obtain ⟨F, dx, dy, P, wd, hx, hy, g, q⟩ := h
  unfold gAdd at g
  split at g
  · cases hx.int; cases hy.int
    exact op_add pins s σ H _ _ v u Q I rx ry ⟨_, _, rfl, rfl, q _ _ F H wd.refl (res_d (.int _)) g⟩
  · cases hx.str; cases hy.str
    exact op_add_str pins s σ H _ _ v u Q I rx ry ⟨_, _, rfl, rfl, lim_le g.1, q _ _ F H wd.refl (res_d (.str _)) g.2⟩
  · obtain ⟨l, vs, rfl, e1, r1⟩ := hx.lst wd.sub
    obtain ⟨m, us, rfl, e2, r2⟩ := hy.lst wd.sub
    exact op_cat pins s σ H _ _ v u Q I rx ry ⟨l, m, vs, us, rfl, rfl, e1, e2, by rw [r1.len, r2.len]; exact lim_le g.1, res_new wd (r1.app r2) q g.2⟩
  · next xs ys =>
    obtain ⟨l, vs, rfl, e1, r1⟩ := hx.tup wd.sub
    obtain ⟨m, us, rfl, e2, r2⟩ := hy.tup wd.sub
    have ne := nonempty_vs r1 g.1
    refine op_catT pins s σ H _ _ v u Q I rx ry ⟨l, m, vs, us, rfl, rfl, e1, e2, ne, by rw [r1.len, r2.len]; exact lim_le g.2.1, fun e => ?_, fun _ => res_newT wd (r1.app r2) q g.2.2⟩
    subst e
    cases r2
    rw [List.append_nil] at g
    have hq : Rp X.K F (.ref l) (.tuple xs) := by
      cases hx with
      | d h => exact h
    exact q _ _ F H wd.refl (res_d hq) g.2.2
  · exact g.elim
theorem o_sub : OpR X (binaryOp .Sub) (lR X.K w.b gMinus) := by
  intro pins s σ H x y v u Q I rx ry h
  obtain ⟨F, dx, dy, P, wd, hx, hy, g, q⟩ := h
  unfold gMinus at g
  split at g
  · cases hx.int; cases hy.int
    exact op_sub pins s σ H _ _ v u Q I rx ry ⟨_, _, rfl, rfl, q _ _ F H wd.refl (res_d (.int _)) g⟩
  · exact g.elim
theorem o_mul : OpR X (binaryOp .Mult) (lR X.K w.b gMul) := by
  intro pins s σ H x y v u Q I rx ry h
  obtain ⟨F, dx, dy, P, wd, hx, hy, g, q⟩ := h
  unfold gMul at g
  split at g
  · cases hx.int; cases hy.int
    exact op_mulW pins s σ H _ _ v u Q I rx ry ⟨_, _, rfl, rfl, g.1, q _ _ F H wd.refl (res_d (.int _)) g.2⟩
  · exact g.elim
theorem op_fdivX : OpR X (binaryOp .FloorDiv) (rI (fun _ j => j ≠ 0 ∧ j.natAbs.log2 < 9000) fun i j => .int (i.fdiv j)) :=
  opI fun _ _ _ _ _ _ _ hc q => floordiv_int hc.1 q (.inl (PyProof.noPylong_of_log2 hc.2))
theorem o_fdiv : OpR X (binaryOp .FloorDiv) (lR X.K w.b gFdiv) := by
  intro pins s σ H x y v u Q I rx ry h
  obtain ⟨F, dx, dy, P, wd, hx, hy, g, q⟩ := h
  unfold gFdiv at g
  split at g
  · cases hx.int; cases hy.int
    exact op_fdivX pins s σ H _ _ v u Q I rx ry ⟨_, _, rfl, rfl, ⟨g.1, g.2.1⟩, q _ _ F H wd.refl (res_d (.int _)) g.2.2⟩
  · exact g.elim
theorem o_mod : OpR X (binaryOp .Mod) (lR X.K w.b gMod) := by
  intro pins s σ H x y v u Q I rx ry h
  obtain ⟨F, dx, dy, P, wd, hx, hy, g, q⟩ := h
  unfold gMod at g
  split at g
  · cases hx.int; cases hy.int
    exact op_modN pins s σ H _ _ v u Q I rx ry ⟨_, _, rfl, rfl, g.1, q _ _ F H wd.refl (res_d (.int _)) g.2⟩
  · exact g.elim
theorem o_pow : OpR X (binaryOp .Pow) (lR X.K w.b gPow) := by
  intro pins s σ H x y v u Q I rx ry h
  obtain ⟨F, dx, dy, P, wd, hx, hy, g, q⟩ := h
  unfold gPow at g
  split at g
  · cases hx.int; cases hy.int
    exact op_pow pins s σ H _ _ v u Q I rx ry ⟨_, _, rfl, rfl, g.1, q _ _ F H wd.refl (res_d (.int _)) g.2⟩
  · exact g.elim
/-! comparisons -/
def gIn (p : Int → Int → Bool) (s : Str → Str → Bool) : G2 := fun x y P => match x, y with
  | .int i, .int j => P (.d (.bool (p i j)))
  | .str i, .str j => P (.d (.bool (s i j)))
  | _, _ => False
abbrev gLt : G2 := gIn (fun i j => decide (i < j)) fun i j => decide (i.cps.toList < j.cps.toList)
def gI (p : Int → Int → Bool) : G2 := fun x y P => match x, y with
  | .int i, .int j => P (.d (.bool (p i j)))
  | _, _ => False
theorem o_lt : OpR X (compareOp .Lt) (lR X.K w.b gLt) := by
  intro pins s σ H x y v u Q I rx ry h
  obtain ⟨F, dx, dy, P, wd, hx, hy, g, q⟩ := h
  unfold gLt gIn at g
  split at g
  · cases hx.int; cases hy.int
    exact op_lt pins s σ H _ _ v u Q I rx ry ⟨_, _, rfl, rfl, q _ _ F H wd.refl (res_d (.bl _)) g⟩
  · cases hx.str; cases hy.str
    exact op_lt_str pins s σ H _ _ v u Q I rx ry ⟨_, _, rfl, rfl, q _ _ F H wd.refl (res_d (.bl _)) g⟩
  · exact g.elim
theorem o_le : OpR X (compareOp .LtE) (lR X.K w.b (gIn (fun i j => decide (i ≤ j)) fun i j => !decide (j.cps.toList < i.cps.toList))) := by
  intro pins s σ H x y v u Q I rx ry h
  obtain ⟨F, dx, dy, P, wd, hx, hy, g, q⟩ := h
  unfold gIn at g
  split at g
  · cases hx.int; cases hy.int
    exact op_le pins s σ H _ _ v u Q I rx ry ⟨_, _, rfl, rfl, q _ _ F H wd.refl (res_d (.bl _)) g⟩
  · cases hx.str; cases hy.str
    exact op_le_str pins s σ H _ _ v u Q I rx ry ⟨_, _, rfl, rfl, q _ _ F H wd.refl (res_d (.bl _)) g⟩
  · exact g.elim
theorem o_gt : OpR X (compareOp .Gt) (lR X.K w.b (gIn (fun i j => decide (j < i)) fun i j => decide (j.cps.toList < i.cps.toList))) := by
  intro pins s σ H x y v u Q I rx ry h
  obtain ⟨F, dx, dy, P, wd, hx, hy, g, q⟩ := h
  unfold gIn at g
  split at g
  · cases hx.int; cases hy.int
    exact op_gt pins s σ H _ _ v u Q I rx ry ⟨_, _, rfl, rfl, q _ _ F H wd.refl (res_d (.bl _)) g⟩
  · cases hx.str; cases hy.str
    exact op_gt_str pins s σ H _ _ v u Q I rx ry ⟨_, _, rfl, rfl, q _ _ F H wd.refl (res_d (.bl _)) g⟩
  · exact g.elim
theorem o_ge : OpR X (compareOp .GtE) (lR X.K w.b (gIn (fun i j => decide (j ≤ i)) fun i j => !decide (i.cps.toList < j.cps.toList))) := by
  intro pins s σ H x y v u Q I rx ry h
  obtain ⟨F, dx, dy, P, wd, hx, hy, g, q⟩ := h
  unfold gIn at g
  split at g
  · cases hx.int; cases hy.int
    exact op_ge pins s σ H _ _ v u Q I rx ry ⟨_, _, rfl, rfl, q _ _ F H wd.refl (res_d (.bl _)) g⟩
  · cases hx.str; cases hy.str
    exact op_ge_str pins s σ H _ _ v u Q I rx ry ⟨_, _, rfl, rfl, q _ _ F H wd.refl (res_d (.bl _)) g⟩
  · exact g.elim
/-! what Rp says to the library's Reads -/
end
section
variable {X : Cx} {pins : List (Addr × Obj)} {σ : L2.St} {H : Hp} {s : Shared}
mutual
def flatD : PyData → Bool
  | .none => true
  | .bool _ => true
  | .int _ => true
  | .str _ => true
  | .list xs => flatA xs
  | .tuple xs => flatA xs
  | .dict _ => false
def flatA : List PyData → Bool
  | [] => true
  | x :: xs => flatD x && flatA xs
end
mutual
theorem rp_reads (I : Inv X pins σ H s) : ∀ (d : PyData) (v : V) (u : Value), flatD d = true → Rp X.K H v d → RelV v u → ∃ as, Reads s.heap u d as
  | .none, _, _, _, h, r => by cases h; cases r; exact ⟨_, Reads.none⟩
  | .bool b, _, _, _, h, r => by cases h; cases r; exact ⟨_, Reads.bool b⟩
  | .int i, _, _, _, h, r => by cases h; obtain ⟨t, rfl⟩ := r; exact ⟨_, Reads.int i t⟩
  | .str i, _, _, _, h, r => by cases h; obtain ⟨t, rfl⟩ := r; exact ⟨_, Reads.str i t⟩
  | .list ds, _, _, f, h, r => by
    cases h with
    | lst hs ha =>
      cases r
      obtain ⟨its, rv, ⟨o, n, ho, hc, _, hd⟩, _⟩ := I.list (SqL.of hs)
      obtain ⟨as, hr⟩ := rpa_reads I ds _ its (by simpa only [flatD] using f) ha rv
      exact ⟨_, Reads.list ho hc hd hr⟩
  | .tuple ds, _, _, f, h, r => by
    cases h with
    | tup hs ha =>
      cases r
      obtain ⟨its, rv, ⟨o, ho, hc, n, hd⟩, _⟩ := I.tuple hs
      obtain ⟨as, hr⟩ := rpa_reads I ds _ its (by simpa only [flatD] using f) ha rv
      exact ⟨_, Reads.tuple ho hc hd hr⟩
  | .dict _, _, _, f, _, _ => by simp only [flatD] at f; cases f
theorem rpa_reads (I : Inv X pins σ H s) : ∀ (ds : List PyData) (vs : List V) (us : List Value), flatA ds = true → RpA X.K H vs ds → Vals vs us → ∃ as, ReadsAll s.heap us ds as
  | [], _, _, _, h, r => by cases h; cases r; exact ⟨_, ReadsAll.nil⟩
  | d :: ds, _, _, f, h, r => by
    cases h with
    | cons h1 h2 =>
      cases r with
      | cons r1 r2 =>
        rw [flatA, Bool.and_eq_true] at f
        obtain ⟨as, q1⟩ := rp_reads I d _ _ f.1 h1 r1
        obtain ⟨bs, q2⟩ := rpa_reads I ds _ _ f.2 h2 r2
        exact ⟨_, ReadsAll.cons q1 q2⟩
end
mutual
theorem flat_of_can : ∀ d : PyData, d.canLay0 = true → flatD d = true
  | .none, _ => by simp only [flatD]
  | .bool _, _ => by simp only [flatD]
  | .int _, _ => by simp only [flatD]
  | .str _, _ => by simp only [flatD]
  | .list xs, h => by simp only [flatD]; exact flatA_of_can xs (by simpa only [PyData.canLay0] using h)
  | .tuple xs, h => by simp only [flatD]; exact flatA_of_can xs (by simpa only [PyData.canLay0] using h)
  | .dict _, h => by simp only [PyData.canLay0] at h; cases h
theorem flatA_of_can : ∀ d : List PyData, PyData.canLayAll0 d = true → flatA d = true
  | [], _ => by simp only [flatA]
  | x :: xs, h => by
    simp only [PyData.canLayAll0, Bool.and_eq_true] at h
    rw [flatA, flat_of_can x h.1, flatA_of_can xs h.2]
    rfl
end
end
/-- two values alike -/
def gEqv (f : Bool → Bool) : G2 := fun x y P => match x, y with
  | .int i, .int j => P (.d (.bool (f (decide (i = j)))))
  | .str i, .str j => P (.d (.bool (f (decide (i = j)))))
  | .bool i, .bool j => P (.d (.bool (f (decide (i = j)))))
  | x, y => SeqAt.shaped x = true ∧ SeqAt.shaped y = true ∧ P (.d (.bool (f (x.eqv y))))
section
variable {X : Cx} {w : Wn}
theorem o_eq (hu : X.A.units + 64 < cLine) : OpR X (compareOp .Eq) (lR X.K w.b (gEqv id)) := by
  intro pins s σ H x y v u Q I rx ry h
  obtain ⟨F, dx, dy, P, wd, hx, hy, g, q⟩ := h
  unfold gEqv at g
  split at g
  · cases hx.int; cases hy.int
    refine op_eq pins s σ H _ _ v u Q I rx ry ⟨rfl, ?_⟩
    rw [dec_int, Bool.beq_eq_decide_eq]
    exact q _ _ F H wd.refl (res_d (.bl _)) g
  · cases hx.str; cases hy.str
    refine op_eq pins s σ H _ _ v u Q I rx ry ⟨rfl, ?_⟩
    rw [dec_str, Bool.beq_eq_decide_eq]
    exact q _ _ F H wd.refl (res_d (.bl _)) g
  · cases hx.bl; cases hy.bl
    refine op_eq pins s σ H _ _ v u Q I rx ry ⟨rfl, ?_⟩
    rw [dec_bl, Bool.beq_eq_decide_eq]
    exact q _ _ F H wd.refl (res_d (.bl _)) g
  · obtain ⟨as, r1⟩ := rp_reads I _ _ _ (flat_of_can _ (SeqAt.canLay_of_shaped g.1)) (hx.all wd.sub) rx
    obtain ⟨bs, r2⟩ := rp_reads I _ _ _ (flat_of_can _ (SeqAt.canLay_of_shaped g.2.1)) (hy.all wd.sub) ry
    exact SeqAt.compareEq_shaped r1 r2 g.1 g.2.1 hu ⟨.bl _, H, I, rfl, q _ _ F H wd.refl (res_d (.bl _)) g.2.2⟩
theorem o_ne (hu : X.A.units + 64 < cLine) : OpR X (compareOp .NotEq) (lR X.K w.b (gEqv not)) := by
  intro pins s σ H x y v u Q I rx ry h
  obtain ⟨F, dx, dy, P, wd, hx, hy, g, q⟩ := h
  unfold gEqv at g
  split at g
  · cases hx.int; cases hy.int
    refine op_ne pins s σ H _ _ v u Q I rx ry ⟨rfl, ?_⟩
    rw [dec_int, Bool.beq_eq_decide_eq]
    exact q _ _ F H wd.refl (res_d (.bl _)) g
  · cases hx.str; cases hy.str
    refine op_ne pins s σ H _ _ v u Q I rx ry ⟨rfl, ?_⟩
    rw [dec_str, Bool.beq_eq_decide_eq]
    exact q _ _ F H wd.refl (res_d (.bl _)) g
  · cases hx.bl; cases hy.bl
    refine op_ne pins s σ H _ _ v u Q I rx ry ⟨rfl, ?_⟩
    rw [dec_bl, Bool.beq_eq_decide_eq]
    exact q _ _ F H wd.refl (res_d (.bl _)) g
  · obtain ⟨as, r1⟩ := rp_reads I _ _ _ (flat_of_can _ (SeqAt.canLay_of_shaped g.1)) (hx.all wd.sub) rx
    obtain ⟨bs, r2⟩ := rp_reads I _ _ _ (flat_of_can _ (SeqAt.canLay_of_shaped g.2.1)) (hy.all wd.sub) ry
    exact SeqAt.compareNe_shaped r1 r2 g.1 g.2.1 hu ⟨.bl _, H, I, rfl, q _ _ F H wd.refl (res_d (.bl _)) g.2.2⟩
/-! ### arguments, displays -/
variable {e : Expr} {es : List Expr} {te : DT} {t tr : DA} {pos : Pos}
def frz : DV → DV
  | .fr xs => .d (.list xs)
  | .ft x => .d x
  | x => x
theorem frz_ok {K : PySem.W.Frag} {b : Bg} {F H F' H' : Hp} {v : V} {dv : DV} (s : Stp K b F H F' H') (r : Res K b H F' H' dv v) : ∃ F2, Stp K b F H F2 H' ∧ ArR K b F2 H' (frz dv) v := by
  cases dv with
  | d x => exact ⟨F', s, r⟩
  | fr xs =>
    obtain ⟨p, vs, rfl, h0, hf, ne, hp, q⟩ := r
    exact ⟨_, s.freeze h0 hf ne hp, Rp.lst upd_same (q.up (same_laid hf))⟩
  | ow l xs => exact ⟨F', s, r⟩
  | raw u => exact ⟨F', s, r⟩
  | bag => exact ⟨F', s, r⟩
  | ft x =>
    obtain ⟨S, nd, k, q⟩ := r
    exact ⟨_, s.freezeT k q.there, q.open (opn_same fun l m => (k l m).2.1) fun _ m => m⟩
  | tr p S x => exact ⟨F', s, r⟩
theorem ArR.step {K : PySem.W.Frag} {b : Bg} {F H F' H' : Hp} (s : Stp K b F H F' H') : ∀ {dv : DV} {v : V}, ArR K b F H dv v → ArR K b F' H' dv v
  | .d _, _, r => Rp.up s.ex r
  | .fr xs, _, r => r.elim
  | .ow l xs, _, ⟨e, hf, ne, vs, hp, r⟩ => ⟨e, s.new l hf (by rw [hp]; exact fun z => nomatch z), ne, vs, s.keep _ _ ne (fun _ z => nomatch z) hp, r.up s.ex⟩
  | .ft x, _, r => r.elim
  | .tr p S x, _, ⟨k, q⟩ => ⟨fun a m => by
      obtain ⟨o, ho, _⟩ := q.there a m
      exact ⟨s.new a (k a m).1 (by rw [ho]; exact fun z => nomatch z), (k a m).2⟩, q.up s.ex fun a m o ho => by
      obtain ⟨o', ho', nt⟩ := q.there a m
      rw [ho] at ho'
      cases ho'
      exact s.keep a o (k a m).2 (isM_tbl nt) ho⟩
  | .raw _, _, e => e
  | .bag, _, e => e
def tNilD : DA := fun _ P => P []
def tConsD (te : DT) (tr : DA) : DA := fun env P => te env fun u => tr env fun us => P (frz u :: us)
theorem da_nil : DPA X w [] tNilD := pa_weak pa_nil fun σ H Q ⟨env, F, P, r, h, q⟩ => q [] [] F H r.wd.refl .nil h
theorem da_cons (ha : DPE X w e te) (hr : DPA X w es tr) (hs : starEach (e :: es) X.env = (false, eval e X.env) :: starEach es X.env := by rfl) : DPA X w (e :: es) (tConsD te tr) :=
  pa_weak (pa_cons ha hr hs) fun σ H Q ⟨env, F, P, r, h, q⟩ => ⟨env, F, _, r, h, fun dv v F1 H1 s1 r1 h1 => by
    obtain ⟨F2, s2, a2⟩ := frz_ok s1 r1
    exact ⟨env, F2, _, r.step s2, h1, fun dvs vs F3 H3 s3 r3 h3 => q (frz dv :: dvs) (v :: vs) F3 H3 (s2.trans s3) (.cons (a2.step s3) r3) h3⟩⟩
/-- all of them data -/
def allD : List DV → (List PyData → Prop) → Prop
  | [], k => k []
  | .d x :: r, k => allD r fun xs => k (x :: xs)
  | _ :: _, _ => False
theorem allD_ok {K : PySem.W.Frag} {b : Bg} {F H : Hp} : ∀ {dvs : List DV} {vs : List V} {k : List PyData → Prop}, Paired (ArR K b F H) dvs vs → allD dvs k → ∃ xs, RpA K F vs xs ∧ k xs
  | _, _, _, .nil, h => ⟨[], .nil, h⟩
  | .d x :: r, _, k, .cons a t, h => by
    obtain ⟨xs, q, hk⟩ := allD_ok t (show allD r (fun xs => k (x :: xs)) from h)
    exact ⟨x :: xs, .cons a q, hk⟩
  | .fr _ :: _, _, _, .cons _ _, h => h.elim
  | .ow _ _ :: _, _, _, .cons _ _, h => h.elim
  | .raw _ :: _, _, _, .cons _ _, h => h.elim
  | .bag :: _, _, _, .cons _ _, h => h.elim
def tLstD (t : DA) : DT := fun env P => t env fun us => allD us fun xs => xs.length ≤ 100000 ∧ P (.fr xs)
def tTupD (t : DA) : DT := fun env P => t env fun us => allD us fun xs => xs.length ≤ 100000 ∧ P (.d (.tuple xs))
theorem d_lst (h : DPA X w es t) : DPE X w (.List es pos) (tLstD t) := pe_weak (pe_lst h) fun σ H Q ⟨env, F, P, r, h, q⟩ => ⟨env, F, _, r, h, fun dvs vs F1 H1 s1 r1 h1 => by
  obtain ⟨xs, q1, hz, hp⟩ := allD_ok r1 h1
  exact ⟨by rw [q1.len]; exact lim_le hz, res_new s1.wd q1 (fun dv v F2 H2 s2 r2 h2 => q dv v F2 H2 (s1.trans s2) (r2.early s1) h2) hp⟩⟩
theorem d_tup {x1} (h : DPA X w es t) : DPE X w (.Tuple es x1 pos) (tTupD t) := pe_weak (pe_tup h) fun σ H Q ⟨env, F, P, r, h, q⟩ => ⟨env, F, _, r, h, fun dvs vs F1 H1 s1 r1 h1 => by
  obtain ⟨xs, q1, hz, hp⟩ := allD_ok r1 h1
  exact ⟨by rw [q1.len]; exact lim_le hz, res_newT s1.wd q1 (fun dv v F2 H2 s2 r2 h2 => q dv v F2 H2 (s1.trans s2) (r2.early s1) h2) hp⟩⟩
/-! ### an item -/
variable {a b : Expr} {ta tb : DT}
def gIx : G2 := fun x y P => match x, y with
  | .list xs, .int i => match atI xs i with
    | some z => P (.d z)
    | none => False
  | .tuple xs, .int i => match atI xs i with
    | some z => P (.d z)
    | none => False
  | .str z, .int i => z.length ≤ 100000 ∧ match atI z.cps.toList i with
    | some c => P (.d (.str ⟨#[c]⟩))
    | none => False
  | _, _ => False
theorem at_rp {K : PySem.W.Frag} {F : Hp} {vs : List V} {xs : List PyData} {i : Int} {z : PyData} (r : RpA K F vs xs) (h : atI xs i = some z) : ∃ v, atI vs i = some v ∧ Rp K F v z := by
  unfold atI at h ⊢
  rw [r.len]
  cases e : ixN xs.length i with
  | none => rw [e] at h; cases h
  | some j =>
    rw [e] at h
    exact r.get h
theorem ix_all : IxR X (lR X.K w.b gIx) := by
  intro value slice pins s σ H x y v u Q I rx ry h hs
  obtain ⟨F, dx, dy, P, wd, hx, hy, g, q⟩ := h
  unfold gIx at g
  split at g
  · obtain ⟨l, vs, rfl, e, r⟩ := hx.lst wd.sub
    cases hy.int
    split at g
    · next z ez =>
      obtain ⟨v1, e1, r1⟩ := at_rp r ez
      exact ix_list value slice pins s σ H _ _ v u Q I rx ry ⟨l, vs, _, v1, rfl, rfl, SqL.of e, e1, q _ _ F H wd.refl (res_d r1) g⟩ hs
    · exact g.elim
  · obtain ⟨l, vs, rfl, e, r⟩ := hx.tup wd.sub
    cases hy.int
    split at g
    · next z ez =>
      obtain ⟨v1, e1, r1⟩ := at_rp r ez
      exact ix_tup value slice pins s σ H _ _ v u Q I rx ry ⟨l, vs, _, v1, rfl, rfl, e, e1, q _ _ F H wd.refl (res_d r1) g⟩ hs
    · exact g.elim
  · cases hx.str
    cases hy.int
    obtain ⟨hz, g⟩ := g
    split at g
    · next z ez => exact ix_str value slice pins s σ H _ _ v u Q I rx ry ⟨_, _, z, rfl, rfl, lim_le hz, ez, q _ _ F H wd.refl (res_d (.str _)) g⟩ hs
    · exact g.elim
  · exact g.elim
theorem d_ix (ha : DPE X w a ta) (hb : DPE X w b tb) (hs : PlainIx b := by exact fun _ _ => rfl) : DPE X w (.Subscript a b pos) (tBin gIx ta tb) := pe_weak (pe_ix ix_all ha hb hs) fun _ _ _ h => bin_go h
end
end Dl
namespace Dl
open PySem PySem.Spec PyProof.Rows L2
/-! ### built-ins by values -/
abbrev GC := List DV → (DV → Prop) → Prop
def lC (K : PySem.W.Frag) (b : Bg) (g : GC) : List V → Hp → VK → Prop := fun vs H Q => ∃ F dvs P, Wd K b F H ∧ Paired (ArR K b F H) dvs vs ∧ g dvs P ∧ ∀ dv v F' H', Stp K b F H F' H' → Res K b H F' H' dv v → P dv → Q v H'
def tCallD (g : GC) (t : DA) : DT := fun env P => t env fun us => g us P
section
variable {K : PySem.W.Frag} {b : Bg} {F H F' H' Hz : Hp}
theorem arr_rr {dv : DV} {v : V} {k : PyData → Prop} (r : ArR K b F H dv v) (h : rd dv k) : ∃ x, Rr K b F H v x ∧ k x := by
  cases dv with
  | d x => exact ⟨x, .d r, h⟩
  | fr xs => exact False.elim r
  | ow l xs =>
    obtain ⟨rfl, hf, ne, vs, hp, q⟩ := r
    exact ⟨_, .o hf ne hp q, h⟩
  | raw u => exact False.elim h
  | bag => exact False.elim h
  | ft x => exact False.elim r
  | tr p S x => exact False.elim h
def one : List DV → (DV → Prop) → Prop
  | [x], k => k x
  | _, _ => False
def two : List DV → (DV → DV → Prop) → Prop
  | [x, y], k => k x y
  | _, _ => False
theorem one_ok {R : DV → V → Prop} {dvs : List DV} {vs : List V} {k : DV → Prop} (r : Paired R dvs vs) (h : one dvs k) : ∃ x v, vs = [v] ∧ R x v ∧ k x := by
  unfold one at h
  split at h
  · cases r with | cons a t => cases t; exact ⟨_, _, rfl, a, h⟩
  · exact h.elim
theorem two_ok {R : DV → V → Prop} {dvs : List DV} {vs : List V} {k : DV → DV → Prop} (r : Paired R dvs vs) (h : two dvs k) : ∃ x y v u, vs = [v, u] ∧ R x v ∧ R y u ∧ k x y := by
  unfold two at h
  split at h
  · cases r with | cons a t => cases t with | cons a2 t => cases t; exact ⟨_, _, _, _, rfl, a, a2, h⟩
  · exact h.elim
end
section
variable {X : Cx} {w : Wn} {e : Expr} {es : List Expr} {t : DA} {x : Str} {p pos : Pos} {id T : String} {g : GC}
theorem callb_go {σ : L2.St} {H : Hp} {Q : VK} (h : lf X.K w (tCallD g t) σ H Q) : tCB (lC X.K w.b g) (lfA X.K w t) σ H Q := by
  obtain ⟨env, F, P, r, h, q⟩ := h
  exact ⟨env, F, _, r, h, fun dvs vs F1 H1 s1 r1 h1 => ⟨F1, dvs, P, s1.wd, r1, h1, fun dv v F2 H2 s2 r2 h2 => q dv v F2 H2 (s1.trans s2) (r2.early s1) h2⟩⟩
theorem d_callB (hc : CallR X (.builtin id) (lC X.K w.b g)) (gl : Gl X x) (gm : X.mg x = none) (gv : bootBuiltins x = some (.builtin id)) (ha : DPA X w (e :: es) t) (hn : x ≠ "__name__" := by decide) (db : (x == ("__debug__" : Str)) = false := by decide)
    (he : starEach (e :: es) X.env = (false, eval e X.env) :: starEach es X.env := by rfl) (hpl : (backTo pos (starEach es X.env)).any (·.1) = false := by rfl) : DPE X w (.Call (.Name x p) (e :: es) [] pos) (tCallD g t) :=
  pe_weak (pe_callB hc gl gm gv ha hn db he hpl) fun _ _ _ h => callb_go h
theorem d_callTy (hc : CallR X (.type T) (lC X.K w.b g)) (gl : Gl X x) (gm : X.mg x = none) (gv : bootBuiltins x = some (.type T)) (ha : DPA X w (e :: es) t) (hn : x ≠ "__name__" := by decide) (db : (x == ("__debug__" : Str)) = false := by decide)
    (he : starEach (e :: es) X.env = (false, eval e X.env) :: starEach es X.env := by rfl) (hpl : (backTo pos (starEach es X.env)).any (·.1) = false := by rfl) : DPE X w (.Call (.Name x p) (e :: es) [] pos) (tCallD g t) :=
  pe_weak (pe_callTy hc gl gm gv ha hn db he hpl) fun _ _ _ h => callb_go h
theorem d_callM (hc : CallR X (.builtin id) (lC X.K w.b g)) (gl : Gl X x) (gm : X.mg x = some (.builtin id)) (ha : DPA X w (e :: es) t) (db : (x == ("__debug__" : Str)) = false := by decide)
    (he : starEach (e :: es) X.env = (false, eval e X.env) :: starEach es X.env := by rfl) (hpl : (backTo pos (starEach es X.env)).any (·.1) = false := by rfl) : DPE X w (.Call (.Name x p) (e :: es) [] pos) (tCallD g t) :=
  pe_weak (pe_callBfun hc gl gm ha db he hpl) fun _ _ _ h => callb_go h
def cLen : GC := fun us P => one us fun u => rd u fun x => match x with
  | .list xs => P (.d (.int xs.length))
  | .tuple xs => P (.d (.int xs.length))
  | .str z => z.length ≤ 100000 ∧ P (.d (.int z.length))
  | _ => False
theorem k_len : CallR X (.builtin "len") (lC X.K w.b cLen) := by
  intro pins s σ H vs us Q I r h
  obtain ⟨F, dvs, P, wd, ar, g, q⟩ := h
  obtain ⟨u, v, rfl, a, g⟩ := one_ok ar g
  obtain ⟨x, hx, g⟩ := arr_rr a g
  split at g
  · obtain ⟨l, vs, rfl, e, r1⟩ := hx.lst wd.sub
    exact call_len_seq pins s σ H _ us Q I r ⟨l, vs, rfl, .inl (SqL.of e), by rw [r1.len]; exact q _ _ F H wd.refl (res_d (.int _)) g⟩
  · obtain ⟨l, vs, rfl, e, r1⟩ := hx.tup wd.sub
    exact call_len_seq pins s σ H _ us Q I r ⟨l, vs, rfl, .inr e, by rw [r1.len]; exact q _ _ F H wd.refl (res_d (.int _)) g⟩
  · cases hx.str
    exact call_len_str pins s σ H _ us Q I r ⟨_, rfl, lim_le g.1, q _ _ F H wd.refl (res_d (.int _)) g.2⟩
  · exact g.elim
def cAbs : GC := fun us P => one us fun u => rd u fun x => match x with
  | .int i => P (.d (.int i.natAbs))
  | _ => False
theorem k_abs : CallR X (.builtin "abs") (lC X.K w.b cAbs) := by
  intro pins s σ H vs us Q I r h
  obtain ⟨F, dvs, P, wd, ar, g, q⟩ := h
  obtain ⟨u, v, rfl, a, g⟩ := one_ok ar g
  obtain ⟨x, hx, g⟩ := arr_rr a g
  split at g
  · next i =>
    cases hx.int
    refine call_abs pins s σ H _ us Q I r ⟨i, rfl, ?_⟩
    have e : (if i < 0 then -i else i) = (i.natAbs : Int) := by split <;> omega
    rw [e]
    exact q _ _ F H wd.refl (res_d (.int _)) g
  · exact g.elim
def cMin (f : Int → Int → Int) : GC := fun us P => two us fun u z => rd u fun x => rd z fun y => match x, y with
  | .int i, .int j => P (.d (.int (f i j)))
  | _, _ => False
theorem k_min (hc : X.calm = true) : CallR X (.builtin "min") (lC X.K w.b (cMin min)) := by
  intro pins s σ H vs us Q I r h
  obtain ⟨F, dvs, P, wd, ar, g, q⟩ := h
  obtain ⟨u, z, v1, v2, rfl, a1, a2, g⟩ := two_ok ar g
  obtain ⟨x, hx, g⟩ := arr_rr a1 g
  obtain ⟨y, hy, g⟩ := arr_rr a2 g
  split at g
  · cases hx.int
    cases hy.int
    refine call_min2 hc pins s σ H _ us Q I r ⟨_, _, rfl, ?_⟩
    have e : ∀ i j : Int, (if j < i then j else i) = min i j := fun i j => by split <;> omega
    rw [e]
    exact q _ _ F H wd.refl (res_d (.int _)) g
  · exact g.elim
theorem k_max (hc : X.calm = true) : CallR X (.builtin "max") (lC X.K w.b (cMin max)) := by
  intro pins s σ H vs us Q I r h
  obtain ⟨F, dvs, P, wd, ar, g, q⟩ := h
  obtain ⟨u, z, v1, v2, rfl, a1, a2, g⟩ := two_ok ar g
  obtain ⟨x, hx, g⟩ := arr_rr a1 g
  obtain ⟨y, hy, g⟩ := arr_rr a2 g
  split at g
  · cases hx.int
    cases hy.int
    refine call_max2 hc pins s σ H _ us Q I r ⟨_, _, rfl, ?_⟩
    have e : ∀ i j : Int, (if j > i then j else i) = max i j := fun i j => by split <;> omega
    rw [e]
    exact q _ _ F H wd.refl (res_d (.int _)) g
  · exact g.elim
def cInt : GC := fun us P => one us fun u => rd u fun x => match x with
  | .int i => P (.d (.int i))
  | .bool c => P (.d (.int (if c then 1 else 0)))
  | _ => False
theorem k_int : CallR X (.type "int") (lC X.K w.b cInt) := by
  intro pins s σ H vs us Q I r h
  obtain ⟨F, dvs, P, wd, ar, g, q⟩ := h
  obtain ⟨u, v, rfl, a, g⟩ := one_ok ar g
  obtain ⟨x, hx, g⟩ := arr_rr a g
  split at g
  · cases hx.int
    exact call_int1 pins s σ H _ us Q I r (.inl ⟨_, rfl, q _ _ F H wd.refl (res_d (.int _)) g⟩)
  · cases hx.bl
    exact call_int1 pins s σ H _ us Q I r (.inr ⟨_, rfl, q _ _ F H wd.refl (res_d (.int _)) g⟩)
  · exact g.elim
def cGcd : GC := fun us P => two us fun u z => rd u fun x => rd z fun y => match x, y with
  | .int i, .int j => P (.d (.int ((Nat.gcd i.natAbs j.natAbs : Nat) : Int)))
  | _, _ => False
theorem k_gcd : CallR X (.builtin "math.gcd") (lC X.K w.b cGcd) := by
  intro pins s σ H vs us Q I r h
  obtain ⟨F, dvs, P, wd, ar, g, q⟩ := h
  obtain ⟨u, z, v1, v2, rfl, a1, a2, g⟩ := two_ok ar g
  obtain ⟨x, hx, g⟩ := arr_rr a1 g
  obtain ⟨y, hy, g⟩ := arr_rr a2 g
  split at g
  · cases hx.int
    cases hy.int
    exact cr_gcd pins s σ H _ us Q I r ⟨_, _, rfl, q _ _ F H wd.refl (res_d (.int _)) g⟩
  · exact g.elim
def cList : GC := fun us P => one us fun u => rd u fun x => match x with
  | .list xs => P (.fr xs)
  | .tuple xs => P (.fr xs)
  | _ => False
theorem k_list : CallR X (.type "list") (lC X.K w.b cList) := by
  intro pins s σ H vs us Q I r h
  obtain ⟨F, dvs, P, wd, ar, g, q⟩ := h
  obtain ⟨u, v, rfl, a, g⟩ := one_ok ar g
  obtain ⟨x, hx, g⟩ := arr_rr a g
  split at g
  · obtain ⟨l, vs, rfl, e, r1⟩ := hx.lst wd.sub
    exact call_list_of pins s σ H _ us Q I r ⟨l, vs, rfl, .inl (SqL.of e), res_new wd r1 q g⟩
  · obtain ⟨l, vs, rfl, e, r1⟩ := hx.tup wd.sub
    exact call_list_of pins s σ H _ us Q I r ⟨l, vs, rfl, .inr e, res_new wd r1 q g⟩
  · exact g.elim
/-! isinstance -/
def tyN : PyData → String
  | .none => "NoneType"
  | .bool _ => "bool"
  | .int _ => "int"
  | .str _ => "str"
  | .list _ => "list"
  | .tuple _ => "tuple"
  | .dict _ => "dict"
/-- an object of a class of the module -/
def isOb : PyData → Bool
  | .dict ((.none, _) :: _) => true
  | _ => false
theorem obD_isOb (c : Str) (ds : List (Str × PyData)) : isOb (obD c ds) = true := rfl
theorem dct_isOb {K : PySem.W.Frag} {F : Hp} {kvs : List (Key × V)} {ks xs : List PyData} (r : RpA K F (kvs.map fun p => kV p.1) ks) : isOb (.dict (ks.zip xs)) = false := by
  match kvs, ks, xs, r with
  | [], _, _, .nil => rfl
  | (k, v) :: _, x :: _, y :: _, .cons a _ =>
    cases x with
    | none => cases k <;> cases a
    | _ => rfl
  | _ :: _, _ :: _, [], _ => rfl
def isA (n : String) : PyData → Bool
  | .none => n == "NoneType"
  | .bool _ => n == "bool" || n == "int"
  | .int _ => n == "int"
  | .str _ => n == "str"
  | .list _ => n == "list"
  | .tuple _ => n == "tuple"
  | .dict kvs => n == "dict" && !isOb (.dict kvs)
def cIsi (n : String) : GC := fun us P => two us fun u z => rd u fun x => match z with
  | .raw (.ty m) => m = n ∧ P (.d (.bool (isA n x)))
  | _ => False
theorem kit_all {n : String} (hn : n = "int" ∨ n = "bool" ∨ n = "str" ∨ n = "list" ∨ n = "tuple" ∨ n = "dict") (x : PyData) (hx : isOb x = false) : kitB (tyN x) n = some (isA n x) := by
  rcases hn with rfl | rfl | rfl | rfl | rfl | rfl <;> cases x <;> (simp only [tyN, isA, hx, Bool.not_false, Bool.and_true]; decide +kernel)
theorem ty_isa {K : PySem.W.Frag} {b : Bg} {F H : Hp} {v : V} {x : PyData} {n : String} (hn : n = "int" ∨ n = "bool" ∨ n = "str" ∨ n = "list" ∨ n = "tuple" ∨ n = "dict") (s : Same F H) (h : Rr K b F H v x) : ∃ t, TyX K H v t ∧ PySem.W.kitOne K t (.type n) = some (isA n x) := by
  cases x with
  | none => cases h.non; exact ⟨_, .base .non, kit_ty (kit_all hn .none rfl)⟩
  | bool c => cases h.bl; exact ⟨_, .base (.bl _), kit_ty (kit_all hn (.bool c) rfl)⟩
  | int c => cases h.int; exact ⟨_, .base (.int _), kit_ty (kit_all hn (.int c) rfl)⟩
  | str c => cases h.str; exact ⟨_, .base (.str _), kit_ty (kit_all hn (.str c) rfl)⟩
  | list xs => obtain ⟨l, vs, rfl, e, r⟩ := h.lst s; exact ⟨_, .base (.lst e), kit_ty (kit_all hn (.list xs) rfl)⟩
  | tuple xs =>
    obtain ⟨l, vs, rfl, e, r⟩ := h.tup s
    refine ⟨_, ?_, kit_ty (kit_all hn (.tuple xs) rfl)⟩
    rcases e with (e | ⟨o, e⟩) | ⟨o, its, n, e, c, _⟩
    · exact .base (.tup e)
    · exact .fTuple e
    · exact .kTuple e c
  | dict kvs =>
    generalize e : PyData.dict kvs = z at h
    cases h with
    | d h =>
      cases h with
      | dct h r q => exact ⟨_, .base (.dK (s _ _ h)), kit_ty (kit_all hn _ (dct_isOb r))⟩
      | obj h hc _ _ r =>
        refine ⟨_, .base (.ins (s _ _ h) hc.cls hc.ha hc.hn hc.ht hc.hm), ?_⟩
        rw [hc.kit n hn]
        simp only [isA, obD, isOb, Bool.not_true, Bool.and_false]
      | _ => cases e
    | o => cases e
theorem k_isi {n : String} (hn : n = "int" ∨ n = "bool" ∨ n = "str" ∨ n = "list" ∨ n = "tuple" ∨ n = "dict") : CallR X (.builtin "isinstance") (lC X.K w.b (cIsi n)) := by
  intro pins s σ H vs us Q I r h
  obtain ⟨F, dvs, P, wd, ar, g, q⟩ := h
  obtain ⟨u, z, v1, v2, rfl, a1, a2, g⟩ := two_ok ar g
  obtain ⟨x, hx, g⟩ := arr_rr a1 g
  split at g
  · obtain ⟨e, g⟩ := g
    subst e
    cases (show v2 = V.ty _ from a2)
    obtain ⟨t, ty, kt⟩ := ty_isa hn wd.sub hx
    exact call_isi pins s σ H _ us Q I r ⟨v1, .ty _, _, _, _, rfl, .ty _, ty, kt, q _ _ F H wd.refl (res_d (.bl _)) g⟩
  · exact g.elim
end
/-! ### calls of the text's own defs -/
def Fg (P : Program) (w : World) (K : PySem.W.Frag) (mg : Str → Option Value) (base : Heap) (CX : CXT) (k : Nat) (f : Addr) (sp : Sp) : Prop :=
  ∀ (A : Around) (outer : List Env) (s : Shared) (H : Hp) (us : List Value) (vs : List V) (Q : VK) (E : XK), A.guards = some [] → Room k A → Env0 P w K mg base A outer s H → Vals vs us → sp vs H Q E →
    codeAny (model P w) A (.call (.ref f) { pos := us, kw := [] }) (CR CX outer P w H s Q E) s
/-- a promise in the data's words -/
abbrev DSp := List DV → (DV → Prop) → Prop
def AgR (K : PySem.W.Frag) (b : Bg) (F : Hp) : DV → V → Prop
  | .d x, v => Rp K F v x
  | .raw u, v => v = u
  | .bag, v => v = .ref b.b
  | _, _ => False
def Pm (K : PySem.W.Frag) (ts : List Addr) (sp : DSp) : Sp := fun vs H Q _ => ∃ b F dvs P, b.ts = ts ∧ Wd K b F H ∧ Paired (AgR K b F) dvs vs ∧ sp dvs P ∧ ∀ dv v F' H', Stp K b F H F' H' → Res K b H F' H' dv v → P dv → Q v H'
def dat : DV → DV
  | .ow _ xs => .d (.list xs)
  | .tr _ _ x => .d x
  | x => x
def owA : DV → List Addr
  | .ow l _ => [l]
  | .tr _ S _ => S
  | _ => []
def anyOw (us : List DV) : List Addr := us.flatMap owA
def okR (us : List DV) (r : DV) : Prop := anyOw us = [] ∨ match r with
  | .d x => noL x = true
  | .ft _ => True
  | _ => False
def tUse (sp : DSp) (t : DA) : DT := fun env P => t env fun us => sp (us.map dat) fun r => okR us r ∧ P r
section
variable {K : PySem.W.Frag} {b : Bg} {F H F' H' : Hp}
def shut (ls : List Addr) (F : Hp) : Hp := fun a => if a ∈ ls then none else F a
theorem args_open {dvs : List DV} {vs : List V} (r : Paired (ArR K b F H) dvs vs) : ∀ l ∈ anyOw dvs, F l = none ∧ l ≠ b.b ∧ ∃ o, H l = some o ∧ isM o = true := by
  induction r with
  | nil => intro l hl; cases hl
  | @cons dv v dvs vs a t ih =>
    intro l hl
    rcases List.mem_append.mp (show l ∈ owA dv ++ anyOw dvs from hl) with h | h
    · cases dv with
      | ow m xs =>
        obtain rfl : l = m := by simpa [owA] using h
        obtain ⟨_, hf, ne, ws, e, _⟩ := a
        exact ⟨hf, ne, _, e, rfl⟩
      | tr p S x =>
        have h : l ∈ S := h
        exact ⟨(a.1 l h).1, (a.1 l h).2, a.2.there l h⟩
      | ft x => simp [owA] at h
      | d x => simp [owA] at h
      | fr xs => simp [owA] at h
      | raw v => simp [owA] at h
      | bag => simp [owA] at h
    · exact ih l h
theorem args_dat {ls : List Addr} {dvs : List DV} {vs : List V} (r : Paired (ArR K b F H) dvs vs) (hs : Same F (opn ls F H)) (hl : ∀ l ∈ anyOw dvs, l ∈ ls) : Paired (AgR K b (opn ls F H)) (dvs.map dat) vs := by
  induction r with
  | nil => exact .nil
  | @cons dv v dvs vs a t ih =>
    refine .cons ?_ (ih fun l h => hl l (List.mem_append.mpr (.inr h)))
    cases dv with
    | d x => exact Rp.up hs a
    | raw u => exact a
    | bag => exact a
    | fr xs => exact a.elim
    | ow l xs =>
      obtain ⟨rfl, hf, ne, ws, e, q⟩ := a
      have : l ∈ ls := hl l (List.mem_append.mpr (.inl (by simp [owA])))
      refine Rp.lst ?_ (q.up hs)
      unfold opn
      rw [if_pos this]
      exact e
    | ft x => exact a.elim
    | tr p S x => exact a.2.open hs fun l m => hl l (List.mem_append.mpr (.inl m))
end
section
variable {K : PySem.W.Frag} {b : Bg} {F1 H1 F2 H2 : Hp} {ls : List Addr}
/-- behind a call: what was opened for it is shut again -/
theorem shut_ok (wd : Wd K b F1 H1) (op : ∀ l ∈ ls, F1 l = none ∧ l ≠ b.b ∧ ∃ o, H1 l = some o ∧ isM o = true) (s2 : Stp K b (opn ls F1 H1) H1 F2 H2) : Stp K b F1 H1 (shut ls F2) H2 ∧ ∀ a o, isM o = false → F2 a = some o → shut ls F2 a = some o := by
  have hs : Same F1 (opn ls F1 H1) := opn_same fun l hl => (op l hl).1
  refine ⟨⟨s2.keep, ⟨s2.bag.1, ?_, s2.bag.2.2.1, fun t m => ⟨by unfold shut; split; exact rfl; exact (s2.bag.2.2.2 t m).1, (s2.bag.2.2.2 t m).2⟩⟩, fun a o z => ?_, fun a o z => ?_, ?_, fun a z1 z2 => ?_, s2.tab⟩, fun a o hm z => ?_⟩
  · unfold shut
    rw [if_neg fun m => by have := wd.bag.2.1; rw [(op _ m).1] at this; cases this]
    exact s2.bag.2.1
  · unfold shut
    rw [if_neg fun m => by rw [(op a m).1] at z; cases z]
    exact s2.ex a o (hs a o z)
  · unfold shut at z
    split at z
    · cases z
    · exact s2.sub _ _ z
  · unfold shut
    split
    · rfl
    · exact s2.fb
  · unfold shut
    split
    · rfl
    · next m =>
      refine s2.new a ?_ z2
      unfold opn
      rw [if_neg m]
      exact z1
  · unfold shut
    rw [if_neg fun m => ?_]
    · exact z
    · obtain ⟨_, ne, ws, el, mm⟩ := op a m
      have h3 := s2.keep a ws ne (isM_tbl mm) el
      rw [s2.sub _ _ z] at h3
      cases h3
      rw [hm] at mm
      cases mm
theorem opened (wd : Wd K b F1 H1) (op : ∀ l ∈ ls, F1 l = none ∧ l ≠ b.b ∧ ∃ o, H1 l = some o ∧ isM o = true) : Wd K b (opn ls F1 H1) H1 := by
  have hs : Same F1 (opn ls F1 H1) := opn_same fun l hl => (op l hl).1
  refine ⟨wd.bag.up hs rfl (fun t _ h1 h2 => ⟨by
    unfold opn
    rw [if_neg (fun m => by
      obtain ⟨ps, z, _⟩ := h2
      obtain ⟨_, _, o, e, mm⟩ := op t m
      rw [e] at z
      cases z
      cases mm)]
    exact h1, h2⟩), fun a o z => ?_, ?_⟩
  · unfold opn at z
    split at z
    · exact z
    · exact wd.sub _ _ z
  · unfold opn
    rw [if_neg fun z => (op _ z).2.1 rfl]
    exact wd.fb
/-- what a call tells, told where its arguments are shut again -/
theorem okR_shut {us : List DV} {dv : DV} {v : V} (ok : okR us dv) (ne : anyOw us ≠ []) (h : ∀ a o, isM o = false → F2 a = some o → shut ls F2 a = some o) (rs : Res K b H1 F2 H2 dv v) : Res K b H1 (shut ls F2) H2 dv v := by
  rcases ok with ok | ok
  · exact absurd ok ne
  · cases dv with
    | d x => exact noL_up h ok rs
    | ft x =>
      obtain ⟨S, nd, k, q⟩ := rs
      exact ⟨S, nd, fun a m => ⟨(k a m).1, by unfold shut; split; rfl; exact (k a m).2.1, (k a m).2.2⟩, q.shut h⟩
    | fr xs => exact ok.elim
    | ow l xs => exact ok.elim
    | tr p S x => exact ok.elim
    | raw u => exact ok.elim
    | bag => exact ok.elim
theorem opn_nil : opn [] F1 H1 = F1 := by
  funext a
  unfold opn
  rw [if_neg (by simp)]
end
section
variable {X : Cx} {w : Wn} {CX : CXT} {k : Nat} {f : Addr} {sp : Sp} {ds : DSp} {E : XK} {x : Str} {e : Expr} {es : List Expr} {p pos : Pos} {t : DA}
theorem run_g {pins : List (Addr × Obj)} {σ : L2.St} {H : Hp} {s : Shared} {Q : VK} {us : List Value} {vs : List V} (Fk : Fg X.prog X.w X.K X.mg X.base CX k f sp) (ag : X.A.guards = some []) (room : Room k X.A) (ps : Passes CX X E)
    (I : L2.Inv X pins σ H s) (rv : Vals vs us) (want : sp vs H Q E) : wpAny (model X.prog X.w) X.A (call (.ref f) us) (EP X pins σ Q) X.xe s := by
  refine wpAny_call (codeAny_mono (Fk X.A X.stack s H us vs Q E ag room I.env0 rv want) fun res s2 got => ?_)
  match res, got with
  | .error u, got => exact ps pins σ H s u s2 I got
  | .ok (.ret u), got => exact I.after got
theorem d_use {ts : List Addr} (Fk : Fg X.prog X.w X.K X.mg X.base CX k f (Pm X.K ts ds)) (ht : w.b.ts = ts) (ag : X.A.guards = some []) (room : Room k X.A) (ps : Passes CX X E) (gl : Gl X x) (gm : X.mg x = some (.ref f)) (kp : PySem.W.keepIn X.K (.ref f) = true)
    (ha : DPA X w (e :: es) t) (db : (x == ("__debug__" : Str)) = false := by decide) (s1 : starEach (e :: es) X.env = (false, eval e X.env) :: starEach es X.env := by rfl) (s2 : (backTo pos (starEach es X.env)).any (·.1) = false := by rfl) :
    DPE X w (.Call (.Name x p) (e :: es) [] pos) (tUse ds t) := by
  have base : PE X (.Call (.Name x p) (e :: es) [] pos) (fun σ H Q => lfA X.K w t σ H fun vs H1 => Pm X.K ts ds vs H1 Q E) := by
    refine ⟨fun pins s σ H Q I want => wpAny_Call_Name_kw (ld_glob I gl gm ?_ db)⟩
    refine PySem.W.callWith_K (h₀ := X.base) I.ok.mod.kin kp ?_ s1 s2
    exact thn (ha.run pos pins s σ H _ I want) fun us st ⟨vs, H1, I1, rv, q⟩ => ⟨I1.kIn, run_g Fk ag room ps I1 rv q⟩
  refine pe_weak base fun σ H Q ⟨env, F, P, r, h, q⟩ => ⟨env, F, _, r, h, fun dvs vs F1 H1 st ar h1 => ?_⟩
  have op := args_open ar
  have hs : Same F1 (opn (anyOw dvs) F1 H1) := opn_same fun l hl => (op l hl).1
  refine ⟨w.b, opn (anyOw dvs) F1 H1, _, _, ht, opened st.wd op, args_dat ar hs (fun l hl => hl), h1, fun dv v F2 H2 s2 rs ⟨ok, hp⟩ => ?_⟩
  by_cases em : anyOw dvs = []
  · rw [em, opn_nil] at s2
    exact q dv v F2 H2 (st.trans s2) (rs.early st) hp
  · obtain ⟨sh, kp⟩ := shut_ok st.wd op s2
    exact q dv v _ H2 (st.trans sh) ((okR_shut ok em kp rs).early st) hp
end
end Dl
namespace Dl
open PySem PySem.Spec PyProof.Rows L2
section
variable {K : PySem.W.Frag} {b : Bg} {F₀ H₀ F H F' H' : Hp} {env : List Sl} {σ : L2.St}
theorem slA_ok {s : Sl} {o : Option (Option V)} (h : SlOk K b H₀ F H s o) : ∀ a ∈ slA s, H₀ a = none ∧ F a = none ∧ a ≠ b.b ∧ ∃ o, H a = some o ∧ isM o = true := by
  intro a m
  cases s with
  | ow l xs =>
    obtain ⟨_, h0, hf, ne, vs, hl, _⟩ := h
    obtain rfl : a = l := by simpa [slA] using m
    exact ⟨h0, hf, ne, _, hl, rfl⟩
  | tr p S x =>
    obtain ⟨v, _, _, k, _, q⟩ := h
    have m : a ∈ S := m
    exact ⟨(k a m).1, (k a m).2.1, (k a m).2.2, q.there a m⟩
  | un => simp [slA] at m
  | d x => simp [slA] at m
  | raw x => simp [slA] at m
  | bag => simp [slA] at m
theorem own_set {i : Nat} {z : Sl} (own : ∀ (i j : Nat) (s t : Sl) (a : Addr), env[i]? = some s → env[j]? = some t → a ∈ slA s → a ∈ slA t → i = j) (ow : ∀ a, a ∈ slA z → ∀ j s, j ≠ i → env[j]? = some s → a ∉ slA s) :
    ∀ (j k : Nat) (s t : Sl) (a : Addr), (env.set i z)[j]? = some s → (env.set i z)[k]? = some t → a ∈ slA s → a ∈ slA t → j = k := by
  intro j k s t a h1 h2 m1 m2
  rw [List.getElem?_set] at h1 h2
  by_cases e1 : i = j
  · by_cases e2 : i = k
    · exact e1.symm.trans e2
    · rw [if_pos e1] at h1
      rw [if_neg e2] at h2
      split at h1
      · cases h1
        exact absurd m2 (ow a m1 k t (Ne.symm e2) h2)
      · cases h1
  · rw [if_neg e1] at h1
    by_cases e2 : i = k
    · rw [if_pos e2] at h2
      split at h2
      · cases h2
        exact absurd m1 (ow a m2 j s (Ne.symm e1) h1)
      · cases h2
    · rw [if_neg e2] at h2
      exact own j k s t a h1 h2 m1 m2
theorem Rel.put (r : Rel K b F₀ H₀ env σ F H) (i : Nat) {z : Sl} {v : V} (ok : SlOk K b H₀ F H z (some (some v))) (ow : ∀ a, a ∈ slA z → ∀ j s, j ≠ i → env[j]? = some s → a ∉ slA s) :
    Rel K b F₀ H₀ (env.set i z) (σ.set i (some v)) F H := by
  refine ⟨by rw [List.length_set, List.length_set]; exact r.len, r.st, fun j s e => ?_, own_set r.own ow⟩
  rw [List.getElem?_set] at e ⊢
  by_cases h : i = j
  · subst h
    rw [if_pos rfl] at e ⊢
    by_cases hl : i < env.length
    · rw [if_pos hl] at e
      rw [if_pos (by rw [r.len]; exact hl)]
      cases e
      exact ok
    · rw [if_neg hl] at e
      cases e
  · rw [if_neg h] at e ⊢
    exact r.at' j s e
/-- what an owned slot holds is written -/
theorem Rel.wrtS (r : Rel K b F₀ H₀ env σ F H) {i : Nat} {s s' : Sl} (e : env[i]? = some s) {H' : Hp} (hk : ∀ a o, a ∉ slA s → H a = some o → H' a = some o) (hs : SlOk K b H₀ F H' s' σ[i]?)
    (ow : ∀ a, a ∈ slA s' → a ∈ slA s ∨ H a = none) : Rel K b F₀ H₀ (env.set i s') σ F H' := by
  have ok := slA_ok (r.at' i _ e)
  have hb : H' b.b = H b.b := by
    obtain ⟨vs, eb⟩ := r.st.bag.lst
    rw [eb]
    exact hk _ _ (fun m => (ok _ m).2.2.1 rfl) eb
  refine ⟨by rw [List.length_set]; exact r.len, ⟨fun a o n nt h => ?_, ?_, r.st.ex, fun a o h => ?_, r.st.fb, r.st.new, fun a ps n h => ?_⟩, fun j t h => ?_, own_set r.own fun a m j t nj ej => ?_⟩
  · exact hk a o (fun m => by rw [(ok a m).1] at h; cases h) (r.st.keep a o n nt h)
  · refine r.st.bag.up (fun _ _ h => h) hb fun t _ h1 h2 => ⟨h1, ?_⟩
    obtain ⟨ps, z, k⟩ := h2
    refine ⟨ps, hk _ _ (fun m => ?_) z, k⟩
    obtain ⟨_, _, _, o, ho, mo⟩ := ok t m
    rw [z] at ho
    cases ho
    cases mo
  · exact hk a o (fun m => by rw [(ok a m).2.1] at h; cases h) (r.st.sub a o h)
  · obtain ⟨qs, h1, k⟩ := r.st.tab a ps n h
    exact ⟨qs, hk _ _ (fun m => by rw [(ok a m).1] at h; cases h) h1, k⟩
  · rw [List.getElem?_set] at h
    by_cases hj : i = j
    · subst hj
      rw [if_pos rfl] at h
      split at h
      · cases h
        exact hs
      · cases h
    · rw [if_neg hj] at h
      have old := r.at' j t h
      have apart : ∀ a, a ∈ slA t → a ∉ slA s := fun a m1 m2 => hj (r.own i j _ _ a e h m2 m1)
      cases t with
      | un => exact old
      | d x => exact old
      | raw v => exact old
      | bag => exact old
      | ow m zs =>
        obtain ⟨e1, e2, e3, e4, ws, e5, e6⟩ := old
        exact ⟨e1, e2, e3, e4, ws, hk _ _ (apart m (by simp [slA])) e5, e6⟩
      | tr p S x =>
        obtain ⟨v, e1, nd, k, mr, q⟩ := old
        exact ⟨v, e1, nd, k, mr, q.up (fun _ _ z => z) fun a m o ho => hk a o (apart a m) ho⟩
  · rcases ow a m with m2 | m2
    · exact fun m3 => nj (r.own j i _ _ a ej e m3 m2)
    · intro m3
      obtain ⟨_, _, _, o, ho, _⟩ := slA_ok (r.at' j _ ej) a m3
      rw [m2] at ho
      cases ho
/-- the list of an owned slot is written -/
theorem Rel.wrt (r : Rel K b F₀ H₀ env σ F H) {i : Nat} {l : Addr} {xs ys : List PyData} {vs : List V} (e : env[i]? = some (.ow l xs)) (q : RpA K F vs ys) :
    Rel K b F₀ H₀ (env.set i (.ow l ys)) σ F (upd H l (.lst vs)) := by
  obtain ⟨es, h0, hf, ne, us, hl, _⟩ := r.at' i _ e
  exact r.wrtS e (fun a o n h => by rw [upd_ne (fun z => n (by simp [slA, z]))]; exact h) ⟨es, h0, hf, ne, vs, upd_same, q⟩ fun a m => .inl m
end
/-! ### statements -/
def stD (i : Nat) : DV → List Sl → (List Sl → Prop) → Prop
  | .d x, env, k => k (env.set i (.d x))
  | .fr xs, env, k => ∀ l, k (env.set i (.ow l xs))
  | .raw v, env, k => k (env.set i (.raw v))
  | .bag, env, k => k (env.set i .bag)
  | .ft x, env, k => ∀ S, k (env.set i (.tr true S x))
  | .ow _ _, _, _ => False
  | .tr _ _ _, _, _ => False
section
variable {X : Cx} {w : Wn} {e : Expr} {te : DT} {pos : Pos} {st : Stmt} {rest : List Stmt} {t u : DS}
theorem st_ok {σ : L2.St} {F H F1 H1 : Hp} {env : List Sl} {i : Nat} {dv : DV} {v : V} {k : List Sl → Prop} (r : RelW X.K w env σ F H) (s : Stp X.K w.b F H F1 H1) (rs : Res X.K w.b H F1 H1 dv v) (h : stD i dv env k) :
    ∃ env', RelW X.K w env' (σ.set i (some v)) F1 H1 ∧ k env' := by
  cases dv with
  | d x => exact ⟨_, (r.step s).put i (z := .d x) ⟨v, rfl, rs⟩ (fun a m => by cases m), h⟩
  | raw u =>
    obtain rfl : v = u := rs
    exact ⟨_, (r.step s).put i (z := .raw v) rfl (fun a m => by cases m), h⟩
  | bag =>
    obtain rfl : v = .ref w.b.b := rs
    exact ⟨_, (r.step s).put i (z := .bag) rfl (fun a m => by cases m), h⟩
  | ow l xs => exact h.elim
  | fr xs =>
    obtain ⟨p, vs, rfl, h0, hf, ne, hp, q⟩ := rs
    refine ⟨_, (r.step s).put i (z := .ow p xs) ⟨rfl, r.st.back ne h0, hf, ne, vs, hp, q⟩ (fun a m j t nj ej m2 => ?_), h p⟩
    obtain rfl : a = p := by simpa [slA] using m
    obtain ⟨_, _, _, o, e5, _⟩ := slA_ok (r.at' j _ ej) a m2
    rw [h0] at e5
    cases e5
  | ft x =>
    obtain ⟨S, nd, k, q⟩ := rs
    refine ⟨_, (r.step s).put i (z := .tr true S x) ⟨v, rfl, nd, fun a m => ⟨r.st.back (k a m).2.2 (k a m).1, (k a m).2⟩, q.root, q⟩ (fun a m j t nj ej m2 => ?_), h S⟩
    obtain ⟨_, _, _, o, e5, _⟩ := slA_ok (r.at' j _ ej) a m2
    rw [(k a m).1] at e5
    cases e5
  | tr p S x => exact h.elim
def tSetD (i : Nat) (te : DT) : DS := fun d env => te env fun dv => stD i dv env d.nx
theorem ds_set {x : Str} {i : Nat} {pos' : Pos} (hN : X.N.Nodup) (hi : X.N[i]? = some x) (hx : Loc X.env.scope x) (he : DPE X w e te) (hs : swapsWith e (some (.Name x pos')) pos.line X.env = pure false := by rfl)
    (hf : X.fn x = true ∨ X.env.scope.names.lookup x = some .local := by first | exact .inl rfl | exact .inr rfl) : DPS X w (.Assign [.Name x pos'] e pos) (tSetD i te) :=
  ps_weak (ps_set hN hi hx he hs hf) fun D σ H ⟨env, F, d, r, h, fit⟩ => ⟨env, F, _, r, h, fun dv v F1 H1 s1 r1 h1 => by
    obtain ⟨env', r2, k⟩ := st_ok r s1 r1 h1
    exact fit.nx env' _ F1 H1 r2 s1.ex k⟩
def tSeqD (t u : DS) : DS := fun d env => t { d with nx := u d } env
theorem dss_nil : DPSs X w [] (fun d env => d.nx env) := pss_weak pss_nil fun D σ H ⟨env, F, d, r, h, fit⟩ => fit.nx env σ F H r sm0 h
theorem dss_one (h : DPS X w st t) : DPSs X w [st] t := pss_one h
theorem dss_cons (h1 : DPS X w st t) (h2 : DPSs X w rest u) : DPSs X w (st :: rest) (tSeqD t u) :=
  pss_weak (pss_cons h1 h2) fun D σ H ⟨env, F, d, r, h, fit⟩ => ⟨env, F, _, r, h, ⟨fun env' σ' F' H' r' sm h' => ⟨env', F', d, r', h', fit.up sm⟩, fit.bk, fit.ct, fit.rt⟩⟩
theorem ds_pass : DPS X w (.Pass pos) (fun d env => d.nx env) := ps_weak ps_pass fun D σ H ⟨env, F, d, r, h, fit⟩ => fit.nx env σ F H r sm0 h
theorem ds_break : DPS X w (.Break pos) (fun d env => d.bk env) := ps_weak ps_break fun D σ H ⟨env, F, d, r, h, fit⟩ => fit.bk env σ F H r sm0 h
theorem ds_cont : DPS X w (.Continue pos) (fun d env => d.ct env) := ps_weak ps_continue fun D σ H ⟨env, F, d, r, h, fit⟩ => fit.ct env σ F H r sm0 h
theorem ds_doc {x j pos'} : DPS X w (.Expr (.Constant (.str x) j pos) pos') (fun d env => d.nx env) := ps_weak ps_doc fun D σ H ⟨env, F, d, r, h, fit⟩ => fit.nx env σ F H r sm0 h
theorem ds_never : DPS X w st (fun _ _ => False) := ps_weak ps_never fun D σ H ⟨env, F, d, r, h, fit⟩ => h
theorem dss_never {sts : List Stmt} : DPSs X w sts (fun _ _ => False) := pss_weak pss_never fun D σ H ⟨env, F, d, r, h, fit⟩ => h
def tDropD (te : DT) : DS := fun d env => te env fun _ => d.nx env
theorem ds_expr (he : DPE X w e te) (hs : swapsWith e none pos.line X.env = pure false := by rfl) : DPS X w (.Expr e pos) (tDropD te) :=
  ps_weak (ps_expr he hs) fun D σ H ⟨env, F, d, r, h, fit⟩ => ⟨env, F, _, r, h, fun dv v F1 H1 s1 r1 h1 => fit.nx env _ F1 H1 (r.step s1) s1.ex h1⟩
def tRetD (te : DT) : DS := fun d env => te env fun dv => match dv with
  | .ow _ _ => False
  | .tr _ _ _ => False
  | x => d.rt x
theorem Res.since {K : PySem.W.Frag} {b : Bg} {F₀ H₀ F H F2 H2 : Hp} (s : Stp K b F₀ H₀ F H) {dv : DV} {v : V} (r : Res K b H F2 H2 dv v) : Res K b H₀ F2 H2 dv v := r.early s
theorem ds_ret (he : DPE X w e te) : DPS X w (.Return (some e) pos) (tRetD te) :=
  ps_weak (ps_ret he) fun D σ H ⟨env, F, d, r, h, fit⟩ => ⟨env, F, _, r, h, fun dv v F1 H1 s1 r1 h1 => by
    refine fit.rt dv v F1 H1 (r.st.trans s1) (r1.since r.st) ?_
    cases dv with
    | ow l xs => exact h1.elim
    | d x => exact h1
    | fr x => exact h1
    | ft x => exact h1
    | tr p S x => exact h1.elim
    | raw x => exact h1
    | bag => exact h1⟩
def tRetVD (i : Nat) : DS := fun d env => match env[i]? with
  | some (.ow _ xs) => d.rt (.fr xs)
  | some (.d x) => d.rt (.d x)
  | some (.raw v) => d.rt (.raw v)
  | _ => False
theorem ds_retV (i : Nat) {x : Str} {p : Pos} (hN : X.N[i]? = some x := by rfl) (hv : Vis X.env.scope x := by first | exact Or.inl rfl | exact Or.inr (Or.inl rfl) | exact Or.inr (Or.inr rfl)) (hd : (x == ("__debug__" : Str)) = false := by decide) (hc : (x == ("__classdict__" : Str)) = false := by decide) :
    DPS X w (.Return (some (.Name x p)) pos) (tRetVD i) :=
  ps_weak (ps_ret (pe_var hN hv hd hc)) fun D σ H ⟨env, F, d, r, h, fit⟩ => by
    unfold tRetVD at h
    split at h
    · next l xs e =>
      obtain ⟨e1, h0, hf, ne, vs, hl, q⟩ := r.at' i _ e
      exact ⟨_, e1, fit.rt (.fr xs) _ F H r.st ⟨l, vs, rfl, h0, hf, ne, hl, q⟩ h⟩
    · next x e =>
      obtain ⟨v, e1, r1⟩ := r.at' i _ e
      exact ⟨v, e1, fit.rt (.d x) v F H r.st r1 h⟩
    · next v e => exact ⟨v, r.at' i _ e, fit.rt (.raw v) v F H r.st rfl h⟩
    · exact h.elim
theorem ds_retN : DPS X w (.Return none pos) (fun d _ => d.rt (.d .none)) := ps_weak ps_retN fun D σ H ⟨env, F, d, r, h, fit⟩ => fit.rt (.d .none) .non F H r.st Rp.non h
variable {c : Expr} {tc : DTT} {as bs : List Stmt}
def tIfD (c : DTT) (t u : DS) : DS := fun d env => c env fun k => if k = true then t d env else u d env
theorem ds_if (hc : DPT X w c tc) (ha : DPSs X w as t) (hb : DPSs X w bs u) : DPS X w (.If c as bs pos) (tIfD tc t u) :=
  ps_weak (ps_if hc ha hb) fun D σ H ⟨env, F, d, r, h, fit⟩ => ⟨env, F, _, r, h, fun k F1 H1 s1 h1 => by
    cases k with
    | true => exact ⟨env, F1, d, r.step s1, h1, fit.up s1.ex⟩
    | false => exact ⟨env, F1, d, r.step s1, h1, fit.up s1.ex⟩⟩
/-- an owned list becomes data for good, ahead of a statement -/
def frzS (i : Nat) (env : List Sl) : List Sl := match env[i]? with
  | some (.ow _ xs) => env.set i (.d (.list xs))
  | some (.tr _ _ x) => env.set i (.d x)
  | _ => env
theorem frz_rel {K : PySem.W.Frag} {w : Wn} {env : List Sl} {σ : L2.St} {F H : Hp} (i : Nat) (r : RelW K w env σ F H) : ∃ F2, RelW K w (frzS i env) σ F2 H ∧ Same F F2 := by
  unfold frzS
  split
  · next l xs e =>
    obtain ⟨e1, h0, hf, ne, vs, hl, q⟩ := r.at' i _ e
    have st := r.st.freeze h0 hf ne hl
    have up : Same F (upd F l (.lst vs)) := same_laid hf
    refine ⟨_, ⟨by rw [List.length_set]; exact r.len, st, fun j s h => ?_, own_set r.own fun a m => by cases m⟩, up⟩
    rw [List.getElem?_set] at h
    by_cases hj : i = j
    · subst hj
      rw [if_pos rfl] at h
      split at h
      · cases h
        exact ⟨_, e1, Rp.lst upd_same (q.up up)⟩
      · cases h
    · rw [if_neg hj] at h
      have old := r.at' j s h
      have apart : l ∉ slA s := fun m => hj (r.own i j _ _ l e h (by simp [slA]) m)
      cases s with
      | un => exact old
      | d x => obtain ⟨v, a1, a2⟩ := old; exact ⟨v, a1, a2.up up⟩
      | raw v => exact old
      | bag => exact old
      | ow m zs =>
        obtain ⟨e1, e2, e3, e4, ws, e5, e6⟩ := old
        have ml : m ≠ l := fun z => apart (by simp [slA, z])
        exact ⟨e1, e2, by rw [upd_ne ml]; exact e3, e4, ws, e5, e6.up up⟩
      | tr p S x =>
        obtain ⟨v, e1, nd, k, mr, q⟩ := old
        refine ⟨v, e1, nd, fun a m => ⟨(k a m).1, ?_, (k a m).2.2⟩, mr, q.up up fun _ _ _ z => z⟩
        rw [upd_ne (fun z => apart (show l ∈ S by rw [← z]; exact m))]
        exact (k a m).2.1
  · next p S x e =>
    obtain ⟨v, e1, nd, k, mr, q⟩ := r.at' i _ e
    have st := r.st.freezeT k q.there
    have up : Same F (opn S F H) := opn_same fun l m => (k l m).2.1
    refine ⟨_, ⟨by rw [List.length_set]; exact r.len, st, fun j s h => ?_, own_set r.own fun a m => by cases m⟩, up⟩
    rw [List.getElem?_set] at h
    by_cases hj : i = j
    · subst hj
      rw [if_pos rfl] at h
      split at h
      · cases h
        exact ⟨_, e1, q.open up fun _ m => m⟩
      · cases h
    · rw [if_neg hj] at h
      have old := r.at' j s h
      have apart : ∀ a ∈ S, a ∉ slA s := fun a m1 m2 => hj (r.own i j _ _ a e h m1 m2)
      have out : ∀ a ∈ slA s, F a = none → opn S F H a = none := fun a m h0 => by
        unfold opn
        rw [if_neg fun m2 => apart a m2 m]
        exact h0
      cases s with
      | un => exact old
      | d x => obtain ⟨v, a1, a2⟩ := old; exact ⟨v, a1, a2.up up⟩
      | raw v => exact old
      | bag => exact old
      | ow m zs =>
        obtain ⟨e1, e2, e3, e4, ws, e5, e6⟩ := old
        exact ⟨e1, e2, out m (by simp [slA]) e3, e4, ws, e5, e6.up up⟩
      | tr p' T y =>
        obtain ⟨v, e1, nd, k, mr, q⟩ := old
        exact ⟨v, e1, nd, fun a m => ⟨(k a m).1, out a m (k a m).2.1, (k a m).2.2⟩, mr, q.up up fun _ _ _ z => z⟩
  · exact ⟨F, r, sm0⟩
theorem ds_frz (i : Nat) (h : DPS X w st t) : DPS X w st (fun d env => t d (frzS i env)) := ps_weak h fun D σ H ⟨env, F, d, r, h, fit⟩ => by
  obtain ⟨F2, r2, sm⟩ := frz_rel i r
  exact ⟨_, F2, d, r2, h, fit.up sm⟩
/-- xs.append(e) -/
def tAppD (i : Nat) (te : DT) : DS := fun d env => match env[i]? with
  | some (.ow l xs) => xs.length < 100000 ∧ te env fun dv => match frz dv with
    | .d x => d.nx (env.set i (.ow l (xs ++ [x])))
    | _ => False
  | _ => False
theorem ds_app {i : Nat} (base : PE X e (tBM X.K "list" rAppend (tVar i) (tCons (lf X.K w te) tNil))) (hs : swapsWith e none pos.line X.env = pure false := by rfl) : DPS X w (.Expr e pos) (tAppD i te) :=
  ps_weak (ps_expr base hs) fun D σ H ⟨env, F, d, r, h, fit⟩ => by
    unfold tAppD at h
    split at h
    · next l xs ei =>
      obtain ⟨e1, _, _, _, vs, hl, _⟩ := r.at' i _ ei
      obtain ⟨hz, h⟩ := h
      refine ⟨_, e1, .inl ⟨rfl, vs, SqL.of hl⟩, env, F, _, r, h, fun dv v F1 H1 s1 r1 h1 => ?_⟩
      obtain ⟨F2, s2, a2⟩ := frz_ok s1 r1
      have r2 := r.step s2
      obtain ⟨_, _, _, _, us, hl2, q2⟩ := r2.at' i _ ei
      split at h1
      · next x ex =>
        rw [ex] at a2
        refine ⟨l, us, v, rfl, rfl, hl2, by rw [q2.len]; exact lim_lt hz, ?_⟩
        exact fit.nx _ _ F2 _ (r2.wrt ei (q2.app (.cons a2 .nil))) s2.ex h1
      · exact h1.elim
    · exact h.elim
/-- xs[i] = e, xs an owned list -/
def tSetI (i : Nat) (ti te : DT) : DS := fun d env => te env fun dv => match frz dv, env[i]? with
  | .d x, some (.ow l xs) => ti env fun k => rd k fun y => match y with
    | .int j => match ixN xs.length j with
      | some m => d.nx (env.set i (.ow l (xs.set m x)))
      | none => False
    | _ => False
  | _, _ => False
theorem ds_seti {i : Nat} {ti : DT} {ix o : Expr} {p : Pos} (he : DPE X w e te) (ho : PE X o (tVar i)) (hi : DPE X w ix ti) (hp : PG X (.Subscript o ix p) (gSub (tVar i) (lf X.K w ti) rSetL)) (hs : swapsWithSole [.Subscript o ix p] e pos.line X.env = pure false := by rfl) (hw : swappedStores [.Subscript o ix p] e X.env = pure none := by rfl) :
    DPS X w (.Assign [.Subscript o ix p] e pos) (tSetI i ti te) :=
  ps_weak (ps_asg he hp hs hw) fun D σ H ⟨env, F, d, r, h, fit⟩ => ⟨env, F, _, r, h, fun dv v F1 H1 s1 r1 h1 => by
    obtain ⟨F2, s2, a2⟩ := frz_ok s1 r1
    have r2 := r.step s2
    split at h1
    · next x l xs ex ei =>
      rw [ex] at a2
      obtain ⟨e1, _, _, _, us, hl2, q2⟩ := r2.at' i _ ei
      refine ⟨_, e1, env, F2, _, r2, h1, fun k u F3 H3 s3 r3 h3 => ?_⟩
      obtain ⟨y, y1, h3⟩ := rd_ok r3 h3
      split at h3
      · next j =>
        obtain rfl := y1.int
        split at h3
        · next m em =>
          have r4 := r2.step s3
          obtain ⟨_, _, _, _, ws, hl4, q4⟩ := r4.at' i _ ei
          refine ⟨l, ws, j, m, rfl, rfl, hl4, by rw [q4.len]; exact em, ?_⟩
          exact fit.nx _ _ F3 _ (r4.wrt ei (q4.set (Rp.up s3.ex a2) m)) (s2.ex.trans s3.ex) h3
        · exact h3.elim
      · exact h3.elim
    · exact h1.elim⟩
end
/-! ### loops -/
def forD (g : PyData → List Sl → (List Sl → Prop) → Prop) (tb : DS) (d : DK) : List PyData → List Sl → Prop
  | [], env => d.nx env
  | x :: xs, env => g x env fun e2 => tb { d with nx := forD g tb d xs, ct := forD g tb d xs, bk := d.nx } e2
def whD (tc : DTT) (tb : DS) (d : DK) : Nat → List Sl → Prop
  | 0, _ => False
  | n + 1, env => tc env fun k => if k = true then tb { d with nx := whD tc tb d n, ct := whD tc tb d n, bk := d.nx } env else d.nx env
abbrev DG := PyData → List Sl → (List Sl → Prop) → Prop
def lfG (K : PySem.W.Frag) (w : Wn) (g : DG) : TG := fun v σ H Q => ∃ env F x k, RelW K w env σ F H ∧ Rp K F v x ∧ g x env k ∧ ∀ env' σ' F' H', RelW K w env' σ' F' H' → Same F F' → k env' → Q σ' H'
/-- what is walked: J gives xs, one by one -/
structure Wlk (K : PySem.W.Frag) (b : Bg) (F : Hp) (J : It) (xs : List PyData) : Prop where
  ex : ∃ (G : Hp → Prop) (Y : Nat → Hp → V → Hp → Prop), Walk J xs.length G Y ∧ (∀ F' H', Same F F' → Wd K b F' H' → G H') ∧
    ∀ i F' H' v H2, Same F F' → Wd K b F' H' → Y i H' v H2 → ∃ F2 x, Stp K b F' H' F2 H2 ∧ xs[i]? = some x ∧ Rp K F2 v x
abbrev DIt := List Sl → (List PyData → Prop) → Prop
def lfI (K : PySem.W.Frag) (w : Wn) (t : DIt) : TI := fun σ H R => ∃ env F P, RelW K w env σ F H ∧ t env P ∧ ∀ xs J F' H', Stp K w.b F H F' H' → Wlk K w.b F' J xs → P xs → R J H'
section
variable {X : Cx} {w : Wn} {c e : Expr} {tc : DTT} {as : List Stmt} {pos : Pos} {tb : DS}
def tWhD (tc : DTT) (tb : DS) : DS := fun d env => ∃ n, whD tc tb d n env
theorem ds_while (hp : PassesOwn (model X.prog X.w) X.A X.env X.xe) (hc : DPT X w c tc) (hb : DPSs X w as tb) : DPS X w (.While c as [] pos) (tWhD tc tb) :=
  ps_weak (ps_while hp hc hb) fun D σ H ⟨env, F, d, r, ⟨n, h⟩, fit⟩ => by
    refine ⟨fun m σ H => ∃ env F', RelW X.K w env σ F' H ∧ Same F F' ∧ whD tc tb d m env, ⟨n, env, F, r, sm0, h⟩, ?_⟩
    rintro m σ H ⟨env, F2, r, sm, h⟩
    cases m with
    | zero => exact h.elim
    | succ m =>
      refine ⟨env, F2, _, r, h, fun k F1 H1 s1 h1 => ?_⟩
      cases k with
      | false => exact fit.nx env σ F1 H1 (r.step s1) (sm.trans s1.ex) h1
      | true =>
        refine ⟨fun σ' H' => ∃ env F', RelW X.K w env σ' F' H' ∧ Same F F' ∧ whD tc tb d m env, fun σ' H' h' => ⟨m, Nat.lt_succ_self m, h'⟩, env, F1, _, r.step s1, h1, ?_⟩
        have up := (fit.up sm).up s1.ex
        have sb := sm.trans s1.ex
        exact ⟨fun env' σ' F' H' r' sm' h' => ⟨env', F', r', sb.trans sm', h'⟩, up.nx, fun env' σ' F' H' r' sm' h' => ⟨env', F', r', sb.trans sm', h'⟩, fit.rt⟩
def tForD (g : DG) (ti : DIt) (tb : DS) : DS := fun d env => ti env fun xs => forD g tb d xs env
theorem ds_for {tg iter : Expr} {g : DG} {ti : DIt} (hp : PassesOwn (model X.prog X.w) X.A X.env X.xe) (hc : X.calm = true) (hi : PI X tg iter (lfI X.K w ti)) (hg : PG X tg (lfG X.K w g)) (hb : DPSs X w as tb)
    (hs : ∀ x, foldedSetIterable iter X.env x = pure x := by intro _; rfl) : DPS X w (.For tg iter as [] pos) (tForD g ti tb) :=
  ps_weak (ps_for hp hc hi hg hb hs) fun D σ H ⟨env, F, d, r, h, fit⟩ => by
    refine ⟨env, F, _, r, h, fun xs J F1 H1 s1 wl h1 => ?_⟩
    obtain ⟨G, Y, wk, hG, hY⟩ := wl.ex
    refine for_it wk (fun i σ H => ∃ env F, RelW X.K w env σ F H ∧ Same F1 F ∧ forD g tb d (xs.drop i) env) ⟨env, F1, r.step s1, fun _ _ z => z, h1⟩ (fun i σ H _ ⟨env, F, r, sm, _⟩ => hG F H sm r.wd) (fun i v σ H H' hi ⟨env, F, r, sm, hd⟩ y => ?_) fun σ H ⟨env, F, r, sm, hd⟩ => ?_
    · obtain ⟨F2, x, s2, ex, rx⟩ := hY i F H v H' sm r.wd y
      have e1 : xs.drop i = x :: xs.drop (i + 1) := by
        obtain ⟨hl, ex⟩ := List.getElem?_eq_some_iff.mp ex
        rw [List.drop_eq_getElem_cons hl, ex]
      rw [e1] at hd
      refine ⟨env, F2, x, _, r.step s2, rx, hd, fun env' σ' F' H'' r' sm' k' => ⟨env', F', _, r', k', ?_⟩⟩
      have sb : Same F1 F' := (sm.trans s2.ex).trans sm'
      have up := fit.up (s1.ex.trans sb)
      exact ⟨fun env' σ' F'' H' r' sm' h' => ⟨env', F'', r', sb.trans sm', h'⟩, up.nx, fun env' σ' F'' H' r' sm' h' => ⟨env', F'', r', sb.trans sm', h'⟩, fit.rt⟩
    · rw [List.drop_length] at hd
      exact fit.nx env σ F H r (s1.ex.trans sm) hd
end
end Dl
namespace Dl
open PySem PySem.Spec PyProof.Rows L2
/-! ### what is walked -/
section
variable {K : PySem.W.Frag} {b : Bg} {F : Hp}
theorem wlk_list {a : Addr} {vs : List V} {xs : List PyData} (h : F a = some (.lst vs)) (r : RpA K F vs xs) : Wlk K b F (Itl K a) xs :=
  ⟨⟨_, _, r.len ▸ walk_list (K := K) (a := a) (xs := vs), fun F' H' s w => SqL.of (w.sub _ _ (s _ _ h)), fun i F' H' v H2 s w y => by
    obtain ⟨rfl, e⟩ := y
    obtain ⟨x, e1, r1⟩ := r.getV e
    exact ⟨F', x, w.refl, e1, r1.up s⟩⟩⟩
theorem wlk_tup {a : Addr} {vs : List V} {xs : List PyData} (h : SqT K F a vs) (r : RpA K F vs xs) : Wlk K b F (Itt K a) xs :=
  ⟨⟨_, _, r.len ▸ walk_tup (K := K) (a := a) (xs := vs), fun F' H' s w => sqt_up w.sub (sqt_up s h), fun i F' H' v H2 s w y => by
    obtain ⟨rfl, e⟩ := y
    obtain ⟨x, e1, r1⟩ := r.getV e
    exact ⟨F', x, w.refl, e1, r1.up s⟩⟩⟩
def rngD (lo : Int) (n : Nat) : List PyData := (List.range n).map fun i => .int (lo + (i : Nat))
theorem rngD_len (lo : Int) (n : Nat) : (rngD lo n).length = n := by simp [rngD]
theorem wlk_rng {lo : Int} {n : Nat} : Wlk K b F (Itr lo n) (rngD lo n) :=
  ⟨⟨_, fun i H v H' => i < n ∧ H' = H ∧ v = .int (lo + i), ⟨fun i H hi _ => by rw [rngD_len] at hi; exact hi, fun H _ => by rw [rngD_len]; exact Nat.le_refl _, fun i H x H' hi _ y => by rw [rngD_len] at hi; exact ⟨hi, y⟩⟩, fun _ _ _ _ => True.intro, fun i F' H' v H2 s w y => by
    obtain ⟨hi, rfl, rfl⟩ := y
    refine ⟨F', .int (lo + i), w.refl, ?_, .int _⟩
    unfold rngD
    rw [List.getElem?_map, List.getElem?_range hi]
    rfl⟩⟩
def signsD (z : Str) : List PyData := z.cps.toList.map fun c => .str ⟨#[c]⟩
theorem wlk_str {z : Str} : Wlk K b F (Its z) (signsD z) :=
  ⟨⟨_, _, (show (signsD z).length = z.cps.size by simp [signsD]) ▸ walk_str (z := z), fun _ _ _ _ => True.intro, fun i F' H' v H2 s w y => by
    obtain ⟨rfl, c, e, rfl⟩ := y
    refine ⟨F', .str ⟨#[c]⟩, w.refl, ?_, .str _⟩
    unfold signsD
    rw [List.getElem?_map, Array.getElem?_toList, e]
    rfl⟩⟩
theorem pair_new {F' H' : Hp} (w : Wd K b F' H') {T : Addr} {x y : V} {dx dy : PyData} (hT : H' T = none) (rx : Rp K F' x dx) (ry : Rp K F' y dy) : ∃ F2, Stp K b F' H' F2 (upd H' T (.tup [x, y])) ∧ Rp K F2 (.ref T) (.tuple [dx, dy]) := by
  have st := w.laid (o := .tup [x, y]) hT
  exact ⟨_, st, Rp.tup (SqT.of upd_same) (.cons (rx.up st.ex) (.cons (ry.up st.ex) .nil))⟩
def enumD (xs : List PyData) : List PyData := xs.zipIdx.map fun p => .tuple [.int (p.2 : Nat), p.1]
theorem enumD_len (xs : List PyData) : (enumD xs).length = xs.length := by simp [enumD]
theorem wlk_enum {a : Addr} {vs : List V} {xs : List PyData} (h : F a = some (.lst vs)) (r : RpA K F vs xs) : Wlk K b F (Ite K a) (enumD xs) :=
  ⟨⟨_, _, (show vs.length = (enumD xs).length by rw [enumD_len, r.len]) ▸ walk_enum (K := K) (a := a) (xs := vs), fun F' H' s w => SqL.of (w.sub _ _ (s _ _ h)), fun i F' H' v H2 s w y => by
    obtain ⟨T, x, y, rfl, hT, rfl, e1, e2⟩ := y
    cases e1
    obtain ⟨z, e3, r1⟩ := r.getV e2
    obtain ⟨F2, st, rp⟩ := pair_new w hT (Rp.int (i : Nat)) (r1.up s)
    refine ⟨F2, _, st, ?_, rp⟩
    unfold enumD
    rw [List.getElem?_map, List.getElem?_zipIdx, e3]
    simp⟩⟩
def zipD (xs ys : List PyData) : List PyData := (xs.zip ys).map fun p => .tuple [p.1, p.2]
theorem wlk_zip {a c : Addr} {vs us : List V} {xs ys : List PyData} (h : F a = some (.lst vs)) (r : RpA K F vs xs) (h2 : F c = some (.lst us)) (r2 : RpA K F us ys) : Wlk K b F (Itz K a c) (zipD xs ys) :=
  ⟨⟨_, _, walk_zip (K := K) (a := a) (b := c) (xs := vs) (ys := us) (by simp [zipD, r.len, r2.len]), fun F' H' s w => ⟨SqL.of (w.sub _ _ (s _ _ h)), SqL.of (w.sub _ _ (s _ _ h2))⟩, fun i F' H' v H2 s w y => by
    obtain ⟨T, x, y, rfl, hT, rfl, e1, e2⟩ := y
    obtain ⟨z1, e3, r3⟩ := r.getV e1
    obtain ⟨z2, e4, r4⟩ := r2.getV e2
    obtain ⟨F2, st, rp⟩ := pair_new w hT (r3.up s) (r4.up s)
    refine ⟨F2, _, st, ?_, rp⟩
    unfold zipD
    have e5 : (xs.zip ys)[i]? = some (z1, z2) := List.getElem?_zip_eq_some.mpr ⟨e3, e4⟩
    rw [List.getElem?_map, e5]
    rfl⟩⟩
end
section
variable {X : Cx} {w : Wn} {tg e : Expr} {te : DT} {ta : DA} {pos p : Pos}
theorem pi_weak {iter : Expr} {t u : TI} (h : PI X tg iter t) (i : ∀ σ H R, u σ H R → t σ H R) : PI X tg iter u := ⟨fun p s σ H R I q => h.run p s σ H R I (i σ H R q)⟩
def itLst (te : DT) : DIt := fun env P => te env fun dv => match frz dv with
  | .d (.list xs) => P xs
  | _ => False
def itTup (te : DT) : DIt := fun env P => te env fun dv => match frz dv with
  | .d (.tuple xs) => P xs
  | _ => False
def itStr (te : DT) : DIt := fun env P => te env fun dv => match frz dv with
  | .d (.str z) => P (signsD z)
  | _ => False
theorem di_list (he : DPE X w e te) : PI X tg e (lfI X.K w (itLst te)) := pi_weak (pi_list he) fun σ H R ⟨env, F, P, r, h, q⟩ => ⟨env, F, _, r, h, fun dv v F1 H1 s1 r1 h1 => by
  obtain ⟨F2, s2, a2⟩ := frz_ok s1 r1
  split at h1
  · next xs ex =>
    rw [ex] at a2
    cases (show Rp X.K F2 v (.list xs) from a2) with
    | lst e1 r2 => exact ⟨_, rfl, ⟨_, SqL.of (s2.sub _ _ e1)⟩, q xs _ F2 H1 s2 (wlk_list e1 r2) h1⟩
  · exact h1.elim⟩
theorem di_tup (he : DPE X w e te) : PI X tg e (lfI X.K w (itTup te)) := pi_weak (pi_tup he) fun σ H R ⟨env, F, P, r, h, q⟩ => ⟨env, F, _, r, h, fun dv v F1 H1 s1 r1 h1 => by
  obtain ⟨F2, s2, a2⟩ := frz_ok s1 r1
  split at h1
  · next xs ex =>
    rw [ex] at a2
    cases (show Rp X.K F2 v (.tuple xs) from a2) with
    | tup e1 r2 => exact ⟨_, rfl, ⟨_, sqt_up s2.sub e1⟩, q xs _ F2 H1 s2 (wlk_tup e1 r2) h1⟩
  · exact h1.elim⟩
theorem di_str (he : DPE X w e te) : PI X tg e (lfI X.K w (itStr te)) := pi_weak (pi_str he) fun σ H R ⟨env, F, P, r, h, q⟩ => ⟨env, F, _, r, h, fun dv v F1 H1 s1 r1 h1 => by
  obtain ⟨F2, s2, a2⟩ := frz_ok s1 r1
  split at h1
  · next z ex =>
    rw [ex] at a2
    cases (show Rp X.K F2 v (.str z) from a2)
    exact ⟨z, rfl, q _ _ F2 H1 s2 wlk_str h1⟩
  · exact h1.elim⟩
def itR1 (ta : DA) : DIt := fun env P => ta env fun us => allD us fun xs => match xs with
  | [.int j] => (-1000000000 < j ∧ j < 1000000000) ∧ P (rngD 0 j.toNat)
  | _ => False
def itR2 (ta : DA) : DIt := fun env P => ta env fun us => allD us fun xs => match xs with
  | [.int i, .int j] => (-1000000000 < i ∧ i < 1000000000 ∧ -1000000000 < j ∧ j < 1000000000) ∧ P (rngD i (j - i).toNat)
  | _ => False
theorem di_r1 {a : Expr} (gl : Gl X "range") (gm : X.mg "range" = none) (ha : DPA X w [a] ta) (hs : starEach [a] X.env = [(false, eval a X.env)] := by rfl) : PI X tg (.Call (.Name "range" p) [a] [] pos) (lfI X.K w (itR1 ta)) :=
  pi_weak (pi_range1 gl gm ha hs) fun σ H R ⟨env, F, P, r, h, q⟩ => ⟨env, F, _, r, h, fun dvs vs F1 H1 s1 r1 h1 => by
    obtain ⟨xs, ra, h1⟩ := allD_ok r1 h1
    split at h1
    · next j =>
      cases ra with
      | cons a1 t =>
        cases t
        cases a1
        exact ⟨j, rfl, by omega, by omega, q _ _ F1 H1 s1 wlk_rng h1.2⟩
    · exact h1.elim⟩
theorem di_r2 {a c : Expr} (gl : Gl X "range") (gm : X.mg "range" = none) (ha : DPA X w [a, c] ta) (hs : starEach [a, c] X.env = [(false, eval a X.env), (false, eval c X.env)] := by rfl) (hs2 : starEach [c] X.env = [(false, eval c X.env)] := by rfl) :
    PI X tg (.Call (.Name "range" p) [a, c] [] pos) (lfI X.K w (itR2 ta)) :=
  pi_weak (pi_range2 gl gm ha hs hs2) fun σ H R ⟨env, F, P, r, h, q⟩ => ⟨env, F, _, r, h, fun dvs vs F1 H1 s1 r1 h1 => by
    obtain ⟨xs, ra, h1⟩ := allD_ok r1 h1
    split at h1
    · next i j =>
      cases ra with
      | cons a1 t =>
        cases t with
        | cons a2 t =>
          cases t
          cases a1
          cases a2
          exact ⟨i, j, rfl, ⟨by omega, by omega, by omega, by omega⟩, q _ _ F1 H1 s1 wlk_rng h1.2⟩
    · exact h1.elim⟩
def itEnum (ta : DA) : DIt := fun env P => ta env fun us => allD us fun xs => match xs with
  | [.list ys] => P (enumD ys)
  | _ => False
def itZip (ta : DA) : DIt := fun env P => ta env fun us => allD us fun xs => match xs with
  | [.list ys, .list zs] => P (zipD ys zs)
  | _ => False
theorem di_enum {a : Expr} {tpos : Pos} {elts : List Expr} {kk : Nat} (gl : Gl X "enumerate") (gm : X.mg "enumerate" = none) (ha : DPA X w [a] ta) (hs : starEach [a] X.env = [(false, eval a X.env)] := by rfl) : PI X (.Tuple elts kk tpos) (.Call (.Name "enumerate" p) [a] [] pos) (lfI X.K w (itEnum ta)) :=
  pi_weak (pi_enum gl gm ha hs) fun σ H R ⟨env, F, P, r, h, q⟩ => ⟨env, F, _, r, h, fun dvs vs F1 H1 s1 r1 h1 => by
    obtain ⟨xs, ra, h1⟩ := allD_ok r1 h1
    split at h1
    · next ys =>
      cases ra with
      | cons a1 t =>
        cases t
        cases a1 with
        | lst e1 r2 => exact ⟨_, _, rfl, SqL.of (s1.sub _ _ e1), q _ _ F1 H1 s1 (wlk_enum e1 r2) h1⟩
    · exact h1.elim⟩
theorem di_zip {a c : Expr} {tpos : Pos} {elts : List Expr} {kk : Nat} (gl : Gl X "zip") (gm : X.mg "zip" = none) (ha : DPA X w [a, c] ta) (hs : starEach [a, c] X.env = (false, eval a X.env) :: starEach [c] X.env := by rfl) (hpl : (backTo pos (starEach [c] X.env)).any (·.1) = false := by rfl) : PI X (.Tuple elts kk tpos) (.Call (.Name "zip" p) [a, c] [] pos) (lfI X.K w (itZip ta)) :=
  pi_weak (pi_zip gl gm ha hs hpl) fun σ H R ⟨env, F, P, r, h, q⟩ => ⟨env, F, _, r, h, fun dvs vs F1 H1 s1 r1 h1 => by
    obtain ⟨xs, ra, h1⟩ := allD_ok r1 h1
    split at h1
    · next ys zs =>
      cases ra with
      | cons a1 t =>
        cases t with
        | cons a2 t =>
          cases t
          cases a1 with
          | lst e1 r2 =>
            cases a2 with
            | lst e3 r4 => exact ⟨_, _, _, _, rfl, SqL.of (s1.sub _ _ e1), SqL.of (s1.sub _ _ e3), q _ _ F1 H1 s1 (wlk_zip e1 r2 e3 r4) h1⟩
    · exact h1.elim⟩
end
/-! ### targets -/
section
variable {X : Cx} {w : Wn} {e : Expr} {te : DT} {pos : Pos}
theorem pg_weak {tg : Expr} {t u : TG} (h : PG X tg t) (i : ∀ v σ H Q, u v σ H Q → t v σ H Q) : PG X tg u := by
  obtain ⟨h1⟩ := h
  constructor
  intros
  first | exact h1 _ _ _ _ _ _ _ ‹_› ‹_› (i _ _ _ _ ‹_›) | exact h1 _ _ _ _ _ _ _ _ ‹_› ‹_› (i _ _ _ _ ‹_›)
def gnD (i : Nat) : DG := fun x env k => k (env.set i (.d x))
theorem dg_name {i : Nat} {x : Str} (hN : X.N.Nodup) (hi : X.N[i]? = some x) (hx : Loc X.env.scope x) (hf : X.fn x = true ∨ X.env.scope.names.lookup x = some .local := by first | exact .inl rfl | exact .inr rfl) : PG X (.Name x pos) (lfG X.K w (gnD i)) :=
  pg_weak (pg_name hN hi hx hf) fun v σ H Q ⟨env, F, x, k, r, rx, h, q⟩ => q _ _ F H (r.put i (z := .d x) ⟨v, rfl, rx⟩ (fun a m => by cases m)) sm0 h
abbrev DGs := List PyData → List Sl → (List Sl → Prop) → Prop
def gnilD : DGs := fun xs env k => xs = [] ∧ k env
def gconsD (g : DG) (gs : DGs) : DGs := fun xs env k => match xs with
  | x :: r => g x env fun e2 => gs r e2 k
  | [] => False
def lfGs (K : PySem.W.Frag) (w : Wn) (g : DGs) : TGs := fun vs σ H Q => ∃ env F xs k, RelW K w env σ F H ∧ RpA K F vs xs ∧ g xs env k ∧ ∀ env' σ' F' H', RelW K w env' σ' F' H' → Same F F' → k env' → Q σ' H'
theorem pgs_weak {tg : List Expr} {t u : TGs} (h : PGs X tg t) (i : ∀ v σ H Q, u v σ H Q → t v σ H Q) : PGs X tg u := by
  obtain ⟨h1⟩ := h
  constructor
  intros
  first | exact h1 _ _ _ _ _ _ _ ‹_› ‹_› (i _ _ _ _ ‹_›) | exact h1 _ _ _ _ _ _ _ _ ‹_› ‹_› (i _ _ _ _ ‹_›)
theorem dgs_nil : PGs X [] (lfGs X.K w gnilD) := pgs_weak pgs_nil fun v σ H Q ⟨env, F, xs, k, r, rx, h, q⟩ => by
  obtain ⟨rfl, h⟩ := h
  cases rx
  exact ⟨rfl, q _ _ F H r sm0 h⟩
theorem dgs_cons {a : Expr} {as : List Expr} {g : DG} {gs : DGs} (h1 : PG X a (lfG X.K w g)) (h2 : PGs X as (lfGs X.K w gs)) (hs : (assignEach (a :: as) X.env).map (fun x => x.snd) = assign a X.env :: (assignEach as X.env).map (fun x => x.snd) := by rfl) : PGs X (a :: as) (lfGs X.K w (gconsD g gs)) :=
  pgs_weak (pgs_cons h1 h2 hs) fun v σ H Q ⟨env, F, xs, k, r, rx, h, q⟩ => by
    cases rx with
    | nil => exact h.elim
    | cons a1 t => exact ⟨_, _, rfl, env, F, _, _, r, a1, h, fun e2 σ2 F2 H2 r2 s2 h2 => ⟨e2, F2, _, k, r2, t.up s2, h2, fun e3 σ3 F3 H3 r3 s3 h3 => q e3 σ3 F3 H3 r3 (s2.trans s3) h3⟩⟩
def gtD (n : Nat) (gs : DGs) : DG := fun x env k => match x with
  | .tuple xs => xs.length = n ∧ gs xs env k
  | _ => False
theorem dg_tup {es : List Expr} {k n : Nat} {gs : DGs} (hc : X.calm = true) (h : PGs X es (lfGs X.K w gs)) (hn : (assignEach es X.env).length = n := by rfl) (hst : (assignEach es X.env).findIdx? (fun x => x.fst) = none := by rfl) : PG X (.Tuple es k pos) (lfG X.K w (gtD n gs)) := by
  refine pg_weak (pg_tup hc h hn hst) fun v σ H Q ⟨env, F, x, k, r, rx, h, q⟩ => ?_
  cases x with
  | tuple xs =>
    cases rx with
    | tup e1 r1 => exact ⟨_, _, rfl, sqt_up r.st.sub e1, by rw [r1.len]; exact h.1, env, F, xs, k, r, r1, h.2, q⟩
  | _ => exact h.elim
/-- target = e -/
def tAsgD (te : DT) (g : DG) : DS := fun d env => te env fun dv => match frz dv with
  | .d x => g x env d.nx
  | _ => False
theorem ds_asg {tg : Expr} {g : DG} (he : DPE X w e te) (hg : PG X tg (lfG X.K w g)) (hs : swapsWithSole [tg] e pos.line X.env = pure false := by rfl) (hw : swappedStores [tg] e X.env = pure none := by rfl) (h1 : (assignEach [tg] X.env).map (fun x => x.snd) = [assign tg X.env] := by rfl) : DPS X w (.Assign [tg] e pos) (tAsgD te g) :=
  ps_weak (ps_asg he hg hs hw h1) fun D σ H ⟨env, F, d, r, h, fit⟩ => ⟨env, F, _, r, h, fun dv v F1 H1 s1 r1 h1 => by
    obtain ⟨F2, s2, a2⟩ := frz_ok s1 r1
    split at h1
    · next x ex =>
      rw [ex] at a2
      exact ⟨env, F2, x, _, r.step s2, a2, h1, fun e3 σ3 F3 H3 r3 s3 h3 => fit.nx e3 σ3 F3 H3 r3 (s2.ex.trans s3) h3⟩
    · exact h1.elim⟩
def tParD (i j : Nat) (ta : DA) : DS := fun d env => ta env fun us => allD us fun xs => match xs with
  | [x, y] => d.nx ((env.set i (.d x)).set j (.d y))
  | _ => False
theorem ds_par {i j : Nat} {x y : Str} {a c : Expr} {ta : DA} {px py pt : Pos} {kt k2 pt2} (hc : X.calm = true) (hN : X.N.Nodup) (hi : X.N[i]? = some x) (hj : X.N[j]? = some y) (hij : i ≠ j)
    (hx : X.env.scope.names.lookup x = some .local) (hy : X.env.scope.names.lookup y = some .local) (ha : DPA X w [a, c] ta)
    (base : PS X (.Assign [.Tuple [.Name x px, .Name y py] kt pt] (.Tuple [a, c] k2 pt2) pos) (tPar i j (lfA X.K w ta))) :
    DPS X w (.Assign [.Tuple [.Name x px, .Name y py] kt pt] (.Tuple [a, c] k2 pt2) pos) (tParD i j ta) :=
  ps_weak base fun D σ H ⟨env, F, d, r, h, fit⟩ => ⟨env, F, _, r, h, fun dvs vs F1 H1 s1 r1 h1 => by
    obtain ⟨xs, ra, h1⟩ := allD_ok r1 h1
    split at h1
    · next x y =>
      cases ra with
      | cons a1 t =>
        cases t with
        | cons a2 t =>
          cases t
          refine ⟨_, _, rfl, fit.nx _ _ F1 H1 ((((r.step s1).put i (z := .d x) ⟨_, rfl, a1⟩ ?_).put j (z := .d y) ⟨_, rfl, a2⟩ ?_)) s1.ex h1⟩
          · intro a m; cases m
          · intro a m; cases m
    · exact h1.elim⟩
def tAugI (i : Nat) (f : Int → Int → Int) (te : DT) : DS := fun d env => match env[i]? with
  | some (.d (.int x)) => te env fun dv => match dv with
    | .d (.int y) => d.nx (env.set i (.d (.int (f x y))))
    | _ => False
  | _ => False
theorem ds_augI {i : Nat} {x : Str} {op : Operator} {f : Int → Int → Int} {pos' : Pos} (hN : X.N.Nodup) (hi : X.N[i]? = some x) (hx : Loc X.env.scope x) (he : DPE X w e te) (ho : PIp X op (ipI f)) (hf : X.fn x = true ∨ X.env.scope.names.lookup x = some .local := by first | exact .inl rfl | exact .inr rfl)
    (base : PS X (.AugAssign (.Name x pos') op e pos) (tAug i (lf X.K w te) (ipI f))) : DPS X w (.AugAssign (.Name x pos') op e pos) (tAugI i f te) :=
  ps_weak base fun D σ H ⟨env, F, d, r, h, fit⟩ => by
    unfold tAugI at h
    split at h
    · next a ea =>
      obtain ⟨v, e1, r1⟩ := r.at' i _ ea
      cases r1
      refine ⟨_, e1, env, F, _, r, h, fun dv v F1 H1 s1 r1 h1 => ?_⟩
      split at h1
      · next c =>
        obtain rfl := r1.intOf
        refine ⟨_, _, rfl, rfl, fit.nx _ _ F1 H1 ((r.step s1).put i (z := .d (.int (f a c))) ⟨_, rfl, .int _⟩ ?_) s1.ex h1⟩
        intro a m; cases m
      · exact h1.elim
    · exact h.elim
end
/-! ### defs -/
def toSl : DV → Sl
  | .d x => .d x
  | .raw v => .raw v
  | .bag => .bag
  | _ => .un
def startD (N : List Str) (dvs : List DV) : List Sl := dvs.map toSl ++ List.replicate (N.length - dvs.length) .un
section
variable {K : PySem.W.Frag} {b : Bg} {F H : Hp}
theorem agr_get {i : Nat} {x : DV} : ∀ {dvs : List DV} {vs : List V} {i : Nat} {x : DV}, Paired (AgR K b F) dvs vs → dvs[i]? = some x → ∃ v, vs[i]? = some v ∧ AgR K b F x v
  | _, _, _, _, .nil, e => by simp at e
  | _, _, 0, _, .cons h _, e => by simp at e; subst e; exact ⟨_, rfl, h⟩
  | _, _, i + 1, x, .cons _ t, e => by
    obtain ⟨v, h1, h2⟩ := agr_get (i := i) (x := x) t (by simpa using e)
    exact ⟨v, by simpa using h1, h2⟩
theorem rel_start {N : List Str} {dvs : List DV} {vs : List V} (w : Wd K b F H) (r : Paired (AgR K b F) dvs vs) : Rel K b F H (startD N dvs) (start N vs) F H := by
  have hl : dvs.length = vs.length := Paired.length r
  refine ⟨by simp [L2.start, startD, hl], w.refl, fun i s e => ?_, fun i j s t a e1 _ m _ => ?_⟩
  · unfold startD at e
    unfold L2.start
    by_cases hi : i < dvs.length
    · rw [List.getElem?_append_left (by simpa using hi), List.getElem?_map] at e
      rw [List.getElem?_append_left (by simpa [← hl] using hi), List.getElem?_map]
      cases ed : dvs[i]? with
      | none => rw [ed] at e; cases e
      | some x =>
        rw [ed] at e
        obtain ⟨v, ev, a⟩ := agr_get (i := i) (x := x) r ed
        rw [ev]
        cases e
        cases x with
        | d x => exact ⟨v, rfl, a⟩
        | raw u => exact congrArg (fun z => some (some z)) a
        | bag => exact congrArg (fun z => some (some z)) a
        | fr xs => exact True.intro
        | ow l xs => exact True.intro
        | ft x => exact True.intro
        | tr p S x => exact True.intro
    · rw [List.getElem?_append_right (by simpa using hi), List.getElem?_replicate] at e
      split at e
      · cases e; exact True.intro
      · cases e
  · exfalso
    unfold startD at e1
    by_cases hi : i < dvs.length
    · rw [List.getElem?_append_left (by simpa using hi), List.getElem?_map] at e1
      cases ed : dvs[i]? with
      | none => rw [ed] at e1; cases e1
      | some x => rw [ed] at e1; cases x <;> cases e1 <;> cases m
    · rw [List.getElem?_append_right (by simpa using hi), List.getElem?_replicate] at e1
      split at e1 <;> cases e1
      cases m
end
section
variable {P : Program} {w : World} {K : PySem.W.Frag} {mg : Str → Option Value} {base : Heap} {CX : CXT} {k : Nat} {f : Addr} {fd : FuncData}
theorem guards_in {A : Around} (h : A.guards = some []) (env : Env) : (A.deeper env).guards = some [] := by
  first | exact h | (simp [Around.deeper, h]) | (unfold Around.deeper; exact h)
/-- THE RULE: a def's body, its reading, its promise -/
theorem d_def {ts : List Addr} {x qual : Str} {st : Stmt} {N ps : List Str} (Fn : L2.Fun K x qual st f fd) (S : FnScope N ps (defScope st))
    (hb : ∀ (kV doc pm : Value) (an : Option Addr) (cdv ct : Value) (us : List Value), us.length = ps.length → bindArgs (PySem.W.fnOf x qual (defArgs st) (defBody st) (defScope st) .none kV doc pm an cdv ct) { pos := us, kw := [] } = pure (ps.zip us))
    (sp : DSp) (t : DS)
    (hd : ∀ (cdv : Value) (A : Around) (outer : List Env) (s : Shared) (H : Hp) (E : XK) (wn : Wn), fd.code = cdv → wn.b.ts = ts → (A.deeper (envOfC qual (defScope st) s.heap.objs.size f cdv)).guards = some [] → Room k (A.deeper (envOfC qual (defScope st) s.heap.objs.size f cdv)) →
      DPSs (cxOf CX P w K mg base N qual (defScope st) f cdv A outer s H E).nox wn (defBody st) t)
    (hv : ∀ dvs Q, sp dvs Q → dvs.length = ps.length ∧ t { nx := fun _ => Q (.d .none), rt := Q } (startD N dvs)) : Fg P w K mg base CX (k + 1) f (Pm K ts sp) := by
  intro A outer s H us vs Q E ag room e0 rv want
  obtain ⟨b, F, dvs, R, ht, wd, ar, hsp, q⟩ := want
  obtain ⟨hlen, hread⟩ := hv dvs R hsp
  obtain ⟨oc, od, kV, doc, pm, an, cdv, ct, osl, rfl, lk, hcd⟩ := Fn.ex
  have hvl : vs.length = ps.length := (Paired.length ar).symm.trans hlen
  have hul : us.length = ps.length := rv.length.symm.trans hvl
  refine StX.run_bnd (N := N) (ps := ps) lk hcd S room e0 (G := fun xs H2 => xs = vs ∧ H2 = H) (fun A' Ex Q' h => ?_) fun s2 H2 xs g room2 => ?_
  · rw [hb kV doc pm an cdv ct us hul]
    exact wpAny_pure (h s H vs us e0 Un.refl rfl (fun _ _ z => z) rv hvl ⟨rfl, rfl⟩)
  · obtain ⟨rfl, rfl⟩ := g
    refine ⟨_, PSs.nox (hd cdv A outer s2 _ E ⟨b, F, _⟩ rfl ht (guards_in ag _) room2), startD N dvs, F, _, rel_start wd ar, hread, ?_⟩
    refine ⟨fun env σ F' H' r _ z => ?_, fun env σ F' H' r _ z => z, fun env σ F' H' r _ z => z, fun dv v F' H' st rs z => q dv v F' H' st rs z⟩
    exact q (.d .none) .non F' H' r.st Rp.non z
end
end Dl
namespace Dl
open PySem PySem.Spec PyProof.Rows L2
/-! ### list comprehensions -/
def lcD (g : PyData → List Sl → (List Sl → Prop) → Prop) (tt : DTT) (te : DT) (env : List Sl) : List PyData → List PyData → (DV → Prop) → Prop
  | [], acc, P => P (.fr acc)
  | x :: xs, acc, P => g x env fun e2 => tt e2 fun c => if c = true then te e2 fun dv => match frz dv with
      | .d y => acc.length < 100000 ∧ lcD g tt te env xs (acc ++ [y]) P
      | _ => False
    else lcD g tt te env xs acc P
/-- the target's names, as slots -/
def unS (env : List Sl) : List Nat → List Sl
  | [] => env
  | v :: vs => (unS env vs).set v .un
def tLcD (ti : DIt) (g : PyData → List Sl → (List Sl → Prop) → Prop) (tt : DTT) (te : DT) (vs : List Nat) : DT := fun env P => ti env fun xs => lcD g tt te (unS env vs) xs [] P
section
variable {K : PySem.W.Frag} {b : Bg} {F₀ H₀ F H F' H' : Hp} {env : List Sl} {σ : L2.St}
theorem Rel.forget (r : Rel K b F₀ H₀ env σ F H) (i : Nat) : Rel K b F₀ H₀ (env.set i .un) (σ.set i none) F H := by
  refine ⟨by rw [List.length_set, List.length_set]; exact r.len, r.st, fun j s e => ?_, own_set r.own fun a m => by cases m⟩
  rw [List.getElem?_set] at e ⊢
  by_cases h : i = j
  · rw [if_pos h] at e
    split at e
    · cases e; exact True.intro
    · cases e
  · rw [if_neg h] at e ⊢
    exact r.at' j s e
theorem Rel.forgets : ∀ (vs : List Nat) {env : List Sl} {σ : L2.St}, Rel K b F₀ H₀ env σ F H → Rel K b F₀ H₀ (unS env vs) (wipe σ vs) F H
  | [], _, _, r => r
  | v :: vs, _, _, r => (Rel.forgets vs r).forget v
end
/-- what the target does, and that it touches its own names alone -/
structure Tgt (K : PySem.W.Frag) (vs : List Nat) (g : PyData → List Sl → (List Sl → Prop) → Prop) (t : TG) : Prop where
  run : ∀ (b : Bg) (F₀ H₀ : Hp) (env : List Sl) (σ : L2.St) (F H : Hp) (v : V) (x : PyData) (k : List Sl → Prop) (Q : L2.St → Hp → Prop), Rel K b F₀ H₀ (unS env vs) (wipe σ vs) F H → Rp K F v x → g x (unS env vs) k →
    (∀ env' σ', Rel K b F₀ H₀ env' σ' F H → wipe σ' vs = wipe σ vs → k env' → Q σ' H) → t v (wipe σ vs) H Q
theorem set_set_none (σ : L2.St) (i : Nat) (a : Option V) : (σ.set i a).set i none = σ.set i none := by rw [List.set_set]
theorem tgt1 {K : PySem.W.Frag} (i : Nat) : Tgt K [i] (gnD i) (gName i) :=
  ⟨fun b F₀ H₀ env σ F H v x k Q r rx h q => q _ _ (r.put i (z := .d x) ⟨v, rfl, rx⟩ (fun a m => by cases m)) (by show ((σ.set i none).set i (some v)).set i none = σ.set i none; rw [List.set_set, List.set_set]) h⟩
theorem tgt2 {K : PySem.W.Frag} (i j : Nat) (hij : i ≠ j) : Tgt K [i, j] (gtD 2 (gconsD (gnD i) (gconsD (gnD j) gnilD))) (gTup K 2 (gCons (gName i) (gCons (gName j) gNil))) :=
  ⟨fun b F₀ H₀ env σ F H v x k Q r rx h q => by
    cases x with
    | tuple xs =>
      obtain ⟨hl, h⟩ := h
      match xs, hl, h with
      | [x, y], _, h =>
        cases rx with
        | tup e1 r1 =>
          cases r1 with
          | cons a1 t =>
            cases t with
            | cons a2 t =>
              cases t
              obtain ⟨_, h⟩ := h
              refine ⟨_, _, rfl, sqt_up r.st.sub e1, rfl, _, _, rfl, _, _, rfl, rfl, q _ _ ((r.put i (z := .d x) ⟨_, rfl, a1⟩ ?_).put j (z := .d y) ⟨_, rfl, a2⟩ ?_) ?_ h⟩
              · intro a m; cases m
              · intro a m; cases m
              · show ((((((σ.set j none).set i none).set i _).set j _).set j none).set i none) = (σ.set j none).set i none
                rw [List.set_set, List.set_set, List.set_comm _ _ hij, List.set_set, List.set_set]
    | _ => exact h.elim⟩
section
variable {X : Cx} {w : Wn}
theorem pts_nilD : PTs X [] (lfT X.K w fun _ P => P true) := ⟨fun pins s σ H Q I ⟨env, F, P, r, h, q⟩ => pts_nil.run pins s σ H Q I (q true F H r.wd.refl h)⟩
theorem pts_oneD {c : Expr} {tt : DTT} (h : DPT X w c tt) : PTs X [c] (lfT X.K w tt) := pts_one h
theorem lc_go {ti : DIt} {g : PyData → List Sl → (List Sl → Prop) → Prop} {t : TG} {tt : DTT} {te : DT} {vs : List Nat} (tg' : Tgt X.K vs g t) {σ : L2.St} {H : Hp} {Q : VK} (h : lf X.K w (tLcD ti g tt te vs) σ H Q) : tLc (lfI X.K w ti) t (lfT X.K w tt) (lf X.K w te) vs σ H Q := by
  obtain ⟨env, F, P, r, h, q⟩ := h
  exact ⟨env, F, _, r, h, fun xs J F1 H1 s1 wl h1 D hD => by
    obtain ⟨G, Y, wk, hG, hY⟩ := wl.ex
    obtain ⟨us, eb⟩ := s1.bag.lst
    have Db : D ≠ w.b.b := fun e => by rw [e, eb] at hD; cases hD
    have F1D : F1 D = none := by
      cases e : F1 D with
      | none => rfl
      | some o => rw [s1.sub _ _ e] at hD; cases hD
    have r1 := (r.step s1).forgets vs
    refine lc_it wk (fun i H2 => ∃ F2 acc us, Stp X.K w.b F1 H1 F2 H2 ∧ H2 D = some (.lst us) ∧ RpA X.K F2 us acc ∧ F2 D = none ∧ lcD g tt te (unS env vs) (xs.drop i) acc P) ⟨F1, [], [], s1.wd.laidM hD, upd_same, .nil, F1D, h1⟩ (fun i H2 _ ⟨F2, acc, us, st, _⟩ => hG F2 H2 st.ex st.wd) (fun i v H2 H3 hi ⟨F2, acc, us, st, eD, ra, fD, hl⟩ y => ?_) fun H2 ⟨F2, acc, us, st, eD, ra, fD, hl⟩ => ?_
    · obtain ⟨F3, x, s3, ex, rx⟩ := hY i F2 H2 v H3 st.ex st.wd y
      have e1 : xs.drop i = x :: xs.drop (i + 1) := by
        obtain ⟨hl, ex⟩ := List.getElem?_eq_some_iff.mp ex
        rw [List.drop_eq_getElem_cons hl, ex]
      rw [e1] at hl
      have st3 := st.trans s3
      have eD3 := s3.keep D (.lst us) Db (by intro _ z; cases z) eD
      have fD3 : F3 D = none := s3.new D fD (by rw [eD]; exact fun z => nomatch z)
      refine tg'.run w.b w.F w.H env σ F3 H3 v x _ _ (r1.step st3) rx hl fun env' σ' r' wi hl => ⟨wi, env', F3, _, r', hl, fun c F4 H4 s4 h4 => ?_⟩
      have eD4 := s4.keep D (.lst us) Db (by intro _ z; cases z) eD3
      have fD4 : F4 D = none := s4.new D fD3 (by rw [eD3]; exact fun z => nomatch z)
      cases c with
      | false => exact ⟨F4, acc, us, st3.trans s4, eD4, (ra.up s3.ex).up s4.ex, fD4, h4⟩
      | true =>
        refine ⟨env', F4, _, r'.step s4, h4, fun dv v5 F5 H5 s5 r5 h5 => ?_⟩
        obtain ⟨F6, s6, a6⟩ := frz_ok s5 r5
        split at h5
        · next y ey =>
          rw [ey] at a6
          have eD6 := s6.keep D (.lst us) Db (by intro _ z; cases z) eD4
          have fD6 : F6 D = none := s6.new D fD4 (by rw [eD4]; exact fun z => nomatch z)
          have ra6 := ((ra.up s3.ex).up s4.ex).up s6.ex
          have st6 := (st3.trans s4).trans s6
          refine ⟨us, eD6, by rw [ra6.len]; exact lim_lt h5.1, F6, acc ++ [y], us ++ [v5], ⟨fun a o ne nt ha => ?_, st6.bag.up (fun _ _ h => h) (upd_ne (Ne.symm Db)) (fun t _ h1 h2 => ⟨h1, by obtain ⟨ps, z, k⟩ := h2; exact ⟨ps, by rw [upd_ne (fun e => by rw [e, eD6] at z; cases z)]; exact z, k⟩⟩), st6.ex, fun a o ha => ?_, st6.fb, st6.new, fun a ps ne ha => by
            obtain ⟨qs, h1, k⟩ := st6.tab a ps ne ha
            exact ⟨qs, by rw [upd_ne (ne_of_none ha hD)]; exact h1, k⟩⟩, upd_same, ra6.app (.cons a6 .nil), fD6, h5.2⟩
          · rw [upd_ne (ne_of_none ha hD)]
            exact st6.keep a o ne nt ha
          · rw [upd_ne (ne_of_none ha fD6)]
            exact st6.sub a o ha
        · exact h5.elim
    · rw [List.drop_length] at hl
      exact q (.fr acc) _ F2 H2 (s1.trans st) ⟨D, us, rfl, s1.back Db hD, fD, Db, eD, ra⟩ hl⟩
theorem d_lc {elt tg iter : Expr} {ifs : List Expr} {scope : Scope} {own : List (Str × Nat)} {pos : Pos} {ti : DIt} {g : PyData → List Sl → (List Sl → Prop) → Prop} {t : TG} {tt : DTT} {te : DT} (hc : X.calm = true) (hN : X.N.Nodup) (hi : PI X tg iter (lfI X.K w ti)) (ok : BlkOk X.N X.env.scope scope own)
    (tg' : Tgt X.K (own.map (·.2)) g t)
    (hg : ∀ (s : Shared) (H : Hp) (C : Addr) (cl : List (Str × Addr)) (fp : List Addr), PG (X.blk s H scope (compEnvC scope cl C X.env) fp) tg t) (ht : ∀ (s : Shared) (H : Hp) (C : Addr) (cl : List (Str × Addr)) (fp : List Addr), PTs (X.blk s H scope (compEnvC scope cl C X.env) fp) ifs (lfT X.K w tt))
    (he : ∀ (s : Shared) (H : Hp) (C : Addr) (cl : List (Str × Addr)) (fp : List Addr), PE (X.blk s H scope (compEnvC scope cl C X.env) fp) elt (lf X.K w te)) (hs : ∀ x, foldedSetIterable iter X.env x = pure x := by intro _; rfl) :
    DPE X w (.ListComp elt [⟨tg, iter, ifs, 0⟩] scope pos) (tLcD ti g tt te (own.map (·.2))) :=
  pe_weak (pe_lc hc hN hi ok hg ht he hs) fun _ _ _ h => lc_go tg' h
/-- name = [..] -/
theorem ds_setLc {i : Nat} {e : Expr} {tg : Expr} {pos : Pos} {ti : DIt} {g : PyData → List Sl → (List Sl → Prop) → Prop} {t : TG} {tt : DTT} {te : DT} {vs : List Nat} (tg' : Tgt X.K vs g t)
    (base : PS X (.Assign [tg] e pos) (tAsg (tLc (lfI X.K w ti) t (lfT X.K w tt) (lf X.K w te) vs) (gName i))) : DPS X w (.Assign [tg] e pos) (tSetD i (tLcD ti g tt te vs)) :=
  ps_weak base fun D σ H ⟨env, F, d, r, h, fit⟩ => lc_go tg' ⟨env, F, _, r, h, fun dv v F1 H1 s1 r1 h1 => by
    obtain ⟨env', r2, k⟩ := st_ok r s1 r1 h1
    exact fit.nx env' _ F1 H1 r2 s1.ex k⟩
end
end Dl
namespace Dl
open PySem PySem.Spec PyProof.Rows L2
/-! ### a law's end: from the promise of its def -/
/-- cs: the codes of some defs, each with its table, still empty at the entry and no part of K -/
structure Tabs (K : PySem.W.Frag) (h : Heap) (cs : List (Addr × Addr)) : Prop where
  emp : ∀ p ∈ cs, h.get? p.2 = some (PySem.W.tabObj #[])
  head : ∀ p ∈ cs, PySem.W.CodeHd h p.1 p.2
  out : ∀ p ∈ cs, K.lookup p.2 = none
theorem tbl_ne_dict {es : Array DictEntry} {ep : Nat} {o : Obj} (h : o.data = .dict es ep) : o ≠ PySem.W.tabObj #[] := fun z => by rw [z] at h; cases h
theorem opening {P : Program} {w : World} {K : PySem.W.Frag} {mg mb : Str → Option Value} {a : Addr} {st : Shared} {vs : List Value} {ns : List Int} {cs : List (Addr × Addr)}
    (kin : K.In st.heap) (n1 : st.heap.Ns mainGlobals mg) (n2 : st.heap.Ns builtinsNs mb) (n3 : ∀ y : Str, y ≠ "__name__" → mb y = bootBuiltins y) (n4 : st.heap.NoLimit) (n5 : st.gens = #[])
    (hs : st.heap.get? a = some { cls := .type "list", data := .seq vs.toArray }) (iv : IntsAre vs ns) (sz : ns.length ≤ sizeLine)
    (T : Tabs K st.heap cs) (hbm : ∃ (bm : Addr) (ob : Obj), mg "__builtins__" = some (.ref bm) ∧ bm ≠ builtinsNs ∧ st.heap.get? bm = some ob ∧ ob.cls = .type "module" ∧ ob.dict = some builtinsNs ∧ ob.data = .plain) :
    ∃ (H : Hp) (base : Heap), SqL K H a (ns.map V.int) ∧ (∀ p ∈ cs, H p.2 = some (.tbl #[])) ∧ Env0 P w K mg base callerA [] st H ∧ K.In base ∧ base.Ns mainGlobals mg ∧ (∀ p ∈ cs, GxR.TabB base mg p.1 p.2) ∧
      ∀ (H' : Hp) (g : Heap), Un (frs []) [] H H' st.heap g → HOk P w H' g → OldK st.heap g := by
  have rel := vals_ints iv
  have cnt := iv.length
  -- tables aside, the script alone is tracked, if it is no object of the module
  have main : ∀ H : Hp, (∀ p ∈ cs, H p.2 = some (.tbl #[])) → SqL K H a (ns.map V.int) → HOk P w H st.heap → (∀ c u, H c = some u → (c = a ∧ K.lookup a = none ∧ ∃ ob xs, u = .frz ob (.lst xs)) ∨ (u = .tbl #[] ∧ ∃ p ∈ cs, p.2 = c)) →
      ∃ (H : Hp) (base : Heap), SqL K H a (ns.map V.int) ∧ (∀ p ∈ cs, H p.2 = some (.tbl #[])) ∧ Env0 P w K mg base callerA [] st H ∧ K.In base ∧ base.Ns mainGlobals mg ∧ (∀ p ∈ cs, GxR.TabB base mg p.1 p.2) ∧
      ∀ (H' : Hp) (g : Heap), Un (frs []) [] H H' st.heap g → HOk P w H' g → OldK st.heap g := by
    intro H tabs seq ok kind
    -- what is neither a list nor a table stays in the base
    have stay : ∀ {c : Addr} {o : Obj}, st.heap.get? c = some o → o.data ≠ .seq vs.toArray → o ≠ PySem.W.tabObj #[] → (hidT st.heap H).get? c = some o := fun {c o} e d1 d2 => hidT_get e (by
      cases q : H c with
      | none => rfl
      | some u =>
        rcases kind c u q with ⟨rfl, _⟩ | ⟨_, p, hp, rfl⟩
        · rw [hs] at e
          cases e
          exact (d1 rfl).elim
        · rw [T.emp p hp] at e
          cases e
          exact (d2 rfl).elim)
    have out : ∀ {c : Addr} {m : Str → Option Value}, st.heap.Ns c m → (hidT st.heap H).Ns c m := by
      rintro c m ⟨o, es, ep, e, d, rest⟩
      exact ⟨o, es, ep, stay e (fun z => by rw [d] at z; cases z) (tbl_ne_dict d), d, rest⟩
    have kb : K.In (hidT st.heap H) := by
      intro c o e
      refine hidT_get (kin c o e) ?_
      cases q : H c with
      | none => rfl
      | some u =>
        rcases kind c u q with ⟨rfl, no, _⟩ | ⟨_, p, hp, rfl⟩
        · rw [no] at e
          cases e
        · rw [T.out p hp] at e
          cases e
    obtain ⟨mc, c1, c2⟩ := n4
    have md : Mod K mg (hidT st.heap H) := ⟨kb, out n1, ⟨mb, out n2, n3⟩, ⟨mc, out c1, c2⟩⟩
    have isMain : ∀ {b : Addr} {o : Obj}, st.heap.get? b = some o → (∀ es ep, o.data ≠ .dict es ep) → b ≠ mainGlobals := fun {b o} e d z => by
      obtain ⟨o2, es, ep, e2, d2, _⟩ := n1
      rw [z, e2] at e
      cases e
      exact d es ep d2
    have tb : ∀ p ∈ cs, GxR.TabB (hidT st.heap H) mg p.1 p.2 := by
      intro p hp
      obtain ⟨o, us, file, tf, flags, tg, inF, text, tt, e1, e2, e3, rest⟩ := T.head p hp
      obtain ⟨bm, ob, b1, b2, b3, b4, b5, b6⟩ := hbm
      refine ⟨⟨o, us, file, tf, flags, tg, inF, text, tt, stay e1 (fun z => by rw [e3] at z; cases z) (fun z => by rw [z] at e2; cases e2), e2, e3, rest⟩, ⟨bm, ob, b1, b2, isMain b3 (fun es ep z => by rw [b6] at z; cases z), fun z => ?_, stay b3 (fun z => by rw [b6] at z; cases z) (fun z => by rw [z] at b4; cases b4), b4, b5, b6⟩, Ne.symm (isMain (T.emp p hp) fun es ep z => by cases z)⟩
      rw [z, T.emp p hp] at b3
      cases b3
      cases b4
    refine ⟨H, hidT st.heap H, seq, tabs, ⟨rfl, md, fun c o e => of_hidT e, Nat.le_of_eq (hidT_size _ _), True.intro, (fun c hc => by cases hc), ok, .of_eq n5⟩, kb, out n1, tb, fun H' g un ok' => ?_⟩
    have where' : ∀ c o, st.heap.get? c = some o → g.get? c = some o ∨ ∃ p ∈ cs, p.2 = c ∧ ∃ more : Array Value, g.get? c = some (PySem.W.tabObj more) := fun c o e => by
      cases q : H c with
      | none => exact .inl (un.keep c o e q (by intro z; cases z) (by intro z; cases z))
      | some u =>
        rcases kind c u q with ⟨rfl, _, ob, xs, rfl⟩ | ⟨rfl, p, hp, rfl⟩
        · obtain ⟨e1, _⟩ := ok _ _ q
          obtain ⟨e2, _⟩ := ok' _ _ (un.frzs _ ob _ q)
          rw [e] at e1
          cases e1
          exact .inl e2
        · obtain ⟨more, z⟩ := un.tbls p.2 #[] q
          exact .inr ⟨p, hp, rfl, _, ok' _ _ z⟩
    constructor
    · intro c o e
      rcases where' c o e with z | ⟨p, hp, rfl, more, z⟩
      · exact .inl z
      · rw [T.emp p hp] at e
        cases e
        exact .inr (.inl ⟨((T.head p hp).tab (T.emp p hp)).isCodeTable, rfl, #[], more, rfl, by rw [Array.empty_append]; exact z⟩)
    · intro c o e
      rcases where' c o e with z | ⟨_, _, _, _, z⟩
      · exact ⟨_, z⟩
      · exact ⟨_, z⟩
  have noA : ∀ p ∈ cs, p.2 ≠ a := fun p hp e => by
    have z := T.emp p hp
    rw [e, hs] at z
    have z2 : Data.seq vs.toArray _ = Data.fields #[] := congrArg Obj.data (Option.some.inj z)
    cases z2
  let H0 : Hp := fun c => if c ∈ cs.map Prod.snd then some (.tbl #[]) else none
  have h0 : ∀ p ∈ cs, H0 p.2 = some (.tbl #[]) := fun p hp => if_pos (List.mem_map_of_mem hp)
  have h1 : ∀ c u, H0 c = some u → u = .tbl #[] ∧ ∃ p ∈ cs, p.2 = c := fun c u z => by
    by_cases m : c ∈ cs.map Prod.snd
    · have e : H0 c = some (.tbl #[]) := if_pos m
      rw [e] at z
      exact ⟨(Option.some.inj z).symm, List.mem_map.mp m⟩
    · have e : H0 c = none := if_neg m
      rw [e] at z
      cases z
  have ok0 : ∀ c u, H0 c = some u → ObjOk P w H0 st.heap c u := fun c u z => by
    obtain ⟨rfl, p, hp, rfl⟩ := h1 c u z
    exact T.emp p hp
  cases look : K.lookup a with
  | some o =>
    have e := kin a o look
    rw [hs] at e
    cases e
    refine main H0 h0 (.inr ⟨_, vs.toArray, _, look, rfl, rfl, rfl, ?_, ?_⟩) ok0 fun c u z => .inr (h1 c u z)
    · rw [List.size_toArray, cnt]; exact sz
    · simpa using rel
  | none =>
    have at_a : upd H0 a (.frz { cls := .type "list", data := .seq vs.toArray } (.lst (ns.map V.int))) a = some (.frz { cls := .type "list", data := .seq vs.toArray } (.lst (ns.map V.int))) := upd_same
    refine main (upd H0 a (.frz { cls := .type "list", data := .seq vs.toArray } (.lst (ns.map V.int)))) (fun p hp => by rw [upd_ne (noA p hp)]; exact h0 p hp) (.inl (.inr ⟨_, at_a⟩)) (fun c u z => ?_) fun c u z => ?_
    · by_cases hc : c = a
      · rw [hc, upd_same] at z
        rw [hc]
        cases z
        exact ⟨hs, by rw [List.length_map]; exact sz, vs, _, rel, hs⟩
      · rw [upd_ne hc] at z
        obtain ⟨rfl, p, hp, rfl⟩ := h1 c u z
        exact T.emp p hp
    · by_cases hc : c = a
      · rw [hc, upd_same] at z
        cases z
        exact .inl ⟨hc, look, _, _, rfl⟩
      · rw [upd_ne hc] at z
        exact .inr (h1 c u z)
theorem law_end {l : PySem.W.OpenLaw} {k : Nat} {q : Program} {loose : List Str} {XP : (Str → Option Value) → Heap → Prop} {YP : World → Heap → Prop} {d : DefRec} {K : Params → PySem.W.Frag} {sp : PySem.W.Frag → List Addr → Sp}
    (hn : l.most = some 63) (hdf : d.params.defaults = []) (room : Room k callerA) (ag : callerA.guards = some []) (hY : ∀ (w : World) (h : Heap), YP w h → (K w.params).In h)
    (F : ∀ (w : World) (mg mb : Str → Option Value) (lo : List Str) (mean : ExcName → Option Value) (fa : Addr) (h : Heap), (K w.params).In h → PyProof.Rows.Top q lo mean mg mb h → mg d.name = some (.ref fa) →
      ∃ cs : List (Addr × Addr), Tabs (K w.params) h cs ∧ ∀ base : Heap, (K w.params).In base → base.Ns mainGlobals mg → (∀ p ∈ cs, GxR.TabB base mg p.1 p.2) → Fg l.prog w (K w.params) mg base (L2.CX l.prog w) k fa (sp (K w.params) (cs.map Prod.snd)))
    (hsp : ∀ (K : PySem.W.Frag) (H : Hp) (a : Addr) (ns : List Int) (ts : List Addr), ns.length ≤ 63 → (∀ t ∈ ts, GxR.TabG H t) → SqL K H a (ns.map V.int) → sp K ts [.ref a] H (fun v _ => v = .bl true) E0) :
    PySem.W.WalkO q loose XP YP l.row.toRowW d [] (fun f vs => PySem.call f vs) := by
  refine Att.attach_callB hn hdf fun w s0 st mg mb fa o pm cd doc a vs ns G Y ho hd hcd hmg hobj hints hlen hbits hg => ?_
  have kin := hY w _ Y
  obtain ⟨cs, T, fg⟩ := F w mg mb _ _ fa _ kin G.T hmg
  obtain ⟨H, base, seq, tabs, e0, kb, nb, tb, old⟩ := opening (P := l.prog) (w := w) kin G.T.g G.T.b G.T.builtins G.T.nolimit hg hobj hints (Nat.le_trans hlen (by decide)) T G.T.bmain
  have tg : ∀ t ∈ cs.map Prod.snd, GxR.TabG H t := fun t ht => by
    obtain ⟨p, hp, rfl⟩ := List.mem_map.mp ht
    exact ⟨#[], tabs p hp, by simp [TriplesOk]⟩
  refine codeAny_mono (fg base kb nb tb callerA [] st H [.ref a] [.ref a] _ _ ag room e0 (.cons rfl .nil) (hsp _ H a ns _ hlen tg seq)) fun r s2 got => ?_
  match r, got with
  | .error e, got =>
    obtain ⟨_, _, _, _, _, _, _, _, _, _, _, _, z⟩ := got
    exact z.elim
  | .ok (.ret u), got =>
    obtain ⟨v, H', os, bare, un, ok', rv, e⟩ := got
    subst e
    obtain rfl : u = Value.bool true := rv
    exact ⟨rfl, old H' _ un ok', os, bare⟩
end Dl
namespace Dl
open PySem PySem.Spec PyProof.Rows L2
/-! ### and, or, not as values; is None; chains; slices; constants that are tuples -/
section
variable {X : Cx} {w : Wn} {a b c e : Expr} {ta tb tc te : DT} {pos : Pos} {rest : List Expr}
theorem passZ {P : Program} {wd : World} : Passes (L2.CX P wd) X E0 := fun _ _ _ _ _ _ _ h => by
  obtain ⟨_, _, _, _, _, _, _, _, _, _, _, _, z⟩ := h
  exact z.elim
def tAnV (ta tb : DT) : DT := fun env P => ta env fun u => rd u fun x => truOk x ∧ if truD x = true then tb env P else P u
def tOrV' (ta tb : DT) : DT := fun env P => ta env fun u => rd u fun x => truOk x ∧ if truD x = true then P u else tb env P
theorem d_and (ha : DPE X w a ta) (hb : DPE X w (.BoolOp .And (b :: rest) pos) tb) : DPE X w (.BoolOp .And (a :: b :: rest) pos) (tAnV ta tb) :=
  pe_weak (pe_andT ha hb) fun σ H Q ⟨env, F, P, r, h, q⟩ => ⟨env, F, _, r, h, fun dv v F1 H1 s1 r1 h1 => by
    obtain ⟨x, x1, ok, h1⟩ := rd_ok r1 h1
    refine ⟨truD x, tru_of s1.sub x1 ok, ?_⟩
    cases hx : truD x with
    | true =>
      rw [hx] at h1
      exact lf_early s1 r h1 q
    | false =>
      rw [hx] at h1
      exact q dv v F1 H1 s1 r1 h1⟩
theorem d_or (ha : DPE X w a ta) (hb : DPE X w (.BoolOp .Or (b :: rest) pos) tb) : DPE X w (.BoolOp .Or (a :: b :: rest) pos) (tOrV' ta tb) :=
  pe_weak (pe_orT ha hb) fun σ H Q ⟨env, F, P, r, h, q⟩ => ⟨env, F, _, r, h, fun dv v F1 H1 s1 r1 h1 => by
    obtain ⟨x, x1, ok, h1⟩ := rd_ok r1 h1
    refine ⟨truD x, tru_of s1.sub x1 ok, ?_⟩
    cases hx : truD x with
    | true =>
      rw [hx] at h1
      exact q dv v F1 H1 s1 r1 h1
    | false =>
      rw [hx] at h1
      exact lf_early s1 r h1 q⟩
def tNoV (ta : DT) : DT := fun env P => ta env fun u => rd u fun x => truOk x ∧ P (.d (.bool (!truD x)))
theorem d_not (ha : DPE X w a ta) : DPE X w (.UnaryOp .Not a pos) (tNoV ta) :=
  pe_weak (pe_notT ha) fun σ H Q ⟨env, F, P, r, h, q⟩ => ⟨env, F, _, r, h, fun dv v F1 H1 s1 r1 h1 => by
    obtain ⟨x, x1, ok, h1⟩ := rd_ok r1 h1
    exact ⟨truD x, tru_of s1.sub x1 ok, q (.d (.bool _)) _ F1 H1 s1 (.bl _) h1⟩⟩
/-! is None -/
def nonB : DV → (Bool → Prop) → Prop
  | .d .none, k => k true
  | .d _, k => k false
  | .fr _, k => k false
  | .ow _ _, k => k false
  | .raw _, _ => False
  | .ft _, _ => False
  | .tr _ _ _, _ => False
  | .bag, k => k false
theorem nonB_ok {K : PySem.W.Frag} {b : Bg} {Hz F H : Hp} {v : V} {dv : DV} {k : Bool → Prop} (r : Res K b Hz F H dv v) (h : nonB dv k) : k (decide (v = .non)) := by
  cases dv with
  | d x =>
    have r' : Rp K F v x := r
    cases x with
    | none => cases r'; exact h
    | bool y => cases r'; rw [decide_eq_false (fun z => by cases z)]; exact h
    | int y => cases r'; rw [decide_eq_false (fun z => by cases z)]; exact h
    | str y => cases r'; rw [decide_eq_false (fun z => by cases z)]; exact h
    | list y => cases r'; rw [decide_eq_false (fun z => by cases z)]; exact h
    | tuple y => cases r'; rw [decide_eq_false (fun z => by cases z)]; exact h
    | dict y =>
      have hn : v ≠ .non := fun z => by
        subst z
        generalize e : PyData.dict y = q at r'
        cases r'
        cases e
      rw [decide_eq_false hn]; exact h
  | fr xs => obtain ⟨p, vs, rfl, _⟩ := r; rw [decide_eq_false (fun z => by cases z)]; exact h
  | ow l xs => obtain ⟨rfl, _⟩ := r; rw [decide_eq_false (fun z => by cases z)]; exact h
  | raw u => exact h.elim
  | ft x => exact h.elim
  | tr p S x => exact h.elim
  | bag => cases (show v = V.ref b.b from r); rw [decide_eq_false (fun z => by cases z)]; exact h
def tIsNV (f : Bool → Bool) (ta : DT) : DT := fun env P => ta env fun u => nonB u fun c => P (.d (.bool (f c)))
theorem d_isN {j pos'} (ha : DPE X w a ta) : DPE X w (.Compare a [.Is] [.Constant .none j pos'] pos) (tIsNV id ta) :=
  pe_weak (pe_cmp (pc_isN ha) rfl) fun σ H Q ⟨env, F, P, r, h, q⟩ => ⟨env, F, _, r, h, fun dv v F1 H1 s1 r1 h1 => q (.d (.bool _)) _ F1 H1 s1 (.bl _) (nonB_ok r1 h1)⟩
theorem d_isNN {j pos'} (ha : DPE X w a ta) : DPE X w (.Compare a [.IsNot] [.Constant .none j pos'] pos) (tIsNV not ta) :=
  pe_weak (pe_cmp (pc_notN ha) rfl) fun σ H Q ⟨env, F, P, r, h, q⟩ => ⟨env, F, _, r, h, fun dv v F1 H1 s1 r1 h1 => q (.d (.bool _)) _ F1 H1 s1 (.bl _) (nonB_ok r1 h1)⟩
theorem dt_isN {j pos'} (ha : DPE X w a ta) : DPT X w (.Compare a [.Is] [.Constant .none j pos'] pos) (tTst (tIsNV id ta)) :=
  pt_weak (pt_cmp (pc_isN ha) rfl) fun σ H Q ⟨env, F, P, r, h, q⟩ => ⟨env, F, _, r, h, fun dv v F1 H1 s1 r1 h1 => ⟨_, rfl, q _ F1 H1 s1 (nonB_ok r1 h1)⟩⟩
theorem dt_isNN {j pos'} (ha : DPE X w a ta) : DPT X w (.Compare a [.IsNot] [.Constant .none j pos'] pos) (tTst (tIsNV not ta)) :=
  pt_weak (pt_cmp (pc_notN ha) rfl) fun σ H Q ⟨env, F, P, r, h, q⟩ => ⟨env, F, _, r, h, fun dv v F1 H1 s1 r1 h1 => ⟨_, rfl, q _ F1 H1 s1 (nonB_ok r1 h1)⟩⟩
/-! chains -/
def tChD (g g' : G2) (ta tb tc : DT) : DT := fun env P => ta env fun u => rd u fun x => tb env fun z => rd z fun y => g x y fun c => isB c fun k => if k = true then tc env fun t => rd t fun y2 => g' y y2 P else P (.d (.bool false))
theorem chain_go {g g' : G2} {σ : L2.St} {H : Hp} {Q : VK} (h : lf X.K w (tChD g g' ta tb tc) σ H Q) : tChain (lR X.K w.b g) (lR X.K w.b g') (lf X.K w ta) (lf X.K w tb) (lf X.K w tc) σ H Q := by
  obtain ⟨env, F, P, r, h, q⟩ := h
  refine ⟨env, F, _, r, h, fun dv v F1 H1 s1 r1 h1 => ?_⟩
  obtain ⟨x, x1, h1⟩ := rd_ok r1 h1
  refine ⟨env, F1, _, r.step s1, h1, fun dv2 v2 F2 H2 s2 r2 h2 => ?_⟩
  obtain ⟨y, y1, h2⟩ := rd_ok r2 h2
  refine ⟨F2, x, y, _, s2.wd, x1.step s2, y1, h2, fun dv3 v3 F3 H3 s3 r3 h3 => ?_⟩
  obtain ⟨k, rfl, h3⟩ := isB_ok r3 h3
  refine ⟨k, rfl, ?_⟩
  have s13 := (s1.trans s2).trans s3
  cases k with
  | false => exact q _ _ F3 H3 s13 (res_d (.bl false)) h3
  | true =>
    refine ⟨env, F3, _, ((r.step s1).step s2).step s3, h3, fun dv4 v4 F4 H4 s4 r4 h4 => ?_⟩
    obtain ⟨y2, y3, h4⟩ := rd_ok r4 h4
    exact ⟨F4, y, y2, P, s4.wd, (y1.step s3).step s4, y3, h4, fun dv5 v5 F5 H5 s5 r5 h5 => q dv5 v5 F5 H5 ((s13.trans s4).trans s5) (r5.early (s13.trans s4)) h5⟩
theorem d_chain {op op' : CmpOp} {g g' : G2} (ho : OpR X (compareOp op) (lR X.K w.b g)) (ho' : OpR X (compareOp op') (lR X.K w.b g')) (ha : DPE X w a ta) (hb : DPE X w b tb) (hc : DPE X w c tc)
    (hm : lastMarks [op, op'] [b, c] = false := by with_unfolding_all rfl) : DPE X w (.Compare a [op, op'] [b, c] pos) (tChD g g' ta tb tc) :=
  pe_weak (pe_chain ho ho' ha hb hc hm) fun _ _ _ h => chain_go h
theorem dt_chain {op op' : CmpOp} {g g' : G2} (ho : OpR X (compareOp op) (lR X.K w.b g)) (ho' : OpR X (compareOp op') (lR X.K w.b g')) (ha : DPE X w a ta) (hb : DPE X w b tb) (hc : DPE X w c tc)
    (hm : lastMarks [op, op'] [b, c] = false := by with_unfolding_all rfl) : DPT X w (.Compare a [op, op'] [b, c] pos) (tTst (tChD g g' ta tb tc)) :=
  pt_weak (pt_chain ho ho' ha hb hc hm) fun σ H Q ⟨env, F, P, r, h, q⟩ => chain_go ⟨env, F, _, r, h, fun dv v F1 H1 s1 r1 h1 => by
    obtain ⟨k, rfl, h1⟩ := isB_ok r1 h1
    exact ⟨k, rfl, q k F1 H1 s1 h1⟩⟩
/-! slices -/
abbrev DO := List Sl → (Option Int → Prop) → Prop
def lfO (K : PySem.W.Frag) (w : Wn) (t : DO) : TO := fun σ H Q => ∃ env F P, RelW K w env σ F H ∧ t env P ∧ ∀ o F' H', Stp K w.b F H F' H' → P o → Q o H'
def oNone : DO := fun _ P => P none
def oSome (te : DT) : DO := fun env P => te env fun u => match u with
  | .d (.int i) => P (some i)
  | _ => False
theorem do_none : PO X none (lfO X.K w oNone) := ⟨fun pins s σ H Q I ⟨env, F, P, r, h, q⟩ => po_none.run pins s σ H Q I (q none F H r.wd.refl h)⟩
theorem do_some (he : DPE X w e te) : PO X (some e) (lfO X.K w (oSome te)) := ⟨fun pins s σ H Q I ⟨env, F, P, r, h, q⟩ => (po_some he).run pins s σ H Q I ⟨env, F, _, r, h, fun dv v F1 H1 s1 r1 h1 => by
  split at h1
  · next i => exact ⟨i, r1.intOf, q (some i) F1 H1 s1 h1⟩
  · exact h1.elim⟩⟩
def cutD (xs : List PyData) (lo hi : Option Int) : List PyData := (xs.drop (HT.sIx xs.length 0 lo)).take (HT.sIx xs.length xs.length hi - HT.sIx xs.length 0 lo)
theorem cut_rp {K : PySem.W.Frag} {F : Hp} {vs : List V} {xs : List PyData} (r : RpA K F vs xs) (lo hi : Option Int) : RpA K F (cutV vs lo hi) (cutD xs lo hi) := by
  unfold cutV cutD
  rw [r.len]
  exact (r.drop _).take _
def tSlL (te : DT) (lo hi : DO) : DT := fun env P => te env fun u => rd u fun x => lo env fun l => hi env fun h => match x with
  | .list xs => P (.fr (cutD xs l h))
  | _ => False
theorem d_slL {lo hi : Option Expr} {tl th : DO} {p2 : Pos} (he : DPE X w e te) (hl : PO X lo (lfO X.K w tl)) (hh : PO X hi (lfO X.K w th)) : DPE X w (.Subscript e (.Slice lo hi none p2) pos) (tSlL te tl th) :=
  pe_weak (pe_slice sl_list he hl hh) fun σ H Q ⟨env, F, P, r, h, q⟩ => ⟨env, F, _, r, h, fun dv v F1 H1 s1 r1 h1 => by
    obtain ⟨x, x1, h1⟩ := rd_ok r1 h1
    refine ⟨env, F1, _, r.step s1, h1, fun l F2 H2 s2 h2 => ⟨env, F2, _, (r.step s1).step s2, h2, fun u F3 H3 s3 h3 => ?_⟩⟩
    have s13 := (s1.trans s2).trans s3
    split at h3
    · next xs =>
      obtain ⟨m, vs, rfl, e, ra⟩ := ((x1.step s2).step s3).lst s3.sub
      exact ⟨m, vs, rfl, SqL.of e, res_new s3.wd (cut_rp ra l u) (fun dv v F4 H4 s4 r4 h4 => q dv v F4 H4 (s13.trans s4) (r4.early s13) h4) h3⟩
    · exact h3.elim⟩
end
/-! ### enumerate of a tuple -/
section
set_option maxHeartbeats 1000000 in
theorem enum_made {v : Value} {o : Obj} {Hd : Heap → Prop} (B : PySem.Begins v o Hd) :
    Meets (Builtin.«enumerate.__new__» { pos := [.type "enumerate", v], kw := [] }) (fun _ R st => Hd st.heap ∧
      R (.ok (.ret (.ref (st.heap.push o).objs.size))) { st with heap := (st.heap.push o).push { cls := .type "enumerate", data := .fields #[.none, .bool false, .ref st.heap.objs.size, rawInt 0, .none, .none] } }) :=
  .of_wp fun prog w A R st want => by
    obtain ⟨hp, gs, dr, tk, os⟩ := st
    obtain ⟨h1, want⟩ := want
    have sub := sub_enumerate
    have it : ∀ {A' : Around} {E Q : Value → Shared → Prop}, Q (.ref hp.objs.size) ⟨hp.push o, gs, dr, tk, os⟩ → wpAny (model prog w) A' (pyIter v) Q E ⟨hp, gs, dr, tk, os⟩ :=
      fun q => B.iter prog w _ _ ⟨hp, gs, dr, tk, os⟩ _ h1 q
    wp_walk using it
    refine wpAny_stack_any fun sk => wpAny_pure ?_
    split
    · rename_i c _ _ _ _ _
      cases (c == Value.type "enumerate") <;> (wp_walk using it; exact ⟨_, rfl, want⟩)
    · wp_walk using it
      exact ⟨_, rfl, want⟩
variable {prog : Program} {w : World} {A : Around} {E : Value → Shared → Prop} {s : Shared}
theorem enum_call {v : Value} {o : Obj} {Hd : Heap → Prop} {Q : Value → Shared → Prop} (B : PySem.Begins v o Hd) (h1 : Hd s.heap)
    (want : ∀ h', IsEnum h' (s.heap.objs.size + 1) s.heap.objs.size 0 .none → h'.get? s.heap.objs.size = some o → (∀ c u, s.heap.get? c = some u → h'.get? c = some u) → Q (.ref (s.heap.objs.size + 1)) { s with heap := h' }) :
    wpAny (model prog w) A (call (.type "enumerate") [v]) Q E s := by
  refine callType_new F.called_enumerate (by decide) (F.typeCall_enumerate_1 _) (F.newCall_enumerate_1 _) (fun obj => F.args_object_init_2 obj _) F.entry_enumerate_new (enum_made B) ⟨h1, ?_⟩
  have hz : (s.heap.push o).objs.size = s.heap.objs.size + 1 := Heap.size_push ..
  show _ ∧ _
  rw [hz]
  have he : IsEnum ((s.heap.push o).push { cls := .type "enumerate", data := .fields #[.none, .bool false, .ref s.heap.objs.size, rawInt 0, .none, .none] }) (s.heap.objs.size + 1) s.heap.objs.size 0 .none := by
    have z := Heap.get?_push_size (s.heap.push o) (o := { cls := .type "enumerate", data := .fields #[.none, .bool false, .ref s.heap.objs.size, rawInt 0, .none, .none] }) rfl
    rw [hz] at z
    exact z
  exact ⟨⟨_, he, rfl⟩, want _ he (Heap.get?_push_of_some _ (Heap.get?_push_size _ B.free)) fun c u x => Heap.get?_push_of_some _ (Heap.get?_push_of_some _ x)⟩
end
/-- the tuple at a, each item in a new pair -/
def IteT (K : PySem.W.Frag) (a : Addr) : It :=
  { go := fun i H => ∃ (xs : List V) (x : V), SqT K H a xs ∧ xs[i]? = some x
    yld := fun i H v H' => ∃ T x, v = .ref T ∧ H T = none ∧ H' = upd H T (.tup [.int (i : Nat), x]) ∧ ∀ xs, SqT K H a xs → xs[i]? = some x
    stop := fun i H => ∃ xs : List V, SqT K H a xs ∧ xs.length = i }
theorem enumT_turn {P : Program} {w : World} {K : PySem.W.Frag} {elts : List Expr} {kk : Nat} {tpos : Pos} (a e it : Addr) :
    Turn P w K (.Tuple elts kk tpos) (IteT K a) [e, it] e (fun i h => (∃ old, IsEnum h e it ((i : Nat) : Int) old) ∧ h.IsTupleIter it a i ∧ e ≠ it ∧ a ≠ it ∧ a ≠ e) where
  mem := by simp
  obj := fun i h st c hc => by
    obtain ⟨⟨old, he⟩, ⟨o, ho, _, hd⟩, _⟩ := st
    rcases (show c = e ∨ c = it by simpa using hc) with rfl | rfl
    · exact ⟨_, he, fun v q => nomatch q⟩
    · exact ⟨o, ho, fun v q => by rw [hd] at q; cases q⟩
  keep := fun i h h' st k => by
    obtain ⟨⟨old, he⟩, hi, r⟩ := st
    exact ⟨⟨old, k e (by simp) _ he⟩, hi.at fun o q => k it (by simp) o q, r⟩
  item := by
    intro X hP hw hK hc i pins s σ H E I hf st hg
    subst hP hw hK
    obtain ⟨⟨old, he⟩, hit, hne, nai, nae⟩ := st
    obtain ⟨xs, x, hq, hx⟩ := hg
    obtain ⟨its, rv, tp, hz⟩ := I.tuple hq
    obtain ⟨u, hu, ru⟩ := rv.get hx
    have hel : e < s.heap.objs.size := Heap.lt_size he
    have hil : it < s.heap.objs.size := by obtain ⟨_, q, _⟩ := hit; exact Heap.lt_size q
    have D := Draws.tuple (prog := X.prog) (w := X.w) (A := X.A.in1) (I.ok.hd hc) it a nai its.toArray
    have hlt : i < its.toArray.size := by
      obtain ⟨hl, _⟩ := List.getElem?_eq_some_iff.mp hu
      simpa using hl
    refine wpAny_pyNext_enum_itemD D he ⟨hit, tp⟩ hlt hne (by simpa [hne] using nae.symm) fun z h' tk hz2 ho hst hT hsz hk => ?_
    have ez : z = u := by
      have q : its.toArray[i]? = some z := hz2
      rw [List.getElem?_toArray, hu] at q
      exact (Option.some.inj q).symm
    subst ez
    refine ⟨_, rfl, wpAny_letOwnedTupleGo_enum (s := { s with heap := h', toks := tk + 1 }) ho fun h2 he2 sb => ?_⟩
    have hT2 : h2.get? s.heap.objs.size = some { cls := .type "tuple", data := .seq #[.int i tk, z] } := (sb.2 _ (Nat.ne_of_gt hel)).trans hT
    have new : ObjOk X.prog X.w (upd H s.heap.objs.size (.tup [.int (i : Nat), x])) h2 s.heap.objs.size (.tup [.int (i : Nat), x]) :=
      ⟨by show 2 ≤ sizeLine; decide, [.int i tk, z], .cons ⟨_, rfl⟩ (.cons ru .nil), ⟨_, hT2, rfl, _, rfl⟩⟩
    have J : L2.Inv X pins σ (upd H s.heap.objs.size (.tup [.int (i : Nat), x])) { s with heap := h2, toks := tk + 1 } :=
      I.turnedNew (ch := [e, it]) (fun c ob hc2 q => (sb.2 c (fun z => hc2 (by simp [z]))).trans (hk c ob (fun z => hc2 (by simp [z])) (fun z => hc2 (by simp [z])) q)) hf (Nat.le_refl _) new
    refine ⟨.ref s.heap.objs.size, _, J, rfl, ⟨_, x, rfl, I.hok.fresh (Nat.le_refl _), rfl, fun ys hy => by rw [I.tuple_inj hy hq]; exact hx⟩, ⟨⟨z, ?_⟩, hst.1.at fun o q => (sb.2 it (Ne.symm hne)).trans q, hne, nai, nae⟩, fun c hc2 => ?_⟩
    · rw [show ((i + 1 : Nat) : Int) = (i : Int) + 1 by omega]
      exact he2
    · have lt : c < s.heap.objs.size := by
        rcases (show c = e ∨ c = it by simpa using hc2) with rfl | rfl
        · exact hel
        · exact hil
      rw [upd_ne (Nat.ne_of_lt lt)]
      exact (hf c hc2).1
  done := by
    intro X hP hw hK hc i pins s σ H E I hf st hg
    subst hP hw hK
    obtain ⟨⟨old, he⟩, hit, hne, nai, nae⟩ := st
    obtain ⟨xs, hq, hx⟩ := hg
    obtain ⟨its, rv, tp, hz⟩ := I.tuple hq
    obtain ⟨f0, f1, f2, f3, f4, f5⟩ := hf it (by simp)
    have hl := rv.length
    have D := Draws.tuple (prog := X.prog) (w := X.w) (A := X.A.in1) (I.ok.hd hc) it a nai its.toArray
    have hi : i = its.toArray.size := by rw [List.size_toArray, ← hl]; exact hx.symm
    subst hi
    exact wpAny_pyNext_enum_endD D he ⟨hit, tp⟩ fun h' eb => ⟨rfl, I.turned (t' := s.toks) (fun c o hc2 q => eb c o hc2 q) f0 f1 f3 f4 f5⟩
  self := fun A i s Q E st h => by
    obtain ⟨⟨_, he⟩, _⟩ := st
    exact wpAny_pyIter_enum he h
end Dl
namespace Dl
open PySem PySem.Spec PyProof.Rows L2
def iEnumT (K : PySem.W.Frag) (ta : TA) : TI := fun σ H R => ta σ H fun vs H1 => ∃ a xs, vs = [.ref a] ∧ SqT K H1 a xs ∧ R (IteT K a) H1
theorem pi_enumT {X : Cx} {e : Expr} {ta : TA} {p pos tpos : Pos} {elts : List Expr} {kk : Nat} (gl : Gl X "enumerate") (gm : X.mg "enumerate" = none) (ha : PA X [e] ta) (hs : starEach [e] X.env = [(false, eval e X.env)] := by rfl) :
    PI X (.Tuple elts kk tpos) (.Call (.Name "enumerate" p) [e] [] pos) (iEnumT X.K ta) := by
  refine ⟨fun pins s σ H R I want => ?_⟩
  have w2 : ta σ H fun vs H1 => ∃ a xs, vs = [.ref a] ∧ SqT X.K H1 a xs ∧ R (IteT X.K a) H1 := want
  have run := ha.run pos pins s σ H _ I w2
  refine Call_ (ld_blt I gl gm boot_enumerate (PyProof.Rows.callWith_type1 (thn run ?_) hs rfl))
  intro us st got
  obtain ⟨vs, H1, J, rv, q⟩ := got
  obtain ⟨a, xs, rfl, hq, q⟩ := q
  match us, rv with
  | [_], .cons r .nil =>
    cases r
    obtain ⟨its, rv, tp, hz⟩ := J.tuple hq
    have la : a < st.heap.objs.size := tp.lt
    refine enum_call (begins_tuple a its.toArray) tp fun h' he hit hk => wpAny_pyIter_enum he ?_
    have J2 : L2.Inv X pins σ H1 { st with heap := h' } := J.kept (t' := st.toks) hk
    refine ⟨st.heap.objs.size + 1, [st.heap.objs.size + 1, st.heap.objs.size], _, _, H1, rfl, J2, enumT_turn a (st.heap.objs.size + 1) st.heap.objs.size, ⟨⟨.none, he⟩, ⟨_, hit, rfl, rfl⟩, Nat.succ_ne_self _, Nat.ne_of_lt la, Nat.ne_of_lt (Nat.lt_succ_of_lt la)⟩, fun c hc => ?_, q⟩
    have le : st.heap.objs.size ≤ c := by
      rcases (show c = st.heap.objs.size + 1 ∨ c = st.heap.objs.size by simpa using hc) with z | z
      · rw [z]; exact Nat.le_succ _
      · rw [z]; exact Nat.le_refl _
    exact J.fpOk le (J.hok.fresh le)
theorem wlk_enumT {K : PySem.W.Frag} {b : Bg} {F : Hp} {a : Addr} {vs : List V} {xs : List PyData} (h : SqT K F a vs) (r : RpA K F vs xs) : Wlk K b F (IteT K a) (enumD xs) :=
  ⟨⟨fun H => SqT K H a vs, YPair (fun i => some (.int (i : Nat))) (fun i => vs[i]?), ⟨fun i H hi q => by
      have hl : i < vs.length := by rw [r.len]; simpa [enumD] using hi
      exact ⟨vs, vs[i], q, List.getElem?_eq_getElem hl⟩, fun H q => ⟨vs, q, by rw [enumD_len, r.len]⟩, fun i H v H2 hi q y => by
      obtain ⟨T, x, e1, hT, e2, hx⟩ := y
      exact ⟨T, .int (i : Nat), x, e1, hT, e2, rfl, hx vs q⟩⟩, fun F' H' s w => sqt_up w.sub (sqt_up s h), fun i F' H' v H2 s w y => by
    obtain ⟨T, x, y, rfl, hT, rfl, e1, e2⟩ := y
    cases e1
    obtain ⟨z, e3, r1⟩ := r.getV e2
    obtain ⟨F2, st, rp⟩ := pair_new w hT (Rp.int (i : Nat)) (r1.up s)
    refine ⟨F2, _, st, ?_, rp⟩
    unfold enumD
    rw [List.getElem?_map, List.getElem?_zipIdx, e3]
    simp⟩⟩
def itEnumT (ta : DA) : DIt := fun env P => ta env fun us => allD us fun xs => match xs with
  | [.tuple ys] => P (enumD ys)
  | _ => False
theorem di_enumT {X : Cx} {w : Wn} {ta : DA} {p pos tpos : Pos} {a : Expr} {elts : List Expr} {kk : Nat} (gl : Gl X "enumerate") (gm : X.mg "enumerate" = none) (ha : DPA X w [a] ta) (hs : starEach [a] X.env = [(false, eval a X.env)] := by rfl) : PI X (.Tuple elts kk tpos) (.Call (.Name "enumerate" p) [a] [] pos) (lfI X.K w (itEnumT ta)) :=
  pi_weak (pi_enumT gl gm ha hs) fun σ H R ⟨env, F, P, r, h, q⟩ => ⟨env, F, _, r, h, fun dvs vs F1 H1 s1 r1 h1 => by
    obtain ⟨xs, ra, h1⟩ := allD_ok r1 h1
    split at h1
    · next ys =>
      cases ra with
      | cons a1 t =>
        cases t
        cases a1 with
        | tup e1 r2 => exact ⟨_, _, rfl, sqt_up s1.sub e1, q _ _ F1 H1 s1 (wlk_enumT e1 r2) h1⟩
    · exact h1.elim⟩
/-! ### a def that takes any number of arguments -/
theorem d_star {ts : List Addr} {P : Program} {w : World} {K : PySem.W.Frag} {mg : Str → Option Value} {base : Heap} {k : Nat} {f : Addr} {fd : FuncData} {x qual pv : Str} {st : Stmt} {N : List Str} (Fn : L2.Fun K x qual st f fd) (S : FnScope N [pv] (defScope st))
    (hb : ∀ (kV doc pm : Value) (an : Option Addr) (cdv ct : Value) (us : List Value), bindArgs (PySem.W.fnOf x qual (defArgs st) (defBody st) (defScope st) .none kV doc pm an cdv ct) { pos := us, kw := [] } = (newTuple us >>= fun t => pure [(pv, t)]))
    (sp : DSp) (t : DS)
    (hd : ∀ (cdv : Value) (A : Around) (outer : List Env) (s : Shared) (H : Hp) (E : XK) (wn : Wn), fd.code = cdv → wn.b.ts = ts → (A.deeper (envOfC qual (defScope st) s.heap.objs.size f cdv)).guards = some [] → Room k (A.deeper (envOfC qual (defScope st) s.heap.objs.size f cdv)) →
      DPSs (cxOf (L2.CX P w) P w K mg base N qual (defScope st) f cdv A outer s H E).nox wn (defBody st) t)
    (hv : ∀ dvs Q, sp dvs Q → allD dvs fun xs => xs.length ≤ 100000 ∧ t { nx := fun _ => Q (.d .none), rt := Q } (startD N [.d (.tuple xs)])) : Fg P w K mg base (L2.CX P w) (k + 1) f (Pm K ts sp) := by
  intro A outer s H us vs Q E ag room e0 rv want
  obtain ⟨b, F, dvs, R, ht, wd, ar, hsp, q⟩ := want
  have ar2 : Paired (ArR K b F H) dvs vs := by
    clear rv hsp q
    induction ar with
    | nil => exact .nil
    | @cons dv v _ _ a t ih =>
      refine .cons ?_ ih
      cases dv with
      | d x => exact a
      | raw u => exact a
      | bag => exact a
      | fr x => exact a.elim
      | ow l x => exact a.elim
      | ft x => exact a.elim
      | tr p S x => exact a.elim
  obtain ⟨xs, rx, hz, hread⟩ := allD_ok ar2 (hv dvs R hsp)
  obtain ⟨oc, od, kV, doc, pm, an, cdv, ct, osl, rfl, lk, hcd⟩ := Fn.ex
  have hn : H s.heap.objs.size = none := e0.hok.fresh (Nat.le_refl _)
  have hvl : vs.length ≤ sizeLine := by rw [rx.len]; exact lim_le hz
  have hul : us.length ≤ sizeLine := by rw [← rv.length]; exact hvl
  refine StX.run_bnd (N := N) (ps := [pv]) lk hcd S room e0 (G := fun ys H2 => ∃ p, H p = none ∧ ys = [V.ref p] ∧ H2 = upd H p (.tup vs)) (fun A' Ex Q' h => ?_) fun s2 H2 ys g room2 => ?_
  · rw [hb kV doc pm an cdv ct us]
    refine wpAny_bind (wpAny_newTuple (wpAny_pure ?_) hul)
    have new : ObjOk P w (upd H s.heap.objs.size (.tup vs)) (s.heap.push ({ cls := .type "tuple", data := .seq us.toArray } : Obj)) s.heap.objs.size (.tup vs) := ⟨hvl, us, rv, ⟨_, Heap.get?_push_size _ rfl, rfl, _, rfl⟩⟩
    have un := StX.un_laid (fs := frs outer) (s := s) (o := ({ cls := .type "tuple", data := .seq us.toArray } : Obj)) (u := .tup vs) hn
    exact h _ _ [V.ref s.heap.objs.size] [Value.ref s.heap.objs.size] (StX.env0_laid e0 new) un rfl (fun e s' => StX.cxUp outer s H _ _ E e s' un (fun c o q => Heap.get?_push_of_some _ q) rfl) (.cons rfl .nil) rfl ⟨_, hn, rfl, rfl⟩
  · obtain ⟨p, hp, rfl, rfl⟩ := g
    have stp := wd.laid (o := .tup vs) hp
    have ra : Rp K (upd F p (.tup vs)) (.ref p) (.tuple xs) := Rp.tup (SqT.of upd_same) (rx.up stp.ex)
    refine ⟨_, PSs.nox (hd cdv A outer s2 _ E ⟨b, upd F p (.tup vs), upd H p (.tup vs)⟩ rfl ht (guards_in ag _) room2), startD N [.d (.tuple xs)], upd F p (.tup vs), _, rel_start stp.wd (.cons ra .nil), hread, ?_⟩
    refine ⟨fun env σ F' H' r _ z => ?_, fun env σ F' H' r _ z => z, fun env σ F' H' r _ z => z, fun dv v F' H' st' rs z => q dv v F' H' (stp.trans st') (rs.early stp) z⟩
    exact q (.d .none) .non F' H' (stp.trans r.st) Rp.non z
end Dl
namespace Dl
open PySem PySem.Spec PyProof.Rows L2
/-! ### xs[i] as the first half of xs[i] += e -/
def rGetL : V → V → Hp → VK → Prop := fun o i H Q => ∃ l xs k v, o = .ref l ∧ i = .int (k : Nat) ∧ H l = some (.lst xs) ∧ xs[k]? = some v ∧ Q v H
theorem get_lst {X : Cx} : PGet X rGetL := by
  intro pins s σ H o i ov iv Q I ro ri want
  obtain ⟨l, xs, k, v, rfl, rfl, e, ev, q⟩ := want
  cases ro
  obtain ⟨t, rfl⟩ := ri
  obtain ⟨its, r, pl, hz⟩ := I.list (SqL.of e)
  obtain ⟨u, hu, ru⟩ := r.get ev
  obtain ⟨hl, _⟩ := List.getElem?_eq_some_iff.mp ev
  have hb := line63
  exact wpAny_getItem_list pl.isList (by omega) (by omega) (by simpa using hu) ⟨v, H, I, ru, q⟩
/-! ### defs by a reading over the heap -/
theorem r_def {P : Program} {w : World} {K : PySem.W.Frag} {mg : Str → Option Value} {base : Heap} {CX : CXT} {k : Nat} {f : Addr} {fd : FuncData} {x qual : Str} {st : Stmt} {N ps : List Str} (Fn : L2.Fun K x qual st f fd) (S : FnScope N ps (defScope st))
    (hb : ∀ (kV doc pm : Value) (an : Option Addr) (cdv ct : Value) (us : List Value), us.length = ps.length → bindArgs (PySem.W.fnOf x qual (defArgs st) (defBody st) (defScope st) .none kV doc pm an cdv ct) { pos := us, kw := [] } = pure (ps.zip us))
    (sp : Sp)
    (hd : ∀ (cdv : Value) (A : Around) (outer : List Env) (s : Shared) (H : Hp) (vs : List V) (Q : VK) (E : XK), (A.deeper (envOfC qual (defScope st) s.heap.objs.size f cdv)).guards = some [] → Room k (A.deeper (envOfC qual (defScope st) s.heap.objs.size f cdv)) → sp vs H Q E →
      vs.length = ps.length ∧ ∃ t, PSs (cxOf CX P w K mg base N qual (defScope st) f cdv A outer s H E).nox (defBody st) t ∧ t { nx := fun _ H' => Q .non H', rt := Q } (L2.start N vs) H) : Fg P w K mg base CX (k + 1) f sp := by
  intro A outer s H us vs Q E ag room e0 rv want
  obtain ⟨oc, od, kV, doc, pm, an, cdv, ct, osl, rfl, lk, hcd⟩ := Fn.ex
  have hvl : vs.length = ps.length := (hd cdv A outer s H vs Q E (guards_in ag _) (room.deeper _) want).1
  have hul : us.length = ps.length := rv.length.symm.trans hvl
  refine StX.run_bnd (N := N) (ps := ps) lk hcd S room e0 (G := fun xs H2 => xs = vs ∧ H2 = H) (fun A' Ex Q' h => ?_) fun s2 H2 xs g room2 => ?_
  · rw [hb kV doc pm an cdv ct us hul]
    exact wpAny_pure (h s H vs us e0 Un.refl rfl (fun _ _ z => z) rv hvl ⟨rfl, rfl⟩)
  · obtain ⟨rfl, rfl⟩ := g
    obtain ⟨_, t, ht, q⟩ := hd cdv A outer s2 _ _ Q E (guards_in ag _) room2 want
    exact ⟨t, PSs.nox ht, q⟩
/-! ### a draw -/
def spTake : DSp := fun us P => ∃ m : Int, us = [.bag, .d (.int m)] ∧ 0 < m ∧ m.natAbs.log2 < 9000 ∧ ∀ r : Int, 0 ≤ r → r < m → P (.d (.int r))
abbrev bIx (K : PySem.W.Frag) (k : Int) : TE := tOp (rIxL K) (tVar 0) (tC (.int k))
abbrev bLen (K : PySem.W.Frag) : List V → Hp → VK → Prop := fun xs H Q => ∃ p ys, xs = [.ref p] ∧ (SqL K H p ys ∨ SqT K H p ys) ∧ Q (.int ys.length) H
abbrev bMul : R2 := rI CMul fun i j => .int (i * j)
abbrev bMod : R2 := rI (fun _ j => 0 < j) fun i j => .int (i % j)
abbrev bAdd : R2 := rI0 fun i j => .int (i + j)
/-- the reading of _law_take's body; its slots: the bag, many, cell, value, first, second -/
def tkT (K : PySem.W.Frag) : TS :=
  tSeq (tIfS (tTest (tOp rEq (bIx K 0) (tC (.int 0))))
      (tSeq (tAsg (tC (.int 0)) (gName 2))
      (tSeq (tIfS (tTest (tOp (rI0 fun i j => .bl (decide (i < j))) (bIx K 2) (tCB (bLen K) (tCons (bIx K 3) tNil)))) (tAsg (tOp (rIxL K) (bIx K 3) (bIx K 2)) (gName 2)) tNext)
      (tSeq (tAugS (tVar 0) (tC (.int 2)) (tC (.int 1)) rGetL (ipI fun i j => i + j) rSetL)
      (tSeq (tIfS (tTest (tOp (rI0 fun i j => .bl (decide (j ≤ i))) (tVar 2) (tC (.int 1000000000000000000)))) (tAsg (tVar 2) (gSub (tVar 0) (tC (.int 0)) rSetL)) tNext)
        (tAsg (tOp bMod (tOp bAdd (tOp bAdd (tOp bMul (bIx K 1) (tC (.int 48271))) (tOp bMod (tVar 2) (tC (.int 2147483647)))) (tOp bMul (tC (.int 7919)) (bIx K 2))) (tC (.int 2147483647))) (gSub (tVar 0) (tC (.int 1)) rSetL))))))
      tNext)
  (tSeq (tIfS (tTest (tOp (rI0 fun i j => .bl (decide (j < i))) (bIx K 0) (tC (.int 0))))
      (tSeq (tAsg (tOp bMod (bIx K 0) (tVar 1)) (gName 3))
      (tSeq (tAsg (tOp (rI (fun _ j => j ≠ 0 ∧ j.natAbs.log2 < 9000) fun i j => .int (i.fdiv j)) (bIx K 0) (tVar 1)) (gSub (tVar 0) (tC (.int 0)) rSetL))
        (tRet (tVar 3))))
      tNext)
  (tSeq (tAsg (tOp bMod (tOp bMul (tOp bAdd (bIx K 1) (tC (.int 1))) (tC (.int 39373))) (tC (.int 1000000007))) (gName 4))
  (tSeq (tAsg (tOp bMod (tOp bMul (tOp bMod (tOp bMul (tVar 4) (tVar 4)) (tC (.int 998244353))) (tC (.int 30011))) (tC (.int 998244353))) (gName 5))
  (tSeq (tIfS (tTest (tOp (rI0 fun i j => .bl (decide (j < i))) (tVar 1) (tC (.int 1000000)))) (tRet (tOp bMod (tOp bAdd (tOp bMul (tVar 5) (tC (.int 1000000007))) (tVar 4)) (tVar 1))) tNext)
    (tRet (tOp bMod (tOp (rI CDiv fun i j => .int (i / j)) (tVar 5) (tC (.int 7))) (tVar 1)))))))
section
variable {K : PySem.W.Frag} {b : Bg} {F H : Hp}
/-- the bag holds x y z now -/
structure Bn (b : Bg) (F H H' : Hp) (x y z : Int) : Prop where
  at' : H' b.b = some (.lst [.int x, .int y, .int z, .ref b.c])
  else' : ∀ a, a ≠ b.b → H' a = H a
  x0 : 0 ≤ x
  y0 : 0 ≤ y
  z0 : 0 ≤ z
theorem Bn.cells {H' : Hp} {x y z : Int} (w : Wd K b F H) (n : Bn b F H H' x y z) : H' b.c = some (.lst (b.ns.map V.int)) := by
  have e := w.bag.2.1
  have ne : b.c ≠ b.b := fun q => by rw [q, w.fb] at e; cases e
  rw [n.else' _ ne]
  exact w.sub _ _ e
theorem Bn.put {H' : Hp} {x y z x2 y2 z2 : Int} (n : Bn b F H H' x y z) (h1 : 0 ≤ x2) (h2 : 0 ≤ y2) (h3 : 0 ≤ z2) : Bn b F H (upd H' b.b (.lst [.int x2, .int y2, .int z2, .ref b.c])) x2 y2 z2 :=
  ⟨upd_same, fun a ne => by rw [upd_ne ne]; exact n.else' a ne, h1, h2, h3⟩
theorem Bn.stp {H' : Hp} {x y z : Int} (w : Wd K b F H) (n : Bn b F H H' x y z) : Stp K b F H F H' :=
  ⟨fun a o ne _ h => by rw [n.else' a ne]; exact h, ⟨⟨x, y, z, n.at', n.x0, n.y0, n.z0⟩, w.bag.2.1, w.bag.2.2.1, fun t m => ⟨(w.bag.2.2.2 t m).1, by obtain ⟨ps, q, k⟩ := (w.bag.2.2.2 t m).2; exact ⟨ps, by rw [n.else' t (fun e => by obtain ⟨_, eb⟩ := w.bag.lst; rw [e, eb] at q; cases q)]; exact q, k⟩⟩⟩, fun _ _ h => h, fun a o h => by
    have ne : a ≠ b.b := fun q => by rw [q, w.fb] at h; cases h
    rw [n.else' a ne]; exact w.sub _ _ h, w.fb, fun _ h _ => h, fun a ps ne h => ⟨ps, by rw [n.else' a ne]; exact h, fun q => q⟩⟩
theorem bix0 {σ : L2.St} {H' : Hp} {x y z : Int} {Q : VK} (n : Bn b F H H' x y z) (h0 : σ[0]? = some (some (.ref b.b))) (q : Q (.int x) H') : bIx K 0 σ H' Q :=
  ⟨_, h0, _, _, _, _, rfl, rfl, SqL.of n.at', rfl, q⟩
theorem bix1 {σ : L2.St} {H' : Hp} {x y z : Int} {Q : VK} (n : Bn b F H H' x y z) (h0 : σ[0]? = some (some (.ref b.b))) (q : Q (.int y) H') : bIx K 1 σ H' Q :=
  ⟨_, h0, _, _, _, _, rfl, rfl, SqL.of n.at', rfl, q⟩
theorem bix2 {σ : L2.St} {H' : Hp} {x y z : Int} {Q : VK} (n : Bn b F H H' x y z) (h0 : σ[0]? = some (some (.ref b.b))) (q : Q (.int z) H') : bIx K 2 σ H' Q :=
  ⟨_, h0, _, _, _, _, rfl, rfl, SqL.of n.at', rfl, q⟩
theorem bix3 {σ : L2.St} {H' : Hp} {x y z : Int} {Q : VK} (n : Bn b F H H' x y z) (h0 : σ[0]? = some (some (.ref b.b))) (q : Q (.ref b.c) H') : bIx K 3 σ H' Q :=
  ⟨_, h0, _, _, _, _, rfl, rfl, SqL.of n.at', rfl, q⟩
theorem tk_tail {H' : Hp} {m y : Int} {x z : Int} {D : Ends} {s2 s3 s4 s5 : Option V} (w : Wd K b F H) (n : Bn b F H H' x y z) (hm : 0 < m) (hq : ∀ r : Int, 0 ≤ r → r < m → ∀ H2, Stp K b F H F H2 → D.rt (.int r) H2) :
    (tSeq (tAsg (tOp bMod (tOp bMul (tOp bAdd (bIx K 1) (tC (.int 1))) (tC (.int 39373))) (tC (.int 1000000007))) (gName 4))
  (tSeq (tAsg (tOp bMod (tOp bMul (tOp bMod (tOp bMul (tVar 4) (tVar 4)) (tC (.int 998244353))) (tC (.int 30011))) (tC (.int 998244353))) (gName 5))
  (tSeq (tIfS (tTest (tOp (rI0 fun i j => .bl (decide (j < i))) (tVar 1) (tC (.int 1000000)))) (tRet (tOp bMod (tOp bAdd (tOp bMul (tVar 5) (tC (.int 1000000007))) (tVar 4)) (tVar 1))) tNext)
    (tRet (tOp bMod (tOp (rI CDiv fun i j => .int (i / j)) (tVar 5) (tC (.int 7))) (tVar 1)))))) D [some (.ref b.b), some (.int m), s2, s3, s4, s5] H' := by
  refine bix1 n rfl ⟨_, _, rfl, rfl, _, _, rfl, rfl, .inr ⟨by decide, by decide⟩, _, _, rfl, rfl, (by show (0 : Int) < _; decide), ?_⟩
  have a0 : 0 ≤ (y + 1) * 39373 % 1000000007 := Int.emod_nonneg _ (by decide)
  have a1 : (y + 1) * 39373 % 1000000007 < 1000000007 := Int.emod_lt_of_pos _ (by decide)
  generalize (y + 1) * 39373 % 1000000007 = first at a0 a1
  refine ⟨_, rfl, _, rfl, _, _, rfl, rfl, .inl ⟨by omega, by omega⟩, _, _, rfl, rfl, (by show (0 : Int) < _; decide), ?_⟩
  have c0 : 0 ≤ first * first % 998244353 := Int.emod_nonneg _ (by decide)
  have c1 : first * first % 998244353 < 998244353 := Int.emod_lt_of_pos _ (by decide)
  generalize first * first % 998244353 = sq at c0 c1
  refine ⟨_, _, rfl, rfl, .inl ⟨by omega, by omega⟩, _, _, rfl, rfl, (by show (0 : Int) < _; decide), ?_⟩
  have d0 : 0 ≤ sq * 30011 % 998244353 := Int.emod_nonneg _ (by decide)
  have d1 : sq * 30011 % 998244353 < 998244353 := Int.emod_lt_of_pos _ (by decide)
  generalize sq * 30011 % 998244353 = second at d0 d1
  refine ⟨_, rfl, _, _, rfl, rfl, _, rfl, ite2 (fun _ => ?_) fun _ => ?_⟩
  · refine ⟨_, rfl, _, _, rfl, rfl, .inl ⟨by omega, by omega⟩, _, rfl, _, _, rfl, rfl, _, rfl, _, _, rfl, rfl, hm, ?_⟩
    exact hq _ (Int.emod_nonneg _ (by omega)) (Int.emod_lt_of_pos _ hm) H' (n.stp w)
  · refine ⟨_, rfl, _, _, rfl, rfl, ⟨by decide, by decide⟩, _, rfl, _, _, rfl, rfl, hm, ?_⟩
    exact hq _ (Int.emod_nonneg _ (by omega)) (Int.emod_lt_of_pos _ hm) H' (n.stp w)
theorem tk_mid {H' : Hp} {m y : Int} {x z : Int} {D : Ends} {s2 s3 s4 s5 : Option V} (w : Wd K b F H) (n : Bn b F H H' x y z) (hm : 0 < m) (hs : m.natAbs.log2 < 9000) (hq : ∀ r : Int, 0 ≤ r → r < m → ∀ H2, Stp K b F H F H2 → D.rt (.int r) H2) :
  (tSeq (tIfS (tTest (tOp (rI0 fun i j => .bl (decide (j < i))) (bIx K 0) (tC (.int 0))))
      (tSeq (tAsg (tOp bMod (bIx K 0) (tVar 1)) (gName 3))
      (tSeq (tAsg (tOp (rI (fun _ j => j ≠ 0 ∧ j.natAbs.log2 < 9000) fun i j => .int (i.fdiv j)) (bIx K 0) (tVar 1)) (gSub (tVar 0) (tC (.int 0)) rSetL))
        (tRet (tVar 3))))
      tNext)
  (tSeq (tAsg (tOp bMod (tOp bMul (tOp bAdd (bIx K 1) (tC (.int 1))) (tC (.int 39373))) (tC (.int 1000000007))) (gName 4))
  (tSeq (tAsg (tOp bMod (tOp bMul (tOp bMod (tOp bMul (tVar 4) (tVar 4)) (tC (.int 998244353))) (tC (.int 30011))) (tC (.int 998244353))) (gName 5))
  (tSeq (tIfS (tTest (tOp (rI0 fun i j => .bl (decide (j < i))) (tVar 1) (tC (.int 1000000)))) (tRet (tOp bMod (tOp bAdd (tOp bMul (tVar 5) (tC (.int 1000000007))) (tVar 4)) (tVar 1))) tNext)
    (tRet (tOp bMod (tOp (rI CDiv fun i j => .int (i / j)) (tVar 5) (tC (.int 7))) (tVar 1))))))) D [some (.ref b.b), some (.int m), s2, s3, s4, s5] H' := by
  refine bix0 n rfl ⟨_, _, rfl, rfl, _, rfl, ite2 (fun hx => ?_) fun _ => tk_tail w n hm hq⟩
  refine bix0 n rfl ⟨_, rfl, _, _, rfl, rfl, hm, ?_⟩
  refine bix0 n rfl ⟨_, rfl, _, _, rfl, rfl, ⟨by omega, hs⟩, ?_⟩
  have e : x.fdiv m = x / m := Int.fdiv_eq_ediv_of_nonneg x (by omega)
  refine ⟨_, rfl, b.b, _, 0, 0, rfl, rfl, n.at', rfl, ?_⟩
  refine ⟨_, rfl, hq _ (Int.emod_nonneg _ (by omega)) (Int.emod_lt_of_pos _ hm) _ (Bn.stp w (n.put ?_ n.y0 n.z0))⟩
  rw [e]
  exact Int.ediv_nonneg n.x0 (by omega)
theorem tk_go {m : Int} {D : Ends} {s2 s3 s4 s5 : Option V} (w : Wd K b F H) (hm : 0 < m) (hs : m.natAbs.log2 < 9000) (hq : ∀ r : Int, 0 ≤ r → r < m → ∀ H2, Stp K b F H F H2 → D.rt (.int r) H2) :
    tkT K D [some (.ref b.b), some (.int m), s2, s3, s4, s5] H := by
  obtain ⟨⟨x, y, z, eb, x0, y0, z0⟩, ec, ens, _⟩ := id w.bag
  have n : Bn b F H H x y z := ⟨eb, fun _ _ => rfl, x0, y0, z0⟩
  refine bix0 n rfl ⟨rfl, _, rfl, ite2 (fun hx => ?_) fun _ => tk_mid w n hm hs hq⟩
  -- the cell
  have fin : ∀ cell : Int, 0 ≤ cell → (tSeq (tAugS (tVar 0) (tC (.int 2)) (tC (.int 1)) rGetL (ipI fun i j => i + j) rSetL)
      (tSeq (tIfS (tTest (tOp (rI0 fun i j => .bl (decide (j ≤ i))) (tVar 2) (tC (.int 1000000000000000000)))) (tAsg (tVar 2) (gSub (tVar 0) (tC (.int 0)) rSetL)) tNext)
        (tAsg (tOp bMod (tOp bAdd (tOp bAdd (tOp bMul (bIx K 1) (tC (.int 48271))) (tOp bMod (tVar 2) (tC (.int 2147483647)))) (tOp bMul (tC (.int 7919)) (bIx K 2))) (tC (.int 2147483647))) (gSub (tVar 0) (tC (.int 1)) rSetL))))
      { D with nx := fun σ H => (tSeq (tIfS (tTest (tOp (rI0 fun i j => .bl (decide (j < i))) (bIx K 0) (tC (.int 0))))
      (tSeq (tAsg (tOp bMod (bIx K 0) (tVar 1)) (gName 3))
      (tSeq (tAsg (tOp (rI (fun _ j => j ≠ 0 ∧ j.natAbs.log2 < 9000) fun i j => .int (i.fdiv j)) (bIx K 0) (tVar 1)) (gSub (tVar 0) (tC (.int 0)) rSetL))
        (tRet (tVar 3))))
      tNext)
  (tSeq (tAsg (tOp bMod (tOp bMul (tOp bAdd (bIx K 1) (tC (.int 1))) (tC (.int 39373))) (tC (.int 1000000007))) (gName 4))
  (tSeq (tAsg (tOp bMod (tOp bMul (tOp bMod (tOp bMul (tVar 4) (tVar 4)) (tC (.int 998244353))) (tC (.int 30011))) (tC (.int 998244353))) (gName 5))
  (tSeq (tIfS (tTest (tOp (rI0 fun i j => .bl (decide (j < i))) (tVar 1) (tC (.int 1000000)))) (tRet (tOp bMod (tOp bAdd (tOp bMul (tVar 5) (tC (.int 1000000007))) (tVar 4)) (tVar 1))) tNext)
    (tRet (tOp bMod (tOp (rI CDiv fun i j => .int (i / j)) (tVar 5) (tC (.int 7))) (tVar 1))))))) D σ H } [some (.ref b.b), some (.int m), some (.int cell), s3, s4, s5] H := by
    intro cell c0
    refine ⟨_, rfl, b.b, _, 2, _, rfl, rfl, eb, rfl, _, _, rfl, rfl, b.b, _, 2, 2, rfl, rfl, eb, rfl, ?_⟩
    have n2 : Bn b F H (upd H b.b (.lst [.int x, .int y, .int (z + 1), .ref b.c])) x y (z + 1) := n.put x0 y0 (by omega)
    have last : ∀ (H3 : Hp) (x3 : Int), Bn b F H H3 x3 y (z + 1) → (tAsg (tOp bMod (tOp bAdd (tOp bAdd (tOp bMul (bIx K 1) (tC (.int 48271))) (tOp bMod (tVar 2) (tC (.int 2147483647)))) (tOp bMul (tC (.int 7919)) (bIx K 2))) (tC (.int 2147483647))) (gSub (tVar 0) (tC (.int 1)) rSetL))
      { D with nx := fun σ H => (tSeq (tIfS (tTest (tOp (rI0 fun i j => .bl (decide (j < i))) (bIx K 0) (tC (.int 0))))
      (tSeq (tAsg (tOp bMod (bIx K 0) (tVar 1)) (gName 3))
      (tSeq (tAsg (tOp (rI (fun _ j => j ≠ 0 ∧ j.natAbs.log2 < 9000) fun i j => .int (i.fdiv j)) (bIx K 0) (tVar 1)) (gSub (tVar 0) (tC (.int 0)) rSetL))
        (tRet (tVar 3))))
      tNext)
  (tSeq (tAsg (tOp bMod (tOp bMul (tOp bAdd (bIx K 1) (tC (.int 1))) (tC (.int 39373))) (tC (.int 1000000007))) (gName 4))
  (tSeq (tAsg (tOp bMod (tOp bMul (tOp bMod (tOp bMul (tVar 4) (tVar 4)) (tC (.int 998244353))) (tC (.int 30011))) (tC (.int 998244353))) (gName 5))
  (tSeq (tIfS (tTest (tOp (rI0 fun i j => .bl (decide (j < i))) (tVar 1) (tC (.int 1000000)))) (tRet (tOp bMod (tOp bAdd (tOp bMul (tVar 5) (tC (.int 1000000007))) (tVar 4)) (tVar 1))) tNext)
    (tRet (tOp bMod (tOp (rI CDiv fun i j => .int (i / j)) (tVar 5) (tC (.int 7))) (tVar 1))))))) D σ H } [some (.ref b.b), some (.int m), some (.int cell), s3, s4, s5] H3 := by
      intro H3 x3 n3
      refine bix1 n3 rfl ⟨_, _, rfl, rfl, .inr ⟨by decide, by decide⟩, _, rfl, _, _, rfl, rfl, (by show (0 : Int) < _; decide), _, _, rfl, rfl, ?_⟩
      refine bix2 n3 rfl ⟨_, _, rfl, rfl, .inl ⟨by decide, by decide⟩, _, _, rfl, rfl, _, _, rfl, rfl, (by show (0 : Int) < _; decide), ?_⟩
      refine ⟨_, rfl, b.b, _, 1, 1, rfl, rfl, n3.at', rfl, ?_⟩
      exact tk_mid w (n3.put n3.x0 (Int.emod_nonneg _ (by decide)) n3.z0) hm hs hq
    refine ⟨_, rfl, _, _, rfl, rfl, _, rfl, ite2 (fun _ => ?_) fun _ => last _ x n2⟩
    refine ⟨_, rfl, _, rfl, b.b, _, 0, 0, rfl, rfl, n2.at', rfl, ?_⟩
    exact last _ cell (n2.put c0 y0 (by omega))
  have hc : H b.c = some (.lst (b.ns.map V.int)) := w.sub _ _ ec
  refine bix2 n rfl (bix3 n rfl ⟨b.c, _, rfl, .inl (SqL.of hc), _, _, rfl, rfl, _, rfl, ite2 (fun hz => ?_) fun _ => fin 0 (Int.le_refl _)⟩)
  have hl : z < (b.ns.length : Int) := by
    have := of_decide_eq_true hz
    rwa [List.length_map] at this
  have hz2 : z.toNat < b.ns.length := by omega
  refine bix3 n rfl (bix2 n rfl ⟨b.c, _, z, .int b.ns[z.toNat], rfl, rfl, SqL.of hc, ?_, fin _ (ens _ (List.getElem_mem hz2))⟩)
  refine at_of (j := z.toNat) (by omega) ?_
  rw [List.getElem?_map, List.getElem?_eq_getElem hz2]
  rfl
end
end Dl
namespace Dl
open PySem PySem.Spec PyProof.Rows L2
/-! ### the bag is made -/
abbrev bAbs : List V → Hp → VK → Prop := fun xs H Q => ∃ i : Int, xs = [.int i] ∧ Q (.int (if i < 0 then -i else i)) H
def bgT (K : PySem.W.Frag) : TS := tRet (tLst (tCons (tC (.int 0)) (tCons (tC (.int 1234567891)) (tCons (tC (.int 0)) (tCons
  (tLc (iList K (tSl (rSlL K) (tVar 0) tNoPart (tPart (tC (.int 63))))) (gName 1) tYes (tCB bAbs (tCons (tVar 1) tNil)) [1]) tNil)))))
def spBag (K : PySem.W.Frag) : Sp := fun vs H Q _ => ∃ (a : Addr) (ns : List Int), vs = [.ref a] ∧ SqL K H a (ns.map V.int) ∧ ns.length ≤ 63 ∧
  ∀ (p c : Addr) (H' : Hp), H' p = some (.lst [.int 0, .int 1234567891, .int 0, .ref c]) → H' c = some (.lst ((ns.map fun n => (n.natAbs : Int)).map V.int)) → c ≠ p → (∀ t, GxR.TabG H t → GxR.TabG H' t) → Q (.ref p) H'
theorem cut63 (ns : List Int) (h : ns.length ≤ 63) : cutV (ns.map V.int) none (some 63) = ns.map V.int := by
  unfold cutV
  rw [HT.sIx_none, List.drop_zero, show HT.sIx (ns.map V.int).length (ns.map V.int).length (some 63) = min 63 (ns.map V.int).length from HT.sIx_nat _ _ 63]
  refine List.take_of_length_le ?_
  rw [List.length_map]
  omega
theorem bg_go {K : PySem.W.Frag} {D : Ends} {H : Hp} {a : Addr} {ns : List Int} {s1 : Option V} (seq : SqL K H a (ns.map V.int)) (hl : ns.length ≤ 63)
    (q : ∀ (p c : Addr) (H' : Hp), H' p = some (.lst [.int 0, .int 1234567891, .int 0, .ref c]) → H' c = some (.lst ((ns.map fun n => (n.natAbs : Int)).map V.int)) → c ≠ p → (∀ t, GxR.TabG H t → GxR.TabG H' t) → D.rt (.ref p) H') : bgT K D [some (.ref a), s1] H := by
  refine ⟨_, rfl, 63, rfl, a, _, rfl, seq, fun s hs => ?_⟩
  rw [cut63 ns hl]
  refine ⟨s, rfl, ⟨_, SqL.of upd_same⟩, fun C hC => ?_⟩
  have sC : s ≠ C := ne_of_none upd_same hC
  refine lc_list (K := K) (xs := ns.map V.int) (fun i H' => H' s = some (.lst (ns.map V.int)) ∧ H' C = some (.lst (((ns.take i).map fun n => (n.natAbs : Int)).map V.int)) ∧ ∀ t, GxR.TabG H t → GxR.TabG H' t) ⟨by rw [upd_ne sC, upd_same], by rw [upd_same]; rfl, fun t z => TabG.up (TabG.up z hs) hC⟩ (fun i H' _ h => SqL.of h.1) (fun i x H' hx h => ?_) fun H' h => ?_
  · have hi : i < ns.length := by
      have := (List.getElem?_eq_some_iff.mp hx).1
      rwa [List.length_map] at this
    rw [List.getElem?_map, List.getElem?_eq_getElem hi] at hx
    cases hx
    refine ⟨rfl, _, rfl, _, rfl, _, h.2.1, ?_, ?_, ?_, fun t z => ?_⟩
    · refine lim_lt ?_
      rw [List.length_map, List.length_map, List.length_take]
      omega
    · rw [upd_ne sC]; exact h.1
    · rw [upd_same, List.take_add_one, List.getElem?_eq_getElem hi, List.map_append, List.map_append]
      have e : (if ns[i] < 0 then -ns[i] else ns[i]) = (ns[i].natAbs : Int) := by split <;> omega
      rw [e]
      rfl
    · obtain ⟨ps, z1, z2⟩ := h.2.2 t z
      exact ⟨ps, by rw [upd_ne (fun e => by rw [e, h.2.1] at z1; cases z1)]; exact z1, z2⟩
  · rw [List.length_map, List.take_length] at h
    refine ⟨by show 4 ≤ sizeLine; decide, fun p hp => q p C _ upd_same ?_ (ne_of_none h.2.1 hp) fun t z => TabG.up (h.2.2 t z) hp⟩
    rw [upd_ne (ne_of_none h.2.1 hp)]
    exact h.2.1
/-! ### the law's own def -/
def lfE (K : PySem.W.Frag) (ts : List Addr) (t : DS) : TS := fun D σ H => ∃ w : Wn, w.b.ts = ts ∧ lfS K w t D σ H
theorem pss_any {X : Cx} {ts : List Addr} {sts : List Stmt} {t : DS} (h : ∀ w : Wn, w.b.ts = ts → DPSs X w sts t) : PSs X sts (lfE X.K ts t) := ⟨fun p s σ H D I ⟨w, e, q⟩ => (h w e).run p s σ H D I q⟩
/-- f(e, ..) over the heap -/
theorem g_call {X : Cx} {CX : CXT} {k : Nat} {f : Addr} {sp : Sp} {E : XK} {x : Str} {e : Expr} {es : List Expr} {p pos : Pos} {t : TA} (Fk : Fg X.prog X.w X.K X.mg X.base CX k f sp) (ag : X.A.guards = some []) (room : Room k X.A) (ps : Passes CX X E) (gl : Gl X x) (gm : X.mg x = some (.ref f)) (kp : PySem.W.keepIn X.K (.ref f) = true)
    (ha : PA X (e :: es) t) (db : (x == ("__debug__" : Str)) = false := by decide) (s1 : starEach (e :: es) X.env = (false, eval e X.env) :: starEach es X.env := by rfl) (s2 : (backTo pos (starEach es X.env)).any (·.1) = false := by rfl) :
    PE X (.Call (.Name x p) (e :: es) [] pos) (fun σ H Q => t σ H fun vs H1 => sp vs H1 Q E) := by
  refine ⟨fun pins s σ H Q I want => wpAny_Call_Name_kw (ld_glob I gl gm ?_ db)⟩
  refine PySem.W.callWith_K (h₀ := X.base) I.ok.mod.kin kp ?_ s1 s2
  exact thn (ha.run pos pins s σ H _ I want) fun us st ⟨vs, H1, I1, rv, q⟩ => ⟨I1.kIn, run_g Fk ag room ps I1 rv q⟩
abbrev lawT (K : PySem.W.Frag) (ts : List Addr) (t : DS) : TS := tSeq (tAsg (fun σ H Q => tCons (tVar 0) tNil σ H fun vs H1 => spBag K vs H1 Q E0) (gName 1)) (lfE K ts t)
def spLaw (K : PySem.W.Frag) (ts : List Addr) : Sp := fun vs H Q _ => (∀ t ∈ ts, GxR.TabG H t) ∧ ∃ (a : Addr) (ns : List Int), vs = [.ref a] ∧ SqL K H a (ns.map V.int) ∧ ns.length ≤ 63 ∧ ∀ H', Q (.bl true) H'
theorem law_ok {ts : List Addr} {P : Program} {w : World} {K : PySem.W.Frag} {mg : Str → Option Value} {base : Heap} {k : Nat} {f : Addr} {fd : FuncData} {x qual : Str} {st : Stmt} {N : List Str} {z0 z1 : Str} {n : Nat} (Fn : L2.Fun K x qual st f fd) (S : FnScope N [z0] (defScope st)) (hN : N.length = n + 2)
    (hb : ∀ (kV doc pm : Value) (an : Option Addr) (cdv ct : Value) (us : List Value), us.length = [z0].length → bindArgs (PySem.W.fnOf x qual (defArgs st) (defBody st) (defScope st) .none kV doc pm an cdv ct) { pos := us, kw := [] } = pure ([z0].zip us))
    (t : DS)
    (hd : ∀ (cdv : Value) (A : Around) (outer : List Env) (s : Shared) (H : Hp) (E : XK), (A.deeper (envOfC qual (defScope st) s.heap.objs.size f cdv)).guards = some [] → Room k (A.deeper (envOfC qual (defScope st) s.heap.objs.size f cdv)) →
      PSs (cxOf (L2.CX P w) P w K mg base N qual (defScope st) f cdv A outer s H E).nox (defBody st) (lawT K ts t))
    (hv : t { nx := fun _ => False, rt := fun dv => dv = .d (.bool true) } (.un :: .bag :: List.replicate n .un)) : Fg P w K mg base (L2.CX P w) (k + 1) f (spLaw K ts) := by
  refine r_def Fn S hb (spLaw K ts) fun cdv A outer s H vs Q E ag room want => ?_
  obtain ⟨htab, a, ns, rfl, seq, hl, q⟩ := want
  refine ⟨rfl, _, hd cdv A outer s H E ag room, ?_⟩
  have e0 : L2.start N [V.ref a] = some (V.ref a) :: none :: List.replicate n none := by
    unfold L2.start
    rw [hN]
    rfl
  rw [e0]
  refine ⟨_, rfl, a, ns, rfl, seq, hl, fun p c H' hp hc ne keep => ?_⟩
  have wd : Wd K ⟨p, c, ns.map fun n => (n.natAbs : Int), ts⟩ (upd (fun _ => none) c (.lst ((ns.map fun n => (n.natAbs : Int)).map V.int))) H' := by
    refine ⟨⟨⟨0, 1234567891, 0, hp, by decide, by decide, by decide⟩, upd_same, fun m hm => ?_, fun t m => ⟨?_, keep t (htab t m)⟩⟩, fun b o h => ?_, upd_ne (Ne.symm ne)⟩
    · obtain ⟨j, _, rfl⟩ := List.mem_map.mp hm
      exact Int.natCast_nonneg _
    · refine upd_ne fun e => ?_
      obtain ⟨ps, z, _⟩ := keep t (htab t m)
      rw [e, hc] at z
      cases z
    · by_cases hb : b = c
      · rw [hb, upd_same] at h; rw [hb, hc]; exact h
      · rw [upd_ne hb] at h; cases h
  refine ⟨⟨_, _, H'⟩, rfl, .un :: .bag :: List.replicate n .un, _, _, ⟨by simp, wd.refl, fun i z e => ?_, fun i j s t a h1 _ m _ => ?_⟩, hv, ⟨fun env σ F H _ _ z => z.elim, fun env σ F H _ _ z => z.elim, fun env σ F H _ _ z => z.elim, fun dv v F H2 _ rs z => ?_⟩⟩
  · match i, e with
    | 0, e => cases e; exact True.intro
    | 1, e => cases e; rfl
    | i + 2, e =>
      have e : (List.replicate n Sl.un)[i]? = some z := e
      rw [List.getElem?_replicate] at e
      split at e
      · cases e; exact True.intro
      · cases e
  · exfalso
    match i, h1 with
    | 0, h1 => cases h1; cases m
    | 1, h1 => cases h1; cases m
    | i + 2, h1 =>
      have h1 : (List.replicate n Sl.un)[i]? = some _ := h1
      rw [List.getElem?_replicate] at h1
      split at h1 <;> cases h1
      cases m
  · subst z
    obtain rfl := rs.blOf
    exact q H2
abbrev sp__law_take : DSp := spTake
end Dl
namespace Dl
open PySem PySem.Spec PyProof.Rows L2
/-! ### loops by what holds of what is left -/
theorem forD_ind {g : DG} {tb : DS} {d : DK} (I : List PyData → List Sl → Prop) (hn : ∀ env, I [] env → d.nx env)
    (hc : ∀ (x : PyData) (xs : List PyData) (env : List Sl) (R : List Sl → Prop), I (x :: xs) env → (∀ e, I xs e → R e) → g x env fun e2 => tb { nx := R, rt := d.rt, bk := d.nx, ct := R } e2) :
    ∀ (xs : List PyData) (env : List Sl), I xs env → forD g tb d xs env
  | [], env, h => hn env h
  | x :: xs, env, h => hc x xs env (forD g tb d xs) h fun e h' => forD_ind I hn hc xs e h'
theorem whD_ind {tc : DTT} {tb : DS} {d : DK} (I : List Sl → Prop) (μ : List Sl → Nat)
    (hs : ∀ (env : List Sl) (R : List Sl → Prop), I env → (∀ e, I e → μ e < μ env → R e) → tc env fun k => if k = true then tb { nx := R, rt := d.rt, bk := d.nx, ct := R } env else d.nx env) {env : List Sl} (h : I env) : tWhD tc tb d env := by
  have main : ∀ (n : Nat) (env : List Sl), μ env < n → I env → whD tc tb d n env := by
    intro n
    induction n with
    | zero => intro env h; omega
    | succ n ih => intro env hm hi; exact hs env (whD tc tb d n) hi fun e he hl => ih e (by omega) he
  exact ⟨μ env + 1, main _ env (Nat.lt_succ_self _) h⟩
theorem lcD_ind {g : DG} {tt : DTT} {te : DT} {env : List Sl} {P : DV → Prop} (I : List PyData → List PyData → Prop) (hn : ∀ acc, I [] acc → P (.fr acc))
    (hc : ∀ (x : PyData) (xs acc : List PyData) (R : List PyData → Prop), I (x :: xs) acc → (∀ a, I xs a → R a) → g x env fun e2 => tt e2 fun c => if c = true then te e2 fun dv => match frz dv with
      | .d y => acc.length < 100000 ∧ R (acc ++ [y])
      | _ => False
    else R acc) : ∀ (xs acc : List PyData), I xs acc → lcD g tt te env xs acc P
  | [], acc, h => hn acc h
  | x :: xs, acc, h => by
    have q := hc x xs acc (fun a => lcD g tt te env xs a P) h fun a h' => lcD_ind I hn hc xs a h'
    exact q
theorem atD {α : Type} {xs : List α} {z : Int} {j : Nat} {v : α} (e : z = (j : Int)) (h : xs[j]? = some v) : atI xs z = some v := by
  subst e
  exact atI_nat h
theorem pick {xs : List PyData} {r : Int} {P : DV → Prop} (h0 : 0 ≤ r) (h1 : r < xs.length) (h : ∀ z, z ∈ xs → P (.d z)) : gIx (.list xs) (.int r) P := by
  have hr : r.toNat < xs.length := by omega
  have ez : r = ((r.toNat : Nat) : Int) := by omega
  have e : atI xs r = some xs[r.toNat] := atD ez (List.getElem?_eq_getElem hr)
  show (match atI xs r with
    | some z => P (.d z)
    | none => False)
  rw [e]
  exact h _ (List.getElem_mem hr)
theorem pickT {xs : List PyData} {r : Int} {P : DV → Prop} (h0 : 0 ≤ r) (h1 : r < xs.length) (h : ∀ z, z ∈ xs → P (.d z)) : gIx (.tuple xs) (.int r) P := by
  have hr : r.toNat < xs.length := by omega
  have ez : r = ((r.toNat : Nat) : Int) := by omega
  have e : atI xs r = some xs[r.toNat] := atD ez (List.getElem?_eq_getElem hr)
  show (match atI xs r with
    | some z => P (.d z)
    | none => False)
  rw [e]
  exact h _ (List.getElem_mem hr)
theorem at0 {α : Type} (x : α) (xs : List α) : atI (x :: xs) 0 = some x := atI_nat (j := 0) rfl
theorem at1 {α : Type} (x y : α) (xs : List α) : atI (x :: y :: xs) 1 = some y := atI_nat (j := 1) rfl
theorem at2 {α : Type} (x y z : α) (xs : List α) : atI (x :: y :: z :: xs) 2 = some z := atI_nat (j := 2) rfl
def isWh : PyData → Bool
  | .int _ => true
  | _ => false
end Dl
namespace Dl
open PySem PySem.Spec PyProof.Rows L2
/-! ### whole numbers and fractions -/
theorem gcd_turn (a b : Int) (ha : 0 ≤ a) (hb : 0 < b) : Int.gcd b (a.fmod b) = Int.gcd a b ∧ 0 ≤ a.fmod b ∧ a.fmod b < b := by
  rw [Int.fmod_eq_emod_of_nonneg a (Int.le_of_lt hb)]
  refine ⟨?_, Int.emod_nonneg _ (by omega), Int.emod_lt_of_pos _ hb⟩
  obtain ⟨m, rfl⟩ := Int.eq_ofNat_of_zero_le ha
  obtain ⟨n, rfl⟩ := Int.eq_ofNat_of_zero_le (Int.le_of_lt hb)
  show Nat.gcd n (m % n) = Nat.gcd m n
  rw [Nat.gcd_comm, ← Nat.gcd_rec, Nat.gcd_comm]
theorem log_lt {n k : Nat} (hk : 0 < k) (h : n < 2 ^ k) : n.log2 < k := by
  rcases Nat.eq_zero_or_pos n with z | z
  · subst z; simpa using hk
  · exact (Nat.log2_lt (by omega)).mpr h
theorem lt_two {n k : Nat} (h : n.log2 < k) : n < 2 ^ k := by
  rcases Nat.eq_zero_or_pos n with z | z
  · subst z; exact Nat.two_pow_pos _
  · exact (Nat.log2_lt (by omega)).mp h
theorem log_le {n k : Nat} (h : n < 2 ^ k) (hk : 0 < k) (hm : k ≤ 9000) : n.log2 < 9000 := Nat.lt_of_lt_of_le (log_lt hk h) hm
theorem two_le {n k m : Nat} (h : n < 2 ^ k) (hk : k ≤ m) : n < 2 ^ m := Nat.lt_of_lt_of_le h (Nat.pow_le_pow_right (by decide) hk)
theorem allD_rep (n : Nat) {k : List PyData → Prop} (h : k (List.replicate n (.bool true))) : allD (List.replicate n (.d (.bool true))) k := by
  induction n generalizing k with
  | zero => exact h
  | succ n ih => exact ih (k := fun xs => k (.bool true :: xs)) h
theorem gcd_pos {t b : Int} (hb : b ≠ 0) : 0 < Int.gcd t b := Int.gcd_pos_of_ne_zero_right _ hb
theorem gcd_le {t b : Int} (hb : b ≠ 0) : Int.gcd t b ≤ b.natAbs := Nat.le_of_dvd (by omega) (Nat.gcd_dvd_right _ _)
theorem mul_log {a b : Int} {m n : Nat} (ha : a.natAbs < 2 ^ m) (hb : b.natAbs < 2 ^ n) (hm : 0 < m) (hn : 0 < n) (h : m + n < 1000000) : a.natAbs.log2 + b.natAbs.log2 < 1000000 := by
  have h1 := log_lt hm ha
  have h2 := log_lt hn hb
  omega
theorem natAbs_mul_lt {a b : Int} {m n : Nat} (ha : a.natAbs < 2 ^ m) (hb : b.natAbs < 2 ^ n) : (a * b).natAbs < 2 ^ (m + n) := by
  rw [Int.natAbs_mul, Nat.pow_add]
  exact Nat.mul_lt_mul'' ha hb
theorem natAbs_add_lt {a b : Int} {m : Nat} (ha : a.natAbs < 2 ^ m) (hb : b.natAbs < 2 ^ m) : (a + b).natAbs < 2 ^ (m + 1) := by
  rw [Nat.pow_succ]
  omega
theorem sgn {z : PyData} (h : z ∈ [PyData.int 1, PyData.int (-1)]) : ∃ s : Int, z = .int s ∧ s.natAbs = 1 := by
  simp only [List.mem_cons, List.not_mem_nil, or_false] at h
  rcases h with rfl | rfl
  · exact ⟨1, rfl, rfl⟩
  · exact ⟨-1, rfl, rfl⟩
theorem small2 (a b : Int) : SeqAt.shaped (.tuple [.int a, .int b]) = true := by
  simp [SeqAt.shaped, PyData.canLay0, PyData.canLayAll0, PyData.depth, PyData.depthAll]
theorem eqv2 (a b c d : Int) : (PyData.tuple [.int a, .int b]).eqv (.tuple [.int c, .int d]) = (decide (a = c) && decide (b = d)) := by
  simp [PyData.eqv, PyData.eqvAll, Bool.beq_eq_decide_eq]
theorem same2 (a b : Int) : (PyData.tuple [.int a, .int b]).eqv (.tuple [.int a, .int b]) = true := by
  simp [PyData.eqv, PyData.eqvAll]
/-- p / q in lowest terms -/
structure Frac (p q : Int) : Prop where
  pos : 0 < q
  low : Int.gcd p q = 1
/-- only one fraction in lowest terms is as much -/
theorem Frac.one {p q u v : Int} (f : Frac p q) (g : Frac u v) (h : p * v = u * q) : p = u ∧ q = v := by
  have hq := f.pos
  have hv := g.pos
  have n1 : p.natAbs * v.natAbs = u.natAbs * q.natAbs := by rw [← Int.natAbs_mul, ← Int.natAbs_mul, h]
  have d1 : q.natAbs ∣ v.natAbs := by
    have z : q.natAbs ∣ p.natAbs * v.natAbs := ⟨u.natAbs, by rw [n1, Nat.mul_comm]⟩
    exact Nat.Coprime.dvd_of_dvd_mul_left (by rw [Nat.Coprime, Nat.gcd_comm]; exact f.low) z
  have d2 : v.natAbs ∣ q.natAbs := by
    have z : v.natAbs ∣ u.natAbs * q.natAbs := ⟨p.natAbs, by rw [← n1, Nat.mul_comm]⟩
    exact Nat.Coprime.dvd_of_dvd_mul_left (by rw [Nat.Coprime, Nat.gcd_comm]; exact g.low) z
  have e : q.natAbs = v.natAbs := Nat.dvd_antisymm d1 d2
  have e2 : q = v := by omega
  subst e2
  exact ⟨Int.eq_of_mul_eq_mul_right (by omega) h, rfl⟩
/-- the parts of a fraction in lowest terms divide those of any that is as much -/
theorem Frac.le {p q t b : Int} (f : Frac p q) (hb : b ≠ 0) (h : t * q = b * p) : q.natAbs ≤ b.natAbs ∧ p.natAbs ≤ t.natAbs := by
  have hq := f.pos
  have n1 : t.natAbs * q.natAbs = b.natAbs * p.natAbs := by rw [← Int.natAbs_mul, ← Int.natAbs_mul, h]
  have d1 : q.natAbs ∣ b.natAbs := by
    have z : q.natAbs ∣ p.natAbs * b.natAbs := ⟨t.natAbs, by rw [Nat.mul_comm p.natAbs, ← n1, Nat.mul_comm]⟩
    exact Nat.Coprime.dvd_of_dvd_mul_left (by rw [Nat.Coprime, Nat.gcd_comm]; exact f.low) z
  refine ⟨Nat.le_of_dvd (by omega) d1, ?_⟩
  obtain ⟨k, hk⟩ := d1
  have e : t.natAbs = k * p.natAbs := by
    refine Nat.eq_of_mul_eq_mul_right (show 0 < q.natAbs by omega) ?_
    rw [n1, hk, Nat.mul_assoc, Nat.mul_comm]
  rw [e]
  refine Nat.le_mul_of_pos_left _ ?_
  rcases Nat.eq_zero_or_pos k with z | z
  · rw [z] at hk; omega
  · exact z
/-- what a top parted by a bottom is, in lowest terms -/
def loT (t b : Int) : Int := if b < 0 then -(t / Int.gcd t b) else t / Int.gcd t b
def loB (t b : Int) : Int := if b < 0 then -(b / Int.gcd t b) else b / Int.gcd t b
theorem lo_ok {t b : Int} (hb : b ≠ 0) : Frac (loT t b) (loB t b) ∧ t * loB t b = b * loT t b := by
  have hp : 0 < Int.gcd t b := gcd_pos hb
  obtain ⟨u, hu⟩ : ((Int.gcd t b : Nat) : Int) ∣ t := Int.gcd_dvd_left _ _
  obtain ⟨v, hv⟩ : ((Int.gcd t b : Nat) : Int) ∣ b := Int.gcd_dvd_right _ _
  have hp' : (0 : Int) < (Int.gcd t b : Nat) := by omega
  have e1 : t / (Int.gcd t b : Nat) = u := Int.ediv_eq_of_eq_mul_right (by omega) hu
  have e2 : b / (Int.gcd t b : Nat) = v := Int.ediv_eq_of_eq_mul_right (by omega) hv
  have co : Int.gcd u v = 1 := by
    have h1 := Nat.coprime_div_gcd_div_gcd (m := t.natAbs) (n := b.natAbs) hp
    have h2 : u.natAbs = t.natAbs / Int.gcd t b := by
      rw [← e1, Int.natAbs_ediv_of_dvd ⟨u, hu⟩, Int.natAbs_natCast]
    have h3 : v.natAbs = b.natAbs / Int.gcd t b := by
      rw [← e2, Int.natAbs_ediv_of_dvd ⟨v, hv⟩, Int.natAbs_natCast]
    show Nat.gcd u.natAbs v.natAbs = 1
    rw [h2, h3]
    exact h1
  have xy : t * v = b * u := by
    conv => lhs; rw [hu]
    conv => rhs; rw [hv]
    rw [Int.mul_assoc, Int.mul_assoc, Int.mul_comm u v]
  unfold loT loB
  rw [e1, e2]
  by_cases hn : b < 0
  · rw [if_pos hn, if_pos hn]
    refine ⟨⟨?_, by rw [Int.neg_gcd, Int.gcd_neg]; exact co⟩, by rw [Int.mul_neg, Int.mul_neg, xy]⟩
    have z : ¬ 0 ≤ v := fun h => by
      have := Int.mul_nonneg (Int.le_of_lt hp') h
      omega
    omega
  · rw [if_neg hn, if_neg hn]
    refine ⟨⟨?_, co⟩, xy⟩
    have z : ¬ v ≤ 0 := fun h => by
      have h2 := Int.mul_nonneg (Int.le_of_lt hp') (show 0 ≤ -v by omega)
      rw [Int.mul_neg] at h2
      omega
    omega
theorem lo_mul {t b p : Int} (hb : b ≠ 0) (hp : p ≠ 0) : loT (t * p) (b * p) = loT t b ∧ loB (t * p) (b * p) = loB t b := by
  obtain ⟨a1, a2⟩ := lo_ok (t := t) hb
  obtain ⟨b1, b2⟩ := lo_ok (t := t * p) (b := b * p) (Int.mul_ne_zero hb hp)
  refine b1.one a1 ?_
  have e : t * loB (t * p) (b * p) = b * loT (t * p) (b * p) := by
    refine Int.eq_of_mul_eq_mul_right hp ?_
    rw [Int.mul_right_comm, b2, Int.mul_right_comm]
  refine Int.eq_of_mul_eq_mul_left hb ?_
  rw [← Int.mul_assoc, ← e, Int.mul_right_comm, a2, Int.mul_assoc]
/-- a fraction, among any data -/
def isFr : PyData → Bool
  | .tuple [.int p, .int q] => decide (0 < q) && decide (Int.gcd p q = 1)
  | _ => false
theorem isFr_of {p q : Int} (f : Frac p q) : isFr (.tuple [.int p, .int q]) = true := by
  simp [isFr, f.pos, f.low]
theorem of_isFr {x : PyData} (h : isFr x = true) : ∃ p q, x = .tuple [.int p, .int q] ∧ Frac p q := by
  unfold isFr at h
  split at h
  · next p q =>
    rw [Bool.and_eq_true, decide_eq_true_eq, decide_eq_true_eq] at h
    exact ⟨p, q, rfl, h.1, h.2⟩
  · cases h
/-- the sum of two fractions, by their bottoms' common part -/
theorem sum_ok {p q u v : Int} (f : Frac p q) (g : Frac u v) {c part top rest : Int} (hc : c = Int.gcd q v) (hpart : part = q / c) (htop : top = p * (v / c) + u * part) (hrest : rest = Int.gcd top c) :
    0 < c ∧ c.natAbs ≤ q.natAbs ∧ c ∣ q ∧ c ∣ v ∧ 0 < rest ∧ rest.natAbs ≤ c.natAbs ∧ rest ∣ top ∧ rest ∣ v ∧ Frac (top / rest) (part * (v / rest)) ∧ (p * v + u * q) * (part * (v / rest)) = (q * v) * (top / rest) := by
  have hq := f.pos
  have hv := g.pos
  have c0 : 0 < Int.gcd q v := gcd_pos (by omega)
  have hcp : 0 < c := by omega
  have dq : c ∣ q := by rw [hc]; exact Int.gcd_dvd_left _ _
  have dv : c ∣ v := by rw [hc]; exact Int.gcd_dvd_right _ _
  have r0 : 0 < Int.gcd top c := gcd_pos (by omega)
  have hrp : 0 < rest := by omega
  have dt : rest ∣ top := by rw [hrest]; exact Int.gcd_dvd_left _ _
  have drc : rest ∣ c := by rw [hrest]; exact Int.gcd_dvd_right _ _
  obtain ⟨a, ha⟩ := dq
  obtain ⟨b, hb⟩ := dv
  obtain ⟨d, hd⟩ := drc
  obtain ⟨e, he⟩ := dt
  have ea : q / c = a := Int.ediv_eq_of_eq_mul_right (by omega) ha
  have eb : v / c = b := Int.ediv_eq_of_eq_mul_right (by omega) hb
  have evr : v / rest = d * b := Int.ediv_eq_of_eq_mul_right (by omega) (by rw [← Int.mul_assoc, ← hd]; exact hb)
  have etr : top / rest = e := Int.ediv_eq_of_eq_mul_right (by omega) he
  rw [eb] at htop
  rw [ea] at hpart
  subst hpart
  have pa : 0 < part := by
    have z : ¬ part ≤ 0 := fun h => by
      have := Int.mul_nonneg (Int.le_of_lt hcp) (show 0 ≤ -part by omega)
      rw [Int.mul_neg] at this
      omega
    omega
  have pb : 0 < b := by
    have z : ¬ b ≤ 0 := fun h => by
      have := Int.mul_nonneg (Int.le_of_lt hcp) (show 0 ≤ -b by omega)
      rw [Int.mul_neg] at this
      omega
    omega
  have pd : 0 < d := by
    have z : ¬ d ≤ 0 := fun h => by
      have := Int.mul_nonneg (Int.le_of_lt hrp) (show 0 ≤ -d by omega)
      rw [Int.mul_neg] at this
      omega
    omega
  -- what has no common part
  have ab : Nat.Coprime part.natAbs b.natAbs := by
    have h1 := Nat.coprime_div_gcd_div_gcd (m := q.natAbs) (n := v.natAbs) c0
    have h2 : q.natAbs / q.natAbs.gcd v.natAbs = part.natAbs := by
      have : q.natAbs = (q.natAbs.gcd v.natAbs) * part.natAbs := by
        conv => lhs; rw [ha, Int.natAbs_mul]
        rw [show c.natAbs = q.natAbs.gcd v.natAbs by rw [hc]; rfl]
      exact Nat.div_eq_of_eq_mul_right c0 this
    have h3 : v.natAbs / q.natAbs.gcd v.natAbs = b.natAbs := by
      have : v.natAbs = (q.natAbs.gcd v.natAbs) * b.natAbs := by
        conv => lhs; rw [hb, Int.natAbs_mul]
        rw [show c.natAbs = q.natAbs.gcd v.natAbs by rw [hc]; rfl]
      exact Nat.div_eq_of_eq_mul_right c0 this
    rw [h2, h3] at h1
    exact h1
  have ap : Nat.Coprime p.natAbs part.natAbs := Nat.Coprime.coprime_dvd_right ⟨c.natAbs, by rw [ha, Int.natAbs_mul, Nat.mul_comm]⟩ (show Nat.Coprime p.natAbs q.natAbs from f.low)
  have ub : Nat.Coprime u.natAbs b.natAbs := Nat.Coprime.coprime_dvd_right ⟨c.natAbs, by rw [hb, Int.natAbs_mul, Nat.mul_comm]⟩ (show Nat.Coprime u.natAbs v.natAbs from g.low)
  have tpart : Int.gcd top part = 1 := by
    rw [htop, Int.gcd_comm, Int.gcd_add_mul_right_right]
    rw [Int.gcd_comm]
    show Nat.gcd (p * b).natAbs part.natAbs = 1
    rw [Int.natAbs_mul]
    exact Nat.Coprime.mul_left ap ab.symm
  have tb : Int.gcd top b = 1 := by
    rw [htop, Int.add_comm, Int.gcd_comm, Int.gcd_add_mul_right_right]
    rw [Int.gcd_comm]
    show Nat.gcd (u * part).natAbs b.natAbs = 1
    rw [Int.natAbs_mul]
    exact Nat.Coprime.mul_left ub ab
  have ed : Nat.Coprime e.natAbs d.natAbs := by
    have h1 := Nat.coprime_div_gcd_div_gcd (m := top.natAbs) (n := c.natAbs) r0
    have er : rest.natAbs = top.natAbs.gcd c.natAbs := by rw [hrest]; rfl
    have h2 : top.natAbs / top.natAbs.gcd c.natAbs = e.natAbs := Nat.div_eq_of_eq_mul_right r0 (by rw [← er]; conv => lhs; rw [he, Int.natAbs_mul])
    have h3 : c.natAbs / top.natAbs.gcd c.natAbs = d.natAbs := Nat.div_eq_of_eq_mul_right r0 (by rw [← er]; conv => lhs; rw [hd, Int.natAbs_mul])
    rw [h2, h3] at h1
    exact h1
  have et : e.natAbs ∣ top.natAbs := ⟨rest.natAbs, by rw [he, Int.natAbs_mul, Nat.mul_comm]⟩
  have ep : Nat.Coprime e.natAbs part.natAbs := Nat.Coprime.coprime_dvd_left et tpart
  have ebb : Nat.Coprime e.natAbs b.natAbs := Nat.Coprime.coprime_dvd_left et tb
  refine ⟨hcp, ?_, ⟨part, ha⟩, ⟨b, hb⟩, hrp, ?_, ⟨e, he⟩, ⟨d * b, by rw [← Int.mul_assoc, ← hd]; exact hb⟩, ⟨?_, ?_⟩, ?_⟩
  · rw [ha, Int.natAbs_mul]
    exact Nat.le_mul_of_pos_right _ (by omega)
  · rw [hd, Int.natAbs_mul]
    exact Nat.le_mul_of_pos_right _ (by omega)
  · rw [evr]
    exact Int.mul_pos pa (Int.mul_pos pd pb)
  · rw [etr, evr]
    show Nat.gcd e.natAbs (part * (d * b)).natAbs = 1
    rw [Int.natAbs_mul, Int.natAbs_mul]
    exact Nat.Coprime.mul_right ep (Nat.Coprime.mul_right ed ebb)
  · rw [etr, evr]
    have h1 : p * v + u * q = c * top := by
      rw [htop, Int.mul_add, hb, ha, ← Int.mul_assoc, ← Int.mul_assoc, ← Int.mul_assoc, Int.mul_comm p c, Int.mul_assoc, Int.mul_comm u c, Int.mul_assoc]
    rw [h1, he]
    have h2 : q * v = (c * part) * (rest * (d * b)) := by
      rw [show rest * (d * b) = v by rw [← Int.mul_assoc, ← hd]; exact hb.symm, ← ha]
    rw [h2]
    simp only [Int.mul_assoc, Int.mul_comm, Int.mul_left_comm]
end Dl
namespace Dl
open PySem PySem.Spec PyProof.Rows L2
/-! ### n.bit_length() -/
def tBitLen (te : DT) : DT := fun env P => te env fun u => rd u fun x => match x with
  | .int i => P (.d (.int (Builtin.Int.intBits i : Nat)))
  | _ => False
theorem d_bitlen {X : Cx} {w : Wn} {e : Expr} {te : DT} {apos pos : Pos} (he : DPE X w e te) (hbase : attributeBase e "bit_length" X.env (eval e X.env) = eval e X.env := by rfl) (hline : (apos.endLine == pos.line) = true := by rfl) : DPE X w (.Call (.Attribute e "bit_length" apos) [] [] pos) (tBitLen te) :=
  pe_weak (pe_bits he hbase hline) fun σ H Q ⟨env, F, P, r, h, q⟩ => ⟨env, F, _, r, h, fun dv v F1 H1 s1 r1 h1 => by
    obtain ⟨x, x1, h1⟩ := rd_ok r1 h1
    split at h1
    · next i => exact ⟨i, x1.int, q (.d (.int _)) _ F1 H1 s1 (.int _) h1⟩
    · exact h1.elim⟩
theorem bits_le {i : Int} {k : Nat} (h : ¬ ((k : Int) < (Builtin.Int.intBits i : Nat))) : i.natAbs < 2 ^ k := by
  unfold Builtin.Int.intBits at h
  split at h
  · next e => rw [show i.natAbs = 0 by simpa using e]; exact Nat.two_pow_pos _
  · exact lt_two (by omega)
/-! ### an index that stands in the text -/
theorem gi0 (x : PyData) (xs : List PyData) (P : DV → Prop) : gIx (.tuple (x :: xs)) (.int 0) P = P (.d x) := by simp only [gIx, at0]
theorem gi1 (x y : PyData) (xs : List PyData) (P : DV → Prop) : gIx (.tuple (x :: y :: xs)) (.int 1) P = P (.d y) := by simp only [gIx, at1]
theorem gi2 (x y z : PyData) (xs : List PyData) (P : DV → Prop) : gIx (.tuple (x :: y :: z :: xs)) (.int 2) P = P (.d z) := by simp only [gIx, at2]
theorem li0 (x : PyData) (xs : List PyData) (P : DV → Prop) : gIx (.list (x :: xs)) (.int 0) P = P (.d x) := by simp only [gIx, at0]
theorem li1 (x y : PyData) (xs : List PyData) (P : DV → Prop) : gIx (.list (x :: y :: xs)) (.int 1) P = P (.d y) := by simp only [gIx, at1]
theorem li2 (x y z : PyData) (xs : List PyData) (P : DV → Prop) : gIx (.list (x :: y :: z :: xs)) (.int 2) P = P (.d z) := by simp only [gIx, at2]
/-- one statement, then the rest: not by reduction, for the kernel's sake -/
theorem sqD (t u : DS) (d : DK) (env : List Sl) : tSeqD t u d env = t { d with nx := u d } env := propext ⟨fun h => h, fun h => h⟩
section
variable (i : Nat) (g1 : G1) (g : G2) (gc : GC) (ta tb te : DT) (t u : DTT) (da : DA) (p q : DS) (d : DK) (env : List Sl) (P : DV → Prop) (B : Bool → Prop)
theorem stE : tSetD i te d env = te env fun dv => stD i dv env d.nx := propext ⟨fun h => h, fun h => h⟩
theorem biE : tBin g ta tb env P = ta env fun u => rd u fun x => tb env fun z => rd z fun y => g x y P := propext ⟨fun h => h, fun h => h⟩
theorem unE : tUnD g1 ta env P = ta env fun u => rd u fun x => g1 x P := propext ⟨fun h => h, fun h => h⟩
theorem caE : tCallD gc da env P = da env fun us => gc us P := propext ⟨fun h => h, fun h => h⟩
theorem tuE : tTupD da env P = da env fun us => allD us fun xs => xs.length ≤ 100000 ∧ P (.d (.tuple xs)) := propext ⟨fun h => h, fun h => h⟩
theorem liE : tLstD da env P = da env fun us => allD us fun xs => xs.length ≤ 100000 ∧ P (.fr xs) := propext ⟨fun h => h, fun h => h⟩
theorem ifE : tIfD t p q d env = t env fun k => if k = true then p d env else q d env := propext ⟨fun h => h, fun h => h⟩
theorem orE : tOrD t u env B = t env fun c => if c = true then B true else u env B := propext ⟨fun h => h, fun h => h⟩
theorem anE : tAndD t u env B = t env fun c => if c = true then u env B else B false := propext ⟨fun h => h, fun h => h⟩
theorem noE : tNotD t env B = t env fun c => B (!c) := propext ⟨fun h => h, fun h => h⟩
theorem tsE : tTst te env B = te env fun u => isB u B := propext ⟨fun h => h, fun h => h⟩
theorem trE : tTru te env B = te env fun u => rd u fun x => truOk x ∧ B (truD x) := propext ⟨fun h => h, fun h => h⟩
theorem itE : tIteD t ta tb env P = t env fun c => if c = true then ta env P else tb env P := propext ⟨fun h => h, fun h => h⟩
theorem cdE (x : PyData) : tCD x env P = P (.d x) := propext ⟨fun h => h, fun h => h⟩
theorem nlE (R : List DV → Prop) : tNilD env R = R [] := propext ⟨fun h => h, fun h => h⟩
theorem coE (tr : DA) (R : List DV → Prop) : tConsD te tr env R = te env fun u => tr env fun us => R (frz u :: us) := propext ⟨fun h => h, fun h => h⟩
theorem usE (sp : DSp) : tUse sp da env P = da env fun us => sp (us.map dat) fun r => okR us r ∧ P r := propext ⟨fun h => h, fun h => h⟩
theorem foE (gg : DG) (ti : DIt) : tForD gg ti p d env = ti env fun xs => forD gg p d xs env := propext ⟨fun h => h, fun h => h⟩
theorem rdE (x : PyData) (R : PyData → Prop) : rd (.d x) R = R x := propext ⟨fun h => h, fun h => h⟩
theorem re1 (x : PyData) : tRetD (fun _ P => P (.d x)) d env = d.rt (.d x) := propext ⟨fun h => h, fun h => h⟩
theorem sdE (x : PyData) (k : List Sl → Prop) : stD i (.d x) env k = k (env.set i (.d x)) := propext ⟨fun h => h, fun h => h⟩
end
theorem reE (te : DT) (d : DK) (env : List Sl) : tRetD te d env = te env fun dv => match dv with
  | .ow _ _ => False
  | .tr _ _ _ => False
  | x => d.rt x := propext ⟨fun h => h, fun h => h⟩
theorem vaE (i : Nat) (env : List Sl) (P : DV → Prop) : tVarD i env P = match env[i]? with
  | some (.d x) => P (.d x)
  | some (.ow l xs) => P (.ow l xs)
  | some (.tr p S x) => P (.tr p S x)
  | some (.raw v) => P (.raw v)
  | some .bag => P .bag
  | _ => False := propext ⟨fun h => h, fun h => h⟩
end Dl
namespace Dl
open PySem PySem.Spec PyProof.Rows L2
/-! ### an empty dict, repr, str -/
section
variable {X : Cx} {w : Wn} {pos : Pos}
def tEmp : DT := fun _ P => P (.d (.dict []))
theorem d_emp : DPE X w (.Dict [] [] pos) tEmp := pe_weak pe_dnewK fun σ H Q ⟨env, F, P, r, h, q⟩ => fun p hp =>
  q (.d (.dict [])) _ _ _ (r.wd.laid hp) (res_d (Rp.dct (kvs := []) upd_same .nil .nil)) h
end
mutual
/-- data without objects of classes -/
def realD : PyData → Bool
  | .none => true
  | .bool _ => true
  | .int _ => true
  | .str _ => true
  | .list xs => realA xs
  | .tuple xs => realA xs
  | .dict kvs => realK kvs
def realA : List PyData → Bool
  | [] => true
  | x :: xs => realD x && realA xs
def realK : List (PyData × PyData) → Bool
  | [] => true
  | (k, x) :: r => (match k with | .int _ => true | .str _ => true | _ => false) && realD x && realK r
end
section
variable {X : Cx} {pins : List (Addr × Obj)} {σ : L2.St} {H : Hp} {s : Shared}
theorem keys_read {h : Heap} {P : Program} {w : World} {K : PySem.W.Frag} {F : Hp} {kvs : List (Key × V)} {vs : List (Key × Value)} (t : KV kvs vs) : ∀ {es : List DictEntry} {ks : List PyData}, Pairs (mixKind P w) es vs → RpA K F (kvs.map fun p => kV p.1) ks → ReadsAll h (es.map (·.key)) ks [] ∧ Vals (kvs.map Prod.snd) (es.map (·.val)) ∧
    ∀ (P : Program) (w : World), PyData.showableAll ks = true → (∀ t ∈ PyData.shownAll ks, t.length ≤ sizeLine) → ∃ bs, ReadAtMost h (PyData.depthAll ks) bs ∧ ReprAllK P w bs h (PyData.depthAll ks) (es.map (·.key)) (PyData.shownAll ks) := by
  induction t with
  | nil =>
    intro es ks p a
    cases p
    cases a
    refine ⟨.nil, .nil, fun P w _ _ => ⟨[], (fun _ m => nomatch m), ?_⟩⟩
    simp only [PyData.shownAll]
    exact .nil
  | @cons x y kvs vs c t ih =>
    intro es ks p a
    obtain ⟨k, v⟩ := x
    obtain ⟨ck, cv⟩ := c
    cases es with
    | nil => cases p
    | cons en es =>
      cases p with
      | cons p1 p2 p3 =>
        cases a with
        | cons a r =>
          obtain ⟨q1, q2, q3⟩ := ih p3 r
          rw [← ck] at p1
          rw [List.map_cons]
          have a : Rp K F (kV k) _ := a
          rcases keyIs_shape p1 with ⟨i, tk, e1, e2⟩ | ⟨z, tk, e1, e2⟩
          · have e1 : k = .inl i := e1
            subst e1
            cases a
            rw [e2]
            refine ⟨.cons (as := []) (Reads.int i tk) q1, .cons (show RelV v en.val by rw [p2]; exact cv) q2, fun P w c z => ?_⟩
            simp only [PyData.showableAll, Bool.and_eq_true] at c
            obtain ⟨bs, b1, b2⟩ := q3 P w c.2 (fun t ht => z t (by simp only [PyData.shownAll]; exact List.mem_cons_of_mem _ ht))
            refine ⟨bs, b1.mono (by simp only [PyData.depthAll]; omega), ?_⟩
            simp only [PyData.depthAll, PyData.shownAll]
            refine .cons ?_ (b2.more_le (fun _ m => m) (Nat.le_max_right _ _))
            simp only [PyData.shown]
            exact .of_is (ReprIs.int tk (by simpa [PyData.showable] using c.1)) _ _ _
          · have e1 : k = .inr z := e1
            subst e1
            cases a
            rw [e2]
            refine ⟨.cons (as := []) (Reads.str z tk) q1, .cons (show RelV v en.val by rw [p2]; exact cv) q2, fun P w c l => ?_⟩
            simp only [PyData.showableAll, Bool.and_eq_true] at c
            obtain ⟨bs, b1, b2⟩ := q3 P w c.2 (fun t ht => l t (by simp only [PyData.shownAll]; exact List.mem_cons_of_mem _ ht))
            refine ⟨bs, b1.mono (by simp only [PyData.depthAll]; omega), ?_⟩
            simp only [PyData.depthAll, PyData.shownAll]
            refine .cons ?_ (b2.more_le (fun _ m => m) (Nat.le_max_right _ _))
            have l0 := l _ (by simp only [PyData.shownAll]; exact List.mem_cons_self ..)
            simp only [PyData.shown] at l0 ⊢
            exact .of_is (ReprIs.str z tk l0) _ _ _
theorem zip_keys {α β : Type} : ∀ {ks : List α} {xs : List β}, ks.length = xs.length → (ks.zip xs).map (·.1) = ks ∧ (ks.zip xs).map (·.2) = xs
  | [], [], _ => ⟨rfl, rfl⟩
  | k :: ks, x :: xs, h => by
    obtain ⟨a, b⟩ := zip_keys (ks := ks) (xs := xs) (by simpa using h)
    exact ⟨by rw [List.zip_cons_cons, List.map_cons, a], by rw [List.zip_cons_cons, List.map_cons, b]⟩
theorem real_zip {ks : List PyData} : ∀ {xs : List PyData}, ks.length = xs.length → realK (ks.zip xs) = true → realA xs = true := by
  induction ks with
  | nil => intro xs h _; cases xs with | nil => rfl | cons => simp at h
  | cons k ks ih =>
    intro xs h e
    cases xs with
    | nil => simp at h
    | cons x xs =>
      simp only [List.zip_cons_cons, realK, Bool.and_eq_true] at e
      simp only [realA, Bool.and_eq_true]
      exact ⟨e.1.2, ih (by simpa using h) e.2⟩
/-! the text of data, from what is tracked -/
mutual
theorem rk_of (I : Inv X pins σ H s) : ∀ {v : V} {d : PyData} {u : Value}, Rp X.K H v d → realD d = true → RelV v u → d.showable = true → d.shown.length ≤ sizeLine →
    ∃ as bs, Reads s.heap u d as ∧ ReadAtMost s.heap d.depth bs ∧ ReprK X.prog X.w bs s.heap d.depth u d.shown
  | _, _, _, .non, _, r, _, _ => by
    cases r
    refine ⟨_, [], .none, (fun _ m => nomatch m), ?_⟩
    simp only [PyData.shown]
    exact .of_is ReprIs.none _ _ _
  | _, _, _, .bl b, _, r, _, _ => by
    cases r
    refine ⟨_, [], .bool b, (fun _ m => nomatch m), ?_⟩
    simp only [PyData.shown]
    exact .of_is (ReprIs.bool b) _ _ _
  | _, _, _, .int i, _, r, c, _ => by
    obtain ⟨t, rfl⟩ := r
    refine ⟨_, [], .int i t, (fun _ m => nomatch m), ?_⟩
    simp only [PyData.shown]
    exact .of_is (ReprIs.int t (by simpa [PyData.showable] using c)) _ _ _
  | _, _, _, .str i, _, r, _, z => by
    obtain ⟨t, rfl⟩ := r
    refine ⟨_, [], .str i t, (fun _ m => nomatch m), ?_⟩
    simp only [PyData.shown] at z ⊢
    exact .of_is (ReprIs.str i t z) _ _ _
  | _, _, _, .lst (a := a) (xs := xs) hs ha, f, r, c, z => by
    cases r
    obtain ⟨its, rv, ⟨o, n, ho, hc, _, hd⟩, _⟩ := I.list (SqL.of hs)
    simp only [PyData.shown] at z
    obtain ⟨as, bs, q1, q2, q3⟩ := rka_of I ha (by simpa only [realD] using f) rv (by simpa [PyData.showable] using c) (fun t ht => Nat.le_trans (listText_mem_le ht) z)
    have rd : Reads s.heap (.ref a) (.list xs) _ := .list ho hc hd q1
    have na : a ∉ bs := not_mem_of_deeper rd (by simp only [PyData.depth]; omega) q2
    refine ⟨_, a :: bs, rd, ReadAtMost.cons rd (by simp only [PyData.depth]; omega) q2, ?_⟩
    simp only [PyData.depth, PyData.shown]
    cases its with
    | nil =>
      cases q1
      simp only [PyData.shownAll, listText_nil]
      exact ReprK.listEmpty ho hc hd
    | cons x l => exact ReprK.list ho hc hd na (by simpa using q3.length_eq) fun i y e => q3.item i y (by simpa using e)
  | _, _, _, .tup (a := a) (xs := xs) hs ha, f, r, c, z => by
    cases r
    obtain ⟨its, rv, ⟨o, ho, hc, n, hd⟩, _⟩ := I.tuple hs
    simp only [PyData.shown] at z
    obtain ⟨as, bs, q1, q2, q3⟩ := rka_of I ha (by simpa only [realD] using f) rv (by simpa [PyData.showable] using c) (fun t ht => Nat.le_trans (tupleText_mem_le ht) z)
    have rd : Reads s.heap (.ref a) (.tuple xs) _ := .tuple ho hc hd q1
    have na : a ∉ bs := not_mem_of_deeper rd (by simp only [PyData.depth]; omega) q2
    refine ⟨_, a :: bs, rd, ReadAtMost.cons rd (by simp only [PyData.depth]; omega) q2, ?_⟩
    simp only [PyData.depth, PyData.shown]
    exact ReprK.tuple ho hc hd na q3
  | _, _, _, .dct (a := a) (kvs := kvs) (ks := ks) (xs := xs) h r1 q1, f, r, c, z => by
    obtain ⟨_, hs, vs, kv, o, es, ep, ho, hc, hd, _, hp, _⟩ := dk_of I.hok h
    cases r
    obtain ⟨k1, k2, k3⟩ := keys_read (h := s.heap) kv hp r1
    have le : ks.length = xs.length := by rw [← r1.len, ← q1.len, List.length_map, List.length_map]
    obtain ⟨z1, z2⟩ := zip_keys le
    simp only [PyData.shown] at z
    obtain ⟨c1, c2⟩ := PyData.showableKv_split (ks.zip xs) (by simpa [PyData.showable] using c)
    obtain ⟨as, b2, m1, m2, m3⟩ := rka_of I q1 (real_zip le (by simpa only [realD] using f)) k2 (by rw [z2] at c2; exact c2) (fun t ht => by
      obtain ⟨p, hp, hl⟩ := PyData.shownKv_val_le (ks.zip xs) t (by rw [z2]; exact ht)
      exact Nat.le_trans hl (Nat.le_trans (dictText_mem_le hp) z))
    obtain ⟨b1, n2, n3⟩ := k3 X.prog X.w (by rw [z1] at c1; exact c1) (fun t ht => by
      obtain ⟨p, hp, hl⟩ := PyData.shownKv_key_le (ks.zip xs) t (by rw [z1]; exact ht)
      exact Nat.le_trans hl (Nat.le_trans (dictText_mem_le hp) z))
    have rd : Reads s.heap (.ref a) (.dict (ks.zip xs)) _ := .dict ho hc.1 hd (by rw [z1]; exact k1) (by rw [z2]; exact m1)
    have e1 : PyData.depthAll ks ≤ PyData.depthKv (ks.zip xs) := by have := PyData.depthAll_keys_le (ks.zip xs); rw [z1] at this; exact this
    have e2 : PyData.depthAll xs ≤ PyData.depthKv (ks.zip xs) := by have := PyData.depthAll_vals_le (ks.zip xs); rw [z2] at this; exact this
    have hb : ReadAtMost s.heap (PyData.depthKv (ks.zip xs)) (b1 ++ b2) := (n2.mono e1).append (m2.mono e2)
    have na : a ∉ b1 ++ b2 := not_mem_of_deeper rd (by simp only [PyData.depth]; omega) hb
    refine ⟨_, a :: (b1 ++ b2), rd, ReadAtMost.cons rd (by simp only [PyData.depth]; omega) hb, ?_⟩
    simp only [PyData.depth, PyData.shown, PyData.shownKv_eq]
    rw [z1, z2]
    exact ReprK.dict ho hc.1 hd hs na (ReprEntriesK.of_two es.toList _ _ (n3.more_le (fun _ m => List.mem_append.mpr (.inl m)) e1) (m3.more_le (fun _ m => List.mem_append.mpr (.inr m)) e2))
  | _, _, _, .obj _ _ _ _ _, f, _, _, _ => by simp [obD, realD, realK] at f
theorem rka_of (I : Inv X pins σ H s) : ∀ {vs : List V} {ds : List PyData} {us : List Value}, RpA X.K H vs ds → realA ds = true → Vals vs us → PyData.showableAll ds = true → (∀ t ∈ PyData.shownAll ds, t.length ≤ sizeLine) →
    ∃ as bs, ReadsAll s.heap us ds as ∧ ReadAtMost s.heap (PyData.depthAll ds) bs ∧ ReprAllK X.prog X.w bs s.heap (PyData.depthAll ds) us (PyData.shownAll ds)
  | _, _, _, .nil, _, r, _, _ => by
    cases r
    refine ⟨_, [], .nil, (fun _ m => nomatch m), ?_⟩
    simp only [PyData.shownAll]
    exact .nil
  | _, _, _, .cons (x := d) (xs := ds) h t, f, r, c, z => by
    cases r with
    | cons r1 r2 =>
      rw [realA, Bool.and_eq_true] at f
      have c' : d.showable = true ∧ PyData.showableAll ds = true := by simpa [PyData.showableAll] using c
      obtain ⟨a1, b1, q1, q2, q3⟩ := rk_of I h f.1 r1 c'.1 (z _ (by simp only [PyData.shownAll]; exact List.mem_cons_self ..))
      obtain ⟨a2, b2, p1, p2, p3⟩ := rka_of I t f.2 r2 c'.2 (fun t ht => z t (by simp only [PyData.shownAll]; exact List.mem_cons_of_mem _ ht))
      refine ⟨_, b1 ++ b2, .cons q1 p1, ?_, ?_⟩
      · simp only [PyData.depthAll]
        exact (q2.mono (Nat.le_max_left _ _)).append (p2.mono (Nat.le_max_right _ _))
      · simp only [PyData.depthAll, PyData.shownAll]
        exact .cons ((q3.more fun _ m => List.mem_append.mpr (.inl m)).level_le (Nat.le_max_left _ _)) (p3.more_le (fun _ m => List.mem_append.mpr (.inr m)) (Nat.le_max_right _ _))
end
end
section
variable {X : Cx} {w : Wn} {pos : Pos}
/-- data whose text may be asked for -/
structure Sh (x : PyData) : Prop where
  real : realD x = true
  show_ : x.showable = true
  deep : x.depth ≤ 63
  len : x.shown.length ≤ 100000
def cRepr : GC := fun us P => one us fun u => rd u fun x => Sh x ∧ P (.d (.str x.shown))
theorem k_repr (ag : X.A.guards = some []) (hu : X.A.units + 64 < cLine) : CallR X (.builtin "repr") (lC X.K w.b cRepr) := by
  intro pins s σ H vs us Q I r h
  obtain ⟨F, dvs, P, wd, ar, g, q⟩ := h
  obtain ⟨u, v, rfl, a, g⟩ := one_ok ar g
  obtain ⟨x, hx, sh, g⟩ := arr_rr a g
  obtain ⟨t, rfl, hr⟩ := vals1 r
  have done : ∀ h' (tk tt : Tok), (∀ b o, s.heap.get? b = some o → h'.get? b = some o) → EP X pins σ Q (.str x.shown tt) { s with heap := h', toks := tk } := fun h' tk tt hk =>
    ⟨.str _, H, I.kept hk, ⟨_, rfl⟩, q _ _ F H wd.refl (res_d (.str _)) g⟩
  have hall := hx.all wd.sub
  have z := lim_le sh.len
  have dp := sh.deep
  have real := sh.real
  have show_ := sh.show_
  clear sh g q hx
  cases hall with
  | non => cases hr; exact PySem.P.repr_of_none (done s.heap _ _ fun _ _ e => e)
  | bl b => cases hr; exact PySem.P.repr_of_bool (done s.heap _ _ fun _ _ e => e)
  | int i => obtain ⟨tk, rfl⟩ := hr; exact PySem.P.repr_of_int (by simpa [PyData.showable] using show_) (done s.heap _ _ fun _ _ e => e)
  | str y => obtain ⟨tk, rfl⟩ := hr; exact PySem.P.repr_of_str (done s.heap _ _ fun _ _ e => e) z
  | @lst p vs xs hs ha =>
    cases hr
    obtain ⟨its, rv, ⟨o, n, ho, hc, _, hd⟩, _⟩ := I.list (SqL.of hs)
    simp only [PyData.shown] at z done
    simp only [PyData.depth] at dp
    obtain ⟨as, bs, q1, q2, q3⟩ := rka_of I ha (by simpa only [realD] using real) rv (by simpa [PyData.showable] using show_) (fun t ht => Nat.le_trans (listText_mem_le ht) z)
    have na : p ∉ bs := not_mem_of_deeper (.list ho hc hd q1) (by simp only [PyData.depth]; omega) q2
    refine call_repr_slot (by omega) ⟨o, ho, hc⟩ PySem.F.slot_list_repr.toG ?_
    cases its with
    | nil =>
      cases q1
      simp only [PyData.shownAll, listText_nil] at done
      exact call_list_repr_empty ⟨o, ho, hc⟩ ho hd ⟨_, _, rfl, done s.heap _ _ fun _ _ e => e⟩
    | cons y l =>
      exact call_list_reprK ho hc hd na (by simpa using q3.length_eq) (fun i y e => q3.item i y (by simpa using e)) ag (fun b _ => Clear.nil b) (by show X.A.units + 1 + _ < cLine; omega) (fun _ _ e => e) (fun h' u tk hk => ⟨_, _, rfl, done h' tk u hk⟩) z
  | @tup p vs xs hs ha =>
    cases hr
    obtain ⟨its, rv, ⟨o, ho, hc, n, hd⟩, _⟩ := I.tuple hs
    simp only [PyData.shown] at z done
    simp only [PyData.depth] at dp
    obtain ⟨as, bs, q1, q2, q3⟩ := rka_of I ha (by simpa only [realD] using real) rv (by simpa [PyData.showable] using show_) (fun t ht => Nat.le_trans (tupleText_mem_le ht) z)
    have na : p ∉ bs := not_mem_of_deeper (.tuple ho hc hd q1) (by simp only [PyData.depth]; omega) q2
    refine call_repr_slot (by omega) ⟨o, ho, hc⟩ PySem.F.slot_tuple_repr ?_
    exact call_tuple_reprK ho hc hd na q3 ag (fun b _ => Clear.nil b) (by show X.A.units + 1 + _ < cLine; omega) (fun _ _ e => e) (fun h' u tk hk => ⟨_, _, rfl, done h' tk u hk⟩) z
  | @dct p kvs ks xs h r1 q1 =>
    cases hr
    obtain ⟨_, hs, vs, kv, o, es, ep, ho, hc, hd, _, hp, _⟩ := dk_of I.hok h
    obtain ⟨k1, k2, k3⟩ := keys_read (h := s.heap) kv hp r1
    have le : ks.length = xs.length := by rw [← r1.len, ← q1.len, List.length_map, List.length_map]
    obtain ⟨z1, z2⟩ := zip_keys le
    simp only [PyData.shown] at z done
    simp only [PyData.depth] at dp
    obtain ⟨c1, c2⟩ := PyData.showableKv_split (ks.zip xs) (by simpa [PyData.showable] using show_)
    obtain ⟨as, b2, m1, m2, m3⟩ := rka_of I q1 (real_zip le (by simpa only [realD] using real)) k2 (by rw [z2] at c2; exact c2) (fun t ht => by
      obtain ⟨p, hp, hl⟩ := PyData.shownKv_val_le (ks.zip xs) t (by rw [z2]; exact ht)
      exact Nat.le_trans hl (Nat.le_trans (dictText_mem_le hp) z))
    obtain ⟨b1, n2, n3⟩ := k3 X.prog X.w (by rw [z1] at c1; exact c1) (fun t ht => by
      obtain ⟨p, hp, hl⟩ := PyData.shownKv_key_le (ks.zip xs) t (by rw [z1]; exact ht)
      exact Nat.le_trans hl (Nat.le_trans (dictText_mem_le hp) z))
    have rd : Reads s.heap (.ref p) (.dict (ks.zip xs)) _ := .dict ho hc.1 hd (by rw [z1]; exact k1) (by rw [z2]; exact m1)
    have e1 : PyData.depthAll ks ≤ PyData.depthKv (ks.zip xs) := by have := PyData.depthAll_keys_le (ks.zip xs); rw [z1] at this; exact this
    have e2 : PyData.depthAll xs ≤ PyData.depthKv (ks.zip xs) := by have := PyData.depthAll_vals_le (ks.zip xs); rw [z2] at this; exact this
    have hb : ReadAtMost s.heap (PyData.depthKv (ks.zip xs)) (b1 ++ b2) := (n2.mono e1).append (m2.mono e2)
    have na : p ∉ b1 ++ b2 := not_mem_of_deeper rd (by simp only [PyData.depth]; omega) hb
    simp only [PyData.shownKv_eq] at z done
    rw [z1, z2] at z done
    refine call_repr_slot (by omega) ⟨o, ho, hc.1⟩ PySem.F.slot_dict_repr ?_
    exact call_dict_reprK ho hc.1 hd hs na (ReprEntriesK.of_two es.toList _ _ (n3.more_le (fun _ m => List.mem_append.mpr (.inl m)) e1) (m3.more_le (fun _ m => List.mem_append.mpr (.inr m)) e2)) ag (fun b _ => Clear.nil b) (by show X.A.units + 1 + _ < cLine; omega) (fun _ _ e => e) (fun h' u tk hk => ⟨_, _, rfl, done h' tk u hk⟩) z
  | obj => simp [obD, realD, realK] at real
def cStr : GC := fun us P => one us fun u => rd u fun x => match x with
  | .int i => i.natAbs.log2 < 1920 ∧ P (.d (.str (toString i)))
  | .str z => P (.d (.str z))
  | _ => False
theorem k_str : CallR X (.type "str") (lC X.K w.b cStr) := by
  intro pins s σ H vs us Q I r h
  obtain ⟨F, dvs, P, wd, ar, g, q⟩ := h
  obtain ⟨u, v, rfl, a, g⟩ := one_ok ar g
  obtain ⟨x, hx, g⟩ := arr_rr a g
  split at g
  · cases hx.int
    exact call_str_int pins s σ H _ us Q I r ⟨_, rfl, g.1, q _ _ F H wd.refl (res_d (.str _)) g.2⟩
  · cases hx.str
    exact SkE.call_str_str pins s σ H _ us Q I r ⟨_, rfl, q _ _ F H wd.refl (res_d (.str _)) g⟩
  · exact g.elim
end
/-! ### data whose text is short -/
structure Sn (n k : Nat) (x : PyData) : Prop where
  real : realD x = true
  show_ : x.showable = true
  deep : x.depth ≤ n
  len : x.shown.length ≤ k
theorem Sn.sh {n k : Nat} {x : PyData} (h : Sn n k x) (hn : n ≤ 63 := by decide) (hk : k ≤ 100000 := by decide) : Sh x := ⟨h.real, h.show_, Nat.le_trans h.deep hn, Nat.le_trans h.len hk⟩
theorem Sn.up {n k m l : Nat} {x : PyData} (h : Sn n k x) (hn : n ≤ m := by decide) (hk : k ≤ l := by decide) : Sn m l x := ⟨h.real, h.show_, Nat.le_trans h.deep hn, Nat.le_trans h.len hk⟩
theorem sn_int {i : Int} {j : Nat} (h : i.natAbs < 2 ^ j) (hj : 0 < j := by decide) (hk : j < 1920 := by decide) : Sn 0 (j + 1) (.int i) := by
  have l := log_lt hj h
  refine ⟨by simp only [realD], by simp only [PyData.showable, decide_eq_true_eq]; omega, by simp [PyData.depth], ?_⟩
  show (Str.ofString (toString i)).length ≤ j + 1
  rw [PySem.ofString_length]; exact PySem.int_text_length_le hj l
theorem sn_all {n k : Nat} : ∀ {xs : List PyData}, (∀ x ∈ xs, Sn n k x) → realA xs = true ∧ PyData.showableAll xs = true ∧ PyData.depthAll xs ≤ n ∧ ((PyData.shownAll xs).map (·.length)).sum ≤ xs.length * k ∧ (PyData.shownAll xs).length = xs.length
  | [], _ => by simp [realA, PyData.showableAll, PyData.depthAll, PyData.shownAll]
  | x :: xs, h => by
    obtain ⟨a, b, c, d, e⟩ := sn_all (xs := xs) fun y hy => h y (List.mem_cons_of_mem _ hy)
    have z := h x (List.mem_cons_self ..)
    refine ⟨by rw [realA, z.real, a]; rfl, by rw [PyData.showableAll, z.show_, b]; rfl, ?_, ?_, ?_⟩
    · have := z.deep
      simp only [PyData.depthAll]; omega
    · have := z.len
      simp only [PyData.shownAll, List.map_cons, List.sum_cons, List.length_cons, Nat.add_mul]; omega
    · simp only [PyData.shownAll, List.length_cons, e]
theorem sn_tup {n k m : Nat} {xs : List PyData} (h : ∀ x ∈ xs, Sn n k x) (hm : xs.length ≤ m := by simp) : Sn (n + 1) (m * (k + 2) + 3) (.tuple xs) := by
  obtain ⟨a, b, c, d, e⟩ := sn_all h
  refine ⟨by rw [realD, a], by rw [PyData.showable, b], by simp only [PyData.depth]; omega, ?_⟩
  have q := tupleText_len_le (PyData.shownAll xs)
  have r : xs.length * (k + 2) ≤ m * (k + 2) := Nat.mul_le_mul_right _ hm
  rw [Nat.mul_add] at r
  show (tupleText (PyData.shownAll xs)).length ≤ _
  omega
theorem sn_lst {n k m : Nat} {xs : List PyData} (h : ∀ x ∈ xs, Sn n k x) (hm : xs.length ≤ m := by simp) : Sn (n + 1) (m * (k + 2) + 3) (.list xs) := by
  obtain ⟨a, b, c, d, e⟩ := sn_all h
  refine ⟨by rw [realD, a], by rw [PyData.showable, b], by simp only [PyData.depth]; omega, ?_⟩
  have q := listText_len_le (PyData.shownAll xs)
  have r : xs.length * (k + 2) ≤ m * (k + 2) := Nat.mul_le_mul_right _ hm
  rw [Nat.mul_add] at r
  show (listText (PyData.shownAll xs)).length ≤ _
  omega
theorem sn_bool (b : Bool) : Sn 0 5 (.bool b) := by cases b <;> exact ⟨by simp only [realD], by simp only [PyData.showable], by simp [PyData.depth], by decide⟩
theorem sn_none : Sn 0 4 .none := ⟨by simp only [realD], by simp only [PyData.showable], by simp [PyData.depth], by decide⟩
theorem sn_str {x : Str} {k : Nat} (h : (reprText x).length ≤ k) : Sn 0 k (.str x) := ⟨by simp only [realD], by simp only [PyData.showable], by simp [PyData.depth], h⟩
theorem sh_emp : Sh (.dict []) := ⟨by decide, by decide, by decide, by decide⟩
end Dl
namespace Dl
open PySem PySem.Spec PyProof.Rows L2
/-! ### what no run takes back: a relation of states that every single step keeps -/
structure Kept (r : Shared → Shared → Prop) : Prop where
  same : ∀ s, r s s
  thn : ∀ {a b c}, r a b → r b c → r a c
  heap : ∀ s (h : Heap), r s { s with heap := h }
  toks : ∀ s (n : Tok), r s { s with toks := n }
  drawn : ∀ s (d : Drawn), r s { s with drawn := d }
  os : ∀ s (o : OsState), r s { s with os := o }
  more : ∀ s (x : GenState), r s { s with gens := s.gens.push x }
  put : ∀ s (g : Nat) (x : GenState), r s (s.setGen g x)
section
variable {r : Shared → Shared → Prop} {M : Model} {Γ : PySem.Ctx} {p : Pos} {s s' : Shared}
theorem kept_run (k : Kept r) {t : Sem Fin} {fs : List Frame} {e : End} (h : Runs M Γ p t fs s e s') : r s s' := by
  induction h
  case done => exact k.same _
  case raise => exact k.same _
  case yield => exact k.same _
  case update ih => exact k.thn (k.heap _ _) ih
  case alloc ih => exact k.thn (k.heap _ _) ih
  case fresh ih => exact k.thn (k.toks _ _) ih
  case choose ih => exact k.thn (k.drawn _ _) ih
  case os ih => exact k.thn (k.os _ _) ih
  case newGen ih => exact k.thn (k.more _ _) ih
  case call i1 i2 => exact k.thn i1 i2
  case resumeFresh i1 i2 => exact k.thn (k.thn (k.put _ _ _) i1) (k.thn (k.put _ _ _) i2)
  case resumeSuspended i1 i2 => exact k.thn (k.thn (k.put _ _ _) i1) (k.thn (k.put _ _ _) i2)
  case resumeThrowFresh ih => exact k.thn (k.put _ _ _) ih
  case segRet i1 i2 => exact k.thn i1 i2
  case segGen i1 i2 => exact k.thn i1 (k.thn (k.put _ _ _) i2)
  case segSuspGen i1 i2 => exact k.thn i1 (k.thn (k.put _ _ _) i2)
  all_goals assumption
theorem kept_wake (k : Kept r) {g : Nat} {q : Resume} {res : GenResult} (h : Wakes M Γ p g q s res s') : r s s' := by
  unfold Wakes at h
  split at h
  · exact h.elim
  · split at h
    · obtain ⟨e₁, s₁, hr, _, _, rfl⟩ := h
      exact k.thn (k.thn (k.put _ _ _) (kept_run k hr)) (k.put _ _ _)
    · rw [h.2]; exact k.same _
    · rw [h.2]; exact k.put _ _ _
  · obtain ⟨e₁, s₁, hr, _, _, rfl⟩ := h
    exact k.thn (k.thn (k.put _ _ _) (kept_run k hr)) (k.put _ _ _)
  · rw [h.2]; exact k.same _
  · rw [h.2]; exact k.same _
theorem kept_wp {α : Type} (k : Kept r) (s₀ : Shared) (t : Sem α) : ∀ {Q : α → Pos → Shared → Prop} {E : Value → Pos → Shared → Prop} {p : Pos} {s : Shared}, r s₀ s → Sem.wp M Γ t Q E p s → Sem.wp M Γ t (fun a p' s' => r s₀ s' ∧ Q a p' s') (fun e p' s' => r s₀ s' ∧ E e p' s') p s := by
  induction t <;> intro Q E p s hr h
  case pure => exact ⟨hr, h⟩
  case raise => exact ⟨hr, h⟩
  case load ih => exact let ⟨o, ho, h⟩ := h; ⟨o, ho, ih o hr h⟩
  case update ih => exact ⟨h.1, ih () (k.thn hr (k.heap _ _)) h.2⟩
  case alloc ih => exact ih _ (k.thn hr (k.heap _ _)) h
  case fresh ih => exact ih _ (k.thn hr (k.toks _ _)) h
  case choose ih => exact ⟨h.1, ih _ (k.thn hr (k.drawn _ _)) h.2⟩
  case os ih => exact ih _ (k.thn hr (k.os _ _)) h
  case call ih => exact let ⟨x, s', hx, h⟩ := h; ⟨x, s', hx, ih x (k.thn hr (kept_run k hx)) h⟩
  case genState ih => exact let ⟨x, hx, h⟩ := h; ⟨x, hx, ih _ hr h⟩
  case newGen ih => exact ih _ (k.thn hr (k.more _ _)) h
  case resume ih => exact let ⟨x, s', hx, h⟩ := h; ⟨x, s', hx, ih x (k.thn hr (kept_wake k hx)) h⟩
  all_goals first | exact h.elim | (rename_i ih; exact ih _ hr h)
theorem kept_any {α : Type} {A : Around} {t : Sem α} {Q : α → Shared → Prop} {E : Value → Shared → Prop} (k : Kept r) (h : wpAny M A t Q E s) : wpAny M A t (fun a s' => r s s' ∧ Q a s') (fun e s' => r s s' ∧ E e s') s :=
  fun Γ p hΓ => kept_wp k s t (k.same s) (h Γ p hΓ)
end
/-- generators are never taken away -/
theorem kept_gens : Kept fun a b => a.gens.size ≤ b.gens.size where
  same := fun _ => Nat.le_refl _
  thn := Nat.le_trans
  heap := fun _ _ => Nat.le_refl _
  toks := fun _ _ => Nat.le_refl _
  drawn := fun _ _ => Nat.le_refl _
  os := fun _ _ => Nat.le_refl _
  more := fun s x => by
    show s.gens.size ≤ (s.gens.push x).size
    rw [Array.size_push]
    exact Nat.le_succ _
  put := fun s g x => by
    show s.gens.size ≤ (s.gens.setIfInBounds g x).size
    rw [Array.size_setIfInBounds]
    exact Nat.le_refl _
end Dl
namespace Dl
open PySem PySem.Spec PyProof.Rows L2
/-! ### a generator expression whose element may call, walked by all() -/
section
variable {prog : Program} {w : World} {A : Around}
/-- item i is handed out; J stands behind it, whatever the table of generators becomes -/
def gY (n₀ : Nat) (F : Nat → Value → Prop) (J : Nat → Shared → Prop) : Protocol := fun n _ v s k =>
  ∃ i, i < n₀ ∧ n + i + 1 = n₀ ∧ F i v ∧ J (i + 1) s ∧ ∀ gs, AllBare gs → k (.send .none) { s with gens := gs }
def gR (D : Shared → Prop) : GenEnd := fun n _ r s => r = .ok .next ∧ n = 0 ∧ D s
/-- where the element stands -/
abbrev loopA (A : Around) (elt tg iter : Expr) (scope : Scope) (pos : Pos) (I : Addr) (cenv : Env) : Around :=
  A.over (.compLoop (.GeneratorExp elt [⟨tg, iter, [], 0⟩] scope pos) 0 (.ref I) .none cenv) []
structure GLoop (prog : Program) (w : World) (A : Around) (elt tg iter : Expr) (scope : Scope) (pos : Pos) (I : Addr) (cenv : Env) (n₀ : Nat) (F : Nat → Value → Prop) (J : Nat → Shared → Prop) (D : Shared → Prop) : Prop where
  gens : ∀ i s gs, J i s → AllBare gs → J i { s with gens := gs }
  turn : ∀ i s E, i < n₀ → J i s → wpAny (model prog w) (loopA A elt tg iter scope pos I cenv) (pyNext (.ref I)) (fun o s₁ => ∃ v, o = some v ∧
    wpAny (model prog w) (loopA A elt tg iter scope pos I cenv) (letOwnedTupleGo tg (.ref I) v) (fun _ s₂ =>
      wpAny (model prog w) (loopA A elt tg iter scope pos I cenv) (assign tg cenv v) (fun _ s₃ =>
        wpAny (model prog w) (loopA A elt tg iter scope pos I cenv) (eval elt cenv) (fun y s₄ => F i y ∧ J (i + 1) s₄) E s₃) E s₂) E s₁) E s
  done : ∀ s E, J n₀ s → wpAny (model prog w) (loopA A elt tg iter scope pos I cenv) (pyNext (.ref I)) (fun o s₁ => o = none ∧ D s₁) E s
  self : ∀ (A' : Around) s Q E, J 0 s → Q (.ref I) s → wpAny (model prog w) A' (pyIter (.ref I)) Q E s
section
variable {elt tg iter : Expr} {scope : Scope} {pos : Pos} {I : Addr} {cenv : Env} {n₀ : Nat} {F : Nat → Value → Prop} {J : Nat → Shared → Prop} {D : Shared → Prop}
theorem seg_gl (hco : cenv.scope.isCoroutine = false) (L : GLoop prog w A elt tg iter scope pos I cenv n₀ F J D) :
    ∀ (k i : Nat) (s₀ s : Shared), k + i = n₀ → J i s →
      Seg (model prog w) A (gR D) (gY n₀ F J) k s₀ (.compLoop (.GeneratorExp elt [⟨tg, iter, [], 0⟩] scope pos) 0 (.ref I) .none cenv)
        ((model prog w).den (.compLoop (.GeneratorExp elt [⟨tg, iter, [], 0⟩] scope pos) 0 (.ref I) .none cenv)) [] s := by
  intro k
  induction k with
  | zero =>
    intro i s₀ s e j
    have : i = n₀ := by omega
    subst this
    show Seg _ A _ _ _ s₀ _ ((compTurn (.GeneratorExp elt [⟨tg, iter, [], 0⟩] scope pos) 0 (.ref I) .none cenv).onRaise (leaving cenv)) [] s
    rw [compTurn_gen, Sem.onRaise_eq_wrap]
    refine seg_bind_wrap (wpAny_standAt ?_)
    refine seg_bind_wrap (wpAny_mono (L.done s _ j) (fun o s₁ q => ?_) fun _ _ z => z)
    obtain ⟨rfl, q⟩ := q
    exact seg_end (.ok .next) ⟨rfl, rfl, q⟩
  | succ k ih =>
    intro i s₀ s e j
    have hi : i < n₀ := by omega
    show Seg _ A _ _ _ s₀ _ ((compTurn (.GeneratorExp elt [⟨tg, iter, [], 0⟩] scope pos) 0 (.ref I) .none cenv).onRaise (leaving cenv)) [] s
    rw [compTurn_gen, Sem.onRaise_eq_wrap]
    refine seg_bind_wrap (wpAny_standAt ?_)
    refine seg_bind_wrap (wpAny_mono (L.turn i s _ hi j) (fun o s₁ q => ?_) fun _ _ z => z)
    obtain ⟨v, rfl, q⟩ := q
    refine seg_bind_wrap (wpAny_mono q (fun _ s₂ q => ?_) fun _ _ z => z)
    refine seg_bind_wrap (wpAny_mono q (fun _ s₂ q => ?_) fun _ _ z => z)
    refine seg_bind_wrap (wpAny_pure ?_)
    simp only [if_true]
    have hy : ∀ u, yieldOut cenv u = yieldValue u := fun u => by simp only [yieldOut, hco, Bool.false_eq_true, if_false]
    simp only [hy]
    rw [Sem.bind_eq_wrap', Sem.bind_eq_wrap', Sem.wrap_wrap, Sem.wrap_wrap]
    refine seg_wrap (wpAny_mono q (fun y s₃ r => ?_) fun _ _ z => z)
    refine seg_at (seg_yield rfl rfl rfl ⟨i, hi, by omega, r.1, r.2, fun gs hb => ?_⟩)
    exact seg_again rfl (ih (i + 1) _ _ (by omega) (L.gens _ _ gs r.2 hb))
theorem seg_gs (hco : cenv.scope.isCoroutine = false) (L : GLoop prog w A elt tg iter scope pos I cenv n₀ F J D) (s₀ s : Shared) (j : J 0 s) :
    Seg (model prog w) A (gR D) (gY n₀ F J) n₀ s₀ (.compStart (.GeneratorExp elt [⟨tg, iter, [], 0⟩] scope pos) 0 (.ref I) .none cenv)
      ((model prog w).den (.compStart (.GeneratorExp elt [⟨tg, iter, [], 0⟩] scope pos) 0 (.ref I) .none cenv)) [] s := by
  have loop := seg_gl hco L n₀ 0 s₀ s (by omega) j
  show Seg _ A _ _ _ s₀ _ ((compStart (.GeneratorExp elt [⟨tg, iter, [], 0⟩] scope pos) 0 (.ref I) .none cenv).onRaise (leaving cenv)) [] s
  unfold compStart
  rw [Sem.onRaise_eq_wrap]
  refine seg_bind_wrap (wpAny_askSetting ?_)
  split
  · exact seg_again rfl loop
  · first
      | exact seg_bind_wrap (wpAny_rule (seg_bind_wrap (wpAny_standAt (seg_bind_wrap (L.self _ s _ _ j (seg_again rfl loop))))))
      | (refine seg_bind_wrap (wpAny_rule ?_); show Seg _ A _ _ _ s₀ _ ((standAt iter.pos >>= _).wrap _ _ _ _) [] s; exact seg_bind_wrap (wpAny_standAt (seg_bind_wrap (L.self _ s _ _ j (seg_again rfl loop)))))
end
theorem bare_put {s : Shared} {g : Nat} {x : GenState} (h : AllBare s.gens) (hx : x.bare = true) : AllBare (s.setGen g x).gens := fun y hy => by
  rcases Array.mem_or_eq_of_mem_setIfInBounds hy with q | q
  · exact h y q
  · rw [q]; exact hx
theorem put_at {s : Shared} {g : Nat} {x : GenState} (h : g < s.gens.size) : (s.setGen g x).gens[g]? = some x := by
  show (s.gens.setIfInBounds g x)[g]? = some x
  simp [h]
/-- the generator g at a, about to tell its item j; c: how its text is reached -/
structure GAt (prog : Program) (w : World) (A : Around) (a : Addr) (g n₀ : Nat) (F : Nat → Value → Prop) (J : Nat → Shared → Prop) (D : Shared → Prop) (j : Nat) (s : Shared) : Prop where
  inv : J j s
  go : ∃ gs, s.gens[g]? = some gs ∧ ∀ gs', AllBare gs' → gs.Goes (model prog w) A.in1 (gR D) (gY n₀ F J) (n₀ - j) (.send .none) { s with gens := gs' }
/-- what all() has of such a generator -/
structure GAll (A : Around) (a : Addr) (g : Nat) (J : Nat → Shared → Prop) (D : Shared → Prop) : Prop where
  hh : A.handled = none
  room : A.depth < recursionLimit
  obj : ∀ j s, J j s → s.heap.IsGen a g ∧ s.heap.NoLimit ∧ AllBare s.gens
  gens : ∀ j s gs, J j s → AllBare gs → J j { s with gens := gs }
  bare : ∀ s, D s → AllBare s.gens
section
variable {a : Addr} {g n₀ j : Nat} {F : Nat → Value → Prop} {J : Nat → Shared → Prop} {D : Shared → Prop} {s : Shared} {Q : Option Value → Shared → Prop} {E : Value → Shared → Prop}
theorem gnext_item (L : GAll A a g J D) (hj : j < n₀) (h : GAt prog w A a g n₀ F J D j s) (hQ : ∀ v s', F j v → GAt prog w A a g n₀ F J D (j + 1) s' → Q (some v) s') : wpAny (model prog w) A (pyNext (.ref a)) Q E s := by
  obtain ⟨hi, gs, hgs, hgo⟩ := h
  obtain ⟨o1, o2, o3⟩ := L.obj _ _ hi
  have hg : g < s.gens.size := by
    rcases Nat.lt_or_ge g s.gens.size with z | z
    · exact z
    · rw [Array.getElem?_eq_none z] at hgs; cases hgs
  obtain ⟨m, hm⟩ : ∃ m, n₀ - j = m + 1 := ⟨n₀ - j - 1, by omega⟩
  refine wpAny_mono (kept_any (Q := fun o s' => s.gens.size ≤ s'.gens.size → Q o s') (E := E) kept_gens ?_) (fun _ _ x => x.2 x.1) fun _ _ x => x.2
  have hgo1 := hgo (s.setGen g .running).gens (bare_put o3 rfl)
  rw [hm] at hgo1
  refine wpAny_pyNext_genexpQ (P := fun n _ s₁ => n = 0 ∧ D s₁) L.hh o2 L.room o1 hgs hgo1 (fun v s₁ gs' hb hv => ?_) fun s₁ hp h' hk => ?_
  · obtain ⟨i, hi, e, hF, hJ, hk⟩ := hv
    have : i = j := by omega
    subst this
    intro hz
    have hz1 : g < s₁.gens.size := by
      have : (s₁.setGen g gs').gens.size = s₁.gens.size := Array.size_setIfInBounds
      omega
    have b1 := (L.obj _ _ hJ).2.2
    refine hQ v _ hF ⟨L.gens _ _ _ hJ (bare_put b1 hb), gs', put_at hz1, fun gs2 hb2 => ?_⟩
    have q := hk gs2 hb2
    have e2 : n₀ - (i + 1) = m := by omega
    rw [e2]
    exact q
  · exact absurd hp.1 (Nat.succ_ne_zero m)
theorem gnext_done (L : GAll A a g J D) (h : GAt prog w A a g n₀ F J D n₀ s) (hQ : ∀ s₁ gs h', D s₁ → AllBare gs → (∀ b o, s₁.heap.get? b = some o → h'.get? b = some o) → Q none { s₁ with gens := gs, heap := h' }) : wpAny (model prog w) A (pyNext (.ref a)) Q E s := by
  obtain ⟨hi, gs, hgs, hgo⟩ := h
  obtain ⟨o1, o2, o3⟩ := L.obj _ _ hi
  have hgo1 := hgo (s.setGen g .running).gens (bare_put o3 rfl)
  rw [Nat.sub_self] at hgo1
  refine wpAny_pyNext_genexpQ (P := fun n _ s₁ => n = 0 ∧ D s₁) L.hh o2 L.room o1 hgs hgo1 (fun v s₁ gs' hb hv => ?_) fun s₁ hp h' hk => ?_
  · obtain ⟨i, hi, e, _, _, hk⟩ := hv
    exact (hk _ AllBare.empty : False).elim
  · exact hQ s₁ _ h' hp.2 (bare_put (L.bare _ hp.2) rfl) hk
/-- all(): to the end, or to the first item that is false -/
theorem gall_loop {tr : Nat → Bool} {R : Result → Shared → Prop} (L : GAll A.in1 a g J D) (hF : ∀ i v, F i v → v = .bool (tr i)) : ∀ (k i : Nat) (s : Shared), n₀ - i = k → i ≤ n₀ → GAt prog w A.in1 a g n₀ F J D i s →
    (∀ j s', i ≤ j → j < n₀ → tr j = false → J (j + 1) s' → R (.ok (.ret (.bool false))) s') → ((∀ j, i ≤ j → j < n₀ → tr j = true) → ∀ s₁ gs h', D s₁ → AllBare gs → (∀ b o, s₁.heap.get? b = some o → h'.get? b = some o) → R (.ok (.ret (.bool true))) { s₁ with gens := gs, heap := h' }) →
    codeAny (model prog w) A (.builtin "all.loop" ⟨[.ref a], []⟩) R s := by
  intro k
  induction k with
  | zero =>
    intro i s hk hi h _ hT
    have hin : i = n₀ := by omega
    subst hin
    refine codeAny_builtin PySem.F.entry_all_loop ?_
    rw [Around.under_plainId PySem.F.plain_all_loop _]
    show wpAny _ A.in1 (pyNext (.ref a) >>= _) _ _ s
    refine wpAny_bind (gnext_done L h fun s₁ gs h' hd hb hk => ?_)
    refine wpAny_bind (wpAny_rule (wpAny_pure ?_))
    exact hT (fun j h1 h2 => absurd h2 (Nat.not_lt.mpr h1)) s₁ gs h' hd hb hk
  | succ k ih =>
    intro i s hk hi h hN hT
    have hlt : i < n₀ := by omega
    refine codeAny_builtin PySem.F.entry_all_loop ?_
    rw [Around.under_plainId PySem.F.plain_all_loop _]
    show wpAny _ A.in1 (pyNext (.ref a) >>= _) _ _ s
    refine wpAny_bind (gnext_item L hlt h fun v s' hv h' => ?_)
    have := hF i v hv
    subst this
    refine wpAny_bind (wpAny_holding (wpAny_truthy_bool ?_))
    refine wpAny_bind (wpAny_letGo ?_)
    cases hb : tr i with
    | true =>
      simp only [if_true]
      refine wpAny_pure ⟨plainId_quiet PySem.F.plain_all_loop _, ih (i + 1) _ (by omega) hlt h' (fun j s'' h1 h2 => hN j s'' (by omega) h2) fun q s₁ gs hh hd hbb hkk => ?_⟩
      refine hT (fun j h1 h2 => ?_) s₁ gs hh hd hbb hkk
      by_cases e : j = i
      · rw [e]; exact hb
      · exact q j (by omega) h2
    | false =>
      simp only [Bool.false_eq_true, if_false]
      refine wpAny_bind (wpAny_rule (wpAny_pure ?_))
      exact hN i s' (Nat.le_refl _) hlt hb h'.inv
theorem gall_call {tr : Nat → Bool} {Q : Value → Shared → Prop} (L : GAll A.in1 a g J D) (hF : ∀ i v, F i v → v = .bool (tr i)) (h : GAt prog w A.in1 a g n₀ F J D 0 s)
    (hN : ∀ j s', j < n₀ → tr j = false → J (j + 1) s' → Q (.bool false) s') (hT : (∀ j, j < n₀ → tr j = true) → ∀ s₁ gs h', D s₁ → AllBare gs → (∀ b o, s₁.heap.get? b = some o → h'.get? b = some o) → Q (.bool true) { s₁ with gens := gs, heap := h' }) :
    wpAny (model prog w) A (call (.builtin "all") [.ref a]) Q E s := by
  refine call_function_tree PySem.F.kind_all PySem.F.plain_all PySem.F.entry_all (PySem.F.args_all1 _) ?_
  unfold Builtin.«all»
  refine wpAny_bind (m := oneArg "all" _) (wpAny_pure ?_)
  refine wpAny_bind (wpAny_pyIter_gen (L.obj _ _ h.inv).1 ?_)
  exact wpAny_pure ⟨plainId_quiet PySem.F.plain_all_loop _, gall_loop L hF n₀ 0 s rfl (Nat.zero_le _) h (fun j s' _ h2 h3 h4 => hN j s' h2 h3 h4) fun q => hT fun j h2 => q j (Nat.zero_le _) h2⟩
end
end
end Dl
namespace Dl
open PySem PySem.Spec PyProof.Rows L2
/-! ### the frame of a generator expression -/
abbrev gEnv (X : Cx) (s : Shared) (scope : Scope) (code : Value) (bi : Addr) : Env := genEnv scope (cloFrom X.env.cells scope.names []) s.heap.objs.size code bi X.env
abbrev gCx (X : Cx) (s : Shared) (H : Hp) (N : List Str) (scope : Scope) (code : Value) (bi : Addr) (A' : Around) (fp : List Addr) : Cx :=
  { X with A := A', N := N, s_0 := s, H_0 := H, env := gEnv X s scope code bi, outer := X.stack, stack := gEnv X s scope code bi :: X.stack, ex := fp, fn := fun _ => false, calm := true, pn := [], xe := fun _ _ => False }
section
variable {X : Cx} {pins : List (Addr × Obj)} {σ : L2.St} {H : Hp} {s : Shared}
theorem gen_start {A' : Around} {fp : List Addr} {N : List Str} {σ' : L2.St} {scope : Scope} {code : Value} {bi : Addr} {h5 : Heap} {gs : Array GenState} {tk : Tok} {m : Str → Option Value} {pins2 : List (Addr × Obj)}
    (I : Inv X pins σ H s) (hk : scope.kind = .function) (hcell : ∀ y ∈ scope.names, y.2 ≠ .cell) (hfree : ∀ y ∈ scope.names, y.2 = .free → ∃ c, X.env.cells.lookup y.1 = some c)
    (hbi : bi = builtinsNs) (hA : A'.handled = none) (hf : A'.frames = some (gEnv X s scope code bi :: X.stack)) (hfp : ∀ b ∈ fp, FpOk X pins H b ∧ b < s.heap.objs.size)
    (kp : ∀ b o, s.heap.get? b = some o → h5.get? b = some o) (hns : h5.Ns s.heap.objs.size m) (hb : AllBare gs) (hlen : σ'.length = N.length)
    (hσ : ∀ (i : Nat) (y : Str) (v : V), N[i]? = some y → σ'[i]? = some (some v) → scope.names.lookup y = some .free ∧ ∃ c u, X.env.cells.lookup y = some c ∧ s.heap.IsCell c (some u) ∧ RelV v u)
    (hp : ∀ p ∈ pins2, h5.get? p.1 = some p.2 ∧ H p.1 = none ∧ p.1 ≠ s.heap.objs.size ∧ p.1 ∉ frs X.stack ∧ ∀ v, p.2.data ≠ .cell v) :
    Inv (gCx X s H N scope code bi A' fp) pins2 σ' H { s with heap := h5, gens := gs, toks := tk } := by
  have cm : ∀ {y c}, (y, c) ∈ cloFrom X.env.cells scope.names [] → X.env.cells.lookup y = some c ∧ c < s.heap.objs.size := fun {y c} hm => by
    rcases cloFrom_mem hm with hm | ⟨h1, rfl⟩
    · cases hm
    · obtain ⟨c, hc⟩ := hfree _ h1 rfl
      rw [hc]
      obtain ⟨w, z⟩ := I.cell _ _ hc
      exact ⟨rfl, z.lt⟩
  have mem : ∀ {y c}, (cloFrom X.env.cells scope.names []).lookup y = some c → X.env.cells.lookup y = some c ∧ c < s.heap.objs.size := fun {y c} e => cm (PySem.mem_of_lookup e)
  have look : ∀ {y}, scope.names.lookup y = some .free → ∃ c, (cloFrom X.env.cells scope.names []).lookup y = some c ∧ X.env.cells.lookup y = some c := fun {y} hl => by
    obtain ⟨c', e'⟩ := mem_lookup (cloFrom_has (cells := X.env.cells) (acc := []) (PySem.mem_of_lookup hl))
    exact ⟨c', e', (mem e').1⟩
  have ok : (gCx X s H N scope code bi A' fp).Ok := by
    refine ⟨I.ok.mod, hk, I.ok.glob, hbi, Nat.le_refl _, fun y z c e1 e2 => I.ok.inj y z c (mem e1).1 (mem e2).1, fun y hy => ?_, fun y c z _ => (Bool.false_ne_true z).elim, fun _ => hA, hf, .inr ⟨rfl, rfl⟩, fun b hb => ⟨?_, fun y c e z => ?_⟩, I.bs, Nat.le_trans I.ok.bsz I.sz, fun b o e hb => ?_, fun b hb z => ?_, I.stack, I.stkFree⟩
    · rcases hy with hy | hy
      · exact absurd rfl (hcell _ (PySem.mem_of_lookup (show scope.names.lookup y = some .cell from hy)))
      · obtain ⟨c, h1, _⟩ := look (show scope.names.lookup y = some .free from hy)
        exact ⟨c, h1⟩
    · exact Nat.ne_of_lt (hfp b hb).2
    · exact (hfp b hb).1.2.2.2.2.1 y c (mem e).1 z
    · rcases (hfp b hb).1.2.2.2.1 with z | z
      · exact I.ok.noex b o e z
      · exact absurd (Nat.lt_of_lt_of_le (Heap.lt_size e) (Nat.le_trans I.ok.bsz z)) (Nat.lt_irrefl _)
    · rcases List.mem_cons.mp (I.stkSub b z) with z | z
      · exact (hfp b hb).1.2.1 z
      · exact (hfp b hb).1.2.2.1 z
  refine ⟨ok, rfl, hb, Un.kept kp, ⟨m, hns, fun i y v e1 e2 e3 => ?_⟩, fun y c e => ?_, I.hok.fresh (Nat.le_refl _), fun y c e => I.freeC y c (mem e).1, fun p hq => hp p (by simpa using hq), I.hok.kept kp, hlen⟩
  · obtain ⟨q, c, u, h1, ⟨o, h2, h3⟩, h4⟩ := hσ i y v e1 e2
    obtain ⟨c', g1, g2⟩ := look q
    rw [h1] at g2; cases g2
    exact ⟨u, h4, .inr ⟨.inr q, c, g1, o, kp _ _ h2, h3⟩⟩
  · obtain ⟨w, o, h2, h3⟩ := I.cell y c (mem e).1
    exact ⟨w, o, kp _ _ h2, h3⟩
/-- what the frame of a generator expression leaves to the def that made it -/
theorem gen_back {A' : Around} {fp : List Addr} {N : List Str} {σ' : L2.St} {scope : Scope} {code : Value} {bi : Addr} {pins2 : List (Addr × Obj)} {H' : Hp} {s' : Shared}
    (I : Inv X pins σ H s) (hfp : ∀ b ∈ fp, FpOk X pins H b) (J : Inv (gCx X s H N scope code bi A' fp) pins2 σ' H' s') : Inv X pins σ H' s' :=
  I.call' (ch := fp) J.os J.base J.hok J.bare fun b hb => ⟨(hfp b hb).2.2.2.1, (hfp b hb).2.1, (hfp b hb).2.2.2.2.1, (hfp b hb).2.2.2.2.2⟩
end
end Dl
namespace Dl
open PySem PySem.Spec PyProof.Rows L2
/-! ### a generator expression's loop, by the words of its frame -/
section
variable {X : Cx} {P : Program} {w : World} {K : PySem.W.Frag}
/-- between two items: the frame stands, the iterator's own objects are pinned, W is what is known -/
def GJ (X : Cx) (p₀ : List (Addr × Obj)) (fp : List Addr) (tn : Nat → Heap → Prop) (W : Nat → L2.St → Hp → Prop) (i : Nat) (s : Shared) : Prop :=
  ∃ σ H, Inv X p₀ σ H s ∧ (∀ b ∈ fp, FpOk X p₀ H b) ∧ tn i s.heap ∧ W i σ H
def GD (X : Cx) (p₀ : List (Addr × Obj)) (W : Nat → L2.St → Hp → Prop) (n₀ : Nat) (s : Shared) : Prop := ∃ σ H, Inv X p₀ σ H s ∧ W n₀ σ H
theorem inv_gens {pins : List (Addr × Obj)} {σ : L2.St} {H : Hp} {s : Shared} (I : Inv X pins σ H s) {gs : Array GenState} (h : AllBare gs) : Inv X pins σ H { s with gens := gs } :=
  ⟨I.ok, I.os, h, I.base, I.loc, I.cell, I.free, I.freeC, I.pin, I.hok, I.len⟩
theorem gx_loop {A : Around} {elt tg iter : Expr} {scope : Scope} {pos : Pos} {it : Addr} {n₀ : Nat} {tr : Nat → Bool} {p₀ : List (Addr × Obj)} {fp : List Addr} {tn : Nat → Heap → Prop} {J : It} {W : Nat → L2.St → Hp → Prop} {g : TG} {te : TE}
    (hA : X.A = loopA A elt tg iter scope pos it X.env) (hc : X.calm = true) (T : Turn X.prog X.w X.K tg J fp it tn) (hxe : ∀ e s, ¬ X.xe e s) (hg : PG X tg g) (he : PE X elt te) (hex : ∀ b ∈ fp, b ∈ X.ex)
    (hgo : ∀ i σ H, i < n₀ → W i σ H → J.go i H) (hstop : ∀ σ H, W n₀ σ H → J.stop n₀ H)
    (hstep : ∀ i σ H x H2, i < n₀ → W i σ H → J.yld i H x H2 → g x σ H2 fun σ' H3 => te σ' H3 fun v H4 => v = .bl (tr i) ∧ W (i + 1) σ' H4) :
    GLoop X.prog X.w A elt tg iter scope pos it X.env n₀ (fun i v => v = .bool (tr i)) (GJ X p₀ fp tn W) (GD X p₀ W n₀) where
  gens := fun i s gs ⟨σ, H, I, f, t, k⟩ hb => ⟨σ, H, inv_gens I hb, f, t, k⟩
  turn := fun i s E hi ⟨σ, H, I, f, t, k⟩ => by
    rw [← hA]
    refine wpAny_mono (T.item X rfl rfl rfl hc i p₀ s σ H E I f t (hgo i σ H hi k)) (fun o s1 q => ?_) fun _ _ z => z
    obtain ⟨u, rfl, q⟩ := q
    refine ⟨u, rfl, wpAny_mono q (fun _ s2 q => ?_) fun _ _ z => z⟩
    obtain ⟨x, H2, I2, rx, hy, t2, hn⟩ := q
    have f2 : ∀ b ∈ fp, FpOk X p₀ H2 b := fun b hb => ⟨hn b hb, (f b hb).2⟩
    have I3 := Inv.pinned I2 f2 (T.obj _ _ t2)
    refine wpAny_mono (hg.run _ _ _ _ x u _ I3 rx (hstep i σ H x H2 hi k hy)) (fun _ s3 q => ?_) fun e s' z => (hxe e s' z).elim
    obtain ⟨σ', H3, I4, q⟩ := q
    refine wpAny_mono (he.run _ _ _ _ _ I4 q) (fun y s4 q => ?_) fun e s' z => (hxe e s' z).elim
    obtain ⟨v, H4, I5, ry, rfl, k4⟩ := q
    have at_ : ∀ b ∈ fp, ∀ o, s2.heap.get? b = some o → s4.heap.get? b = some o ∧ H4 b = none := fun b hb o e => by
      obtain ⟨h1, h2, _⟩ := I5.pin (b, o) (List.mem_append_right _ (List.mem_append_right _ (mem_pinsAt hb e)))
      exact ⟨h1, h2⟩
    refine ⟨ry, σ', H4, I5.unpinned, fun b hb => ⟨?_, (f b hb).2⟩, T.keep _ _ _ t2 fun b hb o e => (at_ b hb o e).1, k4⟩
    obtain ⟨o, e, _⟩ := T.obj _ _ t2 b hb
    exact (at_ b hb o e).2
  done := fun s E ⟨σ, H, I, f, t, k⟩ => by
    rw [← hA]
    refine wpAny_mono (T.done X rfl rfl rfl hc n₀ p₀ s σ H E I f t (hstop σ H k)) (fun o s1 q => ?_) fun _ _ z => z
    exact ⟨q.1, σ, H, q.2, k⟩
  self := fun A' s Q E ⟨σ, H, I, f, t, k⟩ hq => T.self A' 0 s Q E t hq
end
end Dl
namespace Dl
open PySem PySem.Spec PyProof.Rows L2
/-! ### all(element for target in source), the element may call -/
section
variable {X : Cx} {pins : List (Addr × Obj)} {σ : L2.St} {H : Hp} {s : Shared}
/-- what a generator expression's words come to -/
structure GWords (X : Cx) (N : List Str) (elt tg : Expr) (scope : Scope) (n₀ : Nat) (tr : Nat → Bool) (J : It) (W : Nat → L2.St → Hp → Prop) (g : TG) (te : TE) : Prop where
  go : ∀ i σ H, i < n₀ → W i σ H → J.go i H
  stop : ∀ σ H, W n₀ σ H → J.stop n₀ H
  step : ∀ i σ H x H2, i < n₀ → W i σ H → J.yld i H x H2 → g x σ H2 fun σ' H3 => te σ' H3 fun v H4 => v = .bl (tr i) ∧ W (i + 1) σ' H4
/-- the generator g has been made at a, in the state s5; what stands behind all() of it -/
def GReady (X : Cx) (pins : List (Addr × Obj)) (σ : L2.St) (n₀ : Nat) (tr : Nat → Bool) (W : Nat → L2.St → Hp → Prop) (a : Addr) (s5 : Shared) : Prop :=
  ∃ (g : Nat) (J : Nat → Shared → Prop) (D : Shared → Prop), GAll X.A.in1 a g J D ∧ GAt X.prog X.w X.A.in1 a g n₀ (fun i v => v = .bool (tr i)) J D 0 s5 ∧
    (∀ j s', J j s' → ∃ σ' H', Inv X pins σ H' s' ∧ W j σ' H') ∧ (∀ s', D s' → ∃ σ' H', Inv X pins σ H' s' ∧ W n₀ σ' H')
theorem gen_made {N : List Str} {σ' : L2.St} {elt tg iter : Expr} {scope : Scope} {pos : Pos} {code : Value} {it : Addr} {fp : List Addr} {tn : Nat → Heap → Prop} {J : It} {n₀ : Nat} {tr : Nat → Bool} {W : Nat → L2.St → Hp → Prop} {g : TG} {te : TE} {h' : Heap} {k : Nat}
    (hr : Room k X.A) (I : Inv X pins σ H s) (hkind : scope.kind = .function) (hco : scope.isCoroutine = false) (hcell : ∀ y ∈ scope.names, y.2 ≠ .cell) (hfree : ∀ y ∈ scope.names, y.2 = .free → ∃ c, X.env.cells.lookup y.1 = some c)
    (hlen : σ'.length = N.length) (hσ : ∀ (i : Nat) (y : Str) (v : V), N[i]? = some y → σ'[i]? = some (some v) → scope.names.lookup y = some .free ∧ ∃ c u, X.env.cells.lookup y = some c ∧ s.heap.IsCell c (some u) ∧ RelV v u)
    (T : Turn X.prog X.w X.K tg J fp it tn) (st : tn 0 s.heap) (hf : ∀ b ∈ fp, FpOk X pins H b) (hw : W 0 σ' H) (G : GWords X N elt tg scope n₀ tr J W g te)
    (hbody : ∀ (A' : Around), A' = loopA X.A.in1.in1 elt tg iter scope pos it (gEnv X s scope code builtinsNs) → PG (gCx X s H N scope code builtinsNs A' fp) tg g ∧ PE (gCx X s H N scope code builtinsNs A' fp) elt te)
    (hns : h'.Ns s.heap.objs.size (fun y => if y = ".0" then some (.ref it) else none)) (hsb : Heap.SameBut s.heap.objs.size (s.heap.push { cls := .type "frame", data := .dict #[] }) h') :
    GReady X pins σ n₀ tr W h'.objs.size { s with
      gens := s.gens.push (.fresh (.compStart (.GeneratorExp elt [⟨tg, iter, [], 0⟩] scope pos) 0 (.ref it) .none (gEnv X s scope code builtinsNs))),
      toks := s.toks + 1 + 1 + 1,
      heap := h'.push { cls := .type "generator", data := .fields #[.int s.gens.size 0, .str "<genexpr>" (s.toks + 1), .str (X.env.qual ++ "<genexpr>") (s.toks + 1 + 1)] } } := by
  have kp1 : ∀ b o, s.heap.get? b = some o → h'.get? b = some o := fun b o e => hsb.extBut b o (Nat.ne_of_lt (Heap.lt_size e)) (Heap.get?_push_of_some _ e)
  have sz : h'.objs.size = s.heap.objs.size + 1 := by rw [hsb.1, Heap.size_push]
  generalize hgo : ({ cls := .type "generator", data := .fields #[.int s.gens.size 0, .str "<genexpr>" (s.toks + 1), .str (X.env.qual ++ "<genexpr>") (s.toks + 1 + 1)] } : Obj) = go
  have kp : ∀ b o, s.heap.get? b = some o → (h'.push go).get? b = some o := fun b o e => Heap.get?_push_of_some _ (kp1 b o e)
  have lt : ∀ b ∈ fp, b < s.heap.objs.size := fun b hb => by
    obtain ⟨o, e, _⟩ := T.obj _ _ st b hb
    exact Heap.lt_size e
  have ha : (h'.push go).get? h'.objs.size = some go := Heap.get?_push_size _ (by rw [← hgo]; rfl)
  obtain ⟨A', hA⟩ : ∃ A', A' = loopA X.A.in1.in1 elt tg iter scope pos it (gEnv X s scope code builtinsNs) := ⟨_, rfl⟩
  have hA1 : A'.handled = none := by rw [hA]; exact hr.hd
  have hA2 : A'.frames = some (gEnv X s scope code builtinsNs :: X.stack) := by
    have e : X.A.in1.in1.frames = some X.stack := I.ok.frames
    rw [hA]
    simp [loopA, Around.over, I.ok.frames, pushEnvs, Code.envs, Code.isFrame, Code.env?, envsOf]
  have hst : h'.objs.size ∉ frs X.stack := fun z => by
    obtain ⟨_, o, ho, _⟩ := I.stack.mem z
    exact absurd (Heap.lt_size ho) (by rw [sz]; exact Nat.not_lt.mpr (Nat.le_succ _))
  have I2 := gen_start (σ' := σ') (N := N) (code := code) (pins2 := [(h'.objs.size, go)]) (gs := s.gens.push (.fresh (.compStart (.GeneratorExp elt [⟨tg, iter, [], 0⟩] scope pos) 0 (.ref it) .none (gEnv X s scope code builtinsNs)))) (tk := s.toks + 1 + 1 + 1)
    I hkind hcell hfree rfl hA1 hA2 (fun b hb => ⟨hf b hb, lt b hb⟩) kp (hns.push _) (I.bare.push rfl) hlen hσ (fun p hp => by
      have e : p = (h'.objs.size, go) := by simpa using hp
      subst e
      exact ⟨ha, I.hok.fresh (by rw [sz]; exact Nat.le_succ _), by rw [sz]; exact Nat.succ_ne_self _, hst, fun v z => by rw [← hgo] at z; cases z⟩)
  obtain ⟨hg, he⟩ := hbody A' hA
  have hp : ∀ b ∈ fp, b ≠ h'.objs.size := fun b hb => Nat.ne_of_lt (by rw [sz]; exact Nat.lt_succ_of_lt (lt b hb))
  have f2 : ∀ b ∈ fp, FpOk (gCx X s H N scope code builtinsNs A' fp) [(h'.objs.size, go)] H b := fun b hb => by
    refine ⟨(hf b hb).1, Nat.ne_of_lt (lt b hb), fun z => ?_, .inl hb, fun x c e => ?_, fun p hq => ?_⟩
    · rcases List.mem_cons.mp (I.stkSub b z) with z | z
      · exact (hf b hb).2.1 z
      · exact (hf b hb).2.2.1 z
    · refine (hf b hb).2.2.2.2.1 x c ?_
      have e : (cloFrom X.env.cells scope.names []).lookup x = some c := e
      rcases cloFrom_mem (PySem.mem_of_lookup e) with hm | ⟨h1, rfl⟩
      · cases hm
      · obtain ⟨c, hc⟩ := hfree _ h1 rfl
        rw [hc]
        rfl
    · have e : p = (h'.objs.size, go) := by simpa using hq
      rw [e]
      exact Ne.symm (hp b hb)
  have L := gx_loop (X := gCx X s H N scope code builtinsNs A' fp) (A := X.A.in1.in1) (tr := tr) (p₀ := [(h'.objs.size, go)]) (scope := scope) (pos := pos) (iter := iter) hA rfl T (fun _ _ z => z) hg he (fun b hb => hb) G.go G.stop G.step
  refine ⟨s.gens.size, _, _, ⟨hr.hd, ?_, fun j s' q => ?_, L.gens, fun s' q => ?_⟩, ⟨⟨σ', H, I2, f2, T.keep _ _ _ st fun b hb o e => kp b o e, hw⟩, _, Array.getElem?_push_size .., fun gs' hb => ⟨rfl, seg_gs hco L _ _ ⟨σ', H, inv_gens I2 hb, f2, T.keep _ _ _ st fun b hb o e => kp b o e, hw⟩⟩⟩, fun j s' q => ?_, fun s' q => ?_⟩
  · have := hr.dp
    show X.A.depth < _
    omega
  · obtain ⟨σ1, H1, I1, _⟩ := q
    obtain ⟨e, _⟩ := I1.pin (h'.objs.size, go) (by simp)
    refine ⟨?_, I1.nolimit, I1.bare⟩
    subst hgo
    exact ⟨_, _, _, e, rfl, rfl, rfl⟩
  · obtain ⟨σ1, H1, I1, _⟩ := q
    exact I1.bare
  · obtain ⟨σ1, H1, I1, _, _, k1⟩ := q
    exact ⟨σ1, H1, gen_back I hf I1, k1⟩
  · obtain ⟨σ1, H1, I1, k1⟩ := q
    exact ⟨σ1, H1, gen_back I hf I1, k1⟩
end
end Dl
namespace Dl
open PySem PySem.Spec PyProof.Rows L2 GxR
section
variable {X : Cx}
/-- what the frame's slots are at first: the targets' are free, the others hold what is captured -/
def capS (n : Nat) (σ : L2.St) (caps : List Nat) : L2.St := List.replicate n none ++ caps.map fun j => (σ[j]?).getD none
def isFree (sc : Scope) (y : Str) : Bool := match sc.names.lookup y with
  | some .free => true
  | _ => false
def isCell (sc : Scope) (y : Str) : Bool := match sc.names.lookup y with
  | some .cell => true
  | _ => false
theorem isFree_of {sc : Scope} {y : Str} (h : isFree sc y = true) : sc.names.lookup y = some .free := by
  unfold isFree at h
  split at h
  · assumption
  · cases h
theorem isCell_of {sc : Scope} {y : Str} (h : isCell sc y = true) : sc.names.lookup y = some .cell := by
  unfold isCell at h
  split at h
  · assumption
  · cases h
/-- the captured names: in the frame behind the targets, in the def at caps -/
def capOk (N M : List Str) (n : Nat) (caps : List Nat) (sc so : Scope) : Bool :=
  decide (N.length = n + caps.length) && (List.range caps.length).all fun i => match N[n + i]?, caps[i]? with
    | some y, some j => (match M[j]? with
      | some z => z == y
      | none => false) && isFree sc y && isCell so y
    | _, _ => false
/-- all(element for target in source); behind it the def's table of codes may have grown -/
def tAllX (X : Cx) (N : List Str) (n : Nat) (caps : List Nat) (P : Addr) (elt tg : Expr) (scope : Scope) (g : TG) (te : TE) (wi : TI) : TE := fun σ H Q => wi σ H fun J H1 => TabG H1 P ∧ ∀ H2, Tabbed P H1 H2 →
  ∃ (n₀ : Nat) (tr : Nat → Bool) (W : Nat → L2.St → Hp → Prop), W 0 (capS n σ caps) H2 ∧ GWords X N elt tg scope n₀ tr J W g te ∧
    (∀ j σ' H', j < n₀ → tr j = false → W (j + 1) σ' H' → Q (.bl false) H') ∧ ((∀ j, j < n₀ → tr j = true) → ∀ σ' H', W n₀ σ' H' → Q (.bl true) H')
theorem cap_cells {pins : List (Addr × Obj)} {σ : L2.St} {H : Hp} {s : Shared} {N : List Str} {n : Nat} {caps : List Nat} {scope : Scope} (I : Inv X pins σ H s) (hc : capOk N X.N n caps scope X.env.scope = true) :
    (capS n σ caps).length = N.length ∧ ∀ (i : Nat) (y : Str) (v : V), N[i]? = some y → (capS n σ caps)[i]? = some (some v) → scope.names.lookup y = some .free ∧ ∃ c u, X.env.cells.lookup y = some c ∧ s.heap.IsCell c (some u) ∧ RelV v u := by
  unfold capOk at hc
  rw [Bool.and_eq_true] at hc
  have hl := of_decide_eq_true hc.1
  refine ⟨by simp [capS, hl], fun i y v e1 e2 => ?_⟩
  unfold capS at e2
  by_cases hi : i < n
  · rw [List.getElem?_append_left (by simpa using hi), List.getElem?_replicate, if_pos hi] at e2
    cases e2
  · rw [List.getElem?_append_right (by simp; omega), List.length_replicate, List.getElem?_map] at e2
    cases hj : caps[i - n]? with
    | none => rw [hj] at e2; cases e2
    | some j =>
      rw [hj, Option.map_some] at e2
      have hlt := (List.getElem?_eq_some_iff.mp hj).1
      have q := List.all_eq_true.mp hc.2 (i - n) (List.mem_range.mpr hlt)
      rw [show n + (i - n) = i by omega, e1, hj] at q
      simp only [Bool.and_eq_true] at q
      obtain ⟨⟨q1, q2⟩, q3⟩ := q
      have e3 : σ[j]? = some (some v) := by
        cases z : σ[j]? with
        | none => rw [z] at e2; cases e2
        | some o => rw [z] at e2; cases e2; rfl
      have e4 : X.N[j]? = some y := by
        cases z : X.N[j]? with
        | none => rw [z] at q1; cases q1
        | some z' => rw [z] at q1; rw [eq_of_beq q1]
      obtain ⟨m, _, h2⟩ := I.loc
      obtain ⟨u, ru, look⟩ := h2 j y v e4 e3 (.inr (.inl (isCell_of q3)))
      refine ⟨isFree_of q2, ?_⟩
      rcases look with ⟨k, _⟩ | ⟨_, c, k1, k2⟩
      · have k : X.env.scope.names.lookup y = some .local := k
        rw [isCell_of q3] at k
        cases k
      · exact ⟨c, u, k1, k2, ru⟩
theorem pe_allX {c P : Addr} {elt tg iter : Expr} {p pos gpos : Pos} {scope : Scope} {N : List Str} {n : Nat} {caps : List Nat} {wi : TI} {k : Nat} {g : TG} {te : TE}
    (hr : Room k X.A) (hg : Gl X "all") (hm : X.mg "all" = none) (hb : bootBuiltins "all" = some (.builtin "all")) (TB : TabB X.base X.mg c P) (hcode : X.env.code = .ref c)
    (hkind : scope.kind = .function) (hco : scope.isCoroutine = false) (hcell : ∀ y ∈ scope.names, y.2 ≠ .cell) (hdot : scope.names.lookup (".0" : Str) = some NameKind.local) (hfree : ∀ y ∈ scope.names, y.2 = .free → ∃ c, X.env.cells.lookup y.1 = some c)
    (hcap : capOk N X.N n caps scope X.env.scope = true) (hi : PI X tg iter wi) (hs : ∀ v, genFold iter X.env v = pure v)
    (hbody : ∀ (s : Shared) (H : Hp) (code : Value) (it : Addr) (fp : List Addr) (A' : Around), A' = loopA X.A.in1.in1 elt tg iter scope gpos it (gEnv X s scope code builtinsNs) → PG (gCx X s H N scope code builtinsNs A' fp) tg g ∧ PE (gCx X s H N scope code builtinsNs A' fp) elt te)
    (he : starEach [.GeneratorExp elt [⟨tg, iter, [], 0⟩] scope gpos] X.env = (false, eval (.GeneratorExp elt [⟨tg, iter, [], 0⟩] scope gpos) X.env) :: starEach [] X.env := by rfl) :
    PE X (.Call (.Name "all" p) [.GeneratorExp elt [⟨tg, iter, [], 0⟩] scope gpos] [] pos) (tAllX X N n caps P elt tg scope g te wi) := by
  refine ⟨fun pins s σ H Q I h => ?_⟩
  refine wpAny_Call_Name_kw (ld_blt I hg hm hb ?_)
  refine PyProof.Rows.callWith_builtin1 ?_ he (by rfl)
  rw [he]
  show wpAny _ _ (spliced ((false, eval (.GeneratorExp elt [⟨tg, iter, [], 0⟩] scope gpos) X.env) :: backTo pos (starEach [] X.env))) _ _ s
  refine Calls.spliced_cons ?_
  refine wpAny_GeneratorExp_make hco (closure_ok hfree) hcell hdot hkind (by have := hr.dp; omega) ?_ hs
  refine wpAny_mono (hi.run pins s σ H _ I h) (fun xv s1 q => ?_) fun _ _ z => z
  refine wpAny_mono q (fun itv s2 q => ?_) fun _ _ z => z
  obtain ⟨it, fp, tn, J, H1, rfl, I1, T, st, hf, ⟨ps, hP, ht⟩, q⟩ := q
  refine ⟨I1.nolimit, ?_⟩
  have hPs : s2.heap.get? P = some { cls := .none, data := .fields ps } := I1.hok P _ hP
  have cd : PySem.W.CodeHd s2.heap c P := TB.code.keeps fun b u e => I1.bk b u e
  have cont : ∀ (code : Value) (h3 : Heap) (tk : Nat) (ps' : Array Value), Heap.ExtBut P s2.heap h3 → h3.get? P = some { cls := .none, data := .fields ps' } → (∃ more, ps' = ps ++ more) → TriplesOk ps'.toList →
      wpAny (model X.prog X.w) X.A (builtinsFor X.env.globals X.env.builtins) (fun bi s₄ => ∀ h' : Heap, h'.Ns s₄.heap.objs.size (fun y => if y = ".0" then some (.ref it) else none) → Heap.SameBut s₄.heap.objs.size (s₄.heap.push { cls := .type "frame", data := .dict #[] }) h' →
          wpAny (model X.prog X.w) X.A (spliced (backTo pos (starEach [] X.env)) >>= fun x => pure (Value.ref h'.objs.size :: x)) (fun us s' => wpAny (model X.prog X.w) X.A (call (.builtin "all") us) (EP X pins σ Q) X.xe s') X.xe { s₄ with
            gens := s₄.gens.push (.fresh (.compStart (.GeneratorExp elt [⟨tg, iter, [], 0⟩] scope gpos) 0 (.ref it) .none (genEnv scope (cloFrom X.env.cells scope.names []) s₄.heap.objs.size code bi X.env))),
            toks := s₄.toks + 1 + 1 + 1,
            heap := h'.push { cls := .type "generator", data := .fields #[.int s₄.gens.size 0, .str "<genexpr>" (s₄.toks + 1), .str (X.env.qual ++ "<genexpr>") (s₄.toks + 1 + 1)] } }) X.xe { s2 with heap := h3, toks := tk } := by
    intro code h3 tk ps' hx hP3 hmore ht3
    obtain ⟨more, em⟩ := hmore
    obtain ⟨bm, ob, e1, e2, e3, e4, e5, e6, e7, e8⟩ := TB.bm
    have keep3 : ∀ b u, b ≠ P → s2.heap.get? b = some u → h3.get? b = some u := fun b u hb e => hx b u hb e
    refine wpAny_builtinsFor (m := X.mg) (by rw [I1.ok.glob]; exact (I1.mod.glob.keeps I1.bk).extBut hx TB.gP) e1 e2 (keep3 _ _ e4 (I1.bk _ _ e5)) e6 e7 e8 ?_
    intro h' hns hsb
    have I3 := inv_tab (more := more) (h' := h3) (g' := s2.gens) (d' := s2.drawn) (t' := tk) I1 hP (fun b o hb e => keep3 b o hb e) (by rw [← em]; exact hP3) I1.bare
    have tabd : Tabbed P H1 (upd H1 P (.tbl (ps ++ more))) := ⟨⟨ps ++ more, upd_same, by rw [← em]; exact ht3⟩, fun b hb => upd_ne hb⟩
    obtain ⟨n₀, tr, W, w0, G, qf, qt⟩ := q _ tabd
    have ne : ∀ b ∈ fp, b ≠ P := fun b hb z => by
      have := (hf b hb).1
      rw [z, hP] at this
      cases this
    have f3 : ∀ b ∈ fp, FpOk X pins (upd H1 P (.tbl (ps ++ more))) b := fun b hb => ⟨by rw [upd_ne (ne b hb)]; exact (hf b hb).1, (hf b hb).2⟩
    have st3 : tn 0 h3 := T.keep _ _ _ st fun b hb o e => keep3 b o (ne b hb) e
    have R := gen_made (pos := gpos) (iter := iter) (code := code) (σ' := capS n σ caps) hr I3 hkind hco hcell hfree (cap_cells I3 hcap).1 (cap_cells I3 hcap).2 T st3 f3 w0 G (fun A' hA => hbody _ _ _ _ _ A' hA) hns hsb
    obtain ⟨g', J', D', L, Gt, bj, bd⟩ := R
    refine wpAny_bind (Calls.spliced_nil (wpAny_pure ?_))
    refine gall_call L (fun i v e => e) Gt (fun j s' hj ht' hJ => ?_) fun hall s1' gs h2 hD hb2 hk2 => ?_
    · obtain ⟨σ', H', I', w'⟩ := bj _ _ hJ
      exact ⟨.bl false, H', I', rfl, qf j σ' H' hj ht' w'⟩
    · obtain ⟨σ', H', I', w'⟩ := bd _ hD
      exact ⟨.bl true, H', inv_gens (I'.kept hk2) hb2, rfl, qt hall σ' H' w'⟩
  cases hcf : codeAmong gpos ps.toList with
  | none =>
    refine wpAny_genexprCodeX hcode (cd.code hPs ht) (cd.tab hPs) hcf fun c' h' tk hx hge hlt hco' _ htab' _ => ?_
    obtain ⟨o1, vs, f1, tf, fl, tg', inF, tx, tt, op, _, _, _, _, _, _, _, _, _, htr, _⟩ := hco'
    exact cont _ h' tk _ hx htab'.2 ⟨_, rfl⟩ htr
  | some cv =>
    refine wpAny_genexprCode_hit hcode (cd.code hPs ht) hcf ?_
    exact cont cv s2.heap s2.toks ps (Heap.ExtBut.refl _ _) hPs ⟨#[], by simp⟩ ht
end
end Dl
namespace Dl
open PySem PySem.Spec PyProof.Rows L2
/-! ### fractions with bounds -/
/-- a fraction in lowest terms whose parts are below 2 ^ k -/
structure Fk (k : Nat) (p q : Int) : Prop where
  f : Frac p q
  t : p.natAbs < 2 ^ k
  b : q.natAbs < 2 ^ k
theorem Fk.up {k m : Nat} {p q : Int} (h : Fk k p q) (hk : k ≤ m := by decide) : Fk m p q := ⟨h.f, two_le h.t hk, two_le h.b hk⟩
theorem Fk.pos {k : Nat} {p q : Int} (h : Fk k p q) : 0 < q := h.f.pos
theorem sum_lt {k m : Nat} {p q u v : Int} (p1 : p.natAbs < 2 ^ k) (q1 : q.natAbs < 2 ^ k) (u1 : u.natAbs < 2 ^ m) (v1 : v.natAbs < 2 ^ m) : (p * v + u * q).natAbs < 2 ^ (k + m + 1) := by
  have h1 := natAbs_mul_lt p1 v1
  have h2 := natAbs_mul_lt u1 q1
  rw [Nat.add_comm m k] at h2
  exact natAbs_add_lt h1 h2
theorem dif_lt {k m : Nat} {p q u v : Int} (p1 : p.natAbs < 2 ^ k) (q1 : q.natAbs < 2 ^ k) (u1 : u.natAbs < 2 ^ m) (v1 : v.natAbs < 2 ^ m) : (p * v - u * q).natAbs < 2 ^ (k + m + 1) := by
  rw [Int.sub_eq_add_neg, ← Int.neg_mul]
  exact sum_lt p1 q1 (by rw [Int.natAbs_neg]; exact u1) v1
/-- a fraction that is another one in lowest terms -/
theorem fk_of {k : Nat} {t b s r : Int} (f : Frac s r) (hb : b ≠ 0) (e : t * r = b * s) (ht : t.natAbs < 2 ^ k) (hb2 : b.natAbs < 2 ^ k) : Fk k s r := by
  obtain ⟨l1, l2⟩ := f.le hb e
  exact ⟨f, Nat.lt_of_le_of_lt l2 ht, Nat.lt_of_le_of_lt l1 hb2⟩
theorem frac_same {t b s r s' r' : Int} (k : Frac s r) (k' : Frac s' r') (hb : b ≠ 0) (h : t * r = b * s) (h' : t * r' = b * s') : s' = s ∧ r' = r := by
  refine k'.one k (Int.eq_of_mul_eq_mul_left hb ?_)
  rw [← Int.mul_assoc, ← h', ← Int.mul_assoc, ← h, Int.mul_right_comm]
theorem mul_ne {q v : Int} (h : 0 < q) (g : 0 < v) : q * v ≠ 0 := Int.ne_of_gt (Int.mul_pos h g)
/-- the order of two fractions: -1, 0, 1 -/
def cmpT (p q u v : Int) : Int := if p * v < u * q then -1 else if u * q < p * v then 1 else 0
/-- data that is itself when asked by == -/
def selfEq : PyData → Prop
  | .int _ => True
  | .str _ => True
  | .bool _ => True
  | x => SeqAt.shaped x = true ∧ x.eqv x = true
theorem gEqv_self {x : PyData} {P : DV → Prop} (h : selfEq x) (q : P (.d (.bool true))) : gEqv id x x P := by
  cases x with
  | int i => simpa [gEqv] using q
  | str i => simpa [gEqv] using q
  | bool i => simpa [gEqv] using q
  | none => obtain ⟨a, b⟩ := h; exact ⟨a, a, by rw [b]; exact q⟩
  | list xs => obtain ⟨a, b⟩ := h; exact ⟨a, a, by rw [b]; exact q⟩
  | tuple xs => obtain ⟨a, b⟩ := h; exact ⟨a, a, by rw [b]; exact q⟩
  | dict xs => obtain ⟨a, b⟩ := h; exact ⟨a, a, by rw [b]; exact q⟩
theorem self2 (a b : Int) : selfEq (.tuple [.int a, .int b]) := ⟨small2 a b, same2 a b⟩
theorem sh2 {a b : Int} {j : Nat} (ha : a.natAbs < 2 ^ j) (hb : b.natAbs < 2 ^ j) (h0 : 0 < j := by decide) (hj : j < 1920 := by decide) : Sh (.tuple [.int a, .int b]) :=
  (sn_tup (m := 2) fun z hz => by
    simp only [List.mem_cons, List.not_mem_nil, or_false] at hz
    rcases hz with rfl | rfl
    · exact sn_int (j := j) ha h0 hj
    · exact sn_int (j := j) hb h0 hj).sh (by decide) (by omega)
/-! ### xs[::-1] of a list -/
section
variable {X : Cx} {w : Wn} {e : Expr} {te : DT}
theorem RpA.rev {K : PySem.W.Frag} {F : Hp} {vs : List V} {xs : List PyData} (r : RpA K F vs xs) : RpA K F vs.reverse xs.reverse := by
  induction vs generalizing xs with
  | nil => cases r; exact .nil
  | cons v vs ih =>
    cases r with
    | cons h t =>
      rw [List.reverse_cons, List.reverse_cons]
      exact (ih t).app (.cons h .nil)
def tRevD (te : DT) : DT := fun env P => te env fun u => rd u fun x => match x with
  | .list xs => P (.fr xs.reverse)
  | _ => False
theorem d_rev {k p1 p2 p3 pos} (he : DPE X w e te) : DPE X w (.Subscript e (.Slice none none (some (.UnaryOp .USub (.Constant (.int 1) k p1) p2)) p3) pos) (tRevD te) :=
  pe_weak (pe_revL he) fun σ H Q ⟨env, F, P, r, h, q⟩ => ⟨env, F, _, r, h, fun dv v F1 H1 s1 r1 h1 => by
    obtain ⟨x, x1, h1⟩ := rd_ok r1 h1
    split at h1
    · next xs =>
      obtain ⟨m, vs, rfl, e, ra⟩ := x1.lst s1.sub
      exact ⟨m, vs, rfl, SqL.of e, res_new s1.wd ra.rev (fun dv v F4 H4 s4 r4 h4 => q dv v F4 H4 (s1.trans s4) (r4.early s1) h4) h1⟩
    · exact h1.elim⟩
theorem rvE (te : DT) (env : List Sl) (P : DV → Prop) : tRevD te env P = te env fun u => rd u fun x => match x with
  | .list xs => P (.fr xs.reverse)
  | _ => False := propext ⟨fun h => h, fun h => h⟩
end
end Dl
namespace Dl
open PySem PySem.Spec PyProof.Rows L2 GxR
/-! ### all(element for x in source) as a reading -/
theorem loop_guards {A : Around} {elt tg iter : Expr} {scope : Scope} {pos : Pos} {I : Addr} {cenv : Env} (h : A.guards = some []) : (loopA A.in1.in1 elt tg iter scope pos I cenv).guards = some [] := by
  have e : A.in1.in1.guards = some [] := h
  simp [loopA, Around.over, e, pushGuards, Code.guards, Code.isGuard, guardsOf]
theorem loop_room {A : Around} {k : Nat} {elt tg iter : Expr} {scope : Scope} {pos : Pos} {I : Addr} {cenv : Env} (h : Room (k + 1) A) : Room k (loopA A.in1.in1 elt tg iter scope pos I cenv) := by
  obtain ⟨hd, dp, un⟩ := h
  refine ⟨hd, ?_, ?_⟩
  · have e : (loopA A.in1.in1 elt tg iter scope pos I cenv).depth ≤ A.depth + 3 := by
      simp [loopA, Around.over, frameCount, Code.weight, Code.isFrame, Code.frames, Around.in1, Code.isCreation, Code.isGuard, Code.isCaller]
      try omega
    omega
  · have e : (loopA A.in1.in1 elt tg iter scope pos I cenv).units ≤ A.units + 16 := by
      simp [loopA, Around.over, unitsOf, Code.cUnits, Code.isFrame, Code.frames, Around.in1]
      try omega
    omega
def capSl : Option Sl → Sl
  | some (.d x) => .d x
  | some (.raw v) => .raw v
  | some .bag => .bag
  | _ => .un
def capD (env : List Sl) (caps : List Nat) : List Sl := caps.map fun j => capSl env[j]?
def tAll1 (it : DIt) (te : DT) (caps : List Nat) : DT := fun env P => it env fun xs => ∃ f : PyData → Bool, (∀ x ∈ xs, te (.d x :: capD env caps) fun dv => dv = .d (.bool (f x))) ∧ P (.d (.bool (xs.all f)))
def lfF (K : PySem.W.Frag) (ts : List Addr) (t : DT) : TE := fun σ H Q => ∃ w : Wn, w.b.ts = ts ∧ lf K w t σ H Q
def lfH (K : PySem.W.Frag) (ts : List Addr) (g : DG) : TG := fun v σ H Q => ∃ w : Wn, w.b.ts = ts ∧ lfG K w g v σ H Q
theorem pe_F {Y : Cx} {ts : List Addr} {e : Expr} {t : DT} (h : ∀ w : Wn, w.b.ts = ts → DPE Y w e t) : PE Y e (lfF Y.K ts t) := ⟨fun p s σ H Q I ⟨w, q, z⟩ => (h w q).run p s σ H Q I z⟩
theorem pg_H {Y : Cx} {ts : List Addr} {tg : Expr} {g : DG} (h : ∀ w : Wn, w.b.ts = ts → PG Y tg (lfG Y.K w g)) : PG Y tg (lfH Y.K ts g) := by
  constructor
  intros
  obtain ⟨w, q, z⟩ := ‹lfH _ _ _ _ _ _ _›
  obtain ⟨h1⟩ := h w q
  first | exact h1 _ _ _ _ _ _ _ ‹_› ‹_› z | exact h1 _ _ _ _ _ _ _ _ ‹_› ‹_› z
def trD (xs : List PyData) (f : PyData → Bool) (i : Nat) : Bool := match xs[i]? with
  | some x => f x
  | none => false
section
variable {X : Cx} {w : Wn}
theorem cap_rel {K : PySem.W.Frag} {b : Bg} {F₀ H₀ F H F1 H1 : Hp} {env : List Sl} {σ : L2.St} {caps : List Nat} (r : Rel K b F₀ H₀ env σ F H) (w1 : Wd K b F1 H1) (e1 : Same F F1) : Rel K b F1 H1 (.un :: capD env caps) (capS 1 σ caps) F1 H1 := by
  refine ⟨by simp [capS, capD], w1.refl, fun i s h => ?_, fun i j s t a h1 _ m _ => ?_⟩
  · cases i with
    | zero => cases h; exact True.intro
    | succ i =>
      rw [List.getElem?_cons_succ] at h
      unfold capD at h
      rw [List.getElem?_map] at h
      have eS : (capS 1 σ caps)[i + 1]? = (caps[i]?).map fun j => (σ[j]?).getD none := by simp [capS]
      rw [eS]
      cases hj : caps[i]? with
      | none => rw [hj] at h; cases h
      | some j =>
        rw [hj, Option.map_some] at h
        rw [Option.map_some]
        unfold capSl at h
        split at h
        · next x ex =>
          cases h
          obtain ⟨v, e, q⟩ := r.at' j _ ex
          exact ⟨v, by rw [e]; rfl, q.up e1⟩
        · next v ex =>
          cases h
          have e := r.at' j _ ex
          show some _ = some (some v)
          rw [show σ[j]? = some (some v) from e]; rfl
        · next ex =>
          cases h
          have e := r.at' j _ ex
          show some _ = some (some (V.ref b.b))
          rw [show σ[j]? = some (some (V.ref b.b)) from e]; rfl
        · cases h; exact True.intro
  · exfalso
    cases i with
    | zero => cases h1; cases m
    | succ i =>
      rw [List.getElem?_cons_succ] at h1
      unfold capD at h1
      rw [List.getElem?_map] at h1
      cases hj : caps[i]? with
      | none => rw [hj] at h1; cases h1
      | some j =>
        rw [hj, Option.map_some] at h1
        unfold capSl at h1
        split at h1 <;> cases h1 <;> cases m
theorem tab_stp {K : PySem.W.Frag} {b : Bg} {F H H2 : Hp} {P : Addr} (w1 : Wd K b F H) (hP : P ∈ b.ts) (t : Tabbed P H H2) : Stp K b F H F H2 := by
  obtain ⟨⟨qs, e2, k2⟩, rest⟩ := t
  have fP := (w1.bag.2.2.2 P hP).1
  obtain ⟨ps, e1, k1⟩ := (w1.bag.2.2.2 P hP).2
  obtain ⟨vs, eb⟩ := w1.bag.lst
  have nb : b.b ≠ P := fun z => by rw [z, e1] at eb; cases eb
  refine ⟨fun a o _ nt h => ?_, w1.bag.up (fun _ _ h => h) (rest _ nb) (fun t _ h1 h2 => ⟨h1, ?_⟩), fun _ _ h => h, fun a o h => ?_, w1.fb, fun _ h _ => h, fun a rs ne h => ?_⟩
  · rw [rest a (fun z => by rw [z, e1] at h; exact nt ps (Option.some.inj h).symm)]; exact h
  · by_cases z : t = P
    · rw [z]; exact ⟨qs, e2, k2⟩
    · obtain ⟨rs, z1, z2⟩ := h2
      exact ⟨rs, by rw [rest t z]; exact z1, z2⟩
  · rw [rest a (fun z => by rw [z, fP] at h; cases h)]; exact w1.sub a o h
  · by_cases z : a = P
    · rw [z]; exact ⟨qs, e2, fun _ => k2⟩
    · exact ⟨rs, by rw [rest a z]; exact h, fun q => q⟩
theorem d_all1 {ts : List Addr} {c P : Addr} {elt iter : Expr} {x : Str} {p pos gpos px : Pos} {scope : Scope} {N : List Str} {caps : List Nat} {it : DIt} {te : DT} {k : Nat}
    (ht : w.b.ts = ts) (hr : Room k X.A) (hg : Gl X "all") (hm : X.mg "all" = none) (TB : TabB X.base X.mg c P) (hcode : X.env.code = .ref c) (hP : P ∈ ts)
    (hkind : scope.kind = .function) (hco : scope.isCoroutine = false) (hcell : ∀ y ∈ scope.names, y.2 ≠ .cell) (hdot : scope.names.lookup (".0" : Str) = some NameKind.local) (hfree : ∀ y ∈ scope.names, y.2 = .free → ∃ c, X.env.cells.lookup y.1 = some c)
    (hcap : capOk N X.N 1 caps scope X.env.scope = true) (hN : N.Nodup) (hx : N[0]? = some x) (hl : scope.names.lookup x = some .local)
    (hi : PI X (.Name x px) iter (lfI X.K w it)) (hs : ∀ v, genFold iter X.env v = pure v)
    (hbody : ∀ (s : Shared) (H : Hp) (code : Value) (I : Addr) (fp : List Addr) (A' : Around), A' = loopA X.A.in1.in1 elt (.Name x px) iter scope gpos I (gEnv X s scope code builtinsNs) → ∀ w' : Wn, w'.b.ts = ts → DPE (gCx X s H N scope code builtinsNs A' fp) w' elt te)
    (hb : bootBuiltins "all" = some (.builtin "all") := by decide +kernel)
    (he : starEach [.GeneratorExp elt [⟨.Name x px, iter, [], 0⟩] scope gpos] X.env = (false, eval (.GeneratorExp elt [⟨.Name x px, iter, [], 0⟩] scope gpos) X.env) :: starEach [] X.env := by rfl) :
    DPE X w (.Call (.Name "all" p) [.GeneratorExp elt [⟨.Name x px, iter, [], 0⟩] scope gpos] [] pos) (tAll1 it te caps) := by
  refine pe_weak (pe_allX (N := N) (n := 1) (caps := caps) (g := lfH X.K ts (gnD 0)) (te := lfF X.K ts te) hr hg hm hb TB hcode hkind hco hcell hdot hfree hcap hi hs (fun s H code I fp A' hA => ⟨pg_H fun w' _ => dg_name (X := gCx X s H N scope code builtinsNs A' fp) hN hx (.inl hl) (.inr hl), pe_F fun w' hw => hbody s H code I fp A' hA w' hw⟩) he) fun σ H Q ⟨env, F, R, r, h, q⟩ => ?_
  refine ⟨env, F, _, r, h, fun xs J F1 H1 s1 wl h1 => ?_⟩
  obtain ⟨f, hf, hR⟩ := h1
  have pt : P ∈ w.b.ts := by rw [ht]; exact hP
  refine ⟨(s1.bag.2.2.2 P pt).2, fun H2 tb => ?_⟩
  have s2 := tab_stp s1.wd pt tb
  obtain ⟨G, Y, wk, hG, hY⟩ := wl.ex
  refine ⟨xs.length, trD xs f, fun _ σ' H' => ∃ s0 F', RelW X.K ⟨w.b, F1, H2⟩ (s0 :: capD env caps) σ' F' H', ⟨.un, F1, cap_rel r s2.wd s1.ex⟩, ⟨fun i σ' H' hi' k => ?_, fun σ' H' k => ?_, fun i σ' H' v H3 hi' k y => ?_⟩, fun j σ' H' hj hf' k => ?_, fun hall σ' H' k => ?_⟩
  · obtain ⟨s0, F', rel⟩ := k
    exact wk.goes i H' hi' (hG F' H' rel.st.ex rel.st.wd)
  · obtain ⟨s0, F', rel⟩ := k
    exact wk.stops H' (hG F' H' rel.st.ex rel.st.wd)
  · obtain ⟨s0, F', rel⟩ := k
    have yy := wk.yields i H' v H3 hi' (hG F' H' rel.st.ex rel.st.wd) y
    obtain ⟨F3, x', s3, ex, rx⟩ := hY i F' H' v H3 rel.st.ex rel.st.wd yy
    refine ⟨⟨w.b, F1, H2⟩, ht, _, F3, x', fun e => e = .d x' :: capD env caps, rel.step s3, rx, rfl, fun env' σ2 F4 H4 rel2 _ he2 => ?_⟩
    subst he2
    have hx' : x' ∈ xs := List.mem_of_getElem? ex
    refine ⟨⟨w.b, F1, H2⟩, ht, _, F4, _, rel2, hf x' hx', fun dv v5 F5 H5 s5 r5 h5 => ?_⟩
    subst h5
    refine ⟨?_, .d x', F5, rel2.step s5⟩
    rw [r5.blOf]
    unfold trD
    rw [ex]
  · obtain ⟨s0, F', rel⟩ := k
    have e : xs.all f = false := by
      rw [List.all_eq_false]
      unfold trD at hf'
      rw [List.getElem?_eq_getElem hj] at hf'
      exact ⟨xs[j], List.getElem_mem hj, by simp only at hf'; simp [hf']⟩
    rw [e] at hR
    exact q (.d (.bool false)) (.bl false) F' H' ((s1.trans s2).trans rel.st) (Rp.bl false) hR
  · obtain ⟨s0, F', rel⟩ := k
    have e : xs.all f = true := by
      rw [List.all_eq_true]
      intro x' hx'
      obtain ⟨j, hj, rfl⟩ := List.getElem_of_mem hx'
      have := hall j hj
      unfold trD at this
      rw [List.getElem?_eq_getElem hj] at this
      exact this
    rw [e] at hR
    exact q (.d (.bool true)) (.bl true) F' H' ((s1.trans s2).trans rel.st) (Rp.bl true) hR
end
theorem alE {it : DIt} {te : DT} {caps : List Nat} {env : List Sl} {P : DV → Prop} : tAll1 it te caps env P = it env fun xs => ∃ f : PyData → Bool, (∀ x ∈ xs, te (.d x :: capD env caps) fun dv => dv = .d (.bool (f x))) ∧ P (.d (.bool (xs.all f))) := propext ⟨fun h => h, fun h => h⟩
/-! ### the top's tables -/
section
variable {K : PySem.W.Frag} {h : Heap} {cs : List (Addr × Addr)}
theorem tabs_nil : Tabs K h [] := ⟨fun _ z => absurd z List.not_mem_nil, fun _ z => absurd z List.not_mem_nil, fun _ z => absurd z List.not_mem_nil⟩
theorem tabs_cons {q : Program} {lo : List Str} {mean : ExcName → Option Value} {mg mb : Str → Option Value} {d : DefRec} {x : Str} {f c P : Addr} {oc oq : Value} {od oe : Option Addr} {fd : FuncData} {sl sk : Array (Option Value)} {vs : Array Value}
    (T : PyProof.Rows.Top q lo mean mg mb h) (X : K.In h) (nt : PySem.W.noTabs K = true) (hr : (recsOf q).find? (fun e => e.name == x) = some d)
    (a : PySem.W.nsIn K mainGlobals x = some (some (.ref f))) (l : K.lookup f = some ⟨oc, od, .func fd, sl⟩) (r : fd.code = .ref c) (k : K.lookup c = some ⟨oq, oe, .fields vs, sk⟩) (v : vs[11]? = some (.ref P)) (t : Tabs K h cs) : Tabs K h ((c, P) :: cs) := by
  have ti : PySem.W.tabIn K x = some (c, P) := by
    unfold PySem.W.tabIn
    rw [a]
    simp only [l, r, k, v]
  obtain ⟨hd, em⟩ := PySem.W.tab_of T X hr ti
  have no : K.lookup P = none := by
    cases e : K.lookup P with
    | none => rfl
    | some o =>
      have z := X _ _ e
      rw [em] at z
      cases z
      have q2 := List.all_eq_true.mp nt _ (PySem.W.mem_of_lookupK e)
      cases q2
  refine ⟨fun p hp => ?_, fun p hp => ?_, fun p hp => ?_⟩
  · rcases List.mem_cons.mp hp with rfl | hp
    · exact em
    · exact t.emp p hp
  · rcases List.mem_cons.mp hp with rfl | hp
    · exact hd
    · exact t.head p hp
  · rcases List.mem_cons.mp hp with rfl | hp
    · exact no
    · exact t.out p hp
end
end Dl
namespace Dl
open PySem PySem.Spec PyProof.Rows L2 GxR
def noFree (sc : Scope) : Bool := sc.names.all fun y => match y.2 with
  | .free => false
  | _ => true
theorem hfree0 {sc : Scope} {cells : List (Str × Addr)} (h : noFree sc = true) : ∀ y ∈ sc.names, y.2 = .free → ∃ c, cells.lookup y.1 = some c := fun y hy e => by
  have q := List.all_eq_true.mp h y hy
  rw [e] at q
  cases q
/-! ### one statement by itself: what is behind it stays a name -/
theorem seqG {t u : DS} {d : DK} {env : List Sl} (h : ∀ R : List Sl → Prop, (∀ e, u d e → R e) → t { d with nx := R } env) : tSeqD t u d env := h (u d) fun _ z => z
/-! ### data that may be asked by == -/
structure Ly (n : Nat) (x : PyData) : Prop where
  lay : x.canLay0 = true
  deep : x.depth ≤ n
theorem Ly.up {n m : Nat} {x : PyData} (h : Ly n x) (hn : n ≤ m := by decide) : Ly m x := ⟨h.lay, Nat.le_trans h.deep hn⟩
theorem ly_int (i : Int) : Ly 0 (.int i) := ⟨by simp only [PyData.canLay0], by simp [PyData.depth]⟩
theorem ly_bool (i : Bool) : Ly 0 (.bool i) := ⟨by simp only [PyData.canLay0], by simp [PyData.depth]⟩
theorem ly_none : Ly 0 .none := ⟨by simp only [PyData.canLay0], by simp [PyData.depth]⟩
theorem ly_str {x : Str} (h : x.cps.all (fun c => decide (c < 0x110000)) = true := by decide +kernel) (e : (PyData.str x).canLay0 = true := by decide +kernel) : Ly 0 (.str x) := ⟨e, by simp [PyData.depth]⟩
theorem ly_all {n : Nat} : ∀ {xs : List PyData}, (∀ x ∈ xs, Ly n x) → PyData.canLayAll0 xs = true ∧ PyData.depthAll xs ≤ n
  | [], _ => by simp [PyData.canLayAll0, PyData.depthAll]
  | x :: xs, h => by
    obtain ⟨a, b⟩ := ly_all (xs := xs) fun y hy => h y (List.mem_cons_of_mem _ hy)
    have z := h x (List.mem_cons_self ..)
    refine ⟨by rw [PyData.canLayAll0, z.lay, a]; rfl, ?_⟩
    have := z.deep
    simp only [PyData.depthAll]; omega
theorem ly_lst {n : Nat} {xs : List PyData} (h : ∀ x ∈ xs, Ly n x) : Ly (n + 1) (.list xs) := by
  obtain ⟨a, b⟩ := ly_all h
  exact ⟨by rw [PyData.canLay0, a], by simp only [PyData.depth]; omega⟩
theorem ly_tup {n : Nat} {xs : List PyData} (h : ∀ x ∈ xs, Ly n x) : Ly (n + 1) (.tuple xs) := by
  obtain ⟨a, b⟩ := ly_all h
  exact ⟨by rw [PyData.canLay0, a], by simp only [PyData.depth]; omega⟩
theorem Ly.shaped {n : Nat} {x : PyData} (h : Ly n x) (hn : n ≤ 64 := by decide) : SeqAt.shaped x = true := by
  have := h.deep
  simp only [SeqAt.shaped, h.lay, Bool.true_and, decide_eq_true_eq]; omega
theorem Ly.self {n : Nat} {x : PyData} (h : Ly n x) : x.eqv x = true := SeqAt.eqv_refl x h.lay
theorem Ly.selfEq {n : Nat} {x : PyData} (h : Ly n x) (hn : n ≤ 64 := by decide) : selfEq x := by
  cases x <;> first | exact True.intro | exact ⟨h.shaped hn, h.self⟩
theorem ly2 (a b : Int) : Ly 1 (.tuple [.int a, .int b]) := ly_tup fun z hz => by
  simp only [List.mem_cons, List.not_mem_nil, or_false] at hz
  rcases hz with rfl | rfl <;> exact ly_int _
/-! ### x in ys, of flat things -/
def toV : PyData → V
  | .bool b => .bl b
  | .int i => .int i
  | .str x => .str x
  | _ => .non
def flP : PyData → Bool
  | .none => true
  | .bool _ => true
  | .int _ => true
  | .str _ => true
  | _ => false
def gMemF (f : Bool → Bool) : G2 := fun x y P => match y with
  | .list ys => flP x = true ∧ ys.all flP = true ∧ P (.d (.bool (f (inV (toV x) (ys.map toV)))))
  | .tuple ys => flP x = true ∧ ys.all flP = true ∧ P (.d (.bool (f (inV (toV x) (ys.map toV)))))
  | _ => False
abbrev gMem : G2 := gMemF id
abbrev gNMem : G2 := gMemF not
section
variable {X : Cx} {w : Wn}
theorem flat_v {K : PySem.W.Frag} {F : Hp} {v : V} {x : PyData} (h : Rp K F v x) (f : flP x = true) : v = toV x ∧ flatV v = true := by
  cases h <;> first | exact ⟨rfl, rfl⟩ | (simp only [flP] at f; cases f)
theorem flat_vs {K : PySem.W.Frag} {F : Hp} : ∀ {vs : List V} {xs : List PyData}, RpA K F vs xs → xs.all flP = true → vs = xs.map toV ∧ vs.all flatV = true
  | _, _, .nil, _ => ⟨rfl, rfl⟩
  | _, _, .cons h t, f => by
    rw [List.all_cons, Bool.and_eq_true] at f
    obtain ⟨a, b⟩ := flat_v h f.1
    obtain ⟨c, d⟩ := flat_vs t f.2
    exact ⟨by rw [List.map_cons, ← a, ← c], by rw [List.all_cons, b, d]; rfl⟩
theorem Rr.flat {K : PySem.W.Frag} {b : Bg} {F H : Hp} {v : V} {x : PyData} (h : Rr K b F H v x) (f : flP x = true) : v = toV x ∧ flatV v = true := by
  cases h with
  | d h => exact flat_v h f
  | o => simp only [flP] at f; cases f
theorem o_in : OpR X (compareOp .In) (lR X.K w.b gMem) := by
  intro pins s σ H x y v u Q I rx ry h
  obtain ⟨F, dx, dy, P, wd, hx, hy, g, q⟩ := h
  unfold gMem gMemF at g
  split at g
  · obtain ⟨l, vs, rfl, e1, r1⟩ := hy.lst wd.sub
    obtain ⟨rfl, f1⟩ := hx.flat g.1
    obtain ⟨rfl, f2⟩ := flat_vs r1 g.2.1
    exact op_in_seq pins s σ H _ _ v u Q I rx ry ⟨l, _, rfl, .inl (SqL.of e1), f1, f2, q _ _ F H wd.refl (res_d (.bl _)) g.2.2⟩
  · obtain ⟨l, vs, rfl, e1, r1⟩ := hy.tup wd.sub
    obtain ⟨rfl, f1⟩ := hx.flat g.1
    obtain ⟨rfl, f2⟩ := flat_vs r1 g.2.1
    exact op_in_seq pins s σ H _ _ v u Q I rx ry ⟨l, _, rfl, .inr e1, f1, f2, q _ _ F H wd.refl (res_d (.bl _)) g.2.2⟩
  · exact g.elim
theorem o_nin : OpR X (compareOp .NotIn) (lR X.K w.b gNMem) := by
  intro pins s σ H x y v u Q I rx ry h
  obtain ⟨F, dx, dy, P, wd, hx, hy, g, q⟩ := h
  unfold gNMem gMemF at g
  split at g
  · obtain ⟨l, vs, rfl, e1, r1⟩ := hy.lst wd.sub
    obtain ⟨rfl, f1⟩ := hx.flat g.1
    obtain ⟨rfl, f2⟩ := flat_vs r1 g.2.1
    exact op_notIn_seq pins s σ H _ _ v u Q I rx ry ⟨l, _, rfl, .inl (SqL.of e1), f1, f2, q _ _ F H wd.refl (res_d (.bl _)) g.2.2⟩
  · obtain ⟨l, vs, rfl, e1, r1⟩ := hy.tup wd.sub
    obtain ⟨rfl, f1⟩ := hx.flat g.1
    obtain ⟨rfl, f2⟩ := flat_vs r1 g.2.1
    exact op_notIn_seq pins s σ H _ _ v u Q I rx ry ⟨l, _, rfl, .inr e1, f1, f2, q _ _ F H wd.refl (res_d (.bl _)) g.2.2⟩
  · exact g.elim
/-! ### tuple(xs) -/
def cTuple : GC := fun us P => one us fun u => rd u fun x => match x with
  | .list xs => P (.d (.tuple xs))
  | .tuple xs => P (.d (.tuple xs))
  | _ => False
theorem k_tuple : CallR X (.type "tuple") (lC X.K w.b cTuple) := by
  intro pins s σ H vs us Q I r h
  obtain ⟨F, dvs, P, wd, ar, g, q⟩ := h
  obtain ⟨u, v, rfl, a, g⟩ := one_ok ar g
  obtain ⟨x, hx, g⟩ := arr_rr a g
  split at g
  · obtain ⟨l, vs, rfl, e, r1⟩ := hx.lst wd.sub
    exact call_tuple_of pins s σ H _ us Q I r ⟨l, vs, rfl, .inl ⟨SqL.of e, res_newT wd r1 q g⟩⟩
  · obtain ⟨l, vs, rfl, e, r1⟩ := hx.tup wd.sub
    refine call_tuple_of pins s σ H _ us Q I r ⟨l, vs, rfl, .inr ⟨e, ?_⟩⟩
    cases hx with
    | d h => exact q _ _ F H wd.refl (res_d h) g
  · exact g.elim
end
/-! ### xs[i], i from either end -/
theorem pickN {xs : List PyData} {r : Int} {P : DV → Prop} (h0 : -(xs.length : Int) ≤ r) (h1 : r < xs.length) (h : ∀ z, z ∈ xs → P (.d z)) : gIx (.list xs) (.int r) P := by
  by_cases hr : 0 ≤ r
  · exact pick hr h1 h
  · have e : ixN xs.length r = some (r + xs.length).toNat := by
      unfold ixN
      rw [if_neg hr, if_pos (by omega)]
      try (congr 1; omega)
    have hl : (r + xs.length).toNat < xs.length := by omega
    have e2 : atI xs r = some xs[(r + xs.length).toNat] := by
      unfold atI
      rw [e]
      exact List.getElem?_eq_getElem hl
    show (match atI xs r with
      | some z => P (.d z)
      | none => False)
    rw [e2]
    exact h _ (List.getElem_mem hl)
/-! ### slices -/
theorem mem_cut {x : PyData} {xs : List PyData} {lo hi : Option Int} (h : x ∈ cutD xs lo hi) : x ∈ xs := List.mem_of_mem_drop (List.mem_of_mem_take h)
theorem cut_from (xs : List PyData) (j : Nat) : cutD xs (some (j : Int)) none = xs.drop j := by
  unfold cutD
  rw [HT.sIx_none, HT.sIx_nat]
  by_cases h : j ≤ xs.length
  · rw [Nat.min_eq_left h, List.take_of_length_le (by simp)]
  · rw [Nat.min_eq_right (by omega), List.drop_of_length_le (Nat.le_refl _), List.drop_of_length_le (by omega), List.take_nil]
theorem cut_to (xs : List PyData) (j : Nat) : cutD xs none (some (j : Int)) = xs.take j := by
  unfold cutD
  rw [HT.sIx_none, HT.sIx_nat, List.drop_zero, Nat.sub_zero]
  by_cases h : j ≤ xs.length
  · rw [Nat.min_eq_left h]
  · rw [Nat.min_eq_right (by omega), List.take_of_length_le (Nat.le_refl _), List.take_of_length_le (by omega)]
end Dl
namespace Dl
open PySem PySem.Spec PyProof.Rows L2
/-! ### fractions over one bottom -/
/-- p / q, in lowest terms, is n / D -/
structure Nu (D n p q : Int) : Prop where
  f : Frac p q
  e : n * q = D * p
theorem Nu.one {D n p q u v : Int} (hD : D ≠ 0) (a : Nu D n p q) (b : Nu D n u v) : p = u ∧ q = v := by
  refine a.f.one b.f (Int.eq_of_mul_eq_mul_left hD ?_)
  rw [← Int.mul_assoc, ← a.e, ← Int.mul_assoc, ← b.e, Int.mul_right_comm]
theorem Nu.le {D n p q : Int} (hD : D ≠ 0) (a : Nu D n p q) : q.natAbs ≤ D.natAbs ∧ p.natAbs ≤ n.natAbs := a.f.le hD a.e
theorem Nu.dvd {D n p q : Int} (a : Nu D n p q) : q ∣ D := by
  have h : q ∣ D * p := ⟨n, by rw [← a.e, Int.mul_comm]⟩
  have h2 : q.natAbs ∣ D.natAbs * p.natAbs := by rw [← Int.natAbs_mul]; exact Int.natAbs_dvd_natAbs.mpr h
  have c : Nat.Coprime q.natAbs p.natAbs := by
    have := a.f.low
    rw [Int.gcd_comm] at this
    exact this
  exact Int.natAbs_dvd_natAbs.mp (Nat.Coprime.dvd_of_dvd_mul_right c h2)
theorem Nu.of {D p q : Int} (f : Frac p q) (h : q ∣ D) : Nu D (p * (D / q)) p q := by
  refine ⟨f, ?_⟩
  obtain ⟨c, rfl⟩ := h
  rw [Int.mul_ediv_cancel_left _ (Int.ne_of_gt f.pos), Int.mul_right_comm, Int.mul_comm p q, Int.mul_right_comm]
/-- a sum of two, of any bottoms -/
theorem nu_sum {D n m p q u v s r : Int} (hq : 0 < q) (hv : 0 < v) (a : n * q = D * p) (b : m * v = D * u) (f : Frac s r) (h : (p * v + u * q) * r = (q * v) * s) : Nu D (n + m) s r := by
  refine ⟨f, Int.eq_of_mul_eq_mul_left (mul_ne hq hv) ?_⟩
  have e1 : q * v * ((n + m) * r) = (n * q) * (v * r) + (m * v) * (q * r) := by
    rw [Int.add_mul, Int.mul_add]
    congr 1 <;> ac_rfl
  have e2 : q * v * (D * s) = D * ((q * v) * s) := by ac_rfl
  rw [e1, e2, ← h, a, b, Int.add_mul, Int.mul_add]
  congr 1 <;> ac_rfl
theorem Nu.plus {D n m p q u v s r : Int} (a : Nu D n p q) (b : Nu D m u v) (f : Frac s r) (h : (p * v + u * q) * r = (q * v) * s) : Nu D (n + m) s r := nu_sum a.f.pos b.f.pos a.e b.e f h
theorem nu_low {D n p q s r : Int} (hq : 0 < q) (a : n * q = D * p) (f : Frac s r) (h : p * r = q * s) : Nu D n s r := by
  refine ⟨f, Int.eq_of_mul_eq_mul_left (Int.ne_of_gt hq) ?_⟩
  have e1 : q * (n * r) = (n * q) * r := by ac_rfl
  have e2 : q * (D * s) = D * (q * s) := by ac_rfl
  rw [e1, e2, ← h, a, Int.mul_assoc]
theorem nu_zero {D : Int} : Nu D 0 0 1 := ⟨⟨by decide, by decide⟩, by simp⟩
/-- fractions, as data, by what they are over one bottom -/
inductive NuL (D : Int) : List Int → List PyData → Prop
  | nil : NuL D [] []
  | cons {n p q : Int} {ns : List Int} {xs : List PyData} (a : Nu D n p q) (t : NuL D ns xs) : NuL D (n :: ns) (.tuple [.int p, .int q] :: xs)
namespace NuL
variable {D : Int}
theorem len : ∀ {ns : List Int} {xs : List PyData}, NuL D ns xs → ns.length = xs.length
  | _, _, .nil => rfl
  | _, _, .cons _ t => congrArg (· + 1) (len t)
theorem take : ∀ (k : Nat) {ns : List Int} {xs : List PyData}, NuL D ns xs → NuL D (ns.take k) (xs.take k)
  | 0, _, _, _ => .nil
  | _ + 1, _, _, .nil => .nil
  | k + 1, _, _, .cons a t => .cons a (take k t)
theorem drop : ∀ (k : Nat) {ns : List Int} {xs : List PyData}, NuL D ns xs → NuL D (ns.drop k) (xs.drop k)
  | 0, _, _, h => h
  | _ + 1, _, _, .nil => .nil
  | k + 1, _, _, .cons _ t => drop k t
theorem app : ∀ {ns ms : List Int} {xs ys : List PyData}, NuL D ns xs → NuL D ms ys → NuL D (ns ++ ms) (xs ++ ys)
  | _, _, _, _, .nil, h => h
  | _, _, _, _, .cons a t, h => .cons a (app t h)
theorem fr : ∀ {ns : List Int} {xs : List PyData}, NuL D ns xs → ∀ x ∈ xs, isFr x = true
  | _, _, .nil, _, h => absurd h List.not_mem_nil
  | _, _, .cons a t, x, h => by
    rcases List.mem_cons.mp h with rfl | h
    · exact isFr_of a.f
    · exact fr t x h
end NuL
/-- how far all of them go together -/
def aS : List Int → Nat
  | [] => 0
  | n :: ns => n.natAbs + aS ns
theorem aS_app (a b : List Int) : aS (a ++ b) = aS a + aS b := by
  induction a with
  | nil => simp [aS]
  | cons n a ih => simp only [List.cons_append, aS, ih]; omega
theorem aS_mem {n : Int} : ∀ {ns : List Int}, n ∈ ns → n.natAbs ≤ aS ns
  | [], h => absurd h List.not_mem_nil
  | m :: ns, h => by
    rcases List.mem_cons.mp h with rfl | h
    · simp only [aS]; omega
    · have := aS_mem h; simp only [aS]; omega
theorem aS_sum : ∀ (ns : List Int), ns.sum.natAbs ≤ aS ns
  | [] => by simp [aS]
  | n :: ns => by
    have := aS_sum ns
    simp only [List.sum_cons, aS]; omega
theorem aS_le {b : Nat} : ∀ {ns : List Int}, (∀ n ∈ ns, n.natAbs ≤ b) → aS ns ≤ ns.length * b
  | [], _ => by simp [aS]
  | n :: ns, h => by
    have h1 := h n (List.mem_cons_self ..)
    have h2 := aS_le (ns := ns) fun m hm => h m (List.mem_cons_of_mem _ hm)
    simp only [aS, List.length_cons, Nat.add_mul]; omega
/-- the sums of two lists, place by place -/
def addZ : List Int → List Int → List Int
  | a :: as, b :: bs => (a + b) :: addZ as bs
  | _, _ => []
theorem addZ_sum : ∀ {as bs : List Int}, as.length ≤ bs.length → (addZ as bs).sum + (bs.drop as.length).sum = as.sum + bs.sum
  | [], bs, _ => by cases bs <;> simp [addZ]
  | a :: as, [], h => by simp at h
  | a :: as, b :: bs, h => by
    have := addZ_sum (as := as) (bs := bs) (by simpa using h)
    simp only [addZ, List.sum_cons, List.length_cons, List.drop_succ_cons]
    omega
theorem addZ_aS : ∀ {as bs : List Int}, as.length ≤ bs.length → aS (addZ as bs) + aS (bs.drop as.length) ≤ aS as + aS bs
  | [], bs, _ => by cases bs <;> simp [addZ, aS]
  | a :: as, [], h => by simp at h
  | a :: as, b :: bs, h => by
    have := addZ_aS (as := as) (bs := bs) (by simpa using h)
    simp only [addZ, aS, List.length_cons, List.drop_succ_cons]
    omega
/-! ### what a fraction is over D, as data -/
def numD (D : Int) : PyData → Int
  | .tuple [.int p, .int q] => p * (D / q)
  | _ => 0
def totD (D : Int) : List PyData → Int
  | [] => 0
  | x :: xs => numD D x + totD D xs
theorem totD_map (D : Int) : ∀ xs, (xs.map (numD D)).sum = totD D xs
  | [] => rfl
  | x :: xs => by simp only [List.map_cons, List.sum_cons, totD, totD_map D xs]
theorem totD_app (D : Int) : ∀ xs ys, totD D (xs ++ ys) = totD D xs + totD D ys
  | [], ys => by simp [totD]
  | x :: xs, ys => by simp only [List.cons_append, totD, totD_app D xs ys]; omega
theorem totD_rev (D : Int) : ∀ xs, totD D xs.reverse = totD D xs
  | [] => rfl
  | x :: xs => by simp only [List.reverse_cons, totD_app, totD, totD_rev D xs]; omega
/-- a fraction whose bottom divides D, its top not too far -/
def FrD (k : Nat) (D : Int) (x : PyData) : Prop := ∃ p q : Int, x = .tuple [.int p, .int q] ∧ Frac p q ∧ q ∣ D ∧ p.natAbs < 2 ^ k
theorem FrD.nu {k : Nat} {D : Int} : ∀ {xs : List PyData}, (∀ x ∈ xs, FrD k D x) → NuL D (xs.map (numD D)) xs
  | [], _ => .nil
  | x :: xs, h => by
    obtain ⟨p, q, rfl, f, d, _⟩ := h x (List.mem_cons_self ..)
    exact .cons (Nu.of f d) (FrD.nu fun y hy => h y (List.mem_cons_of_mem _ hy))
theorem FrD.num {k m : Nat} {D : Int} {x : PyData} (h : FrD k D x) (hD : D.natAbs < 2 ^ m) : (numD D x).natAbs < 2 ^ (k + m) := by
  obtain ⟨p, q, rfl, f, d, hp⟩ := h
  have hq := f.pos
  refine natAbs_mul_lt hp (Nat.lt_of_le_of_lt ?_ hD)
  obtain ⟨c, rfl⟩ := d
  rw [Int.mul_ediv_cancel_left _ (Int.ne_of_gt hq), Int.natAbs_mul]
  exact Nat.le_mul_of_pos_left _ (by omega)
theorem FrD.up {k m : Nat} {D E : Int} {x : PyData} (h : FrD k D x) (hk : k ≤ m) (hD : D ∣ E) : FrD m E x := by
  obtain ⟨p, q, e, f, d, hp⟩ := h
  exact ⟨p, q, e, f, Int.dvd_trans d hD, two_le hp hk⟩
theorem FrD.fk {k : Nat} {D : Int} {x : PyData} (h : FrD k D x) (hD0 : D ≠ 0) (hD : D.natAbs < 2 ^ k) : ∃ p q : Int, x = .tuple [.int p, .int q] ∧ Fk k p q := by
  obtain ⟨p, q, e, f, d, hp⟩ := h
  exact ⟨p, q, e, f, hp, Nat.lt_of_le_of_lt (Nat.le_of_dvd (by omega) (Int.natAbs_dvd_natAbs.mpr d)) hD⟩
end Dl
namespace Dl
open PySem PySem.Spec PyProof.Rows L2
/-! ### a constant of the module that is data -/
theorem d_globC {X : Cx} {w : Wn} {pos : Pos} {x : Str} {u : Value} {v : V} {d : PyData} (hg : Gl X x) (hm : X.mg x = some u) (r : RelV v u) (e : ∀ F, Rp X.K F v d) (hd : (x == ("__debug__" : Str)) = false := by decide) : DPE X w (.Name x pos) (tCD d) :=
  pe_weak (pe_glob hg hm r hd) fun σ H Q ⟨env, F, P, rl, h, q⟩ => q (.d d) _ F H rl.wd.refl (e F) h
theorem con_tup {K : PySem.W.Frag} {a : Addr} {od : Option Addr} {its : Array Value} {n : Nat} {sl : Array (Option Value)} {vs : List V} {xs : List PyData} (l : K.lookup a = some ⟨.type "tuple", od, .seq its n, sl⟩) (z : its.size ≤ 100000) (v : Vals vs its.toList) (r : ∀ F, RpA K F vs xs) : ∀ F, Rp K F (.ref a) (.tuple xs) :=
  fun F => .tup (.inr ⟨_, its, n, l, rfl, rfl, lim_le z, v⟩) (r F)
/-! ### an if by itself: what is in its branches stays a name -/
theorem ifG {t : DTT} {p q : DS} {d : DK} {env : List Sl} (h : ∀ A B : Prop, (p d env → A) → (q d env → B) → t env fun k => if k = true then A else B) : tIfD t p q d env := h _ _ (fun z => z) fun z => z
end Dl
namespace Dl
open PySem PySem.Spec PyProof.Rows L2
/-! ### more of fractions over one bottom -/
theorem nu_scale {c Q p s r : Int} (f : Frac s r) (h : p * r = Q * s) : Nu (c * Q) (c * p) s r := ⟨f, by rw [Int.mul_assoc, h, Int.mul_assoc]⟩
theorem Nu.cast {D D' n n' s r : Int} (a : Nu D n s r) (h1 : D = D') (h2 : n = n') : Nu D' n' s r := h1 ▸ h2 ▸ a
theorem nu_le {D n m p q u v : Int} (hD : 0 < D) (a : Nu D n p q) (b : Nu D m u v) (h : n ≤ m) : p * v ≤ u * q := by
  refine Int.le_of_mul_le_mul_left ?_ hD
  have e1 : D * (p * v) = n * (q * v) := by rw [← Int.mul_assoc, ← a.e, Int.mul_assoc]
  have e2 : D * (u * q) = m * (q * v) := by rw [← Int.mul_assoc, ← b.e, Int.mul_assoc, Int.mul_comm v q]
  rw [e1, e2]
  exact Int.mul_le_mul_of_nonneg_right h (Int.le_of_lt (Int.mul_pos a.f.pos b.f.pos))
theorem frac_abs {p q : Int} (f : Frac p q) : Frac (p.natAbs : Int) q := ⟨f.pos, by have := f.low; unfold Int.gcd at this ⊢; rw [Int.natAbs_natCast]; exact this⟩
/-- a fraction, bounds of its top and its bottom -/
structure Fb (k m : Nat) (p q : Int) : Prop where
  f : Frac p q
  t : p.natAbs < 2 ^ k
  b : q.natAbs < 2 ^ m
theorem Fb.fk {k m j : Nat} {p q : Int} (h : Fb k m p q) (h1 : k ≤ j := by decide) (h2 : m ≤ j := by decide) : Fk j p q := ⟨h.f, two_le h.t h1, two_le h.b h2⟩
theorem Fb.up {k m j i : Nat} {p q : Int} (h : Fb k m p q) (h1 : k ≤ j := by decide) (h2 : m ≤ i := by decide) : Fb j i p q := ⟨h.f, two_le h.t h1, two_le h.b h2⟩
theorem fb_of {k m : Nat} {t b s r : Int} (f : Frac s r) (hb : b ≠ 0) (e : t * r = b * s) (ht : t.natAbs < 2 ^ k) (hb2 : b.natAbs < 2 ^ m) : Fb k m s r := by
  obtain ⟨l1, l2⟩ := f.le hb e
  exact ⟨f, Nat.lt_of_le_of_lt l2 ht, Nat.lt_of_le_of_lt l1 hb2⟩
theorem sum_ltb {k m i j : Nat} {p q u v : Int} (p1 : p.natAbs < 2 ^ k) (q1 : q.natAbs < 2 ^ i) (u1 : u.natAbs < 2 ^ m) (v1 : v.natAbs < 2 ^ j) (n : Nat) (h1 : k + j ≤ n := by decide) (h2 : m + i ≤ n := by decide) : (p * v + u * q).natAbs < 2 ^ (n + 1) :=
  natAbs_add_lt (two_le (natAbs_mul_lt p1 v1) h1) (two_le (natAbs_mul_lt u1 q1) h2)
/-- a worth between two ends: k sixteenths of the way -/
def midT (X Y k : Int) : Int := 16 * X + (Y - X) * k
theorem mid_le {X Y k : Int} (h : X ≤ Y) (k0 : 0 ≤ k) (k1 : k ≤ 16) : 16 * X ≤ midT X Y k ∧ midT X Y k ≤ 16 * Y := by
  have h1 : 0 ≤ (Y - X) * k := Int.mul_nonneg (by omega) k0
  have h2 : (Y - X) * k ≤ (Y - X) * 16 := Int.mul_le_mul_of_nonneg_left k1 (by omega)
  unfold midT
  omega
end Dl
namespace Dl
open PySem PySem.Spec PyProof.Rows L2
/-! ### a, b, c = x, y, z -/
theorem hu65 {k : Nat} {A : Around} (r : Room k A) : A.units + 65 < cLine := by have := r.un; omega
section
variable {X : Cx} {w : Wn} {pos : Pos}
def tPar3D (i j l : Nat) (ta : DA) : DS := fun d env => ta env fun us => allD us fun xs => match xs with
  | [x, y, z] => d.nx (((env.set i (.d x)).set j (.d y)).set l (.d z))
  | _ => False
theorem ds_par3 {i j l : Nat} {x y z : Str} {a b c : Expr} {ta : DA} {px py pz pt : Pos} {kt k2 pt2}
    (base : PS X (.Assign [.Tuple [.Name x px, .Name y py, .Name z pz] kt pt] (.Tuple [a, b, c] k2 pt2) pos) (tPar3 i j l (lfA X.K w ta))) :
    DPS X w (.Assign [.Tuple [.Name x px, .Name y py, .Name z pz] kt pt] (.Tuple [a, b, c] k2 pt2) pos) (tPar3D i j l ta) :=
  ps_weak base fun D σ H ⟨env, F, d, r, h, fit⟩ => ⟨env, F, _, r, h, fun dvs vs F1 H1 s1 r1 h1 => by
    obtain ⟨xs, ra, h1⟩ := allD_ok r1 h1
    split at h1
    · next x y z =>
      cases ra with
      | cons a1 t =>
        cases t with
        | cons a2 t =>
          cases t with
          | cons a3 t =>
            cases t
            refine ⟨_, _, _, rfl, fit.nx _ _ F1 H1 (((((r.step s1).put i (z := .d x) ⟨_, rfl, a1⟩ ?_).put j (z := .d y) ⟨_, rfl, a2⟩ ?_)).put l (z := .d z) ⟨_, rfl, a3⟩ ?_) s1.ex h1⟩
            · intro a m; cases m
            · intro a m; cases m
            · intro a m; cases m
    · exact h1.elim⟩
/-! ### xs.index(y) -/
mutual
theorem dp_of {K : PySem.W.Frag} {H : Hp} : ∀ (x : PyData) (v : V), flatD x = true → Rp K H v x → Dp K H v x
  | .none, _, _, h => by cases h; exact .non
  | .bool b, _, _, h => by cases h; exact .bl _
  | .int b, _, _, h => by cases h; exact .int _
  | .str b, _, _, h => by cases h; exact .str _
  | .list xs, _, f, h => by
    cases h with
    | lst e r => exact .lst (SqL.of e) (dpa_of xs _ (by simpa only [flatD] using f) r)
  | .tuple xs, _, f, h => by
    cases h with
    | tup e r => exact .tup e (dpa_of xs _ (by simpa only [flatD] using f) r)
  | .dict _, _, f, _ => by simp only [flatD] at f; cases f
theorem dpa_of {K : PySem.W.Frag} {H : Hp} : ∀ (xs : List PyData) (vs : List V), flatA xs = true → RpA K H vs xs → DpAll K H vs xs
  | [], _, _, h => by cases h; exact .nil
  | x :: xs, _, f, h => by
    cases h with
    | cons a t =>
      rw [flatA, Bool.and_eq_true] at f
      exact .cons (dp_of x _ f.1 a) (dpa_of xs _ f.2 t)
end
def tIdxD (te : DT) (ta : DA) : DT := fun env P => te env fun u => rd u fun x => match x with
  | .list xs => ta env fun us => one us fun z => rd z fun y => SeqAt.shaped (.list xs) = true ∧ SeqAt.shaped y = true ∧ ∃ (j : Nat) (z : PyData), xs[j]? = some z ∧ z.eqv y = true ∧ (∀ m z', m < j → xs[m]? = some z' → z'.eqv y = false) ∧ P (.d (.int (j : Nat)))
  | _ => False
theorem d_index {o e : Expr} {te : DT} {ta : DA} {apos : Pos} (he : DPE X w o te) (ha : DPA X w [e] ta)
    (base : ∀ {to : TE} {t : TA}, PE X o to → PA X [e] t → PE X (.Call (.Attribute o "index" apos) [e] [] pos) (tBM X.K "list" (rIndexD X.K) to t)) : DPE X w (.Call (.Attribute o "index" apos) [e] [] pos) (tIdxD te ta) :=
  pe_weak (base he ha) fun σ H Q ⟨env, F, P, r, h, q⟩ => ⟨env, F, _, r, h, fun dv v F1 H1 s1 r1 h1 => by
    obtain ⟨x, x1, h1⟩ := rd_ok r1 h1
    split at h1
    · next xs =>
      obtain ⟨l, vs, rfl, e1, ra⟩ := x1.lst s1.sub
      refine ⟨.inl ⟨rfl, vs, SqL.of e1⟩, env, F1, _, r.step s1, h1, fun dvs us F2 H2 s2 ar h2 => ?_⟩
      obtain ⟨z, u, rfl, a, h2⟩ := one_ok ar h2
      obtain ⟨y, hy, g1, g2, j, z, g3, g4, g5, g6⟩ := arr_rr a h2
      have x2 := (x1.step s2).all s2.sub
      exact ⟨l, u, y, xs, j, z, rfl, rfl, dp_of _ _ (flat_of_can _ (SeqAt.canLay_of_shaped g1)) x2, dp_of _ _ (flat_of_can _ (SeqAt.canLay_of_shaped g2)) (hy.all s2.sub), g1, g2, g3, g4, g5, q (.d (.int (j : Nat))) _ F2 H2 (s1.trans s2) (Rp.int _) g6⟩
    · exact h1.elim⟩
/-! ### xs.insert(i, y) -/
abbrev rInsert : V → List V → Hp → VK → Prop := fun x vs H Q => ∃ (l : Addr) (xs : List V) (i : Int) (y : V), x = .ref l ∧ vs = [.int i, y] ∧ H l = some (.lst xs) ∧ xs.length < sizeLine ∧ 0 ≤ i ∧ i < 2 ^ 63 ∧ Q .non (upd H l (.lst (xs.take i.toNat ++ [y] ++ xs.drop i.toNat)))
def tInsD (i : Nat) (ta tb : DT) : DS := fun d env => match env[i]? with
  | some (.ow l xs) => xs.length < 100000 ∧ ta env fun u => match u with
    | .d (.int k) => (0 ≤ k ∧ k < 100000) ∧ tb env fun dv => match frz dv with
      | .d x => d.nx (env.set i (.ow l (xs.take k.toNat ++ [x] ++ xs.drop k.toNat)))
      | _ => False
    | _ => False
  | _ => False
theorem ds_ins {i : Nat} {e : Expr} {ta tb : DT} (base : PE X e (tBM X.K "list" rInsert (tVar i) (tCons (lf X.K w ta) (tCons (lf X.K w tb) tNil)))) (hs : swapsWith e none pos.line X.env = pure false := by rfl) : DPS X w (.Expr e pos) (tInsD i ta tb) :=
  ps_weak (ps_expr base hs) fun D σ H ⟨env, F, d, r, h, fit⟩ => by
    unfold tInsD at h
    split at h
    · next l xs ei =>
      obtain ⟨e1, _, _, _, vs, hl, _⟩ := r.at' i _ ei
      obtain ⟨hz, h⟩ := h
      refine ⟨_, e1, .inl ⟨rfl, vs, SqL.of hl⟩, env, F, _, r, h, fun dv v F1 H1 s1 r1 h1 => ?_⟩
      split at h1
      · next k =>
        obtain ⟨⟨k0, k1⟩, h1⟩ := h1
        have ev := r1.intOf
        subst ev
        refine ⟨env, F1, _, r.step s1, h1, fun dv v F2 H2 s2 r2 h2 => ?_⟩
        obtain ⟨F3, s3, a3⟩ := frz_ok s2 r2
        have r3 := (r.step s1).step s3
        obtain ⟨_, _, _, _, us, hl2, q2⟩ := r3.at' i _ ei
        split at h2
        · next x ex =>
          rw [ex] at a3
          refine ⟨l, us, k, v, rfl, rfl, hl2, by rw [q2.len]; exact lim_lt hz, k0, by omega, ?_⟩
          exact fit.nx _ _ F3 _ (r3.wrt ei (((q2.take _).app (.cons a3 .nil)).app (q2.drop _))) (s1.ex.trans s3.ex) h2
        · exact h2.elim
      · exact h1.elim
    · exact h.elim
theorem ixE (te : DT) (ta : DA) (env : List Sl) (P : DV → Prop) : tIdxD te ta env P = te env fun u => rd u fun x => match x with
  | .list xs => ta env fun us => one us fun z => rd z fun y => SeqAt.shaped (.list xs) = true ∧ SeqAt.shaped y = true ∧ ∃ (j : Nat) (z : PyData), xs[j]? = some z ∧ z.eqv y = true ∧ (∀ m z', m < j → xs[m]? = some z' → z'.eqv y = false) ∧ P (.d (.int (j : Nat)))
  | _ => False := propext ⟨fun h => h, fun h => h⟩
end
end Dl
namespace Dl
open PySem PySem.Spec PyProof.Rows L2
/-! ### a generator expression's captured names -/
def freeIn (sc so : Scope) : Bool := sc.names.all fun y => match y.2 with
  | .free => isCell so y.1
  | _ => true
theorem hfreeC {sc so : Scope} {qual : Str} {L f : Addr} {cd : Value} (h : freeIn sc so = true) : ∀ y ∈ sc.names, y.2 = .free → ∃ c, (envOfC qual so L f cd).cells.lookup y.1 = some c := fun y hy e => by
  have q := List.all_eq_true.mp h y hy
  rw [e] at q
  have z := PySem.W.cellsFrom_some so.names (L + 1) [] (.inl (isCell_of q))
  exact Option.isSome_iff_exists.mp z
section
variable {X : Cx} {w : Wn} {e : Expr} {te : DT} {pos : Pos}
/-! ### slices of tuples and of texts -/
def tSlT (te : DT) (lo hi : DO) : DT := fun env P => te env fun u => rd u fun x => lo env fun l => hi env fun h => match x with
  | .tuple xs => P (.d (.tuple (cutD xs l h)))
  | _ => False
theorem cut_all {xs : List PyData} {lo hi : Option Int} (h : HT.sIx xs.length 0 lo = 0 ∧ HT.sIx xs.length xs.length hi = xs.length) : cutD xs lo hi = xs := by
  unfold cutD
  rw [h.1, h.2, List.drop_zero, Nat.sub_zero, List.take_length]
theorem d_slT {lo hi : Option Expr} {tl th : DO} {p2 : Pos} (he : DPE X w e te) (hl : PO X lo (lfO X.K w tl)) (hh : PO X hi (lfO X.K w th)) : DPE X w (.Subscript e (.Slice lo hi none p2) pos) (tSlT te tl th) :=
  pe_weak (pe_slice sl_tupA he hl hh) fun σ H Q ⟨env, F, P, r, h, q⟩ => ⟨env, F, _, r, h, fun dv v F1 H1 s1 r1 h1 => by
    obtain ⟨x, x1, h1⟩ := rd_ok r1 h1
    refine ⟨env, F1, _, r.step s1, h1, fun l F2 H2 s2 h2 => ⟨env, F2, _, (r.step s1).step s2, h2, fun u F3 H3 s3 h3 => ?_⟩⟩
    have s13 := (s1.trans s2).trans s3
    split at h3
    · next xs =>
      have x3 := (x1.step s2).step s3
      obtain ⟨m, vs, rfl, e, ra⟩ := x3.tup s3.sub
      refine ⟨m, vs, rfl, e, fun hz => ?_, fun hz => res_newT s3.wd (cut_rp ra l u) (fun dv v F4 H4 s4 r4 h4 => q dv v F4 H4 (s13.trans s4) (r4.early s13) h4) h3⟩
      rw [ra.len] at hz
      rw [cut_all hz] at h3
      cases x3 with
      | d x3 => exact q (.d (.tuple xs)) _ F3 H3 s13 x3 h3
    · exact h3.elim⟩
def tSlS (te : DT) (lo hi : DO) : DT := fun env P => te env fun u => rd u fun x => lo env fun l => hi env fun h => match x with
  | .str z => z.length ≤ 100000 ∧ P (.d (.str (cutS z l h)))
  | _ => False
theorem d_slS {lo hi : Option Expr} {tl th : DO} {p2 : Pos} (he : DPE X w e te) (hl : PO X lo (lfO X.K w tl)) (hh : PO X hi (lfO X.K w th)) : DPE X w (.Subscript e (.Slice lo hi none p2) pos) (tSlS te tl th) :=
  pe_weak (pe_slice sl_str he hl hh) fun σ H Q ⟨env, F, P, r, h, q⟩ => ⟨env, F, _, r, h, fun dv v F1 H1 s1 r1 h1 => by
    obtain ⟨x, x1, h1⟩ := rd_ok r1 h1
    refine ⟨env, F1, _, r.step s1, h1, fun l F2 H2 s2 h2 => ⟨env, F2, _, (r.step s1).step s2, h2, fun u F3 H3 s3 h3 => ?_⟩⟩
    split at h3
    · next z =>
      cases x1.str
      exact ⟨z, rfl, lim_le h3.1, q (.d (.str _)) _ F3 H3 ((s1.trans s2).trans s3) (Rp.str _) h3.2⟩
    · exact h3.elim⟩
/-! ### sorted of numbers -/
def cSorted : GC := fun us P => one us fun u => rd u fun x => match x with
  | .list xs => ∃ ns : List Int, xs = ns.map PyData.int ∧ ∀ ms : List Int, ms.Perm ns → ms.Pairwise (· ≤ ·) → P (.fr (ms.map PyData.int))
  | _ => False
theorem k_sorted : CallR X (.builtin "sorted") (lC X.K w.b cSorted) := by
  intro pins s σ H vs us Q I r h
  obtain ⟨F, dvs, P, wd, ar, g, q⟩ := h
  obtain ⟨u, v, rfl, a, g⟩ := one_ok ar g
  obtain ⟨x, hx, g⟩ := arr_rr a g
  split at g
  · obtain ⟨ns, rfl, g⟩ := g
    obtain ⟨l, vs, rfl, e, r1⟩ := hx.lst wd.sub
    have ev := r1.ofInts
    subst ev
    exact cr_sortedI pins s σ H _ us Q I r ⟨l, ns, rfl, SqL.of e, fun ms p h1 h2 hp => res_new wd (RpA.ints ms) q (g ms h1 h2) p hp⟩
  · exact g.elim
/-! ### tuples of numbers by < -/
def gLtT : G2 := fun x y P => match x, y with
  | .tuple xs, .tuple ys => ∃ ns ms : List Int, xs = ns.map PyData.int ∧ ys = ms.map PyData.int ∧ P (.d (.bool (HT.lexLt ns ms)))
  | _, _ => False
theorem o_ltT (hu : X.A.units < cLine) : OpR X (compareOp .Lt) (lR X.K w.b gLtT) := by
  intro pins s σ H x y v u Q I rx ry h
  obtain ⟨F, dx, dy, P, wd, hx, hy, g, q⟩ := h
  unfold gLtT at g
  split at g
  · obtain ⟨ns, ms, rfl, rfl, g⟩ := g
    obtain ⟨l, vs, rfl, e1, r1⟩ := hx.tup wd.sub
    obtain ⟨m, us, rfl, e2, r2⟩ := hy.tup wd.sub
    have z1 := r1.ofInts
    have z2 := r2.ofInts
    subst z1 z2
    exact op_ltT hu pins s σ H _ _ v u Q I rx ry ⟨l, m, ns, ms, rfl, rfl, e1, e2, q _ _ F H wd.refl (res_d (.bl _)) g⟩
  · exact g.elim
/-! ### x in ys, of nested data -/
def gMemD : G2 := fun x y P => match y with
  | .list ys => SeqAt.shaped x = true ∧ SeqAt.shaped (.list ys) = true ∧ P (.d (.bool (ys.any fun z => z.eqv x)))
  | _ => False
theorem o_inD (hu : X.A.units + 65 < cLine) : OpR X (compareOp .In) (lR X.K w.b gMemD) := by
  intro pins s σ H x y v u Q I rx ry h
  obtain ⟨F, dx, dy, P, wd, hx, hy, g, q⟩ := h
  unfold gMemD at g
  split at g
  · obtain ⟨g1, g2, g3⟩ := g
    exact op_inD hu pins s σ H _ _ v u Q I rx ry ⟨_, _, dp_of _ _ (flat_of_can _ (SeqAt.canLay_of_shaped g1)) (hx.all wd.sub), dp_of _ _ (flat_of_can _ (SeqAt.canLay_of_shaped g2)) (hy.all wd.sub), g1, g2, q _ _ F H wd.refl (res_d (.bl _)) g3⟩
  · exact g.elim
end
end Dl
namespace Dl
open PySem PySem.Spec PyProof.Rows L2
section
variable {X : Cx} {w : Wn} {pos : Pos}
/-! ### {'a': 1} -/
def tDict1 (s : Str) (i : Int) : DT := fun _ P => P (.d (.dict [(.str s, .int i)]))
theorem d_dict1 {s : Str} {i : Int} {j1 j2} {p1 p2 : Pos} : DPE X w (.Dict [some (.Constant (.str s) j1 p1)] [.Constant (.int i) j2 p2] pos) (tDict1 s i) :=
  pe_weak (pe_disp (pps_cons pe_str pe_int pps_nil) rfl rfl (by simp) (by simp)) fun σ H Q ⟨env, F, P, r, h, q⟩ => fun p hp => by
    refine ⟨upd_same, [(Sum.inr s, V.int i)], rfl, by simp, ?_⟩
    have e : ∀ o2 : HO, upd (upd H p (.dK [])) p o2 = upd H p o2 := fun o2 => by
      funext a
      by_cases z : a = p
      · rw [z, upd_same, upd_same]
      · rw [upd_ne z, upd_ne z, upd_ne z]
    rw [e]
    have st := r.wd.laid (o := .dK (mergeK [] [(Sum.inr s, V.int i)])) hp
    refine q (.d (.dict [(.str s, .int i)])) _ _ _ st ?_ h
    exact Rp.dct (kvs := [(Sum.inr s, V.int i)]) (ks := [.str s]) (xs := [.int i]) upd_same (.cons (.str s) .nil) (.cons (.int i) .nil)
/-! ### sep.join(xs) -/
theorem RpA.ofStrs {K : PySem.W.Frag} {F : Hp} : ∀ {vs : List V} {ns : List Str}, RpA K F vs (ns.map PyData.str) → vs = ns.map V.str
  | _, [], .nil => rfl
  | _, n :: ns, .cons h t => by
    cases h
    rw [RpA.ofStrs t]
    rfl
def tJoin (to te : DT) : DT := fun env P => to env fun u => rd u fun x => match x with
  | .str a => te env fun v => rd v fun y => match y with
    | .list zs => ∃ ys : List Str, zs = ys.map PyData.str ∧ (ys.map (·.length)).sum + ys.length * a.length ≤ 100000 ∧ P (.d (.str (Txt.join a ys)))
    | _ => False
  | _ => False
theorem d_join {o e : Expr} {to te : DT} {apos : Pos} (ho : DPE X w o to) (he : DPE X w e te)
    (base : ∀ {t1 t2 : TE}, PE X o t1 → PE X e t2 → PE X (.Call (.Attribute o "join" apos) [e] [] pos) (tM1 (fun x xs H Q => ∃ a p, ∃ ys : List Str, x = .str a ∧ xs = [.ref p] ∧ (SqL X.K H p (ys.map V.str) ∨ SqT X.K H p (ys.map V.str)) ∧ (ys.map (·.length)).sum + ys.length * a.length ≤ 16777216 ∧ Q (.str (Txt.join a ys)) H) t1 t2)) :
    DPE X w (.Call (.Attribute o "join" apos) [e] [] pos) (tJoin to te) :=
  pe_weak (base ho he) fun σ H Q ⟨env, F, P, r, h, q⟩ => ⟨env, F, _, r, h, fun dv v F1 H1 s1 r1 h1 => by
    obtain ⟨x, x1, h1⟩ := rd_ok r1 h1
    split at h1
    · next a =>
      cases x1.str
      refine ⟨⟨a, rfl⟩, env, F1, _, r.step s1, h1, fun dv2 v2 F2 H2 s2 r2 h2 => ?_⟩
      obtain ⟨y, y1, h2⟩ := rd_ok r2 h2
      split at h2
      · next zs =>
        obtain ⟨ys, rfl, g1, g2⟩ := h2
        obtain ⟨l, vs, rfl, e1, ra⟩ := y1.lst s2.sub
        have ev := ra.ofStrs
        subst ev
        exact ⟨a, l, ys, rfl, rfl, .inl (SqL.of e1), by omega, q (.d (.str _)) _ F2 H2 (s1.trans s2) (Rp.str _) g2⟩
      · exact h2.elim
    · exact h1.elim⟩
theorem pickS {z : Str} {r : Int} {P : DV → Prop} (hz : z.length ≤ 100000) (h0 : 0 ≤ r) (h1 : r < z.cps.toList.length) (h : ∀ c, c ∈ z.cps.toList → P (.d (.str ⟨#[c]⟩))) : gIx (.str z) (.int r) P := by
  have hr : r.toNat < z.cps.toList.length := by omega
  have ez : r = ((r.toNat : Nat) : Int) := by omega
  have e : atI z.cps.toList r = some z.cps.toList[r.toNat] := atD ez (List.getElem?_eq_getElem hr)
  refine ⟨hz, ?_⟩
  rw [e]
  exact h _ (List.getElem_mem hr)
end
end Dl
namespace Dl
open PySem PySem.Spec PyProof.Rows L2
/-! ### refusals: a promise with two ends -/
/-- what is wished of an exception: its class by its name in the module, its one field's name and datum -/
abbrev XD := Str → Str → PyData → Prop
abbrev DSpX := List DV → (DV → Prop) → XD → Prop
/-- what leaves a def by an exception, in the data's words; one without a field is told by no name and None -/
structure XEnd (mg : Str → Option Value) (K : PySem.W.Frag) (b : Bg) (F H : Hp) (E : XK) (R : XD) : Prop where
  fl : ∀ c C n x v d F' H', mg c = some (.ref C) → Stp K b F H F' H' → H' d = some (.xd [(n, v)]) → Rp K F' v x → R c n x → E (.ref C) (some d) H'
  no : ∀ c C F' H', mg c = some (.ref C) → Stp K b F H F' H' → R c "" .none → E (.ref C) none H'
theorem XEnd.later {mg : Str → Option Value} {K : PySem.W.Frag} {b : Bg} {F H F1 H1 : Hp} {E : XK} {R : XD} (h : XEnd mg K b F H E R) (st : Stp K b F H F1 H1) : XEnd mg K b F1 H1 E R :=
  ⟨fun c C n x v d F' H' hc s hd rp hr => h.fl c C n x v d F' H' hc (st.trans s) hd rp hr, fun c C F' H' hc s hr => h.no c C F' H' hc (st.trans s) hr⟩
theorem XEnd.none {mg : Str → Option Value} {K : PySem.W.Frag} {b : Bg} {F H : Hp} {E : XK} : XEnd mg K b F H E fun _ _ _ => False := ⟨fun _ _ _ _ _ _ _ _ _ _ _ _ h => h.elim, fun _ _ _ _ _ _ h => h.elim⟩
/-- the same at the caller's slots -/
def XEnS (mg : Str → Option Value) (K : PySem.W.Frag) (w : Wn) (E : L2.St → XK) (R : List Sl → XD) : Prop := ∀ env σ F H, RelW K w env σ F H → XEnd mg K w.b F H (E σ) (R env)
theorem XEnd.at {mg : Str → Option Value} {K : PySem.W.Frag} {w : Wn} {E : XK} {R : XD} (h : XEnd mg K w.b w.F w.H E R) : XEnS mg K w (fun _ => E) fun _ => R := fun env σ F H r => h.later r.st
def PmX (mg : Str → Option Value) (K : PySem.W.Frag) (ts : List Addr) (sp : DSpX) : Sp := fun vs H Q E => ∃ b F dvs P R, b.ts = ts ∧ Wd K b F H ∧ Paired (AgR K b F) dvs vs ∧ sp dvs P R ∧ (∀ dv v F' H', Stp K b F H F' H' → Res K b H F' H' dv v → P dv → Q v H') ∧ XEnd mg K b F H E R
def tUseX (sp : DSpX) (R : List Sl → XD) (t : DA) : DT := fun env P => t env fun us => anyOw us = [] ∧ sp (us.map dat) P (R env)
section
variable {X : Cx} {w : Wn} {CX : CXT} {k : Nat} {f : Addr} {E : L2.St → XK} {R : List Sl → XD} {ds : DSpX} {x : Str} {p pos : Pos} {e : Expr} {es : List Expr} {t : DA}
theorem d_useX {ts : List Addr} (Fk : Fg X.prog X.w X.K X.mg X.base (L2.CX X.prog X.w) k f (PmX X.mg X.K ts ds)) (ht : w.b.ts = ts) (ag : X.A.guards = some []) (room : Room k X.A) (ps : ∀ σ, PassesAt (L2.CX X.prog X.w) X σ (E σ)) (hE : XEnS X.mg X.K w E R) (gl : Gl X x) (gm : X.mg x = some (.ref f)) (kp : PySem.W.keepIn X.K (.ref f) = true)
    (ha : DPA X w (e :: es) t) (db : (x == ("__debug__" : Str)) = false := by decide) (s1 : starEach (e :: es) X.env = (false, eval e X.env) :: starEach es X.env := by rfl) (s2 : (backTo pos (starEach es X.env)).any (·.1) = false := by rfl) :
    DPE X w (.Call (.Name x p) (e :: es) [] pos) (tUseX ds R t) := by
  have base : PE X (.Call (.Name x p) (e :: es) [] pos) (fun σ H Q => lfA X.K w t σ H fun vs H1 => PmX X.mg X.K ts ds vs H1 Q (E σ)) := by
    refine ⟨fun pins s σ H Q I want => wpAny_Call_Name_kw (ld_glob I gl gm ?_ db)⟩
    refine PySem.W.callWith_K (h₀ := X.base) I.ok.mod.kin kp ?_ s1 s2
    exact thn (ha.run pos pins s σ H _ I want) fun us st ⟨vs, H1, I1, rv, q⟩ => ⟨I1.kIn, wpAny_call (codeAny_mono (Fk X.A X.stack st H1 us vs Q (E σ) ag room I1.env0 rv q) fun res s2 got => by
      match res, got with
      | .error u, got => exact ps σ pins H1 st u s2 I1 got
      | .ok (.ret u), got => exact I1.after got)⟩
  refine pe_weak base fun σ H Q ⟨env, F, P, r, h, q⟩ => ⟨env, F, _, r, h, fun dvs vs F1 H1 st ar h1 => ?_⟩
  obtain ⟨em, h1⟩ := h1
  have e1 : opn (anyOw dvs) F1 H1 = F1 := by
    funext a
    unfold opn
    rw [em, if_neg (by simp)]
  have hs : Same F1 (opn (anyOw dvs) F1 H1) := by rw [e1]; exact fun _ _ z => z
  have ad := args_dat ar hs (fun l hl => hl)
  rw [e1] at ad
  exact ⟨w.b, F1, _, _, _, ht, st.wd, ad, h1, fun dv v F2 H2 s2 rs hp => q dv v F2 H2 (st.trans s2) (rs.early st) hp, (hE env σ F H r).later st⟩
/-- raise C(e), C the class of name c in the module, of one field n -/
def tRaiseX (R : List Sl → XD) (c n : Str) (te : DT) : DS := fun _ env => te env fun u => match u with
  | .d x => R env c n x
  | _ => False
end
/-! ### a def that may refuse -/
section
variable {P : Program} {w : World} {K : PySem.W.Frag} {mg : Str → Option Value} {base : Heap} {k : Nat} {f : Addr} {fd : FuncData}
theorem d_defX {ts : List Addr} {x qual : Str} {st : Stmt} {N ps : List Str} (Fn : L2.Fun K x qual st f fd) (S : FnScope N ps (defScope st))
    (hb : ∀ (kV doc pm : Value) (an : Option Addr) (cdv ct : Value) (us : List Value), us.length = ps.length → bindArgs (PySem.W.fnOf x qual (defArgs st) (defBody st) (defScope st) .none kV doc pm an cdv ct) { pos := us, kw := [] } = pure (ps.zip us))
    (sp : DSpX) (t : XD → DS)
    (hd : ∀ (cdv : Value) (A : Around) (outer : List Env) (s : Shared) (H : Hp) (E : XK) (R : XD) (wn : Wn), fd.code = cdv → wn.b.ts = ts → XEnd mg K wn.b wn.F wn.H E R → (A.deeper (envOfC qual (defScope st) s.heap.objs.size f cdv)).guards = some [] → Room k (A.deeper (envOfC qual (defScope st) s.heap.objs.size f cdv)) →
      Takes (cxOf (L2.CX P w) P w K mg base N qual (defScope st) f cdv A outer s H E) (fun cls d _ H => E cls d H) → DPSs (cxOf (L2.CX P w) P w K mg base N qual (defScope st) f cdv A outer s H E) wn (defBody st) (t R))
    (hv : ∀ dvs Q R, sp dvs Q R → dvs.length = ps.length ∧ t R { nx := fun _ => Q (.d .none), rt := Q } (startD N dvs)) : Fg P w K mg base (L2.CX P w) (k + 1) f (PmX mg K ts sp) := by
  intro A outer s H us vs Q E ag room e0 rv want
  obtain ⟨b, F, dvs, R0, R, ht, wd, ar, hsp, q, hE⟩ := want
  obtain ⟨hlen, hread⟩ := hv dvs R0 R hsp
  obtain ⟨oc, od, kV, doc, pm, an, cdv, ct, osl, rfl, lk, hcd⟩ := Fn.ex
  have hvl : vs.length = ps.length := (Paired.length ar).symm.trans hlen
  have hul : us.length = ps.length := rv.length.symm.trans hvl
  refine StX.run_bnd (N := N) (ps := ps) lk hcd S room e0 (G := fun xs H2 => xs = vs ∧ H2 = H) (fun A' Ex Q' h => ?_) fun s2 H2 xs g room2 => ?_
  · rw [hb kV doc pm an cdv ct us hul]
    exact wpAny_pure (h s H vs us e0 Un.refl rfl (fun _ _ z => z) rv hvl ⟨rfl, rfl⟩)
  · obtain ⟨rfl, rfl⟩ := g
    refine ⟨_, hd cdv A outer s2 _ E R ⟨b, F, _⟩ rfl ht hE (guards_in ag _) room2 (takes_of rfl rfl rfl rfl), startD N dvs, F, _, rel_start wd ar, hread, ?_⟩
    refine ⟨fun env σ F' H' r _ z => ?_, fun env σ F' H' r _ z => z, fun env σ F' H' r _ z => z, fun dv v F' H' st rs z => q dv v F' H' st rs z⟩
    exact q (.d .none) .non F' H' r.st Rp.non z
end
end Dl
namespace Dl
open PySem PySem.Spec PyProof.Rows L2
/-! ### a refusal of one field made, and raised -/
def spIni (C : Addr) (n : Str) : Sp := fun vs H Q _ => ∃ a y, vs = [.ref a, y] ∧ H a = some (exo a C none) ∧ ∀ dx, H dx = none → dx ≠ a → Q .non (upd (upd H dx (exd dx [(n, y)])) a (exo a C (some dx)))
section
variable {P : Program} {w : World} {K : PySem.W.Frag} {mg : Str → Option Value} {base : Heap} {f C : Addr} {fd : FuncData}
theorem ini_ok {n qual : Str} {st : Stmt} {p1 p2 p3 p4 : Pos} (Fn : L2.Fun K "__init__" qual st f fd) (S : FnScope ["self", n] ["self", n] (defScope st)) (T : OexC K C) (hno : PySem.W.findIn K (.ref C) n = some none) (hne : n ≠ "self") (hn2 : (n == ("__debug__" : Str)) = false) (hn3 : (n == ("__classdict__" : Str)) = false)
    (hv0 : Vis (defScope st) ("self" : Str)) (hv1 : Vis (defScope st) n) (hb : defBody st = [.Assign [.Attribute (.Name "self" p1) n p2] (.Name n p3) p4]) :
    FnOk P w K mg base (L2.CX P w) 1 f fd ["self", n] (spIni C n) := by
  refine Fn.okX S (fun vs H Q E ⟨a, y, e, _⟩ => by rw [e]; rfl) fun cdv A outer s H vs Q E hr hsp => ?_
  obtain ⟨a, y, rfl, ha, q⟩ := hsp
  rw [hb]
  refine ⟨_, pss_one (ps_ost (pv 0 (hv := hv0)) (pv 1 (hv := hv1) (hd := hn2) (hcd := hn3))), ?_⟩
  exact ⟨y, rfl, .ref a, rfl, a, C, rfl, T, hno, .inl ⟨ha, q⟩⟩
end
section
variable {X : Cx} {w : Wn} {E : L2.St → XK} {R : List Sl → XD} {C fI : Addr} {fd : FuncData} {n x : Str} {a : Expr} {te : DT} {p pos pos2 : Pos} {k : Nat}
/-- raise C(e) -/
theorem ds_raise1 (hc : X.calm = true) (tk : Takes X (fun cls d σ H => E σ cls d H)) (T : OexC X.K C) (iC : PySem.W.findIn X.K (.ref C) "__init__" = some (some (.ref fI))) (tI : PySem.W.typeIn X.K (.ref fI) = some (.type "function"))
    (F1 : FnOk X.prog X.w X.K X.mg X.base (L2.CX X.prog X.w) k fI fd ["self", n] (spIni C n)) (hr : Room (k + 1) X.A) (hb : Binds X.K fd ["self", n] []) (hg : Gl X x) (hm : X.mg x = some (.ref C)) (he : DPE X w a te) (hE : XEnS X.mg X.K w E R)
    (hps : Passes (L2.CX X.prog X.w) X (fun _ _ _ => False)) (hdb : (x == ("__debug__" : Str)) = false := by decide) (hs : starEach [a] X.env = [(false, eval a X.env)] := by rfl) (hpl : (backTo pos (starEach [] X.env)).any (·.1) = false := by rfl) :
    DPS X w (.Raise (some (.Call (.Name x p) [a] [] pos)) none pos2) (tRaiseX R x n te) :=
  ps_weak (L2.ps_raise hc tk (pmk_oex T iC tI F1 hr hb .nil hps hg hm (pa_cons he pa_nil hs) hdb hs hpl)) fun D σ H ⟨env, F, d, r, h, fit⟩ => ⟨env, F, _, r, h, fun dv v F1 H1 s1 r1 h1 => by
    split at h1
    · next y =>
      refine ⟨by simp, fun a ha => ⟨a, v, rfl, upd_same, fun dx hd ne => ⟨rfl, dx, [(n, v)], upd_same, ?_, ?_, ?_⟩⟩⟩
      · rw [upd_ne ne]; exact upd_same
      · rw [upd_ne ne] at hd; exact hd
      · have hd1 : H1 dx = none := by rw [upd_ne ne] at hd; exact hd
        have e : upd (del (upd (upd (upd H1 a (exo a C none)) dx (exd dx [(n, v)])) a (exo a C (some dx))) a) dx (.xd [(n, v)]) = upd H1 dx (.xd [(n, v)]) := by
          funext z
          by_cases z1 : z = dx
          · rw [z1, upd_same, upd_same]
          · rw [upd_ne z1, upd_ne z1]
            by_cases z2 : z = a
            · rw [z2, del_same, ha]
            · rw [del_ne z2, upd_ne z2, upd_ne z1, upd_ne z2]
        rw [e]
        exact (hE env σ F H r).fl x C n y v dx F1 _ hm (s1.trans (s1.wd.laidM (o := .xd [(n, v)]) hd1)) upd_same r1 h1
    · exact h1.elim⟩
end
end Dl
namespace Dl
open PySem PySem.Spec PyProof.Rows L2
/-! ### a def that takes any number of arguments and may refuse -/
theorem d_starX {ts : List Addr} {P : Program} {w : World} {K : PySem.W.Frag} {mg : Str → Option Value} {base : Heap} {k : Nat} {f : Addr} {fd : FuncData} {x qual pv : Str} {st : Stmt} {N : List Str} (Fn : L2.Fun K x qual st f fd) (S : FnScope N [pv] (defScope st))
    (hb : ∀ (kV doc pm : Value) (an : Option Addr) (cdv ct : Value) (us : List Value), bindArgs (PySem.W.fnOf x qual (defArgs st) (defBody st) (defScope st) .none kV doc pm an cdv ct) { pos := us, kw := [] } = (newTuple us >>= fun t => pure [(pv, t)]))
    (sp : DSpX) (t : XD → DS)
    (hd : ∀ (cdv : Value) (A : Around) (outer : List Env) (s : Shared) (H : Hp) (E : XK) (R : XD) (wn : Wn), fd.code = cdv → wn.b.ts = ts → XEnd mg K wn.b wn.F wn.H E R → (A.deeper (envOfC qual (defScope st) s.heap.objs.size f cdv)).guards = some [] → Room k (A.deeper (envOfC qual (defScope st) s.heap.objs.size f cdv)) →
      Takes (cxOf (L2.CX P w) P w K mg base N qual (defScope st) f cdv A outer s H E) (fun cls d _ H => E cls d H) → DPSs (cxOf (L2.CX P w) P w K mg base N qual (defScope st) f cdv A outer s H E) wn (defBody st) (t R))
    (hv : ∀ dvs Q R, sp dvs Q R → allD dvs fun xs => xs.length ≤ 100000 ∧ t R { nx := fun _ => Q (.d .none), rt := Q } (startD N [.d (.tuple xs)])) : Fg P w K mg base (L2.CX P w) (k + 1) f (PmX mg K ts sp) := by
  intro A outer s H us vs Q E ag room e0 rv want
  obtain ⟨b, F, dvs, R0, R, ht, wd, ar, hsp, q, hE⟩ := want
  have ar2 : Paired (ArR K b F H) dvs vs := by
    clear rv hsp q hE
    induction ar with
    | nil => exact .nil
    | @cons dv v _ _ a t ih =>
      refine .cons ?_ ih
      cases dv with
      | d x => exact a
      | raw u => exact a
      | bag => exact a
      | fr x => exact a.elim
      | ow l x => exact a.elim
      | ft x => exact a.elim
      | tr p S x => exact a.elim
  obtain ⟨xs, rx, hz, hread⟩ := allD_ok ar2 (hv dvs R0 R hsp)
  obtain ⟨oc, od, kV, doc, pm, an, cdv, ct, osl, rfl, lk, hcd⟩ := Fn.ex
  have hn : H s.heap.objs.size = none := e0.hok.fresh (Nat.le_refl _)
  have hvl : vs.length ≤ sizeLine := by rw [rx.len]; exact lim_le hz
  have hul : us.length ≤ sizeLine := by rw [← rv.length]; exact hvl
  refine StX.run_bnd (N := N) (ps := [pv]) lk hcd S room e0 (G := fun ys H2 => ∃ p, H p = none ∧ ys = [V.ref p] ∧ H2 = upd H p (.tup vs)) (fun A' Ex Q' h => ?_) fun s2 H2 ys g room2 => ?_
  · rw [hb kV doc pm an cdv ct us]
    refine wpAny_bind (wpAny_newTuple (wpAny_pure ?_) hul)
    have new : ObjOk P w (upd H s.heap.objs.size (.tup vs)) (s.heap.push ({ cls := .type "tuple", data := .seq us.toArray } : Obj)) s.heap.objs.size (.tup vs) := ⟨hvl, us, rv, ⟨_, Heap.get?_push_size _ rfl, rfl, _, rfl⟩⟩
    have un := StX.un_laid (fs := frs outer) (s := s) (o := ({ cls := .type "tuple", data := .seq us.toArray } : Obj)) (u := .tup vs) hn
    exact h _ _ [V.ref s.heap.objs.size] [Value.ref s.heap.objs.size] (StX.env0_laid e0 new) un rfl (fun e s' => StX.cxUp outer s H _ _ E e s' un (fun c o q => Heap.get?_push_of_some _ q) rfl) (.cons rfl .nil) rfl ⟨_, hn, rfl, rfl⟩
  · obtain ⟨p, hp, rfl, rfl⟩ := g
    have stp := wd.laid (o := .tup vs) hp
    have ra : Rp K (upd F p (.tup vs)) (.ref p) (.tuple xs) := Rp.tup (SqT.of upd_same) (rx.up stp.ex)
    refine ⟨_, hd cdv A outer s2 _ E R ⟨b, upd F p (.tup vs), upd H p (.tup vs)⟩ rfl ht (hE.later stp) (guards_in ag _) room2 (takes_of rfl rfl rfl rfl), startD N [.d (.tuple xs)], upd F p (.tup vs), _, rel_start stp.wd (.cons ra .nil), hread, ?_⟩
    refine ⟨fun env σ F' H' r _ z => ?_, fun env σ F' H' r _ z => z, fun env σ F' H' r _ z => z, fun dv v F' H' st' rs z => q dv v F' H' (stp.trans st') (rs.early stp) z⟩
    exact q (.d .none) .non F' H' (stp.trans r.st) Rp.non z
end Dl
namespace Dl
open PySem PySem.Spec PyProof.Rows L2
/-! ### try .. except C as n -/
def noOw (env : List Sl) : Prop := ∀ (i : Nat) (s : Sl), env[i]? = some s → slA s = []
section
variable {K : PySem.W.Frag} {b : Bg} {F₀ H₀ F₁ H₁ F H : Hp} {env : List Sl} {σ : L2.St}
theorem Rel.reroot (r : Rel K b F₀ H₀ env σ F H) (no : noOw env) : Rel K b F H env σ F H := by
  refine ⟨r.len, r.st.wd.refl, fun i s h => ?_, fun i j s t a h1 _ m _ => by rw [no i s h1] at m; cases m⟩
  have q := r.at' i s h
  cases s with
  | ow l xs => exact absurd (no i _ h) (by simp [slA])
  | tr p S x =>
    obtain ⟨v, e, nd, k, mr, q⟩ := q
    have e0 : S = [] := no i _ h
    subst e0
    exact ⟨v, e, nd, (fun a m => by cases m), mr, q⟩
  | _ => exact q
theorem Rel.unroot (s : Stp K b F₀ H₀ F₁ H₁) (r : Rel K b F₁ H₁ env σ F H) : Rel K b F₀ H₀ env σ F H := by
  refine ⟨r.len, s.trans r.st, fun i z h => ?_, r.own⟩
  have q := r.at' i z h
  cases z with
  | ow l xs =>
    obtain ⟨q1, q2, q3, q4, q5⟩ := q
    exact ⟨q1, s.back q4 q2, q3, q4, q5⟩
  | tr p S x =>
    obtain ⟨v, e, nd, k, mr, q⟩ := q
    exact ⟨v, e, nd, fun a m => ⟨s.back (k a m).2.2 (k a m).1, (k a m).2⟩, mr, q⟩
  | _ => exact q
end
theorem Fit.root {K : PySem.W.Frag} {w : Wn} {F₁ H₁ : Hp} {d : DK} {D : Ends} (st : Stp K w.b w.F w.H F₁ H₁) (f : Fit K w F₁ d D) : Fit K ⟨w.b, F₁, H₁⟩ F₁ d D :=
  ⟨fun env σ F H r z => f.nx env σ F H (Rel.unroot st r) z, fun env σ F H r z => f.bk env σ F H (Rel.unroot st r) z, fun env σ F H r z => f.ct env σ F H (Rel.unroot st r) z, fun dv v F H s r z => f.rt dv v F H (st.trans s) (Res.early st r) z⟩
/-- the ends behind a suite: the exception's name is forgotten -/
def forgotD (i : Nat) (d : DK) : DK := { nx := fun e => d.nx (e.set i .un), rt := d.rt, bk := fun e => d.bk (e.set i .un), ct := fun e => d.ct (e.set i .un) }
def forgotE (i : Nat) (D : Ends) : Ends := { nx := fun σ' H' => D.nx (σ'.set i none) H', rt := D.rt, bk := fun σ' H' => D.bk (σ'.set i none) H', ct := fun σ' H' => D.ct (σ'.set i none) H' }
theorem Fit.forget {K : PySem.W.Frag} {w : Wn} {F₁ : Hp} {d : DK} {D : Ends} (i : Nat) (f : Fit K w F₁ d D) : Fit K w F₁ (forgotD i d) (forgotE i D) :=
  ⟨fun env σ F H r z h => f.nx _ _ F H (r.forget i) z h, fun env σ F H r z h => f.bk _ _ F H (r.forget i) z h, fun env σ F H r z h => f.ct _ _ F H (r.forget i) z h, f.rt⟩
abbrev DSuite := Addr → Str → Str → PyData → DS
/-- what the body's exceptions are wished -/
def rIn (i : Nat) (cs : List (Str × Str)) (exm : Str → Bool) (tS : DSuite) (R : List Sl → XD) (d : DK) : List Sl → XD := fun env c n x => (c, n) ∈ cs ∧ (exm c = true → noOw env ∧ ∀ a, tS a c n x (forgotD i d) (env.set i (.raw (.ref a)))) ∧ (exm c = false → R env c n x)
def tTryAs (i : Nat) (cs : List (Str × Str)) (exm : Str → Bool) (tS : DSuite) (R : List Sl → XD) (tB : (List Sl → XD) → DS) : DS := fun d env => noOw env ∧ tB (rIn i cs exm tS R d) d env
section
variable {X : Cx} {w : Wn} {E : L2.St → XK} {R : List Sl → XD} {x n : Str} {cv : Value} {i : Nat} {body suite : List Stmt} {b₀ : Stmt} {np pos pos' : Pos}
def sufT (X : Cx) (w : Wn) (cs : List (Str × Str)) (tS : DSuite) : Addr → Value → Option Addr → TS := fun a cls d D σ H => ∃ c C nf y v dd F, Wd X.K w.b F H ∧ (c, nf) ∈ cs ∧ cls = .ref C ∧ X.mg c = some (.ref C) ∧ d = some dd ∧ H dd = some (.xd [(nf, v)]) ∧ Rp X.K F v y ∧ lfS X.K ⟨w.b, F, H⟩ (tS a c nf y) D σ H
theorem ds_tryAs {cs : List (Str × Str)} {exm : Str → Bool} {tS : DSuite} {tB : (List Sl → XD) → DS}
    (hs : X.stack = X.env :: X.outer) (hf : X.env.frame = some X.env.locals) (hN : X.N.Nodup) (hi : X.N[i]? = some n) (hln : X.env.kindOf n = some .local) (hc : Names X x cv) (tk : Takes X (fun cls d σ H => E σ cls d H)) (hE : XEnS X.mg X.K w E R)
    (hnm : ∀ q ∈ cs, q.2 ≠ "")
    (hexm : ∀ q ∈ cs, ∀ C, X.mg q.1 = some (.ref C) → PySem.W.exmOne X.K (.ref C) cv = some (exm q.1))
    (hb : ∀ (pn : List (Addr × Obj)) (xe : Value → Shared → Prop) (E' : L2.St → XK) (Rin : List Sl → XD) (w' : Wn), w'.b = w.b → Takes (X.tr pn xe) (fun cls d σ H => E' σ cls d H) → XEnS X.mg X.K w' E' Rin → DPSs (X.tr pn xe) w' body (tB Rin))
    (hsu : ∀ (a : Addr) (oe : Obj) (pn : List (Addr × Obj)) (c : Str) (C : Addr) (nf : Str) (y : PyData) (v : V) (dd : Addr) (w' : Wn), w'.b = w.b → (c, nf) ∈ cs → X.mg c = some (.ref C) → Wd X.K w'.b w'.F w'.H → w'.H dd = some (.xd [(nf, v)]) → Rp X.K w'.F v y → Zc (.ref C) (some dd) oe → (∃ vs, oe.data = .fields vs) → DPSs (X.suite a ((a, oe) :: pn)) w' (b₀ :: suite) (tS a c nf y)) :
    DPS X w (.Try body [.ExceptHandler (some (.Name x np)) (some n) (b₀ :: suite) pos'] [] [] pos) (tTryAs i cs exm tS R tB) := by
  refine ps_weak (L2.ps_try_as (tb := fun W D σ H => ∃ w' Rin, w'.b = w.b ∧ XEnS X.mg X.K w' (fun σ cls d H => W cls d σ H) Rin ∧ lfS X.K w' (tB Rin) D σ H) (ts := sufT X w cs tS) hs hf hN hi hln hc tk (fun W pn xe tkW _ => ⟨fun p s σ H D I ⟨w', Rin, e, hx, q⟩ => (hb pn xe _ Rin w' e tkW hx).run p s σ H D I q⟩)
    (fun a oe cls d pn hz hfl => ⟨fun p s σ H D I ⟨c, C, nf, y, v, dd, F, ew, e0, e1, e2, e3, e4, e5, q⟩ => by
      subst e1 e3
      exact (hsu a oe pn c C nf y v dd ⟨w.b, F, H⟩ rfl e0 e2 ew e4 e5 hz hfl).run p s σ H D I q⟩)) fun D σ H ⟨env, F, d, r, ⟨no, h⟩, fit⟩ => ?_
  refine ⟨⟨w.b, F, H⟩, rIn i cs exm tS R d, rfl, fun env2 σ2 F2 H2 r2 => ⟨fun c C nf y v dd F3 H3 hc3 s3 h3 rp ⟨hcs, q1, q2⟩ => ?_, fun c C F3 H3 hc3 s3 ⟨hcs, _⟩ => absurd rfl (hnm _ hcs)⟩, env, F, d, r.reroot no, h, fit.root r.st⟩
  refine ⟨exm c, hexm (c, nf) hcs C hc3, fun hb1 a ha => ?_, fun hb1 => ?_⟩
  · obtain ⟨no2, q⟩ := q1 hb1
    refine ⟨c, C, nf, y, v, dd, F3, s3.wd, hcs, rfl, hc3, rfl, h3, rp, env2.set i (.raw (.ref a)), F3, forgotD i d, ?_, q a, ?_⟩
    · have z := (r2.step s3).reroot no2
      exact z.put i (z := .raw (.ref a)) (v := .ref a) rfl (fun a m => by cases m)
    · have st2 : Stp X.K w.b w.F w.H F3 H3 := (r.st.trans r2.st).trans s3
      exact ((fit.up (r2.st.trans s3).ex).root st2).forget i
  · exact (hE env2 σ2 F2 H2 (Rel.unroot r.st r2)).fl c C nf y v dd F3 H3 hc3 s3 h3 rp (q2 hb1)
/-! try .. except C: -/
def rOn (cs : List Str) (exm : Str → Bool) (tS : DS) (R : List Sl → XD) (d : DK) : List Sl → XD := fun env c n x => c ∈ cs ∧ (exm c = true → noOw env ∧ tS d env) ∧ (exm c = false → R env c n x)
def tTryOnly (cs : List Str) (exm : Str → Bool) (tS : DS) (R : List Sl → XD) (tB : (List Sl → XD) → DS) : DS := fun d env => noOw env ∧ tB (rOn cs exm tS R d) d env
def sufO (X : Cx) (w : Wn) (tS : DS) : Addr → Value → Option Addr → TS := fun _ _ _ D σ H => ∃ F, Wd X.K w.b F H ∧ lfS X.K ⟨w.b, F, H⟩ tS D σ H
theorem ds_tryOnly {cs : List Str} {exm : Str → Bool} {tS : DS} {tB : (List Sl → XD) → DS}
    (hs : X.stack = X.env :: X.outer) (hf : X.env.frame = some X.env.locals) (hc : Names X x cv) (tk : Takes X (fun cls d σ H => E σ cls d H)) (hE : XEnS X.mg X.K w E R)
    (hexm : ∀ c ∈ cs, ∀ C, X.mg c = some (.ref C) → PySem.W.exmOne X.K (.ref C) cv = some (exm c))
    (hb : ∀ (pn : List (Addr × Obj)) (xe : Value → Shared → Prop) (E' : L2.St → XK) (Rin : List Sl → XD) (w' : Wn), w'.b = w.b → Takes (X.tr pn xe) (fun cls d σ H => E' σ cls d H) → XEnS X.mg X.K w' E' Rin → DPSs (X.tr pn xe) w' body (tB Rin))
    (hsu : ∀ (a : Addr) (oe : Obj) (pn : List (Addr × Obj)) (w' : Wn), w'.b = w.b → DPSs (X.suite a ((a, oe) :: pn)) w' (b₀ :: suite) tS) :
    DPS X w (.Try body [.ExceptHandler (some (.Name x np)) none (b₀ :: suite) pos'] [] [] pos) (tTryOnly cs exm tS R tB) := by
  refine ps_weak (L2.ps_try_only (tb := fun W D σ H => ∃ w' Rin, w'.b = w.b ∧ XEnS X.mg X.K w' (fun σ cls d H => W cls d σ H) Rin ∧ lfS X.K w' (tB Rin) D σ H) (ts := sufO X w tS) hs hf hc tk (fun W pn xe tkW _ => ⟨fun p s σ H D I ⟨w', Rin, e, hx, q⟩ => (hb pn xe _ Rin w' e tkW hx).run p s σ H D I q⟩)
    (fun a oe cls d pn hz hfl => ⟨fun p s σ H D I ⟨F, ew, q⟩ => (hsu a oe pn ⟨w.b, F, H⟩ rfl).run p s σ H D I q⟩)) fun D σ H ⟨env, F, d, r, ⟨no, h⟩, fit⟩ => ?_
  have one : ∀ (env2 : List Sl) (σ2 : L2.St) (F2 H2 : Hp), RelW X.K ⟨w.b, F, H⟩ env2 σ2 F2 H2 → ∀ (c : Str) (C : Addr) (nf : Str) (y : PyData) (dd : Option Addr) (F3 H3 : Hp), X.mg c = some (.ref C) → Stp X.K w.b F2 H2 F3 H3 → rOn cs exm tS R d env2 c nf y →
      (exm c = false → E σ2 (.ref C) dd H3) → wOnly X.K cv (sufO X w tS) (fun cls d σ H => E σ cls d H) D (.ref C) dd σ2 H3 := fun env2 σ2 F2 H2 r2 c C nf y dd F3 H3 hc3 s3 ⟨hcs, q1, q2⟩ out => by
    refine ⟨exm c, hexm c hcs C hc3, fun hb1 a ha => ?_, fun hb1 => out hb1⟩
    obtain ⟨no2, q⟩ := q1 hb1
    have st2 : Stp X.K w.b w.F w.H F3 H3 := (r.st.trans r2.st).trans s3
    exact ⟨F3, s3.wd, env2, F3, d, (r2.step s3).reroot no2, q, (fit.up (r2.st.trans s3).ex).root st2⟩
  refine ⟨⟨w.b, F, H⟩, rOn cs exm tS R d, rfl, fun env2 σ2 F2 H2 r2 => ⟨fun c C nf y v dd F3 H3 hc3 s3 h3 rp k => ?_, fun c C F3 H3 hc3 s3 k => ?_⟩, env, F, d, r.reroot no, h, fit.root r.st⟩
  · exact one env2 σ2 F2 H2 r2 c C nf y (some dd) F3 H3 hc3 s3 k fun hb1 => (hE env2 σ2 F2 H2 (Rel.unroot r.st r2)).fl c C nf y v dd F3 H3 hc3 s3 h3 rp (k.2.2 hb1)
  · exact one env2 σ2 F2 H2 r2 c C "" .none none F3 H3 hc3 s3 k fun hb1 => (hE env2 σ2 F2 H2 (Rel.unroot r.st r2)).no c C F3 H3 hc3 s3 (k.2.2 hb1)
end
end Dl
namespace Dl
open PySem PySem.Spec PyProof.Rows L2
/-! ### in an except suite: e.f and isinstance(e, C) -/
section
variable {X : Cx} {w : Wn} {a C dd : Addr} {oe : Obj} {pn : List (Addr × Obj)} {n x : Str} {i : Nat} {y : PyData} {v : V} {p pos p2 : Pos} {e2 : Expr}
theorem xd_stays {K : PySem.W.Frag} {b : Bg} {F₀ H₀ F H : Hp} {fs : List (Str × V)} (st : Stp K b F₀ H₀ F H) (wd : Wd K b F₀ H₀) (h : H₀ dd = some (.xd fs)) : H dd = some (.xd fs) := by
  refine st.keep dd _ (fun e => ?_) (fun ps e => by cases e) h
  obtain ⟨vs, eb⟩ := wd.bag.lst
  rw [e, eb] at h; cases h
def tAtX (i : Nat) (a : Addr) (y : PyData) : DT := fun env P => env[i]? = some (.raw (.ref a)) ∧ P (.d y)
theorem d_atX (T : XfC X.K C) (hno : PySem.W.findIn X.K (.ref C) n = some none) (hz : Zc (.ref C) (some dd) oe) (hf : ∃ vs, oe.data = .fields vs) (wd : Wd X.K w.b w.F w.H) (hd : w.H dd = some (.xd [(n, v)])) (rp : Rp X.K w.F v y)
    (he : PE (X.suite a ((a, oe) :: pn)) e2 (tVar i)) (hb : attributeBase e2 n X.env (eval e2 X.env) = eval e2 X.env := by rfl) : DPE (X.suite a ((a, oe) :: pn)) w (.Attribute e2 n pos) (tAtX i a y) :=
  pe_weak (pe_xf T hno hz hf he hb) fun σ H Q ⟨env, F, P, r, ⟨e, h⟩, q⟩ => ⟨.ref a, r.at' i _ e, rfl, rfl, dd, [(n, v)], v, rfl, xd_stays r.st wd hd, by simp [List.lookup], q (.d y) v F H r.wd.refl (rp.up r.st.ex) h⟩
def rIsX (K : PySem.W.Frag) (D a dd : Addr) : List V → Hp → VK → Prop := fun xs H Q => ∃ (fs : List (Str × V)) (c : V) (cv : Value) (b : Bool), H dd = some (.xd fs) ∧ xs = [.ref a, c] ∧ (∀ u, RelV c u → u = cv) ∧ PySem.W.kitOne K (.ref D) cv = some b ∧ Q (.bl b) H
theorem call_isX (T : ExcC X.K C) (hz : Zc (.ref C) (some dd) oe) (hf : ∃ vs, oe.data = .fields vs) : CallR (X.suite a ((a, oe) :: pn)) (.builtin "isinstance") (rIsX X.K C a dd) := by
  intro pins s σ H xs us Q I r h
  obtain ⟨fs, c, cv, b, hdd, rfl, hcv, e, q⟩ := h
  cases r with
  | cons rx rr =>
    cases rr with
    | cons rt rr =>
      cases rr
      cases rx
      have ec := hcv _ rt
      subst ec
      obtain ⟨hget, _⟩ := I.pin (a, oe) (List.mem_append.mpr (.inl List.mem_cons_self))
      obtain ⟨vs, hv⟩ := hf
      have hx : ObjOk X.prog X.w H s.heap dd (.xd fs) := I.hok dd _ hdd
      obtain ⟨mA, hns, hr⟩ := hx
      obtain ⟨od, ho, hl⟩ := lookIn_ns hns
      have J : PySem.W.InstAt s.heap a oe C (some od) := ⟨hget, hz.1, by unfold PySem.W.notCls; rw [hv] <;> rfl, by rw [hz.2]; exact ho⟩
      have hcl : (PySem.W.clsIn X.K C).isSome = true := by
        obtain ⟨cd, hc, _⟩ := PySem.W.any_some T.hd
        rw [hc]; rfl
      exact PySem.W.kia_one (PySem.W.kitx_exc hcl T.hg T.hk T.hs T.ha T.hn T.ht T.hm) I.kIn J e (fun z => nomatch z) fun tk => ⟨.bl b, H, I.kept (t' := tk) fun _ _ z => z, rfl, q⟩
def tIsX (i : Nat) (a : Addr) (b : Bool) : DT := fun env P => env[i]? = some (.raw (.ref a)) ∧ P (.d (.bool b))
theorem d_isX {c : V} {cv : Value} {b : Bool} {x1 x2 : Str} {p1 p3 : Pos} (T : ExcC X.K C) (hz : Zc (.ref C) (some dd) oe) (hf : ∃ vs, oe.data = .fields vs) (wd : Wd X.K w.b w.F w.H) {fs : List (Str × V)} (hd : w.H dd = some (.xd fs))
    (gl : Gl (X.suite a ((a, oe) :: pn)) "isinstance") (gm : X.mg "isinstance" = none) (he : PE (X.suite a ((a, oe) :: pn)) (.Name x1 p1) (tVar i)) (hc : PE (X.suite a ((a, oe) :: pn)) (.Name x2 p3) (tC c)) (hcv : ∀ u, RelV c u → u = cv) (hk : PySem.W.kitOne X.K (.ref C) cv = some b) : DPE (X.suite a ((a, oe) :: pn)) w (.Call (.Name "isinstance" p) [.Name x1 p1, .Name x2 p3] [] pos) (tIsX i a b) := by
  refine pe_weak (pe_callB (call_isX T hz hf) gl gm (by decide +kernel) (pa_cons he (pa_cons hc pa_nil))) fun σ H Q ⟨env, F, P, r, ⟨e, h⟩, q⟩ => ?_
  exact ⟨.ref a, r.at' i _ e, fs, c, cv, b, xd_stays r.st wd hd, rfl, hcv, hk, q (.d (.bool b)) (.bl b) F H r.wd.refl (Rp.bl b) h⟩
end
end Dl
namespace Dl
open PySem PySem.Spec PyProof.Rows L2
/-! ### readings of what may refuse, for the walk -/
section
variable {sp : DSpX} {R : List Sl → XD} {t : DA} {env : List Sl} {P : DV → Prop} {c n : Str} {te : DT} {d : DK}
theorem uxE : tUseX sp R t env P = t env fun us => anyOw us = [] ∧ sp (us.map dat) P (R env) := propext ⟨fun h => h, fun h => h⟩
def isDt : DV → (PyData → Prop) → Prop
  | .d x, k => k x
  | .fr _, _ => False
  | .ow _ _, _ => False
  | .raw _, _ => False
  | .bag, _ => False
  | .ft _, _ => False
  | .tr _ _ _, _ => False
theorem raE : tRaiseX R c n te d env = te env fun u => isDt u (R env c n) := by
  unfold tRaiseX
  congr 1
  funext u
  cases u <;> rfl
theorem isE (i : Nat) (a : Addr) (b : Bool) : tIsX i a b env P = (env[i]? = some (.raw (.ref a)) ∧ P (.d (.bool b))) := propext ⟨fun h => h, fun h => h⟩
theorem axE (i : Nat) (a : Addr) (y : PyData) : tAtX i a y env P = (env[i]? = some (.raw (.ref a)) ∧ P (.d y)) := propext ⟨fun h => h, fun h => h⟩
end
theorem noOw_ok (env : List Sl) (h : env.all (fun s => match s with | .ow _ _ => false | .tr _ _ _ => false | _ => true) = true) : noOw env := fun i s e => by
  have := List.all_eq_true.mp h _ (List.mem_of_getElem? e)
  cases s <;> first | rfl | cases this
/-- a list taken apart into names -/
def gtLD (n : Nat) (gs : DGs) : DG := fun x env k => match x with
  | .list xs => xs.length = n ∧ gs xs env k
  | _ => False
theorem dg_lst {X : Cx} {w : Wn} {pos : Pos} {es : List Expr} {k n : Nat} {gs : DGs} (hc : X.calm = true) (h : PGs X es (lfGs X.K w gs)) (hn : (assignEach es X.env).length = n := by rfl) (hst : (assignEach es X.env).findIdx? (fun x => x.fst) = none := by rfl) : PG X (.Tuple es k pos) (lfG X.K w (gtLD n gs)) := by
  refine pg_weak (pg_lst hc h hn hst) fun v σ H Q ⟨env, F, x, k, r, rx, h, q⟩ => ?_
  cases x with
  | list xs =>
    cases rx with
    | lst e1 r1 => exact ⟨_, _, rfl, SqL.of (r.st.sub _ _ e1), by rw [r1.len]; exact h.1, env, F, xs, k, r, r1, h.2, q⟩
  | _ => exact h.elim
/-- enumerate of truths, from k on -/
def enumF (k : Nat) : List Bool → List PyData
  | [] => []
  | b :: bs => .tuple [.int (k : Nat), .bool b] :: enumF (k + 1) bs
/-- the first that is False -/
def fstF (k : Nat) : List Bool → Option Nat
  | [] => none
  | b :: bs => if b then fstF (k + 1) bs else some k
theorem enumF_from : ∀ (k : Nat) (bs : List Bool), ((bs.map PyData.bool).zipIdx k).map (fun p => PyData.tuple [.int (p.2 : Nat), p.1]) = enumF k bs
  | _, [] => rfl
  | k, b :: bs => by
    rw [List.map_cons, List.zipIdx_cons, List.map_cons, enumF_from (k + 1) bs]
    rfl
theorem enumF_eq (bs : List Bool) : enumD (bs.map PyData.bool) = enumF 0 bs := enumF_from 0 bs
theorem allD_bools (bs : List Bool) {k : List PyData → Prop} (h : k (bs.map .bool)) : allD (bs.map fun b => DV.d (.bool b)) k := by
  induction bs generalizing k with
  | nil => exact h
  | cons b bs ih =>
    rw [List.map_cons]
    unfold allD
    refine ih (k := fun xs => k (.bool b :: xs)) ?_
    exact h
theorem mem_rngD {lo : Int} {n : Nat} {x : PyData} (h : x ∈ rngD lo n) : ∃ i : Nat, i < n ∧ x = .int (lo + (i : Nat)) := by
  unfold rngD at h
  obtain ⟨j, hj, rfl⟩ := List.mem_map.mp h
  exact ⟨j, List.mem_range.mp hj, rfl⟩
/-- a list comprehension without a condition: what holds of each item -/
theorem lc_all {g : DG} {te : DT} {env : List Sl} {P : DV → Prop} (Pr : PyData → Prop) {xs : List PyData} (hl : xs.length ≤ 100000)
    (hend : ∀ ys : List PyData, ys.length = xs.length → (∀ y ∈ ys, Pr y) → P (.fr ys))
    (hstep : ∀ x ∈ xs, ∀ R : PyData → Prop, (∀ y, Pr y → R y) → g x env fun e2 => te e2 fun dv => match frz dv with
      | .d y => R y
      | _ => False) : lcD g (fun _ P => P true) te env xs [] P := by
  refine lcD_ind (fun zs acc => (∀ z ∈ zs, z ∈ xs) ∧ (∀ y ∈ acc, Pr y) ∧ acc.length + zs.length = xs.length) (fun acc hI => ?_) (fun x zs acc R hI hR => ?_) _ _ ⟨fun _ z => z, fun _ h => absurd h List.not_mem_nil, by simp⟩
  · obtain ⟨_, ha, e⟩ := hI
    exact hend acc (by simpa using e) ha
  · obtain ⟨hz, ha, e⟩ := hI
    rw [List.length_cons] at e
    refine hstep x (hz x (List.mem_cons_self ..)) (fun y => acc.length < 100000 ∧ R (acc ++ [y])) fun y hy => ⟨by omega, hR _ ⟨fun z hm => hz z (List.mem_cons_of_mem _ hm), fun z hm => ?_, by rw [List.length_append, List.length_singleton]; omega⟩⟩
    rcases List.mem_append.mp hm with hm | hm
    · exact ha z hm
    · rw [List.mem_singleton.mp hm]; exact hy
/-- .. where the items' values are known -/
theorem lc_map {g : DG} {te : DT} {env : List Sl} {P : DV → Prop} (f : PyData → PyData) {xs : List PyData} (hl : xs.length ≤ 100000)
    (hend : P (.fr (xs.map f)))
    (hstep : ∀ x ∈ xs, ∀ R : PyData → Prop, R (f x) → g x env fun e2 => te e2 fun dv => match frz dv with
      | .d y => R y
      | _ => False) : lcD g (fun _ P => P true) te env xs [] P := by
  refine lcD_ind (fun zs acc => (∀ z ∈ zs, z ∈ xs) ∧ acc ++ zs.map f = xs.map f) (fun acc hI => ?_) (fun x zs acc R hI hR => ?_) _ _ ⟨fun _ z => z, rfl⟩
  · obtain ⟨_, e⟩ := hI
    rw [List.map_nil, List.append_nil] at e
    rw [e]; exact hend
  · obtain ⟨hz, e⟩ := hI
    have e2 := congrArg List.length e
    simp only [List.length_append, List.length_map, List.length_cons] at e2
    refine hstep x (hz x (List.mem_cons_self ..)) (fun y => acc.length < 100000 ∧ R (acc ++ [y])) ⟨by omega, hR _ ⟨fun z hm => hz z (List.mem_cons_of_mem _ hm), ?_⟩⟩
    rw [← e, List.map_cons, List.append_assoc]
    rfl
theorem sn_emp : Sn 1 2 (.dict []) := ⟨by decide, by decide, by decide, by decide⟩
end Dl
namespace Dl
open PySem PySem.Spec PyProof.Rows L2
/-! ### raise C() -/
section
variable {X : Cx} {w : Wn} {E : L2.St → XK} {R : List Sl → XD} {C : Addr} {bmB : List Value} {B newId initId : String} {x : Str} {p pos pos2 : Pos}
theorem mk_bare (F : ExcBaseFacts B newId initId bmB) (q : PySem.W.excIn X.K C bmB newId = true) (gC : X.mg x = some (.ref C)) (kC : PySem.W.keepIn X.K (.ref C) = true) (r : Raises X (.ref C)) (hg : Gl X x)
    (hdb : (x == ("__debug__" : Str)) = false := by decide) : PMk X (.Call (.Name x p) [] [] pos) (fun _ H Q => Q (.ref C) none H) := by
  intro pins s σ H Q I h
  refine wpAny_Call_Name_kw (ld_glob I hg gC ?_ hdb)
  refine PySem.W.callWith_K0 I.kIn kC ?_
  obtain ⟨bm, N, nm, qn, bs, hdct, sn, sub, ab, col, dd, k0, k1, k2, k3, k5, mN, hC, hN, hni, T⟩ := exc_obj I.kIn q
  refine wpAny_call_exc_subT F T hC hN hni (fun h' e hm => ?_) (Nat.zero_le _)
  exact mk_of I hm r h (I.hok.gone hm.new)
def tRaise0 (R : List Sl → XD) (c : Str) : DS := fun _ env => R env c "" .none
theorem ds_raise0 (hc : X.calm = true) (tk : Takes X (fun cls d σ H => E σ cls d H)) (F : ExcBaseFacts B newId initId bmB) (q : PySem.W.excIn X.K C bmB newId = true) (hm : X.mg x = some (.ref C)) (kC : PySem.W.keepIn X.K (.ref C) = true) (r : Raises X (.ref C)) (hg : Gl X x)
    (hE : XEnS X.mg X.K w E R) (hdb : (x == ("__debug__" : Str)) = false := by decide) : DPS X w (.Raise (some (.Call (.Name x p) [] [] pos)) none pos2) (tRaise0 R x) :=
  ps_weak (L2.ps_raise hc tk (mk_bare F q hm kC r hg hdb)) fun D σ H ⟨env, F, d, r, h, fit⟩ => (hE env σ F H r).no x C F H hm r.wd.refl h
end
/-! ### objects of classes of the module -/
theorem fld_get {fs : List (Str × V)} {K : PySem.W.Frag} {F : Hp} {f : Str} {y : PyData} : ∀ {ds : List (Str × PyData)} {vs : List V}, ds.map (fun p => fs.lookup p.1) = vs.map some → RpA K F vs (ds.map Prod.snd) → ds.lookup f = some y → ∃ v, fs.lookup f = some v ∧ Rp K F v y
  | [], _, _, _, e => by simp at e
  | (n, x) :: ds, [], h, _, _ => by simp at h
  | (n, x) :: ds, v :: vs, h, .cons a t, e => by
    simp only [List.map_cons, List.cons.injEq] at h
    rw [List.lookup_cons] at e
    by_cases hn : f = n
    · subst hn
      simp only [beq_self_eq_true] at e
      cases e
      exact ⟨v, h.1, a⟩
    · have : (f == n) = false := by simpa using hn
      rw [this] at e
      exact fld_get h.2 t e
theorem obD_inj {c c' : Str} {ds ds' : List (Str × PyData)} (e : obD c ds = obD c' ds') : c = c' ∧ ds = ds' := by
  unfold obD at e
  injection e with e
  injection e with e1 e2
  injection e1 with _ e1
  injection e1 with e1
  refine ⟨e1, ?_⟩
  have inj : ∀ {a b : Str × PyData}, (PyData.str a.1, a.2) = (PyData.str b.1, b.2) → a = b := fun {a b} z => by
    obtain ⟨a1, a2⟩ := a
    obtain ⟨b1, b2⟩ := b
    simp only [Prod.mk.injEq, PyData.str.injEq] at z
    rw [z.1, z.2]
  exact List.map_inj_right (fun a b z => inj z) |>.mp e2
/-- what an object is, where it is known -/
theorem ob_of {K : PySem.W.Frag} {F : Hp} {v : V} {c : Str} {ds : List (Str × PyData)} (h : Rp K F v (obD c ds)) : ∃ a C dx fs vs, v = .ref a ∧ F a = some (.ins C dx fs) ∧ ObC K c C ∧ ds.map (fun p => fs.lookup p.1) = vs.map some ∧ (∀ n, n ∉ ds.map Prod.fst → fs.lookup n = none) ∧ RpA K F vs (ds.map Prod.snd) := by
  generalize e : obD c ds = z at h
  cases h with
  | @dct a kvs ks xs h r q =>
    exfalso
    have z := dct_isOb (xs := xs) r
    rw [← e, obD_isOb] at z
    cases z
  | obj h hc hn ho r =>
    obtain ⟨rfl, rfl⟩ := obD_inj e
    exact ⟨_, _, _, _, _, rfl, h, hc, hn, ho, r⟩
  | _ => cases e
section
variable {X : Cx} {w : Wn} {e : Expr} {te : DT} {f : Str} {pos : Pos}
/-- e.f, e an object of one of the classes cs -/
def tFldD (cs : List Str) (f : Str) (te : DT) : DT := fun env P => te env fun u => ∃ c ds y, u = .d (obD c ds) ∧ c ∈ cs ∧ ds.lookup f = some y ∧ P (.d y)
theorem d_fld {cs : List Str} (hcs : ∀ c ∈ cs, ∀ C, ObC X.K c C → NoAttr X.K C f) (he : DPE X w e te) (hb : attributeBase e f X.env (eval e X.env) = eval e X.env := by rfl) : DPE X w (.Attribute e f pos) (tFldD cs f te) :=
  pe_weak (pe_fld he hb) fun σ H Q ⟨env, F, P, r, h, q⟩ => ⟨env, F, _, r, h, fun dv v F1 H1 s1 r1 ⟨c, ds, y, e1, hc, hl, h1⟩ => by
    subst e1
    obtain ⟨a, C, dx, fs, vs, rfl, ha, ob, hn, ho, q1⟩ := ob_of (show Rp X.K F1 v (obD c ds) from r1)
    obtain ⟨v2, l2, q2⟩ := fld_get hn q1 hl
    exact ⟨a, C, dx, fs, v2, rfl, s1.sub _ _ ha, ob.cls, hcs c hc C ob, l2, q (.d y) v2 F1 H1 s1 q2 h1⟩⟩
/-- self.f = e in an __init__: f is new -/
def tOstD (cs : List Str) (i : Nat) (f : Str) (te : DT) : DS := fun d env => te env fun dv => match frz dv, env[i]? with
  | .d x, some (.tr false S y) => ∃ c ds, y = obD c ds ∧ c ∈ cs ∧ f ∉ ds.map Prod.fst ∧ ds.length < 900 ∧ d.nx (env.set i (.tr false S (obD c (ds ++ [(f, x)]))))
  | _, _ => False
theorem putF_new {f : Str} {v : V} : ∀ {fs : List (Str × V)}, fs.lookup f = none → putF f v fs = fs ++ [(f, v)]
  | [], _ => rfl
  | (n, u) :: fs, h => by
    rw [List.lookup_cons] at h
    by_cases hn : f = n
    · subst hn
      simp at h
    · have e1 : (f == n) = false := by simpa using hn
      rw [e1] at h
      unfold putF
      have e2 : (n == f) = false := by simpa using fun z : n = f => hn z.symm
      first
        | (rw [e1]; simp only [Bool.false_eq_true, if_false, List.cons_append, putF_new h])
        | (rw [e2]; simp only [Bool.false_eq_true, if_false, List.cons_append, putF_new h])
        | (rw [if_neg (fun z => hn z.symm), putF_new h]; rfl)
        | (rw [if_neg hn, putF_new h]; rfl)
theorem lookup_app {f : Str} {v : V} {fs : List (Str × V)} (h : fs.lookup f = none) (n : Str) : (fs ++ [(f, v)]).lookup n = if n = f then some v else fs.lookup n := by
  induction fs with
  | nil =>
    rw [List.nil_append, List.lookup_cons]
    by_cases e : n = f
    · subst e; simp
    · have : (n == f) = false := by simpa using e
      rw [this, if_neg e]
  | cons p fs ih =>
    rw [List.lookup_cons] at h
    rw [List.cons_append, List.lookup_cons, List.lookup_cons]
    by_cases e1 : f == p.1
    · rw [e1] at h; cases h
    · have e1' : (f == p.1) = false := by simpa using e1
      rw [e1'] at h
      by_cases e2 : n == p.1
      · rw [e2]
        have : n ≠ f := fun z => by subst z; rw [e1'] at e2; cases e2
        rw [if_neg this]
      · have e2' : (n == p.1) = false := by simpa using e2
        rw [e2']
        exact ih h
theorem ot_ob {K : PySem.W.Frag} {F H : Hp} {S : List Addr} {v : V} {c : Str} {ds : List (Str × PyData)} (h : Ot K F H false S v (obD c ds)) (hS : S ≠ []) : ∃ a C dx T fs vs, S = a :: dx :: T ∧ v = .ref a ∧ H a = some (.ins C dx fs) ∧ H dx = some (.own a) ∧ ObC K c C ∧
    ds.map (fun p => fs.lookup p.1) = vs.map some ∧ (∀ n, n ∉ ds.map Prod.fst → fs.lookup n = none) ∧ fs.length = ds.length ∧ OtA K F H false T vs (ds.map Prod.snd) := by
  generalize e : obD c ds = z at h
  cases h with
  | leaf r n => exact absurd rfl hS
  | lst => cases e
  | tup => cases e
  | @dct a S kvs ks xs h r q =>
    exfalso
    have z := dct_isOb (xs := xs) r
    rw [← e, obD_isOb] at z
    cases z
  | obj h hd hc hn ho hl r =>
    obtain ⟨rfl, rfl⟩ := obD_inj e
    exact ⟨_, _, _, _, _, _, rfl, rfl, h, hd, hc, hn, ho, hl, r⟩
theorem OtA.snoc {K : PySem.W.Frag} {F H : Hp} {v : V} {x : PyData} (h : Rp K F v x) : ∀ {T : List Addr} {vs : List V} {xs : List PyData}, OtA K F H false T vs xs → OtA K F H false T (vs ++ [v]) (xs ++ [x])
  | _, _, _, .nil => .cons (S := []) (T := []) (.leaf h fun z => nomatch z) .nil
  | _, _, _, .cons (S := S) (T := T) a t => .cons a (OtA.snoc h t)
theorem ds_ost {cs : List Str} {i : Nat} {o : Expr} {pos' : Pos} (hcs : ∀ c ∈ cs, ∀ C, ObC X.K c C → NoAttr X.K C f) (ho : PE X o (tVar i)) (he : DPE X w e te) (hs : swapsWith e (some (.Attribute o f pos')) pos.line X.env = pure false := by rfl) :
    DPS X w (.Assign [.Attribute o f pos'] e pos) (tOstD cs i f te) :=
  ps_weak (ps_fld ho he hs) fun D σ H ⟨env, F, d, r, h, fit⟩ => ⟨env, F, _, r, h, fun dv v F1 H1 s1 r1 h1 => by
    obtain ⟨F2, s2, a2⟩ := frz_ok s1 r1
    have r2 := r.step s2
    split at h1
    · next x S y ex ei =>
      rw [ex] at a2
      obtain ⟨c, ds, rfl, hc, hf, hlen, h1⟩ := h1
      obtain ⟨u, e1, nd, k, mr, q⟩ := r2.at' i _ ei
      obtain ⟨a, C, dx, T, fs, vs, rfl, rfl, ha, hd, ob, hn, ho', hl, qa⟩ := ot_ob q (mr rfl)
      have hf0 := ho' f hf
      have ne : dx ≠ a := fun z => by rw [z, ha] at hd; cases hd
      refine ⟨.ref a, e1, a, C, dx, fs, rfl, ha, ob.cls, hcs c hc C ob, by omega, ?_⟩
      rw [putF_new hf0]
      have nodT : a ∉ T ∧ dx ∉ T := by
        have n1 := List.nodup_cons.mp nd
        exact ⟨fun m => n1.1 (List.mem_cons_of_mem _ m), (List.nodup_cons.mp n1.2).1⟩
      refine fit.nx _ _ F2 _ (r2.wrtS ei (s' := .tr false (a :: dx :: T) (obD c (ds ++ [(f, x)]))) (fun b o n hb => by rw [upd_ne (fun z => n (by rw [z]; exact List.mem_cons_self ..))]; exact hb)
        ⟨.ref a, e1, nd, k, fun _ z => by (cases z), .obj upd_same (by rw [upd_ne ne]; exact hd) ob (vs := vs ++ [v]) ?_ (fun n hn' => ?_) (by simp [hl]) ?_⟩ fun b m => .inl m) s2.ex h1
      · rw [List.map_append, List.map_append, ← hn]
        have e1 : ds.map (fun p => (fs ++ [(f, v)]).lookup p.1) = ds.map (fun p => fs.lookup p.1) := List.map_congr_left fun p hp => by
          rw [lookup_app hf0, if_neg (fun z => hf (by rw [← z]; exact List.mem_map_of_mem hp))]
        rw [e1]
        show _ ++ [(fs ++ [(f, v)]).lookup f] = _ ++ [some v]
        rw [lookup_app hf0, if_pos rfl]
      · rw [List.map_append, List.mem_append, not_or] at hn'
        rw [lookup_app hf0, if_neg (fun z => hn'.2 (by rw [z]; simp))]
        exact ho' n hn'.1
      · rw [List.map_append]
        refine OtA.snoc a2 (OtA.up (fun _ _ z => z) (fun b m o hb => ?_) qa)
        rw [upd_ne (fun z => nodT.1 (by rw [← z]; exact m))]
        exact hb
    · exact h1.elim⟩
end
/-! a def __init__, and C(..) -/
abbrev DSpI := List DV → (List (Str × PyData) → Prop) → XD → Prop
def PmI (mg : Str → Option Value) (K : PySem.W.Frag) (ts : List Addr) (c : Str) (sp : DSpI) : Sp := fun vs H Q E => ∃ b F H1 x dx C dvs vs' P R, vs = .ref x :: vs' ∧ H = upd (upd H1 dx (.own x)) x (.ins C dx []) ∧ H1 x = none ∧ H1 dx = none ∧ dx ≠ x ∧ ObC K c C ∧ b.ts = ts ∧ Wd K b F H1 ∧ Paired (AgR K b F) dvs vs' ∧ sp dvs P R ∧
  (∀ ds F' H', Stp K b F H1 F' H' → Rp K F' (.ref x) (obD c ds) → P ds → Q .non H') ∧ XEnd mg K b F H1 E R
section
variable {P : Program} {w : World} {K : PySem.W.Frag} {mg : Str → Option Value} {base : Heap} {k : Nat} {f : Addr} {fd : FuncData}
theorem d_init {ts : List Addr} {c x0 qual : Str} {st : Stmt} {N ps : List Str} (Fn : L2.Fun K x0 qual st f fd) (S : FnScope N ps (defScope st))
    (hb : ∀ (kV doc pm : Value) (an : Option Addr) (cdv ct : Value) (us : List Value), us.length = ps.length → bindArgs (PySem.W.fnOf x0 qual (defArgs st) (defBody st) (defScope st) .none kV doc pm an cdv ct) { pos := us, kw := [] } = pure (ps.zip us))
    (sp : DSpI) (t : XD → DS)
    (hd : ∀ (cdv : Value) (A : Around) (outer : List Env) (s : Shared) (H : Hp) (E : XK) (R : XD) (wn : Wn), fd.code = cdv → wn.b.ts = ts → XEnd mg K wn.b wn.F wn.H E R → (A.deeper (envOfC qual (defScope st) s.heap.objs.size f cdv)).guards = some [] → Room k (A.deeper (envOfC qual (defScope st) s.heap.objs.size f cdv)) →
      Takes (cxOf (L2.CX P w) P w K mg base N qual (defScope st) f cdv A outer s H E) (fun cls d _ H => E cls d H) → DPSs (cxOf (L2.CX P w) P w K mg base N qual (defScope st) f cdv A outer s H E) wn (defBody st) (t R))
    (hv : ∀ dvs Q R x dx, sp dvs Q R → dvs.length + 1 = ps.length ∧ t R { nx := fun env => ∃ ds, env[0]? = some (.tr false [x, dx] (obD c ds)) ∧ Q ds, rt := fun _ => False } ((startD N (.d .none :: dvs)).set 0 (.tr false [x, dx] (obD c [])))) : Fg P w K mg base (L2.CX P w) (k + 1) f (PmI mg K ts c sp) := by
  intro A outer s H us vs Q E ag room e0 rv want
  obtain ⟨b, F, H1, x, dx, C, dvs, vs', R0, R, rfl, rfl, hx, hdx, ne, ob, ht, wd, ar, hsp, q, hE⟩ := want
  obtain ⟨hlen, hread⟩ := hv dvs R0 R x dx hsp
  obtain ⟨oc, od, kV, doc, pm, an, cdv, ct, osl, rfl, lk, hcd⟩ := Fn.ex
  have hvl : (V.ref x :: vs').length = ps.length := by rw [List.length_cons, ← Paired.length ar]; exact hlen
  have hul : us.length = ps.length := rv.length.symm.trans hvl
  refine StX.run_bnd (N := N) (ps := ps) lk hcd S room e0 (G := fun xs H2 => xs = V.ref x :: vs' ∧ H2 = upd (upd H1 dx (.own x)) x (.ins C dx [])) (fun A' Ex Q' h => ?_) fun s2 H2 xs g room2 => ?_
  · rw [hb kV doc pm an cdv ct us hul]
    exact wpAny_pure (h s _ (V.ref x :: vs') us e0 Un.refl rfl (fun _ _ z => z) rv hvl ⟨rfl, rfl⟩)
  · obtain ⟨rfl, rfl⟩ := g
    have s1 := wd.laidM (o := .own x) hdx
    have s2' := s1.wd.laidM (p := x) (o := .ins C dx []) (by rw [upd_ne (Ne.symm ne)]; exact hx)
    have st0 : Stp K b F H1 F (upd (upd H1 dx (.own x)) x (.ins C dx [])) := s1.trans s2'
    have fx : ∀ {a : Addr}, H1 a = none → F a = none ∧ a ≠ b.b := fun {a} ha => by
      refine ⟨?_, fun e => ?_⟩
      · cases e : F a with
        | none => rfl
        | some o => rw [wd.sub _ _ e] at ha; cases ha
      · obtain ⟨us, eb⟩ := wd.bag.lst
        rw [← e, ha] at eb; cases eb
    have r0 : Rel K b F _ (startD N (.d .none :: dvs)) (start N (V.non :: vs')) F _ := rel_start st0.wd (.cons (show AgR K b F (.d .none) V.non from Rp.non) ar)
    have r1 : Rel K b F H1 (startD N (.d .none :: dvs)) (start N (V.non :: vs')) F (upd (upd H1 dx (.own x)) x (.ins C dx [])) := Rel.unroot st0 r0
    have r2 := r1.put 0 (z := .tr false [x, dx] (obD c [])) (v := .ref x) ⟨.ref x, rfl, by simp [ne.symm], fun a m => ?_, fun _ z => (nomatch z), .obj upd_same (by rw [upd_ne ne]; exact upd_same) ob (vs := []) rfl (fun _ _ => rfl) rfl .nil⟩ (fun a m j t nj ej m2 => ?_)
    · have e1 : (start N (V.non :: vs')).set 0 (some (.ref x)) = start N (V.ref x :: vs') := by
        unfold L2.start
        simp
      rw [e1] at r2
      refine ⟨_, hd cdv A outer s2 _ E R ⟨b, F, H1⟩ rfl ht hE (guards_in ag _) room2 (takes_of rfl rfl rfl rfl), _, F, _, r2, hread, ?_⟩
      refine ⟨fun env σ F' H' r _ ⟨ds, z1, z2⟩ => ?_, fun env σ F' H' r _ z => z.elim, fun env σ F' H' r _ z => z.elim, fun dv v F' H' st rs z => z.elim⟩
      obtain ⟨v, ev, nd, kk, mr, qq⟩ := r.at' 0 _ z1
      have st := r.st.freezeT kk qq.there
      have up : Same F' (opn [x, dx] F' H') := opn_same fun l m => (kk l m).2.1
      have q1 := qq.open up fun _ m => m
      obtain ⟨a, C', dx', T, fs, ws, eS, rfl, _⟩ := ot_ob qq (by simp)
      cases eS
      exact q ds _ H' st q1 z2
    · simp only [List.mem_cons, List.not_mem_nil, or_false] at m
      rcases m with rfl | rfl
      · exact ⟨hx, fx hx⟩
      · exact ⟨hdx, fx hdx⟩
    · obtain ⟨z, _⟩ := slA_ok (r0.at' j t ej) a m2
      simp only [slA, List.mem_cons, List.not_mem_nil, or_false] at m
      rcases m with rfl | rfl
      · rw [upd_same] at z; cases z
      · rw [upd_ne ne, upd_same] at z; cases z
end
end Dl
namespace Dl
open PySem PySem.Spec PyProof.Rows L2
section
variable {X : Cx} {w : Wn} {k : Nat} {f C : Addr} {E : L2.St → XK} {R : List Sl → XD} {x m : Str} {p pos apos : Pos} {e o : Expr} {es : List Expr} {t : DA} {te : DT}
theorem args_flat {K : PySem.W.Frag} {b : Bg} {F H : Hp} {dvs : List DV} {vs : List V} (ar : Paired (ArR K b F H) dvs vs) (em : anyOw dvs = []) : Paired (AgR K b F) (dvs.map dat) vs := by
  have e1 : opn (anyOw dvs) F H = F := by rw [em, opn_nil]
  have hs : Same F (opn (anyOw dvs) F H) := by rw [e1]; exact fun _ _ z => z
  have ad := args_dat ar hs (fun l hl => hl)
  rw [e1] at ad
  exact ad
/-- C(..), C the class of name c in the module, with an __init__ of its own -/
def tMakeD (sp : DSpI) (c : Str) (R : List Sl → XD) (t : DA) : DT := fun env P => t env fun us => anyOw us = [] ∧ sp (us.map dat) (fun ds => P (.d (obD c ds))) (R env)
theorem d_make {ts : List Addr} {sp : DSpI} (M : Mk X.K C f) (ob : ObC X.K x C) (Fk : Fg X.prog X.w X.K X.mg X.base (L2.CX X.prog X.w) k f (PmI X.mg X.K ts x sp)) (ht : w.b.ts = ts) (ag : X.A.guards = some []) (room : Room (k + 1) X.A) (ps : ∀ σ, PassesAt (L2.CX X.prog X.w) X σ (E σ)) (hE : XEnS X.mg X.K w E R) (gl : Gl X x) (gm : X.mg x = some (.ref C))
    (ha : DPA X w (e :: es) t) (db : (x == ("__debug__" : Str)) = false := by decide) (s1 : starEach (e :: es) X.env = (false, eval e X.env) :: starEach es X.env := by rfl) (s2 : (backTo pos (starEach es X.env)).any (·.1) = false := by rfl) :
    DPE X w (.Call (.Name x p) (e :: es) [] pos) (tMakeD sp x R t) := by
  have base : PE X (.Call (.Name x p) (e :: es) [] pos) (fun σ H Q => lfA X.K w t σ H fun vs H1 => ∀ y dx, H1 y = none → H1 dx = none → dx ≠ y → PmI X.mg X.K ts x sp (.ref y :: vs) (upd (upd H1 dx (.own y)) y (.ins C dx [])) (fun v H2 => v = .non ∧ Q (.ref y) H2) (E σ)) := by
    refine ⟨fun pins s σ H Q I want => wpAny_Call_Name_kw (ld_glob I gl gm ?_ db)⟩
    refine PySem.W.callWith_K (h₀ := X.base) I.ok.mod.kin M.kp ?_ s1 s2
    refine thn (ha.run pos pins s σ H _ I want) fun us st ⟨vs, H1, I1, rv, q⟩ => ⟨I1.kIn, ?_⟩
    have hq := q (st.heap.objs.size + 1) st.heap.objs.size (I1.hok.fresh (Nat.le_succ _)) (I1.hok.fresh (Nat.le_refl _)) (Nat.ne_of_lt (Nat.lt_succ_self _))
    have I2 := Inv.made (C := C) I1
    have r2 : Vals (V.ref (st.heap.objs.size + 1) :: vs) (Value.ref (st.heap.objs.size + 1) :: us) := .cons rfl rv
    have hg : (X.A.under (.builtin "type.__call__" ⟨.ref C :: us, []⟩)).guards = some [] := by
      first | exact ag | (simp [Around.under, ag]) | (unfold Around.under; exact ag)
    refine wpAny_call (make_map (f := f) I1.kIn M.makes M.init (beq_iff_eq.mp M.fn) (codeAny_mono (Fk _ X.stack _ _ (Value.ref (st.heap.objs.size + 1) :: us) (V.ref (st.heap.objs.size + 1) :: vs) _ (E σ) hg (room.make C us []) (I2.env0.make C us []) r2 hq) fun r s' hq' => ?_))
    match r, hq' with
    | .error u, got => exact ps σ pins _ _ u s' I2 got
    | .ok (.ret u), got =>
      obtain ⟨v, H', I3, rv, ev, q3⟩ := I2.after got
      subst ev
      exact ⟨rv, ⟨V.ref (st.heap.objs.size + 1), H', I3, rfl, q3⟩⟩
  refine pe_weak base fun σ H Q ⟨env, F, P, r, h, q⟩ => ⟨env, F, _, r, h, fun dvs vs F1 H1 st ar ⟨em, h1⟩ y dx hy hdx ne => ?_⟩
  refine ⟨w.b, F1, H1, y, dx, C, _, vs, _, _, rfl, rfl, hy, hdx, ne, ob, ht, st.wd, args_flat ar em, h1, fun ds F' H' s3 rp hp => ⟨rfl, q (.d (obD x ds)) (.ref y) F' H' (st.trans s3) rp hp⟩, (hE env σ F H r).later st⟩
/-- o.m(..), o an object of the class of name c -/
def tMethX (c m : Str) (sp : DSpX) (R : List Sl → XD) (te : DT) (t : DA) : DT := fun env P => te env fun u => ∃ ds, u = .d (obD c ds) ∧ m ∉ ds.map Prod.fst ∧ t env fun us => anyOw us = [] ∧ sp (.d (obD c ds) :: us.map dat) P (R env)
theorem d_methX {ts : List Addr} {c : Str} {sp : DSpX} {pl : Sem Bool} (he : DPE X w o te) (cl : ∀ D, ObC X.K c D → D = C) (hm : Meth X.K C m f) (hc : Cls X.K C)
    (Fk : Fg X.prog X.w X.K X.mg X.base (L2.CX X.prog X.w) k f (PmX X.mg X.K ts sp)) (ht : w.b.ts = ts) (ag : X.A.guards = some []) (room : Room k X.A) (ps : ∀ σ, PassesAt (L2.CX X.prog X.w) X σ (E σ)) (hE : XEnS X.mg X.K w E R) (ha : DPA X w (e :: es) t)
    (e1 : starEach (e :: es) X.env = (false, eval e X.env) :: starEach es X.env := by rfl) (e2 : (backTo pos (starEach es X.env)).any (·.1) = false := by rfl)
    (htx : eval (.Call (.Attribute o m apos) (e :: es) [] pos) X.env = (do
      let ov ← eval o X.env
      standAt apos.atName
      let (g, first) ← holding [ov] (getMethod ov m pl)
      callWith pos g first (backTo pos (starEach (e :: es) X.env)) (backToKw pos (keywordEach [] X.env))) := by rfl) : DPE X w (.Call (.Attribute o m apos) (e :: es) [] pos) (tMethX c m sp R te t) := by
  have base : PE X (.Call (.Attribute o m apos) (e :: es) [] pos) (fun σ H Q => lf X.K w te σ H fun y H1 => ∃ a dx fs, y = .ref a ∧ H1 a = some (.ins C dx fs) ∧ fs.lookup m = none ∧ lfA X.K w t σ H1 fun vs H2 => PmX X.mg X.K ts sp (y :: vs) H2 Q (E σ)) := by
    refine ⟨fun pins s σ H Q I h => ?_⟩
    refine PySem.W.methodCall_KW (pl := pl) (thn (he.run pins s σ H _ I h) fun u s1 ⟨y, H1, I1, rx, a, dx, fs, ex, ea, l, q⟩ => ?_) htx
    subst ex
    obtain rfl : u = Value.ref a := rx
    refine getmeth_ok I1 ea hc hm l ?_
    refine PySem.W.callWith_K (first := [.ref a]) (h₀ := X.base) I.ok.mod.kin hm.kp (thn (ha.run pos pins s1 σ H1 _ I1 q) fun us st ⟨vs, H2, I2, rv, q2⟩ => ⟨I2.kIn, ?_⟩) e1 e2
    refine wpAny_call (codeAny_mono (Fk X.A X.stack st H2 (.ref a :: us) (.ref a :: vs) Q (E σ) ag room I2.env0 (.cons rfl rv) q2) fun res s2 got => ?_)
    match res, got with
    | .error u, got => exact ps σ pins H2 st u s2 I2 got
    | .ok (.ret u), got => exact I2.after got
  refine pe_weak base fun σ H Q ⟨env, F, P, r, h, q⟩ => ⟨env, F, _, r, h, fun dv v F1 H1 s1 r1 ⟨ds, e1, hm', h1⟩ => ?_⟩
  subst e1
  obtain ⟨a, D, dx, fs, vs0, rfl, ha, ob, hn', ho, _⟩ := ob_of (show Rp X.K F1 v (obD c ds) from r1)
  cases cl D ob
  refine ⟨a, dx, fs, rfl, s1.sub _ _ ha, ho m hm', env, F1, _, r.step s1, h1, fun dvs vs F2 H2 s2 ar ⟨em, h2⟩ => ?_⟩
  exact ⟨w.b, F2, _, _, _, ht, s2.wd, .cons (show AgR X.K w.b F2 (.d (obD c ds)) (.ref a) from Rp.up s2.ex r1) (args_flat ar em), h2, fun dv v F' H' s3 rs hp => q dv v F' H' ((s1.trans s2).trans s3) (rs.early (s1.trans s2)) hp, (hE env σ F H r).later (s1.trans s2)⟩
theorem d_methX0 {ts : List Addr} {c : Str} {sp : DSpX} {pl : Sem Bool} (he : DPE X w o te) (cl : ∀ D, ObC X.K c D → D = C) (hm : Meth X.K C m f) (hc : Cls X.K C)
    (Fk : Fg X.prog X.w X.K X.mg X.base (L2.CX X.prog X.w) k f (PmX X.mg X.K ts sp)) (ht : w.b.ts = ts) (ag : X.A.guards = some []) (room : Room k X.A) (ps : ∀ σ, PassesAt (L2.CX X.prog X.w) X σ (E σ)) (hE : XEnS X.mg X.K w E R)
    (htx : eval (.Call (.Attribute o m apos) [] [] pos) X.env = (do
      let ov ← eval o X.env
      standAt apos.atName
      let (g, first) ← holding [ov] (getMethod ov m pl)
      callWith pos g first (backTo pos (starEach [] X.env)) (backToKw pos (keywordEach [] X.env))) := by rfl) : DPE X w (.Call (.Attribute o m apos) [] [] pos) (tMethX c m sp R te tNilD) := by
  have base : PE X (.Call (.Attribute o m apos) [] [] pos) (fun σ H Q => lf X.K w te σ H fun y H1 => ∃ a dx fs, y = .ref a ∧ H1 a = some (.ins C dx fs) ∧ fs.lookup m = none ∧ PmX X.mg X.K ts sp [y] H1 Q (E σ)) := by
    refine ⟨fun pins s σ H Q I h => ?_⟩
    refine PySem.W.methodCall_KW (pl := pl) (thn (he.run pins s σ H _ I h) fun u s1 ⟨y, H1, I1, rx, a, dx, fs, ex, ea, l, q⟩ => ?_) htx
    subst ex
    obtain rfl : u = Value.ref a := rx
    refine getmeth_ok I1 ea hc hm l ?_
    refine PySem.W.callWith_K0 (first := [.ref a]) I1.kIn hm.kp ?_
    refine wpAny_call (codeAny_mono (Fk X.A X.stack s1 H1 [.ref a] [.ref a] Q (E σ) ag room I1.env0 (.cons rfl .nil) q) fun res s2 got => ?_)
    match res, got with
    | .error u, got => exact ps σ pins H1 s1 u s2 I1 got
    | .ok (.ret u), got => exact I1.after got
  refine pe_weak base fun σ H Q ⟨env, F, P, r, h, q⟩ => ⟨env, F, _, r, h, fun dv v F1 H1 s1 r1 ⟨ds, e1, hm', h1⟩ => ?_⟩
  subst e1
  obtain ⟨a, D, dx, fs, vs0, rfl, ha, ob, hn', ho, _⟩ := ob_of (show Rp X.K F1 v (obD c ds) from r1)
  cases cl D ob
  obtain ⟨_, h1⟩ := h1
  exact ⟨a, dx, fs, rfl, s1.sub _ _ ha, ho m hm', w.b, F1, _, _, _, ht, s1.wd, .cons (show AgR X.K w.b F1 (.d (obD c ds)) (.ref a) from r1) .nil, h1, fun dv v F' H' s3 rs hp => q dv v F' H' (s1.trans s3) (rs.early s1) hp, (hE env σ F H r).later s1⟩
/-- a promise without refusals, as one with them -/
def xOf (sp : DSp) : DSpX := fun us P _ => sp us P
theorem fg_x {P : Program} {w : World} {K : PySem.W.Frag} {mg : Str → Option Value} {base : Heap} {CX : CXT} {k : Nat} {f : Addr} {ts : List Addr} {sp : DSp} (h : Fg P w K mg base CX k f (Pm K ts sp)) : Fg P w K mg base CX k f (PmX mg K ts (xOf sp)) :=
  fun A outer s H us vs Q E ag room e0 rv ⟨b, F, dvs, P, R, e, wd, ar, hsp, q, _⟩ => h A outer s H us vs Q E ag room e0 rv ⟨b, F, dvs, P, e, wd, ar, hsp, q⟩
theorem ps_at {X : Cx} {CX : CXT} {E : XK} (h : Passes CX X E) : ∀ σ, PassesAt CX X σ E := fun σ pins H s e s' I got => h pins σ H s e s' I got
/-- one of two classes -/
def tEith (t u : DT) : DT := fun env P => t env P ∨ u env P
theorem d_eith {e : Expr} {t u : DT} (h : DPE X w e t) (g : DPE X w e u) : DPE X w e (tEith t u) := ⟨fun pins s σ H Q I ⟨env, F, P, r, z, q⟩ => by
  rcases z with z | z
  · exact h.run pins s σ H Q I ⟨env, F, P, r, z, q⟩
  · exact g.run pins s σ H Q I ⟨env, F, P, r, z, q⟩⟩
/-- isinstance(o, D), o an object of one of the classes cs -/
def tIsC (cs : List Str) (d : Str) (te : DT) : DT := fun env P => te env fun u => ∃ c ds, u = .d (obD c ds) ∧ c ∈ cs ∧ P (.d (.bool (c == d)))
theorem d_isC {cs : List Str} {d x2 : Str} {D : Addr} {p2 : Pos} (hcs : ∀ c ∈ cs, ∀ C, ObC X.K c C → PySem.W.kitOne X.K (.ref C) (.ref D) = some (c == d)) (gl : Gl X "isinstance") (gm : X.mg "isinstance" = none) (he : DPE X w o te) (hg : Gl X x2) (hm : X.mg x2 = some (.ref D))
    (hdb : (x2 == ("__debug__" : Str)) = false := by decide) (s1 : starEach [o, .Name x2 p2] X.env = (false, eval o X.env) :: starEach [.Name x2 p2] X.env := by rfl) : DPE X w (.Call (.Name "isinstance" p) [o, .Name x2 p2] [] pos) (tIsC cs d te) := by
  have hx : PE X (.Name x2 p2) (tC (.ref D)) := pe_glob (v := .ref D) hg hm rfl hdb
  refine pe_weak (pe_callB call_isi gl gm (by decide +kernel) (pa_cons he (pa_cons hx pa_nil) s1) (he := s1)) fun σ H Q ⟨env, F, P, r, h, q⟩ => ?_
  refine ⟨env, F, _, r, h, fun dv v F1 H1 st r1 ⟨c, ds, e1, hc, h1⟩ => ?_⟩
  subst e1
  obtain ⟨a, C, dx, fs, vs0, rfl, ha, ob, hn', ho, _⟩ := ob_of (show Rp X.K F1 v (obD c ds) from r1)
  exact ⟨_, _, _, _, _, rfl, .own D, .base (.ins (st.sub _ _ ha) ob.cls ob.ha ob.hn ob.ht ob.hm), hcs c hc C ob, q (.d (.bool (c == d))) _ F1 H1 st (Rp.bl _) h1⟩
/-! constant dicts of the module, keys texts -/
structure KCon (K : PySem.W.Frag) (w : World) (d : Addr) (ds : List (Str × PyData)) : Prop where
  ex : ∃ (es : Array DictEntry) (n : Nat), KDict K w d es n
  look : ∀ z, match ds.lookup z with
    | some y => ∃ u v, PySem.W.nsIn K d z = some (some u) ∧ RelV v u ∧ ∀ F, Rp K F v y
    | none => PySem.W.nsIn K d z = some none
/-- e in D -/
def tInK (ks : List (Str × PyData)) (te : DT) : DT := fun env P => te env fun u => ∃ z, u = .d (.str z) ∧ P (.d (.bool (ks.lookup z).isSome))
theorem d_inK {ks : List (Str × PyData)} {d : Addr} {p2 : Pos} {x2 : Str} (D : KCon X.K X.w d ks) (he : DPE X w o te) (hg : Gl X x2) (hm : X.mg x2 = some (.ref d)) (hdb : (x2 == ("__debug__" : Str)) = false := by decide)
    (hmk : behindInMarks .In (.Name x2 p2) = false := by first | exact nomark _ | rfl) : DPE X w (.Compare o [.In] [.Name x2 p2] pos) (tInK ks te) := by
  obtain ⟨⟨es, n, kd⟩, lk⟩ := D
  have hx : PE X (.Name x2 p2) (tC (.ref d)) := pe_glob (v := .ref d) hg hm rfl hdb
  refine pe_weak (pe_cmpR (op_in_kd kd) he hx hmk) fun σ H Q ⟨env, F, P, r, h, q⟩ => ?_
  refine ⟨env, F, _, r, h, fun dv v F1 H1 st r1 ⟨z, e1, h1⟩ => ?_⟩
  subst e1
  cases (show Rp X.K F1 v (.str z) from r1)
  have := lk z
  cases e : ks.lookup z with
  | some y =>
    rw [e] at this h1
    obtain ⟨u, v, h3, _⟩ := this
    exact ⟨z, some u, rfl, rfl, h3, q (.d (.bool true)) _ F1 H1 st (Rp.bl _) h1⟩
  | none =>
    rw [e] at this h1
    exact ⟨z, none, rfl, rfl, this, q (.d (.bool false)) _ F1 H1 st (Rp.bl _) h1⟩
/-- D[e] -/
def tItK (ks : List (Str × PyData)) (te : DT) : DT := fun env P => te env fun u => ∃ z y, u = .d (.str z) ∧ ks.lookup z = some y ∧ P (.d y)
theorem d_itK {ks : List (Str × PyData)} {d : Addr} {p2 : Pos} {x2 : Str} (D : KCon X.K X.w d ks) (hg : Gl X x2) (hm : X.mg x2 = some (.ref d)) (he : DPE X w o te) (hs : PlainIx o := by exact fun _ _ => rfl) (hdb : (x2 == ("__debug__" : Str)) = false := by decide) : DPE X w (.Subscript (.Name x2 p2) o pos) (tItK ks te) := by
  obtain ⟨⟨es, n, kd⟩, lk⟩ := D
  have hx : PE X (.Name x2 p2) (tC (.ref d)) := pe_glob (v := .ref d) hg hm rfl hdb
  refine pe_weak (pe_ix ix_kdict hx he hs) fun σ H Q ⟨env, F, P, r, h, q⟩ => ?_
  refine ⟨env, F, _, r, h, fun dv v F1 H1 st r1 ⟨z, y, e1, e2, h1⟩ => ?_⟩
  subst e1
  cases (show Rp X.K F1 v (.str z) from r1)
  have := lk z
  rw [e2] at this
  obtain ⟨u, v0, h3, h4, h5⟩ := this
  exact ⟨d, z, v0, rfl, rfl, ⟨es, n, u, kd.at_, kd.lit, h3, h4⟩, q (.d y) v0 F1 H1 st (h5 F1) h1⟩
end
end Dl
namespace Dl
open PySem PySem.Spec PyProof.Rows L2
/-! ### xs.count(k), whole numbers -/
section
variable {X : Cx} {w : Wn}
theorem ints_are {K : PySem.W.Frag} {F : Hp} : ∀ {ns : List Int} {vs : List V} {us : List Value}, RpA K F vs (ns.map .int) → Vals vs us → PyProof.Rows.IntsAre us ns
  | [], _, _, .nil, .nil => .nil
  | n :: ns, _, _, .cons a t, .cons b r => by
    cases a
    obtain ⟨t0, rfl⟩ := b
    exact .cons n t0 (ints_are t r)
def rCountI (K : PySem.W.Frag) : V → List V → Hp → VK → Prop := fun x xs H Q => ∃ (a : Addr) (F : Hp) (vs : List V) (ns : List Int) (k : Int), x = .ref a ∧ xs = [.int k] ∧ SqL K H a vs ∧ RpA K F vs (ns.map .int) ∧ Q (.int (ns.count k : Nat)) H
theorem mt_countI : MtR X "list.count" (rCountI X.K) := by
  intro pins s σ H x xs v us Q I rx rxs h
  obtain ⟨a, F, vs, ns, k, rfl, rfl, hs, ra, q⟩ := h
  cases rx
  obtain ⟨u, rfl, ru⟩ := rxs.one
  obtain ⟨t, rfl⟩ := ru
  obtain ⟨its, rv, ⟨⟨cls, dd, data, sls⟩, n, ho, hc, hdn, hdt⟩, hlen⟩ := I.list hs
  simp only at hc hdt
  subst hc hdt
  exact PyProof.Rows.count_list_ints (vs := its) ⟨_, ho, rfl, n, rfl⟩ (ints_are ra rv) ⟨.int (ns.count k : Nat), H, I.tok _, ⟨_, rfl⟩, q⟩
def tCntD (te : DT) (ta : DA) : DT := fun env P => te env fun u => rd u fun x => match x with
  | .list xs => ta env fun us => one us fun z => rd z fun y => ∃ (ns : List Int) (k : Int), xs = ns.map .int ∧ y = .int k ∧ P (.d (.int (ns.count k : Nat)))
  | _ => False
theorem d_count {o e : Expr} {te : DT} {ta : DA} {apos pos : Pos} (he : DPE X w o te) (ha : DPA X w [e] ta)
    (base : ∀ {to : TE} {t : TA}, PE X o to → PA X [e] t → PE X (.Call (.Attribute o "count" apos) [e] [] pos) (tBM X.K "list" (rCountI X.K) to t)) : DPE X w (.Call (.Attribute o "count" apos) [e] [] pos) (tCntD te ta) :=
  pe_weak (base he ha) fun σ H Q ⟨env, F, P, r, h, q⟩ => ⟨env, F, _, r, h, fun dv v F1 H1 s1 r1 h1 => by
    obtain ⟨x, x1, h1⟩ := rd_ok r1 h1
    split at h1
    · next xs =>
      obtain ⟨l, vs, rfl, e1, ra⟩ := x1.lst s1.sub
      refine ⟨.inl ⟨rfl, vs, SqL.of e1⟩, env, F1, _, r.step s1, h1, fun dvs us F2 H2 s2 ar h2 => ?_⟩
      obtain ⟨z, u, rfl, a, h2⟩ := one_ok ar h2
      obtain ⟨y, hy, ns, k, rfl, rfl, g⟩ := arr_rr a h2
      have x2 := (x1.step s2).all s2.sub
      cases x2 with
      | lst e2 ra2 =>
        cases hy.int
        exact ⟨l, H2, _, ns, k, rfl, rfl, SqL.of e2, ra2, q (.d (.int (ns.count k : Nat))) _ F2 H2 (s1.trans s2) (Rp.int _) g⟩
    · exact h1.elim⟩
/-! ### a list times a number -/
def gMulL : G2 := fun x y P => match x, y with
  | .list xs, .int k => 0 ≤ k ∧ k < 1000 ∧ xs.length * k.toNat ≤ 100000 ∧ P (.fr (List.replicate k.toNat xs).flatten)
  | _, _ => False
theorem rpa_rep {F : Hp} {vs : List V} {xs : List PyData} (r : RpA X.K F vs xs) : ∀ k : Nat, RpA X.K F (List.replicate k vs).flatten (List.replicate k xs).flatten
  | 0 => .nil
  | k + 1 => by
    rw [List.replicate_succ, List.replicate_succ, List.flatten_cons, List.flatten_cons]
    exact r.app (rpa_rep r k)
theorem o_mulL : OpR X (binaryOp .Mult) (lR X.K w.b gMulL) := by
  intro pins s σ H x y v u Q I rx ry h
  obtain ⟨F, dx, dy, P, wd, hx, hy, g, q⟩ := h
  unfold gMulL at g
  split at g
  · next xs k =>
    cases hy.int
    obtain ⟨l, vs, rfl, e1, r1⟩ := hx.lst wd.sub
    obtain ⟨h1, h2, h3, g⟩ := g
    exact op_rep pins s σ H _ _ v u Q I rx ry ⟨l, k, vs, rfl, rfl, e1, by omega, by omega, by rw [r1.len]; exact lim_le h3, res_new wd (rpa_rep r1 k.toNat) q g⟩
  · exact g.elim
end
end Dl
namespace Dl
open PySem PySem.Spec PyProof.Rows L2
/-! ### a law's end, the facts of the module told by names -/
theorem law_endX {l : PySem.W.OpenLaw} {k : Nat} {q : Program} {loose : List Str} {XP : (Str → Option Value) → Heap → Prop} {YP : World → Heap → Prop} {d : DefRec} {sp : PySem.W.Frag → List Addr → Sp}
    (hn : l.most = some 63) (hdf : d.params.defaults = []) (room : Room k callerA) (ag : callerA.guards = some [])
    (F : ∀ (w : World) (mg mb : Str → Option Value) (lo : List Str) (mean : ExcName → Option Value) (fa : Addr) (h : Heap), YP w h → PyProof.Rows.Top q lo mean mg mb h → mg d.name = some (.ref fa) →
      ∃ (K : PySem.W.Frag) (cs : List (Addr × Addr)), K.In h ∧ Tabs K h cs ∧ ∀ base : Heap, K.In base → base.Ns mainGlobals mg → (∀ p ∈ cs, GxR.TabB base mg p.1 p.2) → Fg l.prog w K mg base (L2.CX l.prog w) k fa (sp K (cs.map Prod.snd)))
    (hsp : ∀ (K : PySem.W.Frag) (H : Hp) (a : Addr) (ns : List Int) (ts : List Addr), ns.length ≤ 63 → (∀ t ∈ ts, GxR.TabG H t) → SqL K H a (ns.map V.int) → sp K ts [.ref a] H (fun v _ => v = .bl true) E0) :
    PySem.W.WalkO q loose XP YP l.row.toRowW d [] (fun f vs => PySem.call f vs) := by
  refine Att.attach_callB hn hdf fun w s0 st mg mb fa o pm cd doc a vs ns G Y ho hd hcd hmg hobj hints hlen hbits hg => ?_
  obtain ⟨K, cs, kin, T, fg⟩ := F w mg mb _ _ fa _ Y G.T hmg
  obtain ⟨H, base, seq, tabs, e0, kb, nb, tb, old⟩ := opening (P := l.prog) (w := w) kin G.T.g G.T.b G.T.builtins G.T.nolimit hg hobj hints (Nat.le_trans hlen (by decide)) T G.T.bmain
  have tg : ∀ t ∈ cs.map Prod.snd, GxR.TabG H t := fun t ht => by
    obtain ⟨p, hp, rfl⟩ := List.mem_map.mp ht
    exact ⟨#[], tabs p hp, by simp [TriplesOk]⟩
  refine codeAny_mono (fg base kb nb tb callerA [] st H [.ref a] [.ref a] _ _ ag room e0 (.cons rfl .nil) (hsp _ H a ns _ hlen tg seq)) fun r s2 got => ?_
  match r, got with
  | .error e, got =>
    obtain ⟨_, _, _, _, _, _, _, _, _, _, _, _, z⟩ := got
    exact z.elim
  | .ok (.ret u), got =>
    obtain ⟨v, H', os, bare, un, ok', rv, e⟩ := got
    subst e
    obtain rfl : u = Value.bool true := rv
    exact ⟨rfl, old H' _ un ok', os, bare⟩
section
variable {fa : List He.Fa} {fn : List He.DefD} {ts : List He.Tab} {tf : List He.Defn} {ex : PySem.W.Frag → Bool} {w : World} {h : Heap} {K : PySem.W.Frag}
theorem tabsX (X : K.In h) (c : He.SaysX fa fn ts tf ex w h K) : Tabs K h (tf.map (He.cT K)) := by
  refine ⟨fun p hp => ?_, fun p hp => ?_, fun p hp => ?_⟩ <;> obtain ⟨d, hd, rfl⟩ := List.mem_map.mp hp
  · exact c.empty d hd
  · exact PySem.W.codeHd_of_K X (c.hd d hd)
  · exact c.out d hd
theorem fun_ofD {x qual : Str} {st : Stmt} {f : Addr} {fd : FuncData} (F : FunD K x qual (defArgs st) (defBody st) (defScope st) [] [] f fd) : L2.Fun K x qual st f fd := by
  obtain ⟨oc, od, dV, kV, doc, pm, an, cdv, ct, osl, e, lk, cd, dv, _⟩ := F.ex
  rcases dv with ⟨_, rfl⟩ | ⟨z, _⟩
  · exact ⟨⟨oc, od, kV, doc, pm, an, cdv, ct, osl, e, lk, cd⟩, F.kp⟩
  · exact absurd rfl z
theorem code_ofD {p : He.Defn} {x qual : Str} {st : Stmt} {fd : FuncData} (F : FunD K x qual (defArgs st) (defBody st) (defScope st) [] [] (He.fAd K p) fd) : fd.code = .ref (He.cT K p).1 := by
  obtain ⟨oc, od, dV, kV, doc, pm, an, cdv, ct, osl, e, lk, cd, dv, _⟩ := F.ex
  subst e
  obtain ⟨c, rfl⟩ := He.codeIn_ref cd
  exact congrArg Value.ref (He.codeOf_eq lk rfl).symm
end
/-! ### a constant dict of the module, told by its keys and its values -/
inductive DatE (K : PySem.W.Frag) : List (Str × He.Dv) → List (Str × PyData) → Prop
  | nil : DatE K [] []
  | cons {x : Str} {v : He.Dv} {y : PyData} {kvs : List (Str × He.Dv)} {ds : List (Str × PyData)} (h : ∀ F, Rp K F (v.v K) y) (r : DatE K kvs ds) : DatE K ((x, v) :: kvs) ((x, y) :: ds)
section
variable {K : PySem.W.Frag} {w : World} {d : Addr}
theorem DatE.get {z : Str} : ∀ {kvs : List (Str × He.Dv)} {ds : List (Str × PyData)}, DatE K kvs ds → (match ds.lookup z with
    | some y => ∃ v, (z, v) ∈ kvs ∧ ∀ F, Rp K F (v.v K) y
    | none => z ∉ kvs.map Prod.fst)
  | _, _, .nil => by simp
  | (x, v) :: kvs, (_, y) :: ds, .cons h r => by
    have ih := DatE.get (z := z) r
    rw [List.lookup_cons]
    by_cases e : z = x
    · subst e
      simp only [beq_self_eq_true]
      exact ⟨v, List.mem_cons_self .., h⟩
    · have e1 : (z == x) = false := by simpa using e
      rw [e1]
      cases q : ds.lookup z with
      | some y' =>
        rw [q] at ih
        obtain ⟨v', m, r'⟩ := ih
        exact ⟨v', List.mem_cons_of_mem _ m, r'⟩
      | none =>
        rw [q] at ih
        simp only [List.map_cons, List.mem_cons, not_or]
        exact ⟨e, ih⟩
theorem keys_none {P : Params} {z : Str} : ∀ {es : List DictEntry} {ks : List Str}, es.map He.keyOf = He.keysIn P ks → z ∉ ks → es.find? (fun e => e.key.isStr z) = none ∧ es.any (·.refKey) = false
  | [], _, _, _ => ⟨rfl, rfl⟩
  | e :: r, [], h, _ => by cases h
  | e :: r, k :: ks, h, n => by
    have h1 : He.keyOf e :: r.map He.keyOf = some (k, PyData.keyHash P k) :: He.keysIn P ks := h
    injection h1 with h2 h3
    rw [List.mem_cons, not_or] at n
    obtain ⟨i1, i2⟩ := keys_none h3 n.2
    unfold He.keyOf at h2
    split at h2
    · next x t q =>
      obtain ⟨h5, _⟩ := Prod.mk.inj (Option.some.inj h2)
      subst h5
      have hr : e.refKey = false := by
        unfold DictEntry.refKey
        rw [q]
      have hs : e.key.isStr z = false := by
        rw [q]
        show (x == z) = false
        simpa using fun q : x = z => n.1 q.symm
      exact ⟨by rw [List.find?_cons, hs]; exact i1, by rw [List.any_cons, hr, i2]; rfl⟩
    · cases h2
theorem kcon_of {ks : List Str} {kvs : List (Str × He.Dv)} {ds : List (Str × PyData)} (h : He.dicW K d = some (He.keysIn w.params ks)) (hk : kvs.map Prod.fst = ks) (hv : He.valsB K d kvs = true) (hd : DatE K kvs ds) : KCon K w d ds := by
  obtain ⟨es, n, kd⟩ := He.dicW_ok h
  refine ⟨⟨es, n, kd⟩, fun z => ?_⟩
  have g := hd.get (z := z)
  cases e : ds.lookup z with
  | some y =>
    rw [e] at g
    obtain ⟨v, m, r⟩ := g
    obtain ⟨u, e1, e2⟩ := He.valsB_ok hv m
    exact ⟨u, _, e1, e2, r⟩
  | none =>
    rw [e] at g
    rw [hk] at g
    have e1 : es.toList.map He.keyOf = He.keysIn w.params ks := by
      unfold He.dicW at h
      rw [kd.at_] at h
      dsimp only at h
      split at h
      · exact Option.some.inj h
      · cases h
    obtain ⟨i1, i2⟩ := keys_none e1 g
    unfold PySem.W.nsIn
    rw [kd.at_]
    simp only [i1, i2]
    rfl
end
theorem tabW {fa : List He.Fa} {fn : List He.DefD} {ts : List He.Tab} {w : World} {K : PySem.W.Frag} (c : He.SaysT fa fn ts w K) (i : Nat) {t : He.Tab} (h : ts[i]? = some t := by rfl) : He.dicW K (t.1 K) = some (He.keysIn w.params t.2) := by
  have e : ts.map (fun t => He.dicW K (t.1 K)) = ts.map fun t => some (He.keysIn w.params t.2) := congrArg (fun z : He.AlT => z.2) c
  have e2 := congrArg (fun l => l[i]?) e
  simp only [List.getElem?_map, h, Option.map_some, Option.some.injEq] at e2
  exact e2
/-! ### a class of refusals -/
section
variable {K : PySem.W.Frag} {C : Addr}
def oexB (K : PySem.W.Frag) (C : Addr) : Bool := match K.lookup C with
  | some o => (match o.cls, o.data, o.slots.toList with
    | .type c, .cls cd, [_, _, _, _, some (.builtin n), _] => (match cd.mro with
      | .ref b :: bm => decide (c = "type") && (decide (b = C) && (decide (n = "ValueError.__new__") && (!cd.hasDel && (cd.hasDict && PySem.HandSPX.refsVE bm))))
      | _ => false)
    | _, _, _ => false)
  | none => false
theorem oexB_ok (h : oexB K C = true) (sa : PySem.W.findIn K (.ref C) "__setattr__" = some (some (.builtin "object.__setattr__"))) (eC : PySem.W.subIn K (.ref C) (.type "BaseException") = some true) (tC : PySem.W.typeIn K (.ref C) = some (.type "type")) (kC : PySem.W.keepIn K (.ref C) = true) : OexC K C := by
  refine ⟨?_, sa, eC, tC, kC⟩
  unfold oexB at h
  split at h
  · next o ho =>
    split at h
    · next c cd n a1 a2 a3 a4 a6 e1 e2 e3 =>
      split at h
      · next b bm em =>
        simp only [Bool.and_eq_true, decide_eq_true_eq, Bool.not_eq_true'] at h
        obtain ⟨rfl, rfl, rfl, z1, z2, z3⟩ := h
        obtain ⟨oc, od, dt, ⟨sl⟩⟩ := o
        obtain ⟨nm, bs, mro, ns, qn, hd, sn, sub, ab, col, del⟩ := cd
        dsimp only at e1 e2 e3 em z1 z2
        subst e1 e2 e3 em z1 z2
        exact ⟨nm, qn, ns, bs, bm, sn, sub, ab, col, od, _, _, _, _, _, ho, z3⟩
      · cases h
    · cases h
  · cases h
end
/-! ### the one class of a name -/
section
variable {K : PySem.W.Frag} {c d f : Str} {C D : Addr}
theorem ObC.uniq (a : ObC K c C) (b : ObC K c D) : D = C := by
  have e := a.name.symm.trans b.name
  cases e
  rfl
theorem na1 (a : ObC K c C) (n : NoAttr K C f) : ∀ c' ∈ [c], ∀ D, ObC K c' D → NoAttr K D f := fun c' m D b => by
  cases List.mem_singleton.mp m
  rw [a.uniq b]
  exact n
theorem is1 {E : Addr} {r : Bool} (a : ObC K c C) (h : PySem.W.kitOne K (.ref C) (.ref E) = some r) (e : (c == d) = r := by decide) : ∀ c' ∈ [c], ∀ D, ObC K c' D → PySem.W.kitOne K (.ref D) (.ref E) = some (c' == d) := fun c' m D b => by
  cases List.mem_singleton.mp m
  rw [a.uniq b, e]
  exact h
end
/-! ### a constant tuple of the module, told by its values -/
theorem tup_ofB {K : PySem.W.Frag} {x : Str} {vs : List He.Dv} {xs : List PyData} (h : He.tupB K x vs = true) (r : ∀ F, RpA K F (vs.map (He.Dv.v K)) xs) : ∀ F, Rp K F (.ref (He.ga K x)) (.tuple xs) := fun F => .tup (He.tupB_ok h F) (r F)
def okI (b : PySem.W.Frag → Bool) : PySem.W.Frag → Bool := b
theorem exsAt {bs : List (PySem.W.Frag → Bool)} {K : PySem.W.Frag} (h : (bs.all fun b => b K) = true) (i : Nat) {b : PySem.W.Frag → Bool} (e : bs[i]? = some b := by rfl) : b K = true := List.all_eq_true.mp h b (List.mem_of_getElem? e)
/-! ### the readings unfolded -/
section
variable {te : DT} {da : DA} {env : List Sl} {P : DV → Prop} {d : DK} {c m f x : Str} {cs : List Str} {R : List Sl → XD}
theorem mkE (sp : DSpI) : tMakeD sp c R da env P = da env fun us => anyOw us = [] ∧ sp (us.map dat) (fun ds => P (.d (obD c ds))) (R env) := propext ⟨fun h => h, fun h => h⟩
theorem meE (sp : DSpX) : tMethX c m sp R te da env P = te env fun u => ∃ ds, u = .d (obD c ds) ∧ m ∉ ds.map Prod.fst ∧ da env fun us => anyOw us = [] ∧ sp (.d (obD c ds) :: us.map dat) P (R env) := propext ⟨fun h => h, fun h => h⟩
theorem flE : tFldD cs f te env P = te env fun u => ∃ c ds y, u = .d (obD c ds) ∧ c ∈ cs ∧ ds.lookup f = some y ∧ P (.d y) := propext ⟨fun h => h, fun h => h⟩
theorem icE : tIsC cs x te env P = te env fun u => ∃ c ds, u = .d (obD c ds) ∧ c ∈ cs ∧ P (.d (.bool (c == x))) := propext ⟨fun h => h, fun h => h⟩
theorem inE (ks : List (Str × PyData)) : tInK ks te env P = te env fun u => ∃ z, u = .d (.str z) ∧ P (.d (.bool (ks.lookup z).isSome)) := propext ⟨fun h => h, fun h => h⟩
theorem ikE (ks : List (Str × PyData)) : tItK ks te env P = te env fun u => ∃ z y, u = .d (.str z) ∧ ks.lookup z = some y ∧ P (.d y) := propext ⟨fun h => h, fun h => h⟩
theorem xoE (sp : DSp) (us : List DV) (R : XD) : xOf sp us P R = sp us P := propext ⟨fun h => h, fun h => h⟩
theorem r0E : tRaise0 R c d env = R env c "" .none := propext ⟨fun h => h, fun h => h⟩
theorem osE (i : Nat) : tOstD cs i f te d env = te env fun dv => match frz dv, env[i]? with
  | .d x, some (.tr false S y) => ∃ c ds, y = obD c ds ∧ c ∈ cs ∧ f ∉ ds.map Prod.fst ∧ ds.length < 900 ∧ d.nx (env.set i (.tr false S (obD c (ds ++ [(f, x)]))))
  | _, _ => False := propext ⟨fun h => h, fun h => h⟩
theorem cnE : tCntD te da env P = te env fun u => rd u fun x => match x with
  | .list xs => da env fun us => one us fun z => rd z fun y => ∃ (ns : List Int) (k : Int), xs = ns.map .int ∧ y = .int k ∧ P (.d (.int (ns.count k : Nat)))
  | _ => False := propext ⟨fun h => h, fun h => h⟩
theorem mulLE (xs : List PyData) (k : Int) : gMulL (.list xs) (.int k) P = (0 ≤ k ∧ k < 1000 ∧ xs.length * k.toNat ≤ 100000 ∧ P (.fr (List.replicate k.toNat xs).flatten)) := propext ⟨fun h => h, fun h => h⟩
end
end Dl
namespace Dl
open PySem PySem.Spec PyProof.Rows L2
/-! ### lists of whole numbers -/
abbrev IL (ns : List Int) : List PyData := ns.map PyData.int
theorem il_flat : ∀ ns : List Int, (IL ns).all flP = true
  | [] => rfl
  | n :: ns => by
    show (flP (.int n) && (IL ns).all flP) = true
    rw [il_flat ns]
    rfl
theorem inV_int (n : Int) : ∀ ns : List Int, inV (toV (.int n)) ((IL ns).map toV) = decide (n ∈ ns)
  | [] => rfl
  | m :: ns => by
    show (eqV (.int m) (.int n) || inV (toV (.int n)) ((IL ns).map toV)) = _
    rw [inV_int n ns]
    show ((m == n) || _) = _
    by_cases e : m = n
    · subst e; simp
    · have e1 : (m == n) = false := by simpa using e
      have e2 : (n = m) = False := by simpa using fun z : n = m => e z.symm
      rw [e1, Bool.false_or]
      simp [e2]
theorem adj_pw {r : Int → Int → Prop} (tr : ∀ a b c, r a b → r b c → r a c) : ∀ ns : List Int, (∀ i (h : i + 1 < ns.length), r ns[i] ns[i + 1]) → ns.Pairwise r
  | [], _ => .nil
  | [a], _ => .cons (fun _ h => by cases h) .nil
  | a :: b :: l, h => by
    have ih := adj_pw tr (b :: l) fun i hi => h (i + 1) (by simpa using hi)
    have ab : r a b := h 0 (by simp)
    refine .cons (fun x hx => ?_) ih
    rcases List.mem_cons.mp hx with rfl | hx
    · exact ab
    · exact tr _ _ _ ab (List.rel_of_pairwise_cons ih hx)
theorem pw_adj {r : Int → Int → Prop} {ns : List Int} (h : ns.Pairwise r) (i : Nat) (hi : i + 1 < ns.length) : r ns[i] ns[i + 1] := List.pairwise_iff_getElem.mp h i (i + 1) (by omega) hi (by omega)
/-- the test of neighbours, as a bool over the places -/
def adjF (r : Int → Int → Bool) (ns : List Int) : PyData → Bool
  | .int i => r (ns.getD (i - 1).toNat 0) (ns.getD i.toNat 0)
  | _ => false
theorem adj_all (r : Int → Int → Bool) (tr : ∀ a b c, r a b = true → r b c = true → r a c = true) (ns : List Int) : (rngD 1 (ns.length - 1)).all (adjF r ns) = decide (ns.Pairwise fun a b => r a b = true) := by
  have e : (rngD 1 (ns.length - 1)).all (adjF r ns) = true ↔ ns.Pairwise fun a b => r a b = true := by
    rw [List.all_eq_true]
    constructor
    · intro h
      refine adj_pw tr ns fun i hi => ?_
      have z : r (ns.getD ((1 + (i : Nat) : Int) - 1).toNat 0) (ns.getD (1 + (i : Nat) : Int).toNat 0) = true := h (.int (1 + (i : Nat))) (by
        unfold rngD
        exact List.mem_map.mpr ⟨i, List.mem_range.mpr (by omega), rfl⟩)
      have e1 : ((1 + (i : Int)) - 1).toNat = i := by omega
      have e2 : (1 + (i : Int)).toNat = i + 1 := by omega
      rw [e1, e2] at z
      simpa [List.getD_eq_getElem?_getD, List.getElem?_eq_getElem (show i < ns.length by omega), List.getElem?_eq_getElem hi] using z
    · intro h x hx
      obtain ⟨i, hi, rfl⟩ := mem_rngD hx
      show r (ns.getD ((1 + (i : Nat) : Int) - 1).toNat 0) (ns.getD (1 + (i : Nat) : Int).toNat 0) = true
      have e1 : ((1 + (i : Int)) - 1).toNat = i := by omega
      have e2 : (1 + (i : Int)).toNat = i + 1 := by omega
      rw [e1, e2]
      have z := pw_adj h i (by omega)
      simpa [List.getD_eq_getElem?_getD, List.getElem?_eq_getElem (show i < ns.length by omega), List.getElem?_eq_getElem (show i + 1 < ns.length by omega)] using z
  by_cases h : ns.Pairwise fun a b => r a b = true
  · rw [decide_eq_true h]; exact e.mpr h
  · rw [decide_eq_false h]
    cases q : (rngD 1 (ns.length - 1)).all (adjF r ns) with
    | false => rfl
    | true => exact absurd (e.mp q) h
theorem rise_all (ns : List Int) : (rngD 1 (ns.length - 1)).all (adjF (fun a b => decide (a < b)) ns) = decide (ns.Pairwise (· < ·)) := by
  rw [adj_all _ (fun a b c h1 h2 => by simp only [decide_eq_true_eq] at *; omega)]
  simp only [decide_eq_true_eq]
theorem asc_all (ns : List Int) : (rngD 1 (ns.length - 1)).all (adjF (fun a b => decide (a ≤ b)) ns) = decide (ns.Pairwise (· ≤ ·)) := by
  rw [adj_all _ (fun a b c h1 h2 => by simp only [decide_eq_true_eq] at *; omega)]
  simp only [decide_eq_true_eq]
/-- a rising list has each number once, an ascending one with each number once rises -/
theorem rise_count {ns : List Int} (h : ns.Pairwise (· ≤ ·)) : ns.Pairwise (· < ·) ↔ ∀ x ∈ ns, ns.count x ≤ 1 := by
  constructor
  · intro r x hx
    have nd : ns.Nodup := List.Pairwise.imp (fun h z => by omega) r
    exact List.nodup_iff_count.mp nd x
  · intro c
    have nd : ns.Nodup := List.nodup_iff_count.mpr fun x => by
      by_cases m : x ∈ ns
      · exact c x m
      · rw [List.count_eq_zero_of_not_mem m]; omega
    exact (List.pairwise_and_iff.mpr ⟨h, nd⟩).imp fun ⟨a, b⟩ => by omega
theorem atIL {ns : List Int} {i : Int} (h0 : 0 ≤ i) (h1 : i < ns.length) : atI (IL ns) i = some (.int (ns.getD i.toNat 0)) := by
  refine atD (j := i.toNat) (by omega) ?_
  rw [List.getElem?_map, List.getD_eq_getElem?_getD, List.getElem?_eq_getElem (show i.toNat < ns.length by omega)]
  rfl
theorem ixIL {ns : List Int} {i : Int} {P : DV → Prop} (h0 : 0 ≤ i) (h1 : i < ns.length) : gIx (.list (IL ns)) (.int i) P = P (.d (.int (ns.getD i.toNat 0))) := by
  simp only [gIx, atIL h0 h1]
theorem ixIT {ns : List Int} {i : Int} {P : DV → Prop} (h0 : 0 ≤ i) (h1 : i < ns.length) : gIx (.tuple (IL ns)) (.int i) P = P (.d (.int (ns.getD i.toNat 0))) := by
  simp only [gIx, atIL h0 h1]
theorem atN {α : Type} {xs : List α} (h : xs ≠ []) : atI xs (-1) = some (xs.getLast h) := by
  have l := List.length_pos_iff.mpr h
  unfold atI ixN
  rw [if_neg (by decide), if_pos (by omega)]
  show xs[((-1 : Int) + xs.length).toNat]? = _
  rw [show ((-1 : Int) + xs.length).toNat = xs.length - 1 by omega, ← List.getLast?_eq_getElem?, List.getLast?_eq_some_getLast h]
theorem ixNL {ns : List Int} {P : DV → Prop} (h : ns ≠ []) : gIx (.list (IL ns)) (.int (-1)) P = P (.d (.int (ns.getLast h))) := by
  have e := atN (xs := IL ns) (by simpa using h)
  simp only [gIx, e, List.getLast_map]
theorem ixNT {ns : List Int} {P : DV → Prop} (h : ns ≠ []) : gIx (.tuple (IL ns)) (.int (-1)) P = P (.d (.int (ns.getLast h))) := by
  have e := atN (xs := IL ns) (by simpa using h)
  simp only [gIx, e, List.getLast_map]
theorem adj_rng {ns : List Int} : ((IL ns).length - 1 : Nat) = ns.length - 1 := by rw [List.length_map]
theorem rng_len {ns : List Int} : (((IL ns).length : Int) - 1).toNat = ns.length - 1 := by rw [List.length_map]; omega
theorem il_len (ns : List Int) : (IL ns).length = ns.length := List.length_map ..
theorem nf1 {m f : Str} {y : PyData} (h : (m == f) = false) : m ∉ List.map Prod.fst [(f, y)] := by
  intro z
  rw [List.map_cons, List.map_nil, List.mem_singleton] at z
  rw [z] at h
  simp at h
theorem mem_it {p : Int} {ms : List Int} {P : DV → Prop} {f : Bool → Bool} (h : P (.d (.bool (f (decide (p ∈ ms)))))) : gMemF f (.int p) (.tuple (IL ms)) P := ⟨rfl, il_flat ms, by rw [inV_int]; exact h⟩
theorem mem_il {p : Int} {ms : List Int} {P : DV → Prop} {f : Bool → Bool} (h : P (.d (.bool (f (decide (p ∈ ms)))))) : gMemF f (.int p) (.list (IL ms)) P := ⟨rfl, il_flat ms, by rw [inV_int]; exact h⟩
/-- a test of a number, as a test of data -/
def onI (f : Int → Bool) : PyData → Bool
  | .int i => f i
  | _ => false
theorem all_onI (f : Int → Bool) (ns : List Int) : (IL ns).all (onI f) = ns.all f := by
  rw [List.all_map]
  rfl
/-! comprehensions that keep some -/
section
variable {g : DG} {tt : DTT} {te : DT} {env : List Sl} {P : DV → Prop}
theorem lc_filter (f : PyData → Bool) {xs : List PyData} (hl : xs.length ≤ 100000) (hend : P (.fr (xs.filter f)))
    (hstep : ∀ x ∈ xs, ∀ (acc : List PyData) (R : List PyData → Prop), acc.length < 100000 → (f x = true → R (acc ++ [x])) → (f x = false → R acc) → g x env fun e2 => tt e2 fun c => if c = true then te e2 fun dv => match frz dv with
      | .d y => acc.length < 100000 ∧ R (acc ++ [y])
      | _ => False
    else R acc) : lcD g tt te env xs [] P := by
  refine lcD_ind (fun zs acc => (∀ z ∈ zs, z ∈ xs) ∧ acc ++ zs.filter f = xs.filter f ∧ acc.length + zs.length ≤ xs.length) (fun acc hI => ?_) (fun x zs acc R hI hR => ?_) _ _ ⟨fun _ z => z, rfl, by simp⟩
  · obtain ⟨_, e, _⟩ := hI
    rw [List.filter_nil, List.append_nil] at e
    rw [e]
    exact hend
  · obtain ⟨h1, e, h2⟩ := hI
    rw [List.length_cons] at h2
    refine hstep x (h1 x (List.mem_cons_self ..)) acc R (by omega) (fun q => hR _ ⟨fun z hz => h1 z (List.mem_cons_of_mem _ hz), ?_, ?_⟩) fun q => hR _ ⟨fun z hz => h1 z (List.mem_cons_of_mem _ hz), ?_, by omega⟩
    · rw [List.filter_cons_of_pos q] at e
      rw [List.append_assoc]
      exact e
    · rw [List.length_append, List.length_singleton]; omega
    · rw [List.filter_cons_of_neg (by simpa using q)] at e
      exact e
theorem lc_sub {xs : List PyData} (hl : xs.length ≤ 100000) (hend : ∀ ys : List PyData, ys.Sublist xs → P (.fr ys))
    (hstep : ∀ x ∈ xs, ∀ (acc : List PyData) (R : List PyData → Prop), acc.length < 100000 → R (acc ++ [x]) → R acc → g x env fun e2 => tt e2 fun c => if c = true then te e2 fun dv => match frz dv with
      | .d y => acc.length < 100000 ∧ R (acc ++ [y])
      | _ => False
    else R acc) : lcD g tt te env xs [] P := by
  refine lcD_ind (fun zs acc => (acc ++ zs).Sublist xs) (fun acc hI => ?_) (fun x zs acc R hI hR => ?_) _ _ (List.Sublist.refl _)
  · rw [List.append_nil] at hI
    exact hend _ hI
  · have hl2 := hI.length_le
    rw [List.length_append, List.length_cons] at hl2
    refine hstep x (hI.subset (by simp)) acc R (by omega) (hR _ ?_) (hR _ ?_)
    · rw [List.append_assoc]
      exact hI
    · exact List.Sublist.trans (List.Sublist.append (List.Sublist.refl _) (List.sublist_cons_self ..)) hI
end
theorem sub_il {ys : List PyData} {ms : List Int} (h : ys.Sublist (IL ms)) : ∃ ns : List Int, ns.Sublist ms ∧ ys = IL ns := by
  obtain ⟨ns, h1, h2⟩ := List.sublist_map_iff.mp h
  exact ⟨ns, h1, h2⟩
theorem cut_il {ms : List Int} (j : Nat) : cutD (IL ms) none (some (j : Int)) = IL (ms.take j) := by
  rw [cut_to]
  exact List.map_take.symm
theorem cut_last {ms : List Int} (h : ms ≠ []) : cutD (IL ms) (some (-1)) none = IL [ms.getLast h] := by
  have l := List.length_pos_iff.mpr h
  have e := il_len ms
  unfold cutD
  have e1 : HT.sIx (IL ms).length 0 (some (-1)) = ms.length - 1 := by
    show (if (-1 : Int) < 0 then ((-1 : Int) + ((IL ms).length : Int)).toNat else min (-1 : Int).toNat (IL ms).length) = _
    rw [if_pos (by decide)]
    omega
  have e2 : HT.sIx (IL ms).length (IL ms).length none = ms.length := e
  rw [e1, e2, ← List.map_drop]
  have z : ms.drop (ms.length - 1) = [ms.getLast h] := by
    have q := List.dropLast_concat_getLast h
    have q2 : (ms.dropLast ++ [ms.getLast h]).drop (ms.length - 1) = [ms.getLast h] := by
      rw [show ms.length - 1 = ms.dropLast.length by rw [List.length_dropLast], List.drop_left]
    rw [q] at q2
    exact q2
  rw [z, show ms.length - (ms.length - 1) = 1 by omega]
  rfl
theorem ixN_last {n : Nat} (h : 0 < n) : ixN n (-1) = some (n - 1) := by
  unfold ixN
  rw [if_neg (by decide), if_pos (by omega)]
  congr 1
  omega
theorem ixN_nat {n : Nat} {r : Int} (h0 : 0 ≤ r) (h1 : r < n) : ixN n r = some r.toNat := by
  unfold ixN
  rw [if_pos h0, if_pos h1]
theorem il_set (ns : List Int) (j : Nat) (v : Int) : (IL ns).set j (.int v) = IL (ns.set j v) := List.map_set.symm
theorem il_app (ns : List Int) (v : Int) : IL ns ++ [.int v] = IL (ns ++ [v]) := (List.map_append (f := PyData.int) (l₁ := ns) (l₂ := [v])).symm
theorem mem_set {ns : List Int} {j : Nat} {v : Int} {P : Int → Prop} (h : ∀ n ∈ ns, P n) (hv : P v) : ∀ n ∈ ns.set j v, P n := fun n hn => by
  rcases List.mem_or_eq_of_mem_set hn with m | rfl
  · exact h n m
  · exact hv
end Dl
/-! ### sorted of any data that can be compared; the least and the greatest of a list; dicts that a slot owns -/
namespace Dl
open PySem PySem.Spec PyProof.Rows L2 PySem.W
section
variable {K : PySem.W.Frag} {F : Hp}
/-- a value of the interpreter that stands for data -/
def RvD (K : PySem.W.Frag) (F : Hp) (u : Value) (x : PyData) : Prop := ∃ v : V, RelV v u ∧ Rp K F v x
theorem each_rv : ∀ {vs : List V} {xs : List PyData} {us : List Value}, RpA K F vs xs → Vals vs us → EachIs (RvD K F) us xs
  | _, _, _, .nil, .nil => .nil
  | _, _, _, .cons h t, .cons r q => .cons ⟨_, r, h⟩ (each_rv t q)
theorem rv_each : ∀ {us : List Value} {xs : List PyData}, EachIs (RvD K F) us xs → ∃ vs : List V, Vals vs us ∧ RpA K F vs xs
  | _, _, .nil => ⟨[], .nil, .nil⟩
  | _, _, .cons ⟨v, r, h⟩ t => by
    obtain ⟨vs, q1, q2⟩ := rv_each t
    exact ⟨v :: vs, .cons r q1, .cons h q2⟩
theorem reads_each {h : Heap} : ∀ {us : List Value} {xs : List PyData} {as : List Addr}, ReadsAll h us xs as → EachIs (fun v b => ∃ as, Reads h v b as) us xs
  | _, _, _, .nil => .nil
  | _, _, _, .cons h t => .cons ⟨_, h⟩ (reads_each t)
end
/-! sorted(xs) -/
def cSortG : GC := fun us P => one us fun u => rd u fun x => match x with
  | .list xs => flatA xs = true ∧ AllAlike xs ∧ Sortable xs ∧ xs.length ≤ 100000 ∧ (∀ x ∈ xs, x.depth ≤ 50) ∧ ∀ ys : List PyData, ys.Perm xs → ys.Pairwise (fun a b => dataLt b a = false) → P (.fr ys)
  | _ => False
theorem data_sorted (xs : List PyData) : (xs.mergeSort (dataLe false fun b => b)).Pairwise (fun a b => dataLt b a = false) := by
  have h := sort_pairwise (sortLe_total (listOrd itemOrd) false fun b : PyData => keyToks b) xs
  refine h.imp fun {a b} e => ?_
  have e' : (!dataLt b a) = true := e
  cases q : dataLt b a with
  | false => rfl
  | true => rw [q] at e'; cases e'
section
variable {X : Cx} {w : Wn}
theorem k_sortG (hu : X.A.units + 64 < cLine) : CallR X (.builtin "sorted") (lC X.K w.b cSortG) := by
  intro pins s σ H vs us Q I r h
  obtain ⟨F, dvs, P, wd, ar, g, q⟩ := h
  obtain ⟨u, v, rfl, a, g⟩ := one_ok ar g
  obtain ⟨x, hx, g⟩ := arr_rr a g
  split at g
  · next xs =>
    obtain ⟨hf, hal, hso, hl, hd, g⟩ := g
    obtain ⟨l, vs, rfl, e, r1⟩ := hx.lst wd.sub
    obtain ⟨its, rv, pl, hz⟩ := I.list (SqL.of e)
    rw [Vals.ref1 r]
    have e1 := each_rv r1 rv
    obtain ⟨as, ra⟩ := rpa_reads I xs vs its hf (r1.up wd.sub) rv
    have e2 := reads_each ra
    have em : xs.map (fun b => b) = xs := List.map_id' xs
    refine sorted_data (β := PyData) (enc := fun b => b) (R := RvD X.K F) pl.isList e1 e2 (by rw [em]; exact hal) (by rw [em]; exact hso) (lim_le hl) (fun b hb => by have := hd b hb; omega) fun out ho eo => ?_
    obtain ⟨ws, w1, w2⟩ := rv_each eo
    obtain ⟨ep, he'⟩ := PyProof.Rows.sortedAll_at s.heap its out.toArray
    have hlen : ws.length ≤ sizeLine := by rw [w1.length, ho]; exact lim_le hl
    exact ⟨.ref _, upd H (s.heap.objs.size + 1) (.lst ws), I.laid (t' := s.toks) (fun _ _ => PyProof.Rows.sortedAll_old) (Nat.le_succ _) ⟨hlen, out, ep, w1, he'⟩, rfl,
      res_new wd w2 q (g _ (List.mergeSort_perm ..) (data_sorted xs)) _ (I.hok.fresh (Nat.le_succ _))⟩
  · exact g.elim
end
/-! min(xs), max(xs) -/
def cMinL (le : Int → Int → Prop) : GC := fun us P => one us fun u => rd u fun x => match x with
  | .list xs => ∃ ns : List Int, xs = ns.map PyData.int ∧ 0 < ns.length ∧ ∀ m, m ∈ ns → (∀ y, y ∈ ns → le m y) → P (.d (.int m))
  | _ => False
section
variable {X : Cx} {w : Wn}
theorem k_minL (hc : X.calm = true) : CallR X (.builtin "min") (lC X.K w.b (cMinL fun m y => m ≤ y)) := by
  intro pins s σ H vs us Q I r h
  obtain ⟨F, dvs, P, wd, ar, g, q⟩ := h
  obtain ⟨u, v, rfl, a, g⟩ := one_ok ar g
  obtain ⟨x, hx, g⟩ := arr_rr a g
  split at g
  · obtain ⟨ns, rfl, hn, g⟩ := g
    obtain ⟨l, vs, rfl, e, r1⟩ := hx.lst wd.sub
    have ev := r1.ofInts
    subst ev
    exact cr_min hc pins s σ H _ us Q I r ⟨l, ns, rfl, SqL.of e, hn, fun m h1 h2 => q _ _ F H wd.refl (res_d (.int m)) (g m h1 h2)⟩
  · exact g.elim
theorem k_maxL (hc : X.calm = true) : CallR X (.builtin "max") (lC X.K w.b (cMinL fun m y => y ≤ m)) := by
  intro pins s σ H vs us Q I r h
  obtain ⟨F, dvs, P, wd, ar, g, q⟩ := h
  obtain ⟨u, v, rfl, a, g⟩ := one_ok ar g
  obtain ⟨x, hx, g⟩ := arr_rr a g
  split at g
  · obtain ⟨ns, rfl, hn, g⟩ := g
    obtain ⟨l, vs, rfl, e, r1⟩ := hx.lst wd.sub
    have ev := r1.ofInts
    subst ev
    exact cr_max hc pins s σ H _ us Q I r ⟨l, ns, rfl, SqL.of e, hn, fun m h1 h2 => q _ _ F H wd.refl (res_d (.int m)) (g m h1 h2)⟩
  · exact g.elim
end
/-! ### a dict that a slot owns: its keys numbers and texts, what it holds never changes itself -/
def kD : Key → PyData
  | .inl i => .int i
  | .inr z => .str z
abbrev dK (kvs : List (Key × PyData)) : PyData := .dict (kvs.map fun p => (kD p.1, p.2))
def lkD (kvs : List (Key × PyData)) (k : Key) : Option PyData := (kvs.find? fun p => decide (p.1 = k)).map (·.2)
def ptD (kvs : List (Key × PyData)) (k : Key) (x : PyData) : List (Key × PyData) :=
  if (kvs.any fun p => decide (p.1 = k)) = true then kvs.map (fun p => if p.1 = k then (p.1, x) else p) else kvs ++ [(k, x)]
def allN (kvs : List (Key × PyData)) : Bool := kvs.all fun p => noL p.2
/-- the same keys, and what they hold -/
def KVp (K : PySem.W.Frag) (F : Hp) : List (Key × V) → List (Key × PyData) → Prop := Paired fun p q => p.1 = q.1 ∧ Rp K F p.2 q.2
theorem kD_eq {K : PySem.W.Frag} {F : Hp} {k j : Key} (h : Rp K F (kV k) (kD j)) : k = j := by
  cases k with
  | inl i => cases j with
    | inl m => cases h; rfl
    | inr z => cases h
  | inr x => cases j with
    | inl m => cases h
    | inr z => cases h; rfl
theorem kD_rp {K : PySem.W.Frag} {F : Hp} (k : Key) : Rp K F (kV k) (kD k) := by
  cases k with
  | inl i => exact .int i
  | inr z => exact .str z
mutual
theorem noL_leaf {K : PySem.W.Frag} {F H : Hp} {dp : Bool} : ∀ {S : List Addr} {v : V} {x : PyData}, noL x = true → Ot K F H dp S v x → S = [] ∧ Rp K F v x
  | _, _, _, _, .leaf r _ => ⟨rfl, r⟩
  | _, _, _, n, .lst _ _ => by simp only [noL] at n; cases n
  | _, _, _, n, .tup h r => by
    obtain ⟨e, q⟩ := noLs_leaf (by simpa only [noL] using n) r
    exact ⟨e, .tup h q⟩
  | _, _, _, n, .dct _ _ _ => by simp only [noL] at n; cases n
  | _, _, _, n, .obj _ _ _ _ _ _ _ => by simp only [obD, noL] at n; cases n
theorem noLs_leaf {K : PySem.W.Frag} {F H : Hp} {dp : Bool} : ∀ {S : List Addr} {v : List V} {x : List PyData}, noLs x = true → OtA K F H dp S v x → S = [] ∧ RpA K F v x
  | _, _, _, _, .nil => ⟨rfl, .nil⟩
  | _, _, _, n, .cons h t => by
    rw [noLs, Bool.and_eq_true] at n
    obtain ⟨e1, q1⟩ := noL_leaf n.1 h
    obtain ⟨e2, q2⟩ := noLs_leaf n.2 t
    rw [e1, e2]
    exact ⟨rfl, .cons q1 q2⟩
end
theorem kvp_of {K : PySem.W.Frag} {F : Hp} : ∀ {us : List (Key × V)} {kvs : List (Key × PyData)}, RpA K F (us.map fun p => kV p.1) (kvs.map fun p => kD p.1) → RpA K F (us.map Prod.snd) (kvs.map Prod.snd) → KVp K F us kvs
  | [], [], _, _ => .nil
  | [], _ :: _, r, _ => by rw [List.map_nil, List.map_cons] at r; cases r
  | _ :: _, [], r, _ => by rw [List.map_nil, List.map_cons] at r; cases r
  | p :: us, q :: kvs, r, t => by
    rw [List.map_cons, List.map_cons] at r t
    cases r with
    | cons r1 r2 => cases t with
      | cons t1 t2 => exact .cons ⟨kD_eq r1, t1⟩ (kvp_of r2 t2)
theorem kvp_to {K : PySem.W.Frag} {F : Hp} {us : List (Key × V)} {kvs : List (Key × PyData)} (h : KVp K F us kvs) : RpA K F (us.map fun p => kV p.1) (kvs.map fun p => kD p.1) ∧ RpA K F (us.map Prod.snd) (kvs.map Prod.snd) := by
  unfold KVp at h
  induction h with
  | nil => exact ⟨.nil, .nil⟩
  | cons h t ih =>
    obtain ⟨e, r⟩ := h
    rw [List.map_cons, List.map_cons, List.map_cons, List.map_cons, e]
    exact ⟨.cons (kD_rp _) ih.1, .cons r ih.2⟩
theorem zip_dK (kvs : List (Key × PyData)) : ∀ {ks xs : List PyData}, ks.zip xs = kvs.map (fun p => (kD p.1, p.2)) → ks.length = xs.length → ks = kvs.map (fun p => kD p.1) ∧ xs = kvs.map Prod.snd := by
  induction kvs with
  | nil =>
    intro ks xs h hl
    cases ks with
    | nil => cases xs with
      | nil => exact ⟨rfl, rfl⟩
      | cons x xs => cases hl
    | cons k ks => cases xs with
      | nil => cases hl
      | cons x xs => cases h
  | cons p kvs ih =>
    intro ks xs h hl
    cases ks with
    | nil => cases h
    | cons k ks => cases xs with
      | nil => cases h
      | cons x xs =>
        rw [List.zip_cons_cons, List.map_cons] at h
        obtain ⟨h1, h2⟩ := List.cons.inj h
        obtain ⟨e1, e2⟩ := Prod.mk.inj h1
        obtain ⟨q1, q2⟩ := ih h2 (by simpa using hl)
        rw [List.map_cons, List.map_cons, ← q1, ← q2, e1, e2]
        exact ⟨rfl, rfl⟩
theorem allN_s : ∀ {kvs : List (Key × PyData)}, allN kvs = true → noLs (kvs.map Prod.snd) = true
  | [], _ => rfl
  | p :: kvs, h => by
    unfold allN at h
    rw [List.all_cons, Bool.and_eq_true] at h
    rw [List.map_cons, noLs, h.1, allN_s h.2]
    rfl
/-- what an owned dict is -/
theorem ot_dK {K : PySem.W.Frag} {F H : Hp} {S : List Addr} {v : V} {kvs : List (Key × PyData)} (h : Ot K F H true S v (dK kvs)) (hn : allN kvs = true) : ∃ a us, v = .ref a ∧ S = [a] ∧ H a = some (.dK us) ∧ KVp K F us kvs := by
  unfold dK at h
  generalize hd : PyData.dict (kvs.map fun p => (kD p.1, p.2)) = d at h
  cases h with
  | leaf r n =>
    have := n rfl
    rw [← hd] at this
    simp only [noL] at this
    cases this
  | lst => cases hd
  | tup => cases hd
  | @dct a S us ks xs h r q =>
    obtain ⟨e1, e2⟩ := zip_dK kvs (PyData.dict.inj hd).symm (by have a := r.len; have b := q.len; rw [List.length_map] at a b; omega)
    subst e1
    subst e2
    obtain ⟨e, q⟩ := noLs_leaf (allN_s hn) q
    rw [e]
    exact ⟨a, us, rfl, rfl, h, kvp_of r q⟩
  | obj =>
    have e := PyData.dict.inj hd
    cases kvs with
    | nil => cases e
    | cons p kvs =>
      rw [List.map_cons] at e
      obtain ⟨e1, _⟩ := List.cons.inj e
      have e2 := (Prod.mk.inj e1).1
      cases hp : p.1 with
      | inl i => rw [hp] at e2; cases e2
      | inr z => rw [hp] at e2; cases e2
theorem dK_ot {K : PySem.W.Frag} {F H : Hp} {a : Addr} {us : List (Key × V)} {kvs : List (Key × PyData)} (h : H a = some (.dK us)) (q : KVp K F us kvs) (hn : allN kvs = true) : Ot K F H true [a] (.ref a) (dK kvs) := by
  obtain ⟨q1, q2⟩ := kvp_to q
  have e : (kvs.map fun p => kD p.1).zip (kvs.map Prod.snd) = kvs.map fun p => (kD p.1, p.2) := by
    clear q q1 q2 hn
    induction kvs with
    | nil => rfl
    | cons p kvs ih => rw [List.map_cons, List.map_cons, List.map_cons, List.zip_cons_cons, ih]
  have leafs : ∀ {vs : List V} {xs : List PyData}, noLs xs = true → RpA K F vs xs → OtA K F H true [] vs xs := by
    intro vs
    induction vs with
    | nil => intro xs _ r; cases r; exact .nil
    | cons v vs ih =>
      intro xs n r
      cases r with
      | cons h t =>
        rw [noLs, Bool.and_eq_true] at n
        exact OtA.cons (S := []) (T := []) (.leaf h fun _ => n.1) (ih n.2 t)
  have := Ot.dct h q1 (leafs (allN_s hn) q2)
  rw [e] at this
  exact this
theorem KVp.get {K : PySem.W.Frag} {F : Hp} {us : List (Key × V)} {kvs : List (Key × PyData)} (h : KVp K F us kvs) (k : Key) : match lkD kvs k with
    | some x => ∃ v, valV us k = some v ∧ Rp K F v x
    | none => valV us k = none := by
  unfold KVp at h
  induction h with
  | nil => exact valV_nil
  | @cons p q ps qs h t ih =>
    obtain ⟨h1, h2⟩ := h
    unfold lkD
    rw [List.find?_cons]
    by_cases e : p.1 = k
    · rw [decide_eq_true (h1.symm.trans e)]
      exact ⟨p.2, valV_pos e, h2⟩
    · rw [decide_eq_false (fun z => e (h1.trans z)), valV_neg e]
      exact ih
theorem KVp.some {K : PySem.W.Frag} {F : Hp} {us : List (Key × V)} {kvs : List (Key × PyData)} (h : KVp K F us kvs) {k : Key} {x : PyData} (e : lkD kvs k = some x) : ∃ v, valV us k = some v ∧ Rp K F v x := by
  have q := h.get k
  rw [e] at q
  exact q
theorem KVp.is {K : PySem.W.Frag} {F : Hp} {us : List (Key × V)} {kvs : List (Key × PyData)} (h : KVp K F us kvs) (k : Key) : (valV us k).isSome = (lkD kvs k).isSome := by
  have q := h.get k
  split at q
  · next x e =>
    obtain ⟨v, e2, _⟩ := q
    rw [e, e2]
    rfl
  · next e =>
    rw [e, q]
    rfl
theorem KVp.put {K : PySem.W.Frag} {F : Hp} {us : List (Key × V)} {kvs : List (Key × PyData)} (h : KVp K F us kvs) (k : Key) {v : V} {x : PyData} (r : Rp K F v x) : KVp K F (putK us k v) (ptD kvs k x) := by
  have ea : (us.any fun p => decide (p.1 = k)) = (kvs.any fun p => decide (p.1 = k)) := by
    unfold KVp at h
    induction h with
    | nil => rfl
    | cons h t ih => rw [List.any_cons, List.any_cons, ih, h.1]
  unfold putK ptD
  rw [ea]
  by_cases e : (kvs.any fun p => decide (p.1 = k)) = true
  · rw [if_pos e, if_pos e]
    clear e ea
    unfold KVp at h ⊢
    induction h with
    | nil => exact .nil
    | @cons p q ps qs h t ih =>
      obtain ⟨h1, h2⟩ := h
      rw [List.map_cons, List.map_cons]
      refine .cons ?_ ih
      by_cases e : p.1 = k
      · rw [if_pos e, if_pos (h1.symm.trans e)]
        exact ⟨h1, r⟩
      · rw [if_neg e, if_neg (fun z => e (h1.trans z))]
        exact ⟨h1, h2⟩
  · rw [if_neg e, if_neg e]
    unfold KVp at h ⊢
    exact Paired.snoc h ⟨rfl, r⟩
theorem KVp.up {K : PySem.W.Frag} {F F' : Hp} (e : Same F F') {us : List (Key × V)} {kvs : List (Key × PyData)} (h : KVp K F us kvs) : KVp K F' us kvs := Paired.mapP h fun _ _ z => ⟨z.1, z.2.up e⟩
theorem allN_put {kvs : List (Key × PyData)} {k : Key} {x : PyData} (h : allN kvs = true) (hx : noL x = true) : allN (ptD kvs k x) = true := by
  unfold allN at h ⊢
  rw [List.all_eq_true] at h ⊢
  unfold ptD
  intro p hp
  split at hp
  · obtain ⟨q, hq, rfl⟩ := List.mem_map.mp hp
    split
    · exact hx
    · exact h q hq
  · rcases List.mem_append.mp hp with m | m
    · exact h p m
    · rw [List.mem_singleton.mp m]
      exact hx
section
variable {X : Cx} {w : Wn} {pos : Pos} {o e ei ev : Expr} {te tv : DT} {i : Nat}
/-- {}, to be owned by a slot -/
def tEmpT : DT := fun _ P => P (.ft (dK []))
theorem d_empT : DPE X w (.Dict [] [] pos) tEmpT := pe_weak pe_dnewK fun σ H Q ⟨env, F, P, r, h, q⟩ => fun p hp => by
  have wd := r.wd
  obtain ⟨vs, eb⟩ := wd.bag.lst
  have pb : p ≠ w.b.b := fun e => by rw [e, eb] at hp; cases hp
  have fp : F p = none := by
    cases e : F p with
    | none => rfl
    | some o => rw [wd.sub _ _ e] at hp; cases hp
  refine q (.ft (dK [])) _ F _ (wd.laidM hp) ⟨[p], List.nodup_cons.mpr ⟨List.not_mem_nil, .nil⟩, fun a m => ?_, dK_ot (us := []) upd_same .nil rfl⟩ h
  cases List.mem_singleton.mp m
  exact ⟨hp, fp, pb⟩
def keyD : DV → Option Key
  | .d (.int i) => some (.inl i)
  | .d (.str z) => some (.inr z)
  | .d .none => none
  | .d (.bool _) => none
  | .d (.list _) => none
  | .d (.tuple _) => none
  | .d (.dict _) => none
  | .fr _ => none
  | .ft _ => none
  | .ow _ _ => none
  | .tr _ _ _ => none
  | .raw _ => none
  | .bag => none
theorem keyD_ok {K : PySem.W.Frag} {b : Bg} {Hz F H : Hp} {dv : DV} {v : V} {k : Key} (r : Res K b Hz F H dv v) (e : keyD dv = some k) : v = kV k := by
  unfold keyD at e
  split at e <;> first | (cases e; done) | skip
  · cases e
    cases (show Rp K F v _ from r)
    rfl
  · cases e
    cases (show Rp K F v _ from r)
    rfl
/-- the dict in a slot -/
def slD (env : List Sl) (i : Nat) (kvs : List (Key × PyData)) : Prop := ∃ S, env[i]? = some (.tr true S (dK kvs)) ∧ allN kvs = true
theorem slD_ok {K : PySem.W.Frag} {b : Bg} {F₀ H₀ F H : Hp} {env : List Sl} {σ : L2.St} {kvs : List (Key × PyData)} (r : Rel K b F₀ H₀ env σ F H) (h : slD env i kvs) : ∃ a us, σ[i]? = some (some (.ref a)) ∧ env[i]? = some (.tr true [a] (dK kvs)) ∧ H a = some (.dK us) ∧ KVp K F us kvs ∧ allN kvs = true ∧ H₀ a = none ∧ F a = none ∧ a ≠ b.b := by
  obtain ⟨S, e, hn⟩ := h
  obtain ⟨v, e1, nd, k, _, q⟩ := r.at' i _ e
  obtain ⟨a, us, rfl, rfl, ha, kv⟩ := ot_dK q hn
  exact ⟨a, us, e1, e, ha, kv, hn, k a (List.mem_singleton.mpr rfl)⟩
/-- e in d -/
def tInT (i : Nat) (te : DT) : DT := fun env P => te env fun u => ∃ k kvs, keyD u = some k ∧ slD env i kvs ∧ P (.d (.bool (lkD kvs k).isSome))
theorem d_inT (hu : X.A.units + 64 < cLine) (he : DPE X w e te) (ho : PE X o (tVar i)) (hm : behindInMarks .In o = false := by first | exact nomark _ | rfl) : DPE X w (.Compare e [.In] [o] pos) (tInT i te) :=
  pe_weak (pe_cmp (pc_din (by omega) he ho) hm) fun σ H Q ⟨env, F, P, r, h, q⟩ => ⟨env, F, _, r, h, fun dv v F1 H1 s1 r1 h1 => by
    obtain ⟨k, kvs, ek, sd, h1⟩ := h1
    obtain rfl := keyD_ok r1 ek
    obtain ⟨a, us, e1, _, ha, kv, _⟩ := slD_ok (r.step s1) sd
    refine ⟨.ref a, e1, a, valV us k, rfl, DGet.k ha, ?_⟩
    rw [kv.is k]
    exact q (.d (.bool _)) _ F1 H1 s1 (Rp.bl _) h1⟩
theorem dt_inT (hu : X.A.units + 64 < cLine) (he : DPE X w e te) (ho : PE X o (tVar i)) (hm : behindInMarks .In o = false := by first | exact nomark _ | rfl) : DPT X w (.Compare e [.In] [o] pos) (tTst (tInT i te)) :=
  pt_weak (pt_cmp (pc_din (by omega) he ho) hm) fun σ H Q ⟨env, F, P, r, h, q⟩ => ⟨env, F, _, r, h, fun dv v F1 H1 s1 r1 h1 => by
    obtain ⟨k, kvs, ek, sd, h1⟩ := h1
    obtain rfl := keyD_ok r1 ek
    obtain ⟨a, us, e1, _, ha, kv, _⟩ := slD_ok (r.step s1) sd
    refine ⟨.ref a, e1, a, valV us k, rfl, DGet.k ha, ?_⟩
    rw [kv.is k]
    exact ⟨_, rfl, q _ F1 H1 s1 h1⟩⟩
/-- d[e] -/
def tGetT (i : Nat) (te : DT) : DT := fun env P => ∃ kvs, slD env i kvs ∧ te env fun u => ∃ k x, keyD u = some k ∧ lkD kvs k = some x ∧ P (.d x)
theorem d_getT (hu : X.A.units + 64 < cLine) (ho : PE X o (tVar i)) (he : DPE X w e te) (hs : NoSl e) : DPE X w (.Subscript o e pos) (tGetT i te) :=
  pe_weak (pe_dget (by omega) ho he hs) fun σ H Q ⟨env, F, P, r, ⟨kvs, sd, h⟩, q⟩ => by
    obtain ⟨a, us, e1, _⟩ := slD_ok r sd
    refine ⟨.ref a, e1, env, F, _, r, h, fun dv v F1 H1 s1 r1 h1 => ?_⟩
    obtain ⟨k, x, ek, lk, h1⟩ := h1
    obtain rfl := keyD_ok r1 ek
    obtain ⟨a', us', e1', _, ha, kv, _⟩ := slD_ok (r.step s1) sd
    rw [e1] at e1'
    cases e1'
    obtain ⟨v, ev, rv⟩ := kv.some lk
    exact ⟨a, v, rfl, by rw [← ev]; exact DGet.k ha, q (.d x) v F1 H1 s1 rv h1⟩
/-- d[k] = e -/
def tPutT (i : Nat) (tk tv : DT) : DS := fun d env => ∃ kvs, slD env i kvs ∧ kvs.length < 100000 ∧ tv env fun u => tk env fun z => ∃ k, keyD z = some k ∧ match frz u with
  | .d x => noL x = true ∧ ∀ S, d.nx (env.set i (.tr true S (dK (ptD kvs k x))))
  | _ => False
theorem kvp_len {K : PySem.W.Frag} {F : Hp} {us : List (Key × V)} {kvs : List (Key × PyData)} (h : KVp K F us kvs) : us.length = kvs.length := Paired.length h
theorem ds_putT {pos' : Pos} (hu : X.A.units + 64 < cLine) (ho : PE X o (tVar i)) (he : DPE X w e te) (hv : DPE X w ev tv) (hs : swapsWith ev (some (.Subscript o e pos')) pos.line X.env = pure false := by rfl) :
    DPS X w (.Assign [.Subscript o e pos'] ev pos) (tPutT i te tv) :=
  ps_weak (ps_dput (by omega) ho he hv hs) fun D σ H ⟨env, F, d, r, ⟨kvs, sd, hl, h⟩, fit⟩ => ⟨env, F, _, r, h, fun dv v F1 H1 s1 r1 h1 => by
    obtain ⟨a, us, e1, ei, _⟩ := slD_ok r sd
    obtain ⟨F2, s2, a2⟩ := frz_ok s1 r1
    have r2 := r.step s2
    refine ⟨.ref a, e1, env, F2, _, r2, h1, fun dv2 v2 F3 H3 s3 r3 h3 => ?_⟩
    obtain ⟨k, ek, h3⟩ := h3
    obtain rfl := keyD_ok r3 ek
    have a3 := a2.step s3
    split at h3
    · next x ex =>
      rw [ex] at a3
      obtain ⟨nx, h3⟩ := h3
      have r4 := r2.step s3
      obtain ⟨a', us', e1', ei', ha, kv, hn, h0, hf, ne⟩ := slD_ok r4 sd
      rw [e1] at e1'
      cases e1'
      refine ⟨a, _, rfl, DPut.k ha (by rw [kvp_len kv]; exact lim_lt hl), ?_⟩
      have hn' := allN_put (k := k) hn nx
      have nd : [a].Nodup := List.nodup_cons.mpr ⟨List.not_mem_nil, .nil⟩
      have r5 : RelW X.K w (env.set i (.tr true [a] (dK (ptD kvs k x)))) σ F3 (upd H3 a (.dK (putK us' k v))) := r4.wrtS ei' (fun b o n hb => by rw [upd_ne (fun z => n (by rw [z]; exact List.mem_singleton.mpr rfl))]; exact hb)
        ⟨.ref a, e1, nd, fun b m => by cases List.mem_singleton.mp m; exact ⟨h0, hf, ne⟩, fun _ => List.cons_ne_nil _ _, dK_ot upd_same (kv.put k a3) hn'⟩ fun b m => .inl m
      exact fit.nx _ _ F3 _ r5 (s2.ex.trans s3.ex) (h3 [a])
    · exact h3.elim⟩
end
/-! sorted(d.items()) -/
theorem pairs_at {P : Program} {w : World} : ∀ {es : List DictEntry} {vs : List (Key × Value)}, Pairs (mixKind P w) es vs → es.length = vs.length ∧ ∀ (j : Nat) (e : DictEntry), es[j]? = some e → ∃ kv, vs[j]? = some kv ∧ (mixKind P w).is kv.1 e.key = true ∧ e.val = kv.2
  | _, _, .nil => ⟨rfl, fun j e h => by simp at h⟩
  | _, _, .cons h1 h2 t => by
    obtain ⟨l, q⟩ := pairs_at t
    refine ⟨by rw [List.length_cons, List.length_cons, l], fun j e h => ?_⟩
    cases j with
    | zero =>
      cases (show some _ = some e from h)
      exact ⟨_, rfl, h1, h2⟩
    | succ j => exact q j e (by simpa using h)
mutual
theorem noL_as {h : Heap} : ∀ {v : Value} {d : PyData} {as : List Addr}, noL d = true → Reads h v d as → as = []
  | _, _, _, _, .none => rfl
  | _, _, _, _, .bool _ => rfl
  | _, _, _, _, .int _ _ => rfl
  | _, _, _, _, .str _ _ => rfl
  | _, _, _, n, .list _ _ _ _ => by simp only [noL] at n; cases n
  | _, _, _, n, .tuple _ _ _ r => noLs_as (by simpa only [noL] using n) r
  | _, _, _, n, .dict _ _ _ _ _ => by simp only [noL] at n; cases n
theorem noLs_as {h : Heap} : ∀ {v : List Value} {d : List PyData} {as : List Addr}, noLs d = true → ReadsAll h v d as → as = []
  | _, _, _, _, .nil => rfl
  | _, _, _, n, .cons a t => by
    rw [noLs, Bool.and_eq_true] at n
    rw [noL_as n.1 a, noLs_as n.2 t]
    rfl
end
theorem each_refs {T : Addr → PyData → Prop} : ∀ {us : List Value} {xs : List PyData}, EachIs (fun u x => ∃ b : Addr, u = .ref b ∧ T b x) us xs → ∃ bs : List Addr, us = bs.map Value.ref ∧ EachIs T bs xs
  | _, _, .nil => ⟨[], rfl, .nil⟩
  | _, _, .cons ⟨b, e, h⟩ t => by
    obtain ⟨bs, q1, q2⟩ := each_refs t
    exact ⟨b :: bs, by rw [e, q1]; rfl, .cons h q2⟩
theorem refs_rpa {K : PySem.W.Frag} {F : Hp} : ∀ {bs : List Addr} {xs : List PyData}, EachIs (fun b x => Rp K F (.ref b) x) bs xs → RpA K F (bs.map V.ref) xs
  | _, _, .nil => .nil
  | _, _, .cons h t => .cons h (refs_rpa t)
def prD (p : Key × PyData) : PyData := .tuple [kD p.1, p.2]
def rItemsK : V → List V → Hp → VK → Prop := fun x xs H Q => ∃ (a : Addr) (kvs : List (L2.Key × V)), x = .ref a ∧ xs = [] ∧ H a = some (.dK kvs) ∧ ∀ p, H p = none → Q (.ref p) (upd H p (L2.DX.itemsO p a))
theorem mt_itemsK {X : Cx} : MtR X "dict.items" rItemsK := by
  intro pins s σ H x xs v us Q I rx rxs h
  obtain ⟨a, kvs, rfl, rfl, ha, q⟩ := h
  cases rx
  cases rxs
  obtain ⟨z, hd, vs, rel, o, es, ep, ho, hx, hdat, _⟩ := dk_of I.hok ha
  refine DT.callItems (es := es) (ep := ep) hd ⟨o, ho, hx, hdat⟩ ?_
  have hf : H s.heap.objs.size = none := I.hok.fresh (Nat.le_refl _)
  exact ⟨.ref s.heap.objs.size, upd H s.heap.objs.size (L2.DX.itemsO s.heap.objs.size a), I.laid (t' := s.toks) (fun b u e => Heap.get?_push_of_some _ e) (Nat.le_refl _) (L2.DX.itemsO_ok (Heap.get?_push_size _ rfl)), rfl, q _ hf⟩
def rSortV (K : PySem.W.Frag) : List V → Hp → VK → Prop := fun vs H Q => ∃ (p a : Addr) (us : List (Key × V)) (kvs : List (Key × PyData)) (F : Hp), vs = [.ref p] ∧ H p = some (L2.DX.itemsO p a) ∧ H a = some (.dK us) ∧ KVp K F us kvs ∧ Same F H ∧ allN kvs = true ∧
  flatA (kvs.map prD) = true ∧ AllAlike (kvs.map prD) ∧ kvs.length ≤ 100000 ∧ (∀ x ∈ kvs.map prD, x.depth ≤ 50) ∧
  ∀ (H' : Hp) (l : Addr) (as : List Addr) (ws : List V) (ys : List PyData), (∀ b o, H b = some o → H' b = some o) → (∀ b ∈ as, H b = none) → H l = none → l ∉ as → H' l = some (.lst ws) → RpA K (opn as F H') ws ys → ys.Perm (kvs.map prD) → ys.Pairwise (fun a b => dataLt b a = false) → Q (.ref l) H'
theorem cr_sortV {X : Cx} (hc : X.calm = true) (hu : X.A.units + 64 < cLine) : CallR X (.builtin "sorted") (rSortV X.K) := by
  intro pins s σ H xs us' Q I r h
  obtain ⟨p, a, us, kvs, F, rfl, hp, ha, hkv, hsub, hn, hfl, hal, hlen, hdep, q⟩ := h
  obtain rfl := Vals.ref1 r
  have view : s.heap.IsItemsView p a := (show ObjOk X.prog X.w H s.heap p (L2.DX.itemsO p a) from I.hok p _ hp).1
  obtain ⟨z, hd, vs, rel, o, es, ep, ho, hx, hdat, hks, hps, hnd⟩ := dk_of I.hok ha
  obtain ⟨l2, pat⟩ := pairs_at hps
  have l1 : us.length = vs.length := Paired.length rel
  have l0 : us.length = kvs.length := kvp_len hkv
  have les : es.size = kvs.length := by rw [← Array.length_toList]; omega
  have hh : X.A.handled = none := I.ok.hd hc
  refine DT.sortedI (es := es) (ep := ep) hh view ⟨o, ho, hx, hdat⟩ (by rw [les]; exact lim_le hlen) fun h' tk as hk hlt hl hG => ?_
  have lak : as.length = kvs.length := by omega
  have nd : as.Nodup := List.Pairwise.imp (fun h => Nat.ne_of_lt h) hG.rise
  -- the pairs that were made
  have pr : ∀ (j : Nat) (b : Addr), as[j]? = some b → ∃ (e : DictEntry) (u : Key × V) (d : Key × PyData), us[j]? = some u ∧ kvs[j]? = some d ∧ u.1 = d.1 ∧ RelV (kV u.1) e.key ∧ RelV u.2 e.val ∧ Rp X.K F u.2 d.2 ∧ h'.get? b = some { cls := .type "tuple", data := .seq #[e.key, e.val] } := by
    intro j b hj
    obtain ⟨en, he, hg⟩ := hG.pairs j b hj
    rw [← Array.getElem?_toList] at he
    obtain ⟨kv, e1, e2, e3⟩ := pat j en he
    obtain ⟨u, e4, e5, e6⟩ := L2.DX.pget rel e1
    have jl : j < kvs.length := by rw [← lak]; exact (List.getElem?_eq_some_iff.mp hj).1
    obtain ⟨u', f1, f2, f3⟩ := L2.DX.pget hkv (List.getElem?_eq_getElem jl)
    rw [e4] at f1
    cases f1
    refine ⟨en, u, _, e4, List.getElem?_eq_getElem jl, f2, ?_, by rw [e3]; exact e6, f3, hg⟩
    rw [e5]
    rcases keyIs_shape (show keyIs kv.1 en.key = true from e2) with ⟨i, t, q1, q2⟩ | ⟨x, t, q1, q2⟩
    · rw [q1, q2]; exact ⟨t, rfl⟩
    · rw [q1, q2]; exact ⟨t, rfl⟩
  -- the heap of the sort
  have hob : (h'.push { cls := .type "list", data := .seq (as.map Value.ref).toArray }).get? h'.objs.size = some (seqObj "list" (as.map Value.ref).toArray 0) := Heap.get?_push_size _ rfl
  have kb : ∀ b o, s.heap.get? b = some o → (h'.push { cls := .type "list", data := .seq (as.map Value.ref).toArray }).get? b = some o := fun b o e => Heap.get?_push_of_some _ (hk b o e)
  have ne0 : ∀ b o, h'.get? b = some o → b ≠ h'.objs.size := fun b o e => Nat.ne_of_lt (Heap.lt_size e)
  generalize hh2 : h'.push { cls := .type "list", data := .seq (as.map Value.ref).toArray } = h2 at hob kb ⊢
  have ka : ∀ b o, h'.get? b = some o → h2.get? b = some o := fun b o e => by rw [← hh2]; exact Heap.get?_push_of_some _ e
  have noLk : ∀ d ∈ kvs, noL d.2 = true := List.all_eq_true.mp hn
  have eachR : EachIs (fun (u : Value) (x : PyData) => ∃ b : Addr, u = .ref b ∧ ∃ (j : Nat) (d : Key × PyData), as[j]? = some b ∧ kvs[j]? = some d ∧ x = prD d) (as.map Value.ref) (kvs.map prD) := by
    refine EachIs.of_zip (by rw [List.length_map, List.length_map, lak]) fun pq hm => ?_
    obtain ⟨j, hj⟩ := List.mem_iff_getElem?.mp hm
    obtain ⟨h1, h2⟩ := List.getElem?_zip_eq_some.mp hj
    rw [List.getElem?_map] at h1 h2
    cases e1 : as[j]? with
    | none => rw [e1] at h1; cases h1
    | some b => cases e2 : kvs[j]? with
      | none => rw [e2] at h2; cases h2
      | some d =>
        rw [e1] at h1
        rw [e2] at h2
        exact ⟨b, (Option.some.inj h1).symm, j, d, e1, e2, (Option.some.inj h2).symm⟩
  have em : (kvs.map prD).map (fun b => b) = kvs.map prD := List.map_id' _
  have flk : ∀ {xs : List PyData}, flatA xs = true → ∀ x ∈ xs, flatD x = true := by
    intro xs
    induction xs with
    | nil => intro _ x hx; cases hx
    | cons y ys ih =>
      intro hf x hx
      rw [flatA, Bool.and_eq_true] at hf
      rcases List.mem_cons.mp hx with rfl | hx
      · exact hf.1
      · exact ih hf.2 x hx
  have er : EachIs (fun (v : Value) (b : PyData) => ∃ as, Reads h2 v b as ∧ h'.objs.size ∉ as) (as.map Value.ref) (kvs.map prD) := by
    refine eachR.mono fun u x hq => ?_
    obtain ⟨b, eu, j, d, h1, h2', ex⟩ := hq
    obtain ⟨e, u', d', h3, h4, h5, h6, h7, h8, h9⟩ := pr j b h1
    rw [h2'] at h4
    cases h4
    have hdm := List.mem_of_getElem? h2'
    have fl := flk hfl (prD d) (List.mem_map_of_mem hdm)
    have fl2 : flatD d.2 = true := by
      unfold prD at fl
      simp only [flatD, flatA, Bool.and_eq_true] at fl
      exact fl.2.1
    obtain ⟨as', ra⟩ := rp_reads I d.2 u'.2 e.val fl2 (h8.up hsub) h7
    obtain rfl := noL_as (noLk d hdm) ra
    have rk : Reads s.heap e.key (kD d.1) [] := by
      rw [← h5]
      cases hq : u'.1 with
      | inl i => rw [hq] at h6; obtain ⟨t, et⟩ := h6; rw [et]; exact .int i t
      | inr y => rw [hq] at h6; obtain ⟨t, et⟩ := h6; rw [et]; exact .str y t
    refine ⟨[], ?_, List.not_mem_nil⟩
    rw [eu, ex]
    exact Reads.tuple (ka _ _ h9) rfl rfl (.cons (as := []) (PyProof.Rows.Reads.keeps kb rk) (.cons (as := []) (PyProof.Rows.Reads.keeps kb ra) .nil))
  have hso : Sortable (kvs.map prD) := .inl fun d hd => by
    obtain ⟨d, _, rfl⟩ := List.mem_map.mp hd
    exact ⟨_, _, rfl⟩
  refine list_sort_data (A := X.A.in1) (s := { s with heap := h2, toks := tk }) (β := PyData) (enc := fun b => b) (n := 0) hob eachR er (by rw [em]; exact hal) (by rw [em]; exact hso) (by rw [List.length_map]; exact lim_le hlen) (fun x hx => by
      have := hdep x hx
      show X.A.units + 1 + 1 + x.depth < cLine
      omega) fun out lo eo => ?_
  show EP X pins σ Q (.ref h'.objs.size) { s with heap := sortedHeap h2 h'.objs.size (as.map Value.ref) (List.toArray out), toks := tk }
  have kF : ∀ b o, b ≠ h'.objs.size → h2.get? b = some o → (sortedHeap h2 h'.objs.size (as.map Value.ref) (List.toArray out)).get? b = some o := fun b o hb e => (PyProof.Rows.sortedHeap_old hb (Heap.lt_size e)).trans e
  have kS : ∀ b o, s.heap.get? b = some o → (sortedHeap h2 h'.objs.size (as.map Value.ref) (List.toArray out)).get? b = some o := fun b o e => kF b o (ne0 _ _ (hk b o e)) (kb b o e)
  obtain ⟨eF, heF⟩ := PyProof.Rows.sortedHeap_at (vs := as.map Value.ref) (out := List.toArray out) hob
  have I1 : Inv X pins σ H { s with heap := sortedHeap h2 h'.objs.size (as.map Value.ref) (List.toArray out), toks := tk } := I.kept (t' := tk) kS
  have hn0 : H h'.objs.size = none := I.hok.fresh (Nat.le_of_lt hlt)
  obtain ⟨bs, eb, eo⟩ := each_refs eo
  have w1 : Vals (bs.map V.ref) out := by
    rw [eb]
    exact vals_maps V.ref Value.ref bs fun _ _ => rfl
  have I2 : Inv X pins σ (upd H h'.objs.size (.lst (bs.map V.ref))) { s with heap := sortedHeap h2 h'.objs.size (as.map Value.ref) (List.toArray out), toks := tk } :=
    I1.take (h' := sortedHeap h2 h'.objs.size (as.map Value.ref) (List.toArray out)) (t' := tk) (fun b ob _ e => e) (I.fpOk (Nat.le_of_lt hlt) hn0) ⟨by rw [w1.length, lo, List.length_map]; exact lim_le hlen, out, eF, w1, heF⟩
  obtain ⟨H1, I3, g, qt⟩ := L2.DX.takeT (P := fun b vs => ∃ (j : Nat) (u : Key × V), as[j]? = some b ∧ us[j]? = some u ∧ vs = [kV u.1, u.2]) I as _ I2 nd fun b hb => by
    obtain ⟨j, hj⟩ := List.mem_iff_getElem?.mp hb
    obtain ⟨e, u', d', h3, h4, h5, h6, h7, h8, h9⟩ := pr j b hj
    have hbl : s.heap.objs.size ≤ b := Nat.le_of_lt (hG.above b hb)
    refine ⟨hbl, ?_, [kV u'.1, u'.2], ⟨j, u', hj, h3, rfl⟩, fun H3 => ⟨(by rw [sizeLine_eq]; show 2 ≤ 16777216; omega), [e.key, e.val], .cons h6 (.cons h7 .nil), ⟨_, kF _ _ (ne0 _ _ h9) (ka _ _ h9), rfl, 0, rfl⟩⟩⟩
    rw [upd_ne (ne0 _ _ h9)]
    exact I.hok.fresh hbl
  have lna : h'.objs.size ∉ as := fun m => Nat.lt_irrefl _ (hG.there m)
  have asN : ∀ b ∈ as, H b = none := fun b hb => I.hok.fresh (Nat.le_of_lt (hG.above b hb))
  have gr : ∀ b o, H b = some o → H1 b = some o := fun b o e => g b o (by rw [upd_ne (ne_of_none e hn0)]; exact e)
  have sm : Same F (opn as F H1) := opn_same fun l m => by
    cases hF : F l with
    | none => rfl
    | some o => have := hsub l o hF; rw [asN l m] at this; cases this
  have eo2 : EachIs (fun b x => Rp X.K (opn as F H1) (.ref b) x) bs ((kvs.map prD).mergeSort (dataLe false fun b => b)) := by
    refine eo.mono fun b x hq => ?_
    obtain ⟨j, d, h1, h2', ex⟩ := hq
    have hbm := List.mem_of_getElem? h1
    obtain ⟨vs', ⟨j2, u2, j1, j3, ev⟩, hH⟩ := qt b hbm
    have eij : j = j2 := (List.getElem?_inj (List.getElem?_eq_some_iff.mp h1).1 nd).mp (h1.trans j1.symm)
    subst eij
    obtain ⟨e, u', d', h3, h4, h5, h6, h7, h8, h9⟩ := pr j b h1
    rw [h2'] at h4
    cases h4
    rw [j3] at h3
    cases h3
    rw [ex]
    refine .tup (vs := [kV u2.1, u2.2]) (SqT.of ?_) (.cons ?_ (.cons (h8.up sm) .nil))
    · unfold opn
      rw [if_pos hbm, hH, ev]
    · rw [h5]
      exact kD_rp _
  exact ⟨.ref h'.objs.size, H1, I3, rfl, q H1 h'.objs.size as _ _ gr asN hn0 lna (g _ _ upd_same) (refs_rpa eo2) (List.mergeSort_perm ..) (data_sorted _)⟩
/-- sorted(d.items()), d a dict in a slot -/
def tSortIt (i : Nat) : DT := fun env P => ∃ kvs, slD env i kvs ∧ flatA (kvs.map prD) = true ∧ AllAlike (kvs.map prD) ∧ kvs.length ≤ 100000 ∧ (∀ x ∈ kvs.map prD, x.depth ≤ 50) ∧ ∀ ys : List PyData, ys.Perm (kvs.map prD) → ys.Pairwise (fun a b => dataLt b a = false) → P (.fr ys)
theorem stp_opn {K : PySem.W.Frag} {b : Bg} {F H H' : Hp} {as : List Addr} (wd : Wd K b F H) (g : ∀ a o, H a = some o → H' a = some o) (hn : ∀ a ∈ as, H a = none) : Stp K b F H (opn as F H') H' := by
  have fn : ∀ a ∈ as, F a = none := fun a m => by
    cases hF : F a with
    | none => rfl
    | some o => have := wd.sub a o hF; rw [hn a m] at this; cases this
  have sm : Same F (opn as F H') := opn_same fn
  have at0 : ∀ a, a ∉ as → opn as F H' a = F a := fun a m => if_neg m
  obtain ⟨vs, eb⟩ := wd.bag.lst
  have nb : b.b ∉ as := fun m => by rw [hn _ m] at eb; cases eb
  refine ⟨fun a o _ _ h => g a o h, wd.bag.up sm ((g _ _ eb).trans eb.symm) (fun t _ h1 h2 => ?_), sm, fun a o h => ?_, by rw [at0 _ nb]; exact wd.fb, fun a h1 h2 => ?_, fun a ps _ h => ⟨ps, g _ _ h, fun z => z⟩⟩
  · obtain ⟨ps, z, k⟩ := h2
    exact ⟨by rw [at0 _ (fun m => by rw [hn _ m] at z; cases z)]; exact h1, ps, g _ _ z, k⟩
  · unfold opn at h
    split at h
    · exact h
    · exact g _ _ (wd.sub _ _ h)
  · rw [at0 _ (fun m => h2 (hn _ m))]
    exact h1
section
variable {X : Cx} {w : Wn} {pos p ap cp : Pos} {o : Expr} {i : Nat}
theorem d_sortIt (hc : X.calm = true) (hu : X.A.units + 64 < cLine) (gl : Gl X "sorted") (gm : X.mg "sorted" = none) (ho : PE X o (tVar i)) (hb : attributeBase o "items" X.env (eval o X.env) = eval o X.env := by rfl) (hline : (ap.endLine == cp.line) = true := by rfl)
    (he : starEach [.Call (.Attribute o "items" ap) [] [] cp] X.env = (false, eval (.Call (.Attribute o "items" ap) [] [] cp) X.env) :: starEach [] X.env := by rfl) (hpl : (backTo pos (starEach [] X.env)).any (·.1) = false := by rfl)
    (hs : starEach [.Call (.Attribute o "items" ap) [] [] cp] X.env = [(false, eval (.Call (.Attribute o "items" ap) [] [] cp) X.env)] := by rfl) :
    DPE X w (.Call (.Name "sorted" p) [.Call (.Attribute o "items" ap) [] [] cp] [] pos) (tSortIt i) :=
  pe_weak (pe_callB (cr_sortV hc hu) gl gm (by decide +kernel) (pa_cons (pe_bm0 PySem.F.plainAttrs_dict PySem.F.slot_dict_items PySem.F.type_dict_items mt_itemsK ho hb hline) pa_nil) (by decide) (by decide) he hpl) fun σ H Q ⟨env, F, P, r, ⟨kvs, sd, h1, h2, h3, h4, h⟩, q⟩ => by
    obtain ⟨a, us, e1, _, ha, kv, hn, _⟩ := slD_ok r sd
    refine ⟨.ref a, e1, .inr (.inr (.inl ⟨rfl, .inl ⟨us, ha⟩⟩)), a, us, rfl, rfl, ha, fun v hv => ?_⟩
    have s1 := r.wd.laidM (o := L2.DX.itemsO v a) hv
    have wd1 := s1.wd
    have ha1 : upd H v (L2.DX.itemsO v a) a = some (.dK us) := by rw [upd_ne (ne_of_none ha hv)]; exact ha
    refine ⟨v, a, us, kvs, F, rfl, upd_same, ha1, kv, wd1.sub, hn, h1, h2, h3, h4, fun H' l as ws ys g asN hl ln el ra pm so => ?_⟩
    have s2 := stp_opn wd1 g asN
    have fl : F l = none := by
      cases hF : F l with
      | none => rfl
      | some o => have := wd1.sub l o hF; rw [hl] at this; cases this
    obtain ⟨bvs, eb⟩ := wd1.bag.lst
    have hl0 : H l = none := by
      cases e : H l with
      | none => rfl
      | some o => have := s1.keep l o (fun z => by rw [z, eb] at hl; cases hl) (fun ps z => by
          subst z
          obtain ⟨qs, hq, _⟩ := s1.tab l ps (fun z => by rw [z, eb] at hl; cases hl) e
          rw [hq] at hl
          cases hl) e; rw [hl] at this; cases this
    refine q (.fr ys) (.ref l) _ H' (s1.trans s2) ⟨l, ws, rfl, hl0, ?_, (fun z => by rw [z, eb] at hl; cases hl), el, ra⟩ (h ys pm so)
    show (if l ∈ as then H' l else F l) = none
    rw [if_neg ln]
    exact fl
end
end Dl
/-! ### what points count at the marks of a scale, in parts of one bottom -/
namespace Dl
open PySem PySem.Spec PyProof.Rows L2 PySem.W
/-- what each number from 1 to n divides -/
def lcmTo : Nat → Nat
  | 0 => 1
  | n + 1 => Nat.lcm (lcmTo n) (n + 1)
theorem lcmTo_pos : ∀ n, 0 < lcmTo n
  | 0 => Nat.one_pos
  | n + 1 => Nat.lcm_pos (lcmTo_pos n) (Nat.succ_pos n)
theorem lcmTo_dvd : ∀ {n k : Nat}, 1 ≤ k → k ≤ n → k ∣ lcmTo n
  | 0, k, h1, h2 => by omega
  | n + 1, k, h1, h2 => by
    by_cases e : k = n + 1
    · subst e
      exact Nat.dvd_lcm_right ..
    · exact Nat.dvd_trans (lcmTo_dvd h1 (by omega)) (Nat.dvd_lcm_left ..)
def DD : Int := (lcmTo 1000 : Nat)
theorem lcm_big : lcmTo 1000 < 2 ^ 1500 := by decide +kernel
theorem DD_pos : 0 < DD := Int.natCast_pos.mpr (lcmTo_pos 1000)
theorem DD_ne : DD ≠ 0 := Int.ne_of_gt DD_pos
theorem DD_lt : DD.natAbs < 2 ^ 1500 := by
  unfold DD
  rw [Int.natAbs_natCast]
  exact lcm_big
theorem DD_dvd {g : Int} (h1 : 1 ≤ g) (h2 : g ≤ 1000) : g ∣ DD := by
  obtain ⟨k, rfl⟩ := Int.eq_ofNat_of_zero_le (show 0 ≤ g by omega)
  unfold DD
  exact Int.natCast_dvd_natCast.mpr (lcmTo_dvd (by omega) (by omega))
/-- the fraction of n parts -/
def frT (n : Int) : Int := loT n DD
def frB (n : Int) : Int := loB n DD
def frP (n : Int) : PyData := .tuple [.int (frT n), .int (frB n)]
theorem frN (n : Int) : Nu DD n (frT n) (frB n) := by
  obtain ⟨k1, k2⟩ := lo_ok (t := n) DD_ne
  exact ⟨k1, k2⟩
theorem frEq {n p q : Int} (h : Nu DD n p q) : p = frT n ∧ q = frB n := h.one DD_ne (frN n)
theorem frD {n p q : Int} (h : Nu DD n p q) : PyData.tuple [.int p, .int q] = frP n := by
  obtain ⟨rfl, rfl⟩ := frEq h
  rfl
theorem fr_one : frP DD = .tuple [.int 1, .int 1] := (frD ⟨⟨by decide, by decide⟩, rfl⟩).symm
theorem fr_zero : frP 0 = .tuple [.int 0, .int 1] := (frD nu_zero).symm
theorem fr_pos {n : Int} : 0 < frT n ↔ 0 < n := by
  obtain ⟨f, e⟩ := frN n
  have h := f.pos
  have d := DD_pos
  constructor
  · intro a
    have : 0 < n * frB n := by rw [e]; exact Int.mul_pos d a
    exact Int.pos_of_mul_pos_left this h
  · intro a
    have : 0 < DD * frT n := by rw [← e]; exact Int.mul_pos a h
    exact Int.pos_of_mul_pos_right this d
/-- a rising list of points -/
abbrev Rise (ms : List Int) : Prop := ms.Pairwise (· < ·)
/-- what a point counts, mark by mark -/
def sh : List Int → Int → List (Int × Int)
  | [], _ => []
  | a :: t, p => if p = a then [(a, DD)] else match t with
    | [] => []
    | b :: _ => if a < p ∧ p < b then [(a, DD / (b - a) * (b - p)), (b, DD / (b - a) * (p - a))] else sh t p
def cAt (m : Int) (l : List (Int × Int)) : Int := (l.map fun q => if q.1 = m then q.2 else 0).sum
/-- what points count at a mark -/
def wS (ms ps : List Int) (m : Int) : Int := (ps.map fun p => cAt m (sh ms p)).sum
theorem sh_in : ∀ {ms : List Int} {p : Int}, Rise ms → p ∈ ms → sh ms p = [(p, DD)]
  | [], _, _, h => by cases h
  | a :: t, p, r, h => by
    unfold sh
    by_cases e : p = a
    · rw [if_pos e, e]
    · rw [if_neg e]
      have hp : p ∈ t := by
        rcases List.mem_cons.mp h with z | z
        · exact absurd z e
        · exact z
      obtain ⟨r1, r2⟩ := List.pairwise_cons.mp r
      cases t with
      | nil => cases hp
      | cons b t =>
        have : ¬ (a < p ∧ p < b) := by
          rintro ⟨_, z⟩
          rcases List.mem_cons.mp hp with y | y
          · omega
          · have := (List.pairwise_cons.mp r2).1 p y
            omega
        simp only [this, if_false]
        exact sh_in r2 hp
theorem sh_two : ∀ {ms : List Int} {p a b : Int}, Rise ms → a ∈ ms → b ∈ ms → a < p → p < b → p ∉ ms → (∀ y ∈ ms, y < p → y ≤ a) → (∀ y ∈ ms, p < y → b ≤ y) → sh ms p = [(a, DD / (b - a) * (b - p)), (b, DD / (b - a) * (p - a))]
  | [], _, _, _, _, h, _, _, _, _, _, _ => by cases h
  | x :: t, p, a, b, r, ha, hb, h1, h2, hp, ka, kb => by
    obtain ⟨r1, r2⟩ := List.pairwise_cons.mp r
    unfold sh
    have e : p ≠ x := fun z => hp (by rw [z]; exact List.mem_cons_self ..)
    rw [if_neg e]
    cases t with
    | nil =>
      rcases List.mem_cons.mp ha with rfl | z
      · rcases List.mem_cons.mp hb with rfl | z
        · omega
        · cases z
      · cases z
    | cons y t =>
      by_cases c : x < p ∧ p < y
      · simp only [c, and_self, if_true]
        have hlow : ∀ z ∈ y :: t, p < z := fun z hz => by
          rcases List.mem_cons.mp hz with rfl | hz
          · exact c.2
          · have := (List.pairwise_cons.mp r2).1 z hz
            omega
        have ea : a = x := by
          rcases List.mem_cons.mp ha with z | z
          · exact z
          · have := hlow a z
            omega
        have eb : b = y := by
          have k := kb y (List.mem_cons_of_mem _ (List.mem_cons_self ..)) c.2
          rcases List.mem_cons.mp hb with z | z
          · omega
          · rcases List.mem_cons.mp z with z | z
            · exact z
            · have := (List.pairwise_cons.mp r2).1 b z
              omega
        rw [ea, eb]
      · simp only [c, if_false]
        have hy : y ≠ p := fun z => hp (by rw [← z]; exact List.mem_cons_of_mem _ (List.mem_cons_self ..))
        have xp : x < p := by
          rcases List.mem_cons.mp ha with z | z
          · omega
          · have := r1 a z
            omega
        have yp : y < p := by omega
        have ya := ka y (List.mem_cons_of_mem _ (List.mem_cons_self ..)) yp
        have xy := r1 y (List.mem_cons_self ..)
        have ha' : a ∈ y :: t := by
          rcases List.mem_cons.mp ha with z | z
          · omega
          · exact z
        have hb' : b ∈ y :: t := by
          rcases List.mem_cons.mp hb with z | z
          · omega
          · exact z
        exact sh_two r2 ha' hb' h1 h2 (fun z => hp (List.mem_cons_of_mem _ z)) (fun z hz => ka z (List.mem_cons_of_mem _ hz)) (fun z hz => kb z (List.mem_cons_of_mem _ hz))
/-- a point that lies on the scale is a mark, or between two neighbours -/
theorem sh_where : ∀ {ms : List Int} {p : Int} (ne : ms ≠ []), Rise ms → ms.head ne ≤ p → p ≤ ms.getLast ne → p ∈ ms ∨ ∃ i, ∃ h : i + 1 < ms.length, ms[i] < p ∧ p < ms[i + 1]
  | [], _, ne, _, _, _ => absurd rfl ne
  | [a], p, _, _, h1, h2 => .inl (by
    have h1 : a ≤ p := h1
    have h2 : p ≤ a := h2
    rw [show p = a by omega]
    exact List.mem_cons_self ..)
  | a :: b :: t, p, _, r, h1, h2 => by
    have h1 : a ≤ p := h1
    obtain ⟨r1, r2⟩ := List.pairwise_cons.mp r
    by_cases e : p = a
    · exact .inl (by rw [e]; exact List.mem_cons_self ..)
    · by_cases c : p < b
      · exact .inr ⟨0, by simp, by show a < p; omega, c⟩
      · rcases sh_where (ms := b :: t) (List.cons_ne_nil _ _) r2 (by show b ≤ p; omega) (by simpa using h2) with q | ⟨i, h, q1, q2⟩
        · exact .inl (List.mem_cons_of_mem _ q)
        · exact .inr ⟨i + 1, by simpa using h, by simpa using q1, by simpa using q2⟩
theorem rise_get {ms : List Int} (r : Rise ms) {i j : Nat} (hi : i < ms.length) (hj : j < ms.length) (h : i < j) : ms[i] < ms[j] := List.pairwise_iff_getElem.mp r i j hi hj h
theorem rise_le {ms : List Int} (r : Rise ms) {i j : Nat} (hi : i < ms.length) (hj : j < ms.length) (h : i ≤ j) : ms[i] ≤ ms[j] := by
  by_cases e : i = j
  · subst e; exact Int.le_refl _
  · exact Int.le_of_lt (rise_get r hi hj (by omega))
/-- between two neighbours -/
theorem near {ms : List Int} (r : Rise ms) {p : Int} {i : Nat} (h : i + 1 < ms.length) (h1 : ms[i] < p) (h2 : p < ms[i + 1]) : p ∉ ms ∧ (∀ y ∈ ms, y < p → y ≤ ms[i]) ∧ ∀ y ∈ ms, p < y → ms[i + 1] ≤ y := by
  refine ⟨fun m => ?_, fun y m hy => ?_, fun y m hy => ?_⟩
  · obtain ⟨j, hj, e⟩ := List.mem_iff_getElem.mp m
    by_cases c : j ≤ i
    · have := rise_le r hj (by omega) c
      omega
    · have := rise_le r h hj (show i + 1 ≤ j by omega)
      omega
  · obtain ⟨j, hj, e⟩ := List.mem_iff_getElem.mp m
    by_cases c : j ≤ i
    · have := rise_le r hj (by omega) c
      omega
    · have := rise_le r h hj (show i + 1 ≤ j by omega)
      omega
  · obtain ⟨j, hj, e⟩ := List.mem_iff_getElem.mp m
    by_cases c : j ≤ i
    · have := rise_le r hj (by omega) c
      omega
    · have := rise_le r h hj (show i + 1 ≤ j by omega)
      omega
theorem sh_near {ms : List Int} (r : Rise ms) {p : Int} {i : Nat} (h : i + 1 < ms.length) (h1 : ms[i] < p) (h2 : p < ms[i + 1]) : sh ms p = [(ms[i], DD / (ms[i + 1] - ms[i]) * (ms[i + 1] - p)), (ms[i + 1], DD / (ms[i + 1] - ms[i]) * (p - ms[i]))] := by
  obtain ⟨k1, k2, k3⟩ := near r h h1 h2
  exact sh_two r (List.getElem_mem _) (List.getElem_mem _) h1 h2 k1 k2 k3
theorem sh_out : ∀ {ms : List Int} {p : Int}, Rise ms → p ∉ ms → (¬ ∃ i, ∃ h : i + 1 < ms.length, ms[i] < p ∧ p < ms[i + 1]) → sh ms p = []
  | [], _, _, _, _ => rfl
  | a :: t, p, r, hp, hn => by
    obtain ⟨r1, r2⟩ := List.pairwise_cons.mp r
    unfold sh
    rw [if_neg fun z => hp (by rw [z]; exact List.mem_cons_self ..)]
    cases t with
    | nil => rfl
    | cons b t =>
      have : ¬ (a < p ∧ p < b) := fun z => hn ⟨0, by simp, z⟩
      simp only [this, if_false]
      exact sh_out r2 (fun z => hp (List.mem_cons_of_mem _ z)) fun ⟨i, h, q⟩ => hn ⟨i + 1, by simpa using h, by simpa using q⟩
theorem dd_gap {a b p : Int} (h1 : 1 ≤ b - a) (h2 : b - a ≤ 1000) : DD / (b - a) * (b - p) + DD / (b - a) * (p - a) = DD := by
  rw [← Int.mul_add, show b - p + (p - a) = b - a by omega]
  exact Int.ediv_mul_cancel (DD_dvd h1 h2)
theorem dd_part {a b n : Int} (h1 : 1 ≤ b - a) (h2 : b - a ≤ 1000) {s r : Int} (f : Frac s r) (e : n * r = (b - a) * s) : Nu DD (DD / (b - a) * n) s r := by
  refine ⟨f, ?_⟩
  have k : DD / (b - a) * (b - a) = DD := Int.ediv_mul_cancel (DD_dvd h1 h2)
  rw [Int.mul_assoc, e, ← Int.mul_assoc, k]
theorem dd_pos {a b : Int} (h1 : 1 ≤ b - a) (h2 : b - a ≤ 1000) : 0 < DD / (b - a) := by
  have k : DD / (b - a) * (b - a) = DD := Int.ediv_mul_cancel (DD_dvd h1 h2)
  have d := DD_pos
  rw [← k] at d
  exact Int.pos_of_mul_pos_left d (by omega)
/-! sums over the marks -/
theorem cAt_nil (m : Int) : cAt m [] = 0 := rfl
theorem cAt_cons (m : Int) (q : Int × Int) (l : List (Int × Int)) : cAt m (q :: l) = (if q.1 = m then q.2 else 0) + cAt m l := rfl
theorem cAt_app (m : Int) (l r : List (Int × Int)) : cAt m (l ++ r) = cAt m l + cAt m r := by
  unfold cAt
  rw [List.map_append, List.sum_append]
theorem wS_nil (ms : List Int) (m : Int) : wS ms [] m = 0 := rfl
theorem wS_snoc (ms ps : List Int) (p m : Int) : wS ms (ps ++ [p]) m = wS ms ps m + cAt m (sh ms p) := by
  unfold wS
  rw [List.map_append, List.sum_append]
  simp
theorem wS_cons (ms ps : List Int) (p m : Int) : wS ms (p :: ps) m = cAt m (sh ms p) + wS ms ps m := rfl
theorem sum_zero {ms : List Int} {f : Int → Int} (h : ∀ m ∈ ms, f m = 0) : (ms.map f).sum = 0 := by
  induction ms with
  | nil => rfl
  | cons a t ih =>
    rw [List.map_cons, List.sum_cons, h a (List.mem_cons_self ..), ih fun m hm => h m (List.mem_cons_of_mem _ hm)]
    rfl
theorem sum_add {ms : List Int} (f g : Int → Int) : (ms.map fun m => f m + g m).sum = (ms.map f).sum + (ms.map g).sum := by
  induction ms with
  | nil => rfl
  | cons a t ih =>
    rw [List.map_cons, List.sum_cons, List.map_cons, List.sum_cons, List.map_cons, List.sum_cons, ih]
    omega
theorem sum_one {ms : List Int} {k c : Int} (nd : ms.Nodup) (h : k ∈ ms) : (ms.map fun m => if k = m then c else 0).sum = c := by
  induction ms with
  | nil => cases h
  | cons a t ih =>
    obtain ⟨n1, n2⟩ := List.nodup_cons.mp nd
    rw [List.map_cons, List.sum_cons]
    by_cases e : k = a
    · rw [if_pos e, sum_zero fun m hm => if_neg fun z => n1 (by rw [← e, z]; exact hm)]
      omega
    · rw [if_neg e, ih n2 ((List.mem_cons.mp h).resolve_left e)]
      omega
theorem sum_cAt {ms : List Int} (nd : ms.Nodup) : ∀ {l : List (Int × Int)}, (∀ q ∈ l, q.1 ∈ ms) → (ms.map fun m => cAt m l).sum = (l.map Prod.snd).sum
  | [], _ => sum_zero fun _ _ => rfl
  | q :: l, h => by
    have e : (ms.map fun m => cAt m (q :: l)).sum = (ms.map fun m => (if q.1 = m then q.2 else 0) + cAt m l).sum := rfl
    rw [e, sum_add, sum_one nd (h q (List.mem_cons_self ..)), sum_cAt nd fun r hr => h r (List.mem_cons_of_mem _ hr), List.map_cons, List.sum_cons]
theorem rise_nd {ms : List Int} (r : Rise ms) : ms.Nodup := r.imp fun h => Int.ne_of_lt h
theorem sh_keys : ∀ {ms : List Int} {p : Int}, ∀ q ∈ sh ms p, q.1 ∈ ms
  | [], _, q, h => by cases h
  | a :: t, p, q, h => by
    unfold sh at h
    split at h
    · cases List.mem_singleton.mp h
      exact List.mem_cons_self ..
    · split at h
      · cases h
      · next b t =>
        split at h
        · rcases List.mem_cons.mp h with rfl | h
          · exact List.mem_cons_self ..
          · cases List.mem_singleton.mp h
            exact List.mem_cons_of_mem _ (List.mem_cons_self ..)
        · exact List.mem_cons_of_mem _ (sh_keys q h)
/-- marks from 0 to 1000 -/
abbrev In1000 (ms : List Int) : Prop := ∀ m ∈ ms, 0 ≤ m ∧ m ≤ 1000
theorem gap_of {ms : List Int} (r : Rise ms) (k : In1000 ms) {i : Nat} (h : i + 1 < ms.length) : 1 ≤ ms[i + 1] - ms[i] ∧ ms[i + 1] - ms[i] ≤ 1000 := by
  have a := rise_get r (by omega) h (show i < i + 1 by omega)
  have b := k _ (List.getElem_mem (l := ms) (n := i) (by omega))
  have c := k _ (List.getElem_mem (l := ms) (n := i + 1) h)
  omega
/-- what a point counts is above none -/
theorem sh_pos {ms : List Int} (r : Rise ms) (k : In1000 ms) {p : Int} : ∀ q ∈ sh ms p, 0 < q.2 := by
  by_cases h : p ∈ ms
  · rw [sh_in r h]
    intro q hq
    cases List.mem_singleton.mp hq
    exact DD_pos
  · by_cases h2 : ∃ i, ∃ h : i + 1 < ms.length, ms[i] < p ∧ p < ms[i + 1]
    · obtain ⟨i, hi, h1, h2⟩ := h2
      rw [sh_near r hi h1 h2]
      obtain ⟨g1, g2⟩ := gap_of r k hi
      have d := dd_pos g1 g2
      intro q hq
      rcases List.mem_cons.mp hq with rfl | hq
      · exact Int.mul_pos d (by omega)
      · cases List.mem_singleton.mp hq
        exact Int.mul_pos d (by omega)
    · rw [sh_out r h h2]
      intro q hq
      cases hq
theorem sh_sum {ms : List Int} (ne : ms ≠ []) (r : Rise ms) (k : In1000 ms) {p : Int} (h1 : ms.head ne ≤ p) (h2 : p ≤ ms.getLast ne) : ((sh ms p).map Prod.snd).sum = DD := by
  rcases sh_where ne r h1 h2 with h | ⟨i, hi, q1, q2⟩
  · rw [sh_in r h]
    simp
  · obtain ⟨g1, g2⟩ := gap_of r k hi
    rw [sh_near r hi q1 q2]
    have := dd_gap (p := p) g1 g2
    simpa using this
theorem cAt_nn {l : List (Int × Int)} (h : ∀ q ∈ l, 0 < q.2) (m : Int) : 0 ≤ cAt m l := by
  induction l with
  | nil => exact Int.le_refl _
  | cons q l ih =>
    rw [cAt_cons]
    have a := h q (List.mem_cons_self ..)
    have b := ih fun r hr => h r (List.mem_cons_of_mem _ hr)
    split <;> omega
theorem cAt_le {l : List (Int × Int)} (h : ∀ q ∈ l, 0 < q.2) (m : Int) : cAt m l ≤ (l.map Prod.snd).sum := by
  induction l with
  | nil => exact Int.le_refl _
  | cons q l ih =>
    rw [cAt_cons, List.map_cons, List.sum_cons]
    have a := h q (List.mem_cons_self ..)
    have b := ih fun r hr => h r (List.mem_cons_of_mem _ hr)
    split <;> omega
theorem sh_le {ms : List Int} (r : Rise ms) (k : In1000 ms) {p : Int} : ((sh ms p).map Prod.snd).sum ≤ DD := by
  by_cases h : p ∈ ms
  · rw [sh_in r h]
    simp
  · by_cases h2 : ∃ i, ∃ h : i + 1 < ms.length, ms[i] < p ∧ p < ms[i + 1]
    · obtain ⟨i, hi, h1, h2⟩ := h2
      rw [sh_near r hi h1 h2]
      obtain ⟨g1, g2⟩ := gap_of r k hi
      have := dd_gap (p := p) g1 g2
      simp
      omega
    · rw [sh_out r h h2]
      exact Int.le_of_lt DD_pos
theorem wS_nn {ms : List Int} (r : Rise ms) (k : In1000 ms) (m : Int) : ∀ ps : List Int, 0 ≤ wS ms ps m
  | [] => Int.le_refl _
  | p :: ps => by
    rw [wS_cons]
    exact Int.add_nonneg (cAt_nn (sh_pos r k) m) (wS_nn r k m ps)
theorem wS_le {ms : List Int} (r : Rise ms) (k : In1000 ms) (m : Int) : ∀ ps : List Int, wS ms ps m ≤ DD * ps.length
  | [] => Int.le_refl _
  | p :: ps => by
    rw [wS_cons, List.length_cons]
    have a := Int.le_trans (cAt_le (sh_pos r k) m) (sh_le (p := p) r k)
    have b := wS_le r k m ps
    push_cast
    rw [Int.mul_add, Int.mul_one]
    omega
theorem wS_out {ms : List Int} {m : Int} (h : m ∉ ms) : ∀ ps : List Int, wS ms ps m = 0
  | [] => rfl
  | p :: ps => by
    rw [wS_cons, wS_out h ps, Int.add_zero]
    have : ∀ l : List (Int × Int), (∀ q ∈ l, q.1 ∈ ms) → cAt m l = 0 := by
      intro l
      induction l with
      | nil => intro _; rfl
      | cons q l ih =>
        intro k
        rw [cAt_cons, if_neg (fun z => h (by rw [← z]; exact k q (List.mem_cons_self ..))), ih fun r hr => k r (List.mem_cons_of_mem _ hr)]
        rfl
    exact this _ sh_keys
/-- all that points count, together -/
theorem wS_all {ms : List Int} (ne : ms ≠ []) (r : Rise ms) (k : In1000 ms) : ∀ {ps : List Int}, (∀ p ∈ ps, ms.head ne ≤ p ∧ p ≤ ms.getLast ne) → (ms.map (wS ms ps)).sum = DD * ps.length
  | [], _ => sum_zero fun _ _ => rfl
  | p :: ps, h => by
    have e : (ms.map (wS ms (p :: ps))).sum = (ms.map fun m => cAt m (sh ms p) + wS ms ps m).sum := rfl
    obtain ⟨h1, h2⟩ := h p (List.mem_cons_self ..)
    rw [e, sum_add, sum_cAt (rise_nd r) sh_keys, sh_sum ne r k h1 h2, wS_all ne r k fun q hq => h q (List.mem_cons_of_mem _ hq), List.length_cons]
    push_cast
    rw [Int.mul_add, Int.mul_one]
    omega
/-- what a point counts at the mark of a place -/
theorem cAt_place {ms : List Int} (r : Rise ms) (p : Int) (i : Nat) (hi : i < ms.length) : cAt ms[i] (sh ms p) = if p = ms[i] then DD else
    if h : 0 < i ∧ ms[i - 1]'(by omega) < p ∧ p < ms[i] then DD / (ms[i] - ms[i - 1]'(by omega)) * (p - ms[i - 1]'(by omega)) else
    if h : i + 1 < ms.length ∧ ms[i] < p ∧ p < (ms[i + 1]?).getD 0 then DD / ((ms[i + 1]?).getD 0 - ms[i]) * ((ms[i + 1]?).getD 0 - p) else 0 := by
  have inj : ∀ {j : Nat} (hj : j < ms.length), ms[j] = ms[i] → j = i := fun {j} hj e => by
    rcases Nat.lt_trichotomy j i with c | c | c
    · have := rise_get r hj hi c; omega
    · exact c
    · have := rise_get r hi hj c; omega
  split
  · next e =>
    rw [sh_in r (by rw [e]; exact List.getElem_mem _), cAt_cons, if_pos e, cAt_nil]
    omega
  · next e =>
    split
    · next h =>
      obtain ⟨h0, h1, h2⟩ := h
      have e1 : i - 1 + 1 = i := by omega
      have := sh_near r (i := i - 1) (p := p) (by omega) h1 (by simpa only [e1] using h2)
      simp only [e1] at this
      rw [this, cAt_cons, cAt_cons, cAt_nil, if_neg (fun z => by have := inj _ z; omega), if_pos rfl]
      omega
    · next h3 =>
      split
      · next h =>
        obtain ⟨h0, h1, h2⟩ := h
        rw [List.getElem?_eq_getElem h0, Option.getD_some] at h2 ⊢
        rw [sh_near r h0 h1 h2, cAt_cons, cAt_cons, cAt_nil, if_pos rfl, if_neg (fun z => by have := inj _ z; omega)]
        omega
      · next h4 =>
        by_cases hm : p ∈ ms
        · rw [sh_in r hm, cAt_cons, cAt_nil, if_neg e]
          rfl
        · by_cases h2 : ∃ j, ∃ h : j + 1 < ms.length, ms[j] < p ∧ p < ms[j + 1]
          · obtain ⟨j, hj, q1, q2⟩ := h2
            rw [sh_near r hj q1 q2, cAt_cons, cAt_cons, cAt_nil, if_neg, if_neg]
            · rfl
            · intro z
              have z := inj _ z
              subst z
              exact h3 ⟨by omega, q1, q2⟩
            · intro z
              have z := inj _ z
              subst z
              exact h4 ⟨hj, q1, by rw [List.getElem?_eq_getElem hj]; exact q2⟩
          · rw [sh_out r hm h2]
            rfl
/-! the mix of a spot, as it is told -/
def mixW (ms : List Int) (w : Int → Int) : List PyData := (ms.filter fun m => decide (0 < w m)).map fun m => .tuple [.int m, frP (w m)]
theorem rise_uniq : ∀ {ns ms : List Int}, Rise ns → Rise ms → (∀ x, x ∈ ns ↔ x ∈ ms) → ns = ms
  | [], [], _, _, _ => rfl
  | [], m :: ms, _, _, h => absurd ((h m).mpr (List.mem_cons_self ..)) List.not_mem_nil
  | n :: ns, [], _, _, h => absurd ((h n).mp (List.mem_cons_self ..)) List.not_mem_nil
  | n :: ns, m :: ms, rn, rm, h => by
    obtain ⟨n1, n2⟩ := List.pairwise_cons.mp rn
    obtain ⟨m1, m2⟩ := List.pairwise_cons.mp rm
    have e : n = m := by
      rcases List.mem_cons.mp ((h n).mp (List.mem_cons_self ..)) with z | z
      · exact z
      · rcases List.mem_cons.mp ((h m).mpr (List.mem_cons_self ..)) with y | y
        · exact y.symm
        · have := m1 n z; have := n1 m y; omega
    subst e
    rw [rise_uniq n2 m2 fun x => ⟨fun hx => ?_, fun hx => ?_⟩]
    · rcases List.mem_cons.mp ((h x).mp (List.mem_cons_of_mem _ hx)) with z | z
      · have := n1 x hx; omega
      · exact z
    · rcases List.mem_cons.mp ((h x).mpr (List.mem_cons_of_mem _ hx)) with z | z
      · have := m1 x hx; omega
      · exact z
/-! the dict of what was counted so far -/
structure Cnt (ms : List Int) (w : Int → Int) (kvs : List (Key × PyData)) : Prop where
  keys : ∀ p ∈ kvs, ∃ m n, p = (.inl m, frP n) ∧ m ∈ ms
  nd : (kvs.map Prod.fst).Nodup
  at' : ∀ m, lkD kvs (.inl m) = if w m = 0 then none else some (frP (w m))
theorem lk_put {kvs : List (Key × PyData)} {k j : Key} {x : PyData} : lkD (ptD kvs k x) j = if j = k then some x else lkD kvs j := by
  have any : ∀ l : List (Key × PyData), (l.any fun p => decide (p.1 = k)) = (lkD l k).isSome := by
    intro l
    induction l with
    | nil => rfl
    | cons p l ih =>
      rw [List.any_cons]
      unfold lkD
      rw [List.find?_cons]
      by_cases e : p.1 = k
      · rw [decide_eq_true e]; rfl
      · rw [decide_eq_false e, Bool.false_or]; exact ih
  have cons : ∀ (p : Key × PyData) (l : List (Key × PyData)) (j : Key), lkD (p :: l) j = if p.1 = j then some p.2 else lkD l j := by
    intro p l j
    unfold lkD
    rw [List.find?_cons]
    by_cases e : p.1 = j
    · rw [decide_eq_true e, if_pos e]; rfl
    · rw [decide_eq_false e, if_neg e]
  unfold ptD
  split
  · next a =>
    rw [any] at a
    have mp : ∀ l : List (Key × PyData), lkD (l.map fun p => if p.1 = k then (p.1, x) else p) j = (lkD l j).map fun y => if j = k then x else y := by
      intro l
      induction l with
      | nil => rfl
      | cons p l ih =>
        rw [List.map_cons, cons, cons]
        by_cases h : p.1 = k
        · rw [if_pos h]
          by_cases e : p.1 = j
          · rw [if_pos e, if_pos e, Option.map_some, if_pos (e.symm.trans h)]
          · rw [if_neg e, if_neg e, ih]
        · rw [if_neg h]
          by_cases e : p.1 = j
          · rw [if_pos e, if_pos e, Option.map_some, if_neg (fun z => h (e.trans z))]
          · rw [if_neg e, if_neg e, ih]
    rw [mp]
    by_cases e : j = k
    · rw [if_pos e]
      subst e
      obtain ⟨y, hy⟩ := Option.isSome_iff_exists.mp a
      rw [hy, Option.map_some, if_pos rfl]
    · rw [if_neg e]
      cases lkD kvs j with
      | none => rfl
      | some y => rw [Option.map_some, if_neg e]
  · next a =>
    rw [any] at a
    have ap : ∀ l : List (Key × PyData), lkD l k = none → lkD (l ++ [(k, x)]) j = if j = k then some x else lkD l j := by
      intro l
      induction l with
      | nil =>
        intro _
        rw [List.nil_append, cons]
        by_cases e : k = j
        · rw [if_pos e, if_pos e.symm]
        · rw [if_neg e, if_neg (fun z => e z.symm)]
      | cons p l ih =>
        intro hn
        rw [cons] at hn
        rw [List.cons_append, cons, cons]
        by_cases h : p.1 = k
        · rw [if_pos h] at hn; cases hn
        · rw [if_neg h] at hn
          by_cases e : p.1 = j
          · rw [if_pos e, if_pos e, if_neg (fun z => h (e.trans z))]
          · rw [if_neg e, if_neg e, ih hn]
    refine ap kvs ?_
    cases q : lkD kvs k with
    | none => rfl
    | some y => rw [q] at a; exact (a rfl).elim
theorem put_keys {kvs : List (Key × PyData)} {k : Key} {x : PyData} (nd : (kvs.map Prod.fst).Nodup) : ((ptD kvs k x).map Prod.fst).Nodup := by
  unfold ptD
  split
  · have e : (kvs.map fun p => if p.1 = k then (p.1, x) else p).map Prod.fst = kvs.map Prod.fst := by
      rw [List.map_map]
      refine List.map_congr_left fun p _ => ?_
      show (if p.1 = k then (p.1, x) else p).1 = p.1
      split <;> rfl
    rw [e]
    exact nd
  · next a =>
    rw [List.map_append]
    refine List.nodup_append.mpr ⟨nd, List.nodup_cons.mpr ⟨List.not_mem_nil, .nil⟩, fun y hy z hz => ?_⟩
    obtain ⟨p, hp, rfl⟩ := List.mem_map.mp hy
    have hz : z = k := by simpa using hz
    intro e
    exact a (List.any_eq_true.mpr ⟨p, hp, decide_eq_true (by rw [e, hz])⟩)
theorem put_mem {kvs : List (Key × PyData)} {k : Key} {x : PyData} {p : Key × PyData} (h : p ∈ ptD kvs k x) : p ∈ kvs ∨ p = (k, x) := by
  unfold ptD at h
  split at h
  · obtain ⟨q, hq, rfl⟩ := List.mem_map.mp h
    split
    · next e => exact .inr (by rw [e])
    · exact .inl hq
  · rcases List.mem_append.mp h with m | m
    · exact .inl m
    · exact .inr (List.mem_singleton.mp m)
theorem cnt_nil (ms : List Int) : Cnt ms (fun _ => 0) [] := ⟨(fun _ h => nomatch h), .nil, fun _ => rfl⟩
theorem Cnt.put {ms : List Int} {w w' : Int → Int} {kvs : List (Key × PyData)} {k : Int} (h : Cnt ms w kvs) (hk : k ∈ ms) (e : ∀ m, m ≠ k → w' m = w m) (p : w' k ≠ 0) : Cnt ms w' (ptD kvs (.inl k) (frP (w' k))) := by
  refine ⟨fun q hq => ?_, put_keys h.nd, fun m => ?_⟩
  · rcases put_mem hq with z | z
    · exact h.keys q z
    · exact ⟨k, _, z, hk⟩
  · rw [lk_put]
    by_cases c : m = k
    · rw [if_pos (by rw [c]), c, if_neg p]
    · rw [if_neg (fun z => c (by injection z)), h.at', e m c]
theorem Cnt.allN {ms : List Int} {w : Int → Int} {kvs : List (Key × PyData)} (h : Cnt ms w kvs) : allN kvs = true := by
  refine List.all_eq_true.mpr fun p hp => ?_
  obtain ⟨m, n, rfl, _⟩ := h.keys p hp
  rfl
theorem nodup_len {α : Type} [DecidableEq α] : ∀ {l m : List α}, l.Nodup → (∀ x ∈ l, x ∈ m) → l.length ≤ m.length
  | [], _, _, _ => Nat.zero_le _
  | a :: l, m, nd, h => by
    obtain ⟨n1, n2⟩ := List.nodup_cons.mp nd
    have ha := h a (List.mem_cons_self ..)
    have := nodup_len (m := m.erase a) n2 fun x hx => (List.mem_erase_of_ne (fun z => n1 (by rw [← z]; exact hx))).mpr (h x (List.mem_cons_of_mem _ hx))
    rw [List.length_erase_of_mem ha] at this
    have := List.length_pos_of_mem ha
    rw [List.length_cons]
    omega
theorem Cnt.len {ms : List Int} {w : Int → Int} {kvs : List (Key × PyData)} (h : Cnt ms w kvs) : kvs.length ≤ ms.length := by
  have nd := h.nd
  have sub : ∀ k ∈ kvs.map Prod.fst, k ∈ ms.map fun m => (Sum.inl m : Key) := fun k hk => by
    obtain ⟨p, hp, rfl⟩ := List.mem_map.mp hk
    obtain ⟨m, n, rfl, hm⟩ := h.keys p hp
    exact List.mem_map.mpr ⟨m, hm, rfl⟩
  have := nodup_len nd sub
  simpa using this
theorem dt_pairs (a b c d e f : Int) : alike (.tuple [.int a, .tuple [.int b, .int c]]) (.tuple [.int d, .tuple [.int e, .int f]]) = true := by simp [alike, alikeAll]
theorem lt_pairs {a b c d e f : Int} (h : a ≠ d) : dataLt (.tuple [.int a, .tuple [.int b, .int c]]) (.tuple [.int d, .tuple [.int e, .int f]]) = decide (a < d) := by
  rw [dataLt_pair (by simp [alike]) (by simp [alike, alikeAll])]
  have : (PyData.int a).eqv (.int d) = false := by simp [PyData.eqv, h]
  rw [this, dataLt_int]
  simp
/-- what sorted tells of the dict -/
theorem Cnt.told {ms : List Int} {w : Int → Int} {kvs : List (Key × PyData)} (h : Cnt ms w kvs) (r : Rise ms) (nn : ∀ m, 0 ≤ w m) (out : ∀ m, m ∉ ms → w m = 0) {ys : List PyData} (p : ys.Perm (kvs.map prD)) (so : ys.Pairwise fun a b => dataLt b a = false) : ys = mixW ms w := by
  obtain ⟨zs, pz, ez⟩ := perm_lift prD p kvs rfl
  have kz : ∀ z ∈ zs, ∃ m, z = (.inl m, frP (w m)) ∧ m ∈ ms ∧ 0 < w m := fun z hz => by
    have hz2 := pz.mem_iff.mp hz
    obtain ⟨m, n, rfl, hm⟩ := h.keys z hz2
    have hl : lkD kvs (.inl m) = some (frP n) := by
      have nd := h.nd
      clear h p so pz ez hz r nn out
      induction kvs with
      | nil => cases hz2
      | cons q l ih =>
        rw [List.map_cons] at nd
        obtain ⟨n1, n2⟩ := List.nodup_cons.mp nd
        unfold lkD
        rw [List.find?_cons]
        rcases List.mem_cons.mp hz2 with rfl | hz
        · rw [decide_eq_true rfl]; rfl
        · rw [decide_eq_false fun e => n1 (List.mem_map.mpr ⟨_, hz, e.symm⟩)]
          exact ih hz n2
    rw [h.at' m] at hl
    split at hl
    · cases hl
    · next ne =>
      have e := Option.some.inj hl
      have := nn m
      exact ⟨m, by rw [← e], hm, by omega⟩
  have ndz : (zs.map Prod.fst).Nodup := (pz.map Prod.fst).nodup_iff.mpr h.nd
  obtain ⟨ns, en⟩ : ∃ ns : List Int, zs = ns.map fun m => (Sum.inl m, frP (w m)) := by
    clear pz ez ndz so p
    induction zs with
    | nil => exact ⟨[], rfl⟩
    | cons z zs ih =>
      obtain ⟨m, e, _⟩ := kz z (List.mem_cons_self ..)
      obtain ⟨ns, e2⟩ := ih fun y hy => kz y (List.mem_cons_of_mem _ hy)
      exact ⟨m :: ns, by rw [e, e2]; rfl⟩
  subst en
  have ey : ys = ns.map fun m => PyData.tuple [.int m, frP (w m)] := by
    rw [← ez, List.map_map]
    rfl
  have rn : Rise ns := by
    rw [ey, List.pairwise_map] at so
    have nd2 : ns.Nodup := by
      rw [List.map_map] at ndz
      have : (ns.map fun m => (Sum.inl m : Key)).Nodup := ndz
      rw [List.Nodup, List.pairwise_map] at this
      exact this.imp fun h z => h (by rw [z])
    refine (so.and nd2).imp fun {a b} ⟨q, ne⟩ => ?_
    have q : dataLt (.tuple [.int b, .tuple [.int (frT (w b)), .int (frB (w b))]]) (.tuple [.int a, .tuple [.int (frT (w a)), .int (frB (w a))]]) = false := q
    rw [lt_pairs (Ne.symm ne)] at q
    have := of_decide_eq_false q
    omega
  have en : ns = ms.filter fun m => decide (0 < w m) := by
    refine rise_uniq rn (List.Pairwise.sublist List.filter_sublist r) fun x => ?_
    rw [List.mem_filter, decide_eq_true_eq]
    constructor
    · intro hx
      obtain ⟨m, e, hm, p⟩ := kz _ (List.mem_map.mpr ⟨x, hx, rfl⟩)
      have e := (Prod.mk.inj e).1
      injection e with e
      rw [e]
      exact ⟨hm, p⟩
    · rintro ⟨hx, p⟩
      have hl := h.at' x
      rw [if_neg (by omega)] at hl
      unfold lkD at hl
      cases q : kvs.find? fun p => decide (p.1 = .inl x) with
      | none => rw [q] at hl; cases hl
      | some z =>
        have hz := pz.mem_iff.mpr (List.mem_of_find?_eq_some q)
        have ez2 : z.1 = .inl x := of_decide_eq_true (p := z.1 = .inl x) (List.find?_some (p := fun p : Key × PyData => decide (p.1 = .inl x)) q)
        obtain ⟨m, hm, e⟩ := List.mem_map.mp hz
        rw [← e] at ez2
        injection ez2 with ez2
        rw [← ez2]
        exact hm
  rw [ey, en]
  rfl
theorem Cnt.flat {ms : List Int} {w : Int → Int} {kvs : List (Key × PyData)} (h : Cnt ms w kvs) : flatA (kvs.map prD) = true ∧ AllAlike (kvs.map prD) ∧ ∀ x ∈ kvs.map prD, x.depth ≤ 50 := by
  have k : ∀ x ∈ kvs.map prD, ∃ m a b, x = .tuple [.int m, .tuple [.int a, .int b]] := fun x hx => by
    obtain ⟨p, hp, rfl⟩ := List.mem_map.mp hx
    obtain ⟨m, n, rfl, _⟩ := h.keys p hp
    exact ⟨m, _, _, rfl⟩
  generalize kvs.map prD = xs at k
  refine ⟨?_, fun x hx y hy => ?_, fun x hx => ?_⟩
  · induction xs with
    | nil => rfl
    | cons x xs ih =>
      obtain ⟨m, a, b, rfl⟩ := k x (List.mem_cons_self ..)
      rw [flatA, ih fun y hy => k y (List.mem_cons_of_mem _ hy)]
      simp [flatD, flatA]
  · obtain ⟨m, a, b, rfl⟩ := k x hx
    obtain ⟨n, c, d, rfl⟩ := k y hy
    exact dt_pairs ..
  · obtain ⟨m, a, b, rfl⟩ := k x hx
    simp [PyData.depth, PyData.depthAll]
end Dl
/-! ### sorted(set(xs)) of a list of whole numbers -/
namespace Dl
open PySem PySem.Calls PySem.Spec PyProof.Rows L2
section
variable {P : Program} {w : World} {A : Around} {E : Value → Shared → Prop} {s : Shared}
/-- a set as it is made -/
abbrev sNew (w : World) : Obj := { cls := .type "set", dict := none, data := .set #[] 0 (.fresh 0 0 (!w.params.followText "set-order")) }
abbrev itNew (l : Addr) : Obj := { cls := .type "list_iterator", data := .fields #[.ref l, .int 0 0] }
/-- what set.__init__ does with a list of whole numbers -/
abbrev Filled (w : World) (s : Shared) (ns : List Int) (z : Shared) : Prop :=
  ∃ h' tk c, z = { s with heap := h', toks := tk } ∧ SetR w h' s.heap.objs.size (fun j => decide (j ∈ ns)) c ∧ c ≤ ns.length ∧ ∀ b o, s.heap.get? b = some o → h'.get? b = some o
theorem fill_loop {l : Addr} {items : Array Value} {ns : List Int} {A' : Around} (hh : A'.in1.handled = none) (hl : s.heap.IsList l items) (hit : IntsAre items.toList ns) (hb : ns.length + 1 < scanBound) {R : Result → Shared → Prop}
    (k : ∀ z, Filled w s ns z → R (.ok (.ret .none)) z) :
    codeAny (model P w) A' (.builtin "set.update.loop" ⟨[.ref s.heap.objs.size, .ref (s.heap.push (sNew w)).objs.size], []⟩) R { s with heap := (s.heap.push (sNew w)).push (itNew l) } := by
  have n1 : items.size = ns.length := by
    have := IntsAre.length hit
    rwa [Array.length_toList] at this
  have l1 : l < s.heap.objs.size := let ⟨_, e, _⟩ := hl; Heap.lt_size e
  have z1 := Heap.size_push s.heap (sNew w)
  have ne1 : l ≠ (s.heap.push (sNew w)).objs.size := by rw [z1]; exact Nat.ne_of_lt (Nat.lt_succ_of_lt l1)
  have hl1 := hl.push (sNew w)
  have out : s.heap.objs.size ∉ [(s.heap.push (sNew w)).objs.size, l] := fun m => by
    rw [z1] at m
    rcases List.mem_cons.mp m with e | m
    · exact absurd e (Nat.ne_of_lt (Nat.lt_succ_self _))
    · exact absurd (List.mem_singleton.mp m) (Nat.ne_of_gt l1)
  have vals : ∀ (i : Nat) (v : Value), items[i]? = some v → ∃ k t, ns[i]? = some k ∧ v = .int k t := fun i v e => by
    have i1 := (Array.getElem?_eq_some_iff.mp e).1
    rw [n1] at i1
    obtain ⟨t, q⟩ := IntsAre.int_at hit i v (by rw [Array.getElem?_toList]; exact e)
    rw [List.getD_eq_getElem?_getD, List.getElem?_eq_getElem i1, Option.getD_some] at q
    exact ⟨_, t, List.getElem?_eq_getElem i1, q⟩
  have at1 : ((s.heap.push (sNew w)).push (itNew l)).get? s.heap.objs.size = some (sNew w) := Heap.get?_push_of_some _ (Heap.get?_push_size _ rfl)
  refine set_update_ints ((Walks.list hh _ l ne1 items).toS) s.heap.objs.size out ns n1 hb vals _ 0 _ rfl (Nat.zero_le _) ⟨⟨_, Heap.get?_push_size _ rfl, rfl, rfl⟩, hl1.push _⟩ ⟨0, Nat.le_refl 0, setR_new_at at1⟩ fun z c m hc hS => k z ?_
  obtain ⟨zh, zg, zd, zt, zo⟩ := z
  cases (show zg = s.gens from m.gens)
  cases (show zd = s.drawn from m.drawn)
  cases (show zo = s.os from m.os)
  refine ⟨zh, zt, c, rfl, hS, by omega, fun b o e => m.heap b o (fun q => ?_) (Heap.get?_push_of_some _ (Heap.get?_push_of_some _ e))⟩
  have b1 := Heap.lt_size e
  rcases List.mem_cons.mp q with q | q
  · exact absurd q (Nat.ne_of_lt b1)
  · have := List.mem_singleton.mp q
    rw [this, z1] at b1
    exact absurd b1 (Nat.not_lt_of_le (Nat.le_succ _))
set_option maxHeartbeats 3200000 in
/-- set.__init__ of a new set, a list of whole numbers handed in -/
theorem fill_init {l : Addr} {items : Array Value} {ns : List Int} {A' : Around} {R : Result → Shared → Prop} (hh : A'.handled = none) (hl : s.heap.IsList l items) (hit : IntsAre items.toList ns) (hb : ns.length + 1 < scanBound)
    (k : ∀ z, Filled w s ns z → R (.ok (.ret .none)) z) :
    wpAny (model P w) A'.in1 (Builtin.«set.__init__» ⟨[.ref s.heap.objs.size, .ref l], []⟩) (fun fin z => match fin with | .done f => R (.ok f) z | .again c => c.quiet = true ∧ codeAny (model P w) A' c R z) (fun e z => R (.error e) z) { s with heap := s.heap.push (sNew w) } := by
  have q0 : (s.heap.push (sNew w)).get? s.heap.objs.size = some (sNew w) := Heap.get?_push_size _ rfl
  have hT : Shared.TypeIs { s with heap := s.heap.push (sNew w) } (.ref s.heap.objs.size) "set" := ⟨_, q0, rfl⟩
  have hl1 := hl.push (sNew w)
  obtain ⟨⟨lc, ld, ldat, lsl⟩, q1, q2, lcap, q3⟩ := id hl1
  cases (show lc = .type "list" from q2)
  cases (show ldat = .seq items lcap from q3)
  have n1 := F.sub_list_set
  have n2 := F.sub_list_frozenset
  have n3 : (Value.type "list" == Value.type "dict") = false := by decide
  unfold Builtin.«set.__init__» noKeywords Builtin.Frozenset.updateFrom
  generalize hPI : pyIter = PI
  wp_walk
  subst hPI
  refine wpAny_pyIter_list hl1 (wpAny_bind (wpAny_runValue ?_))
  refine fill_loop (A' := A'.in1) (by simp [hh]) hl hit hb fun z hz => ?_
  exact wpAny_pure (wpAny_pure (k z hz))
set_option maxHeartbeats 3200000 in
/-- set(xs) of a list of whole numbers -/
theorem setL_call {l : Addr} {items : Array Value} {ns : List Int} {Q : Value → Shared → Prop} (hh : A.handled = none) (hl : s.heap.IsList l items) (hit : IntsAre items.toList ns) (hb : ns.length + 1 < scanBound)
    (k : ∀ z, Filled w s ns z → Q (.ref s.heap.objs.size) z) : wpAny (model P w) A (call (.type "set") [.ref l]) Q E s := by
  obtain ⟨mc, mt, m0⟩ := F.called_set.mro
  have m1 := F.called_set.made
  have m2 := F.called_set.sub
  have m3 := F.called_set.notType
  have m4 := F.called_set.canCreate
  have m5 := F.typeCall_set_1 (.ref l)
  refine wpAny_call <| codeAny_of_tree <| show wpAny _ _ (callAny (.type "set") _) _ _ _ from ?_
  refine wpAny_pure ⟨Code.quiet_builtin _ (by decide +kernel), codeAny_builtin F.entry_type_call ?_⟩ <;>
    rw [Around.under_plain (weight_type_call_type "set" [.ref l] []) rfl]
  repeat (any_goals (first | assumption | wp_step))
  refine codeAny_mono (code_set_led1 (.ref l) (E := E) (Q₁ := fun o z => o = .ref s.heap.objs.size ∧ z = { s with heap := s.heap.push (sNew w) }) ⟨rfl, rfl⟩) fun r z hr => ?_
  match r, hr with
  | .error e, hr => exact hr
  | .ok .next, hr => exact hr.elim
  | .ok .brk, hr => exact hr.elim
  | .ok .cont, hr => exact hr.elim
  | .ok (.ret o), hr =>
    obtain ⟨rfl, rfl⟩ := hr
    have q0 : (s.heap.push (sNew w)).get? s.heap.objs.size = some (sNew w) := Heap.get?_push_size _ rfl
    have hT : Shared.TypeIs { s with heap := s.heap.push (sNew w) } (.ref s.heap.objs.size) "set" := ⟨_, q0, rfl⟩
    have m6 := F.called_set.init.lookup
    have m7 := F.called_set.init.bind (.ref s.heap.objs.size)
    repeat (any_goals (first | assumption | wp_step))
    refine codeAny_mono (R := wants (fun r z => r = .none ∧ Filled w s ns z) E) (codeAny_call_builtin F.called_set.init.plain F.entry_set_init (check_set_init_1 hT ?_)) fun r z hz => ?_
    · refine fill_init (R := wants (fun r z => r = .none ∧ Filled w s ns z) E) ?_ hl hit hb fun z hz => ⟨rfl, hz⟩
      simp [hh]
    match r, hz with
    | .error e, hz => exact hz
    | .ok .next, hz => exact hz.elim
    | .ok .brk, hz => exact hz.elim
    | .ok .cont, hz => exact hz.elim
    | .ok (.ret o), hz =>
      obtain ⟨rfl, hz⟩ := hz
      have fin := k z hz
      repeat (any_goals (first | assumption | wp_step))
end
section
variable {X : Cx} {w : Wn} {pos p p2 cp : Pos} {e : Expr} {te : DT}
/-- set(xs) -/
def rSetLI (K : PySem.W.Frag) (w : World) : List V → Hp → VK → Prop := fun xs H Q => ∃ (l : Addr) (ns : List Int), xs = [V.ref l] ∧ SqL K H l (ns.map V.int) ∧ ns.length ≤ 1000 ∧ ∀ p c, H p = none → c ≤ ns.length → Q (.ref p) (upd H p (SetO w p (fun j => decide (j ∈ ns)) c))
theorem cr_setLI (hc : X.calm = true) : CallR X (.type "set") (rSetLI X.K X.w) := by
  intro pins s σ H xs us Q I r q
  obtain ⟨l, ns, rfl, hs, hn, q⟩ := q
  obtain ⟨its, rv, pl, hz⟩ := I.list hs
  obtain rfl := Vals.ref1 r
  refine setL_call (I.ok.hd hc) pl.isList (by simpa using rv.ints) (show ns.length + 1 < scanBound by unfold scanBound; omega) fun z hz => ?_
  obtain ⟨h', tk, c, rfl, hS, hcn, hk⟩ := hz
  exact ⟨.ref s.heap.objs.size, _, I.laid (t' := tk) hk (Nat.le_refl _) (setO_new hS), rfl, q _ c (I.hok.fresh (Nat.le_refl _)) hcn⟩
/-- sorted(set(e)), e a list of whole numbers -/
def tSortSet (te : DT) : DT := fun env P => te env fun u => rd u fun x => match x with
  | .list xs => ∃ ns : List Int, xs = IL ns ∧ ns.length < 64 ∧ ∀ ms : List Int, Rise ms → (∀ k, k ∈ ms ↔ k ∈ ns) → P (.fr (IL ms))
  | _ => False
theorem d_sortSet (hc : X.calm = true) (g1 : Gl X "sorted") (m1 : X.mg "sorted" = none) (g2 : Gl X "set") (m2 : X.mg "set" = none) (he : DPE X w e te)
    (h1 : starEach [e] X.env = (false, eval e X.env) :: starEach [] X.env := by rfl) (h2 : (backTo cp (starEach [] X.env)).any (·.1) = false := by rfl)
    (h3 : starEach [.Call (.Name "set" p2) [e] [] cp] X.env = (false, eval (.Call (.Name "set" p2) [e] [] cp) X.env) :: starEach [] X.env := by rfl) (h4 : (backTo pos (starEach [] X.env)).any (·.1) = false := by rfl) :
    DPE X w (.Call (.Name "sorted" p) [.Call (.Name "set" p2) [e] [] cp] [] pos) (tSortSet te) :=
  pe_weak (pe_callB (cr_sortedSet hc) g1 m1 (by decide +kernel) (pa_cons (pe_callTy (cr_setLI hc) g2 m2 (by decide +kernel) (pa_cons he pa_nil h1) (by decide) (by decide) h1 h2) pa_nil h3) (by decide) (by decide) h3 h4) fun σ H Q ⟨env, F, P, r, h, q⟩ => by
    refine ⟨env, F, _, r, h, fun dv v F1 H1 s1 r1 h1 => ?_⟩
    obtain ⟨x, hx, h1⟩ := rd_ok r1 h1
    split at h1
    · obtain ⟨ns, rfl, hl, h1⟩ := h1
      obtain ⟨l, vs, rfl, hl1, ra⟩ := hx.lst s1.sub
      obtain rfl := ra.ofInts
      refine ⟨l, ns, rfl, SqL.of hl1, by omega, fun p c hp hcn => ?_⟩
      have s2 := s1.wd.laidM (o := SetO X.w p (fun j => decide (j ∈ ns)) c) hp
      have s12 := s1.trans s2
      refine ⟨p, _, c, rfl, upd_same, by omega, fun ms p2 hm hk hn hp2 => ?_⟩
      refine res_new s2.wd (RpA.ints ms) (fun dv3 v3 F3 H3 s3 r3 h3 => q dv3 v3 F3 H3 (s12.trans s3) (r3.early s12) h3) (h1 ms hm fun k => (hk k).trans decide_eq_true_iff) p2 hp2
    · exact h1.elim
end
end Dl
/-! ### constant dicts of the module: list(D), values that are tuples -/
namespace Dl
open PySem PySem.Spec PyProof.Rows L2 PySem.W
/-- .. by its keys, in their order -/
structure KLst (K : PySem.W.Frag) (w : World) (d : Addr) (ks : List Str) : Prop where
  ex : ∃ (es : Array DictEntry) (n : Nat), KDict K w d es n ∧ es.toList.map He.keyOf = He.keysIn w.params ks
  nd : ks.Nodup
  sm : ks.length ≤ 1000
theorem klst_of {K : PySem.W.Frag} {w : World} {d : Addr} {ks : List Str} (h : He.dicW K d = some (He.keysIn w.params ks)) (nd : ks.Nodup) (sm : ks.length ≤ 1000) : KLst K w d ks := by
  obtain ⟨es, n, kd⟩ := He.dicW_ok h
  refine ⟨⟨es, n, kd, ?_⟩, nd, sm⟩
  unfold He.dicW at h
  rw [kd.at_] at h
  dsimp only at h
  split at h
  · exact Option.some.inj h
  · cases h
/-- entries whose keys are texts -/
theorem ents_of {P : Program} {w : World} : ∀ {es : List DictEntry} {ks : List Str}, es.map He.keyOf = He.keysIn w.params ks → ∃ vs : List (Key × Value), Pairs (mixKind P w) es vs ∧ vs.map (·.1) = ks.map Sum.inr ∧ ∀ e ∈ es, ∃ k, (mixKind P w).is k e.key = true ∧ e.hash = (mixKind P w).hash k
  | [], [], _ => ⟨[], .nil, rfl, fun _ h => nomatch h⟩
  | [], _ :: _, h => by cases h
  | _ :: _, [], h => by cases h
  | e :: es, k :: ks, h => by
    have h1 : He.keyOf e :: es.map He.keyOf = some (k, PyData.keyHash w.params k) :: He.keysIn w.params ks := h
    obtain ⟨h2, h3⟩ := List.cons.inj h1
    obtain ⟨vs, p, q, r⟩ := ents_of (P := P) h3
    unfold He.keyOf at h2
    split at h2
    · next x t ek =>
      obtain ⟨h4, h5⟩ := Prod.mk.inj (Option.some.inj h2)
      subst h4
      have is : (mixKind P w).is (.inr x) e.key = true := by rw [ek]; exact mixKind_str P w x t
      refine ⟨(.inr x, e.val) :: vs, .cons is rfl p, by rw [List.map_cons, List.map_cons, q], fun e' m => ?_⟩
      rcases List.mem_cons.mp m with rfl | m
      · exact ⟨.inr x, is, h5⟩
      · exact r e' m
    · cases h2
section
variable {X : Cx} {w : Wn} {pos p p2 : Pos} {x2 : Str}
def rListK (K : PySem.W.Frag) (d : Addr) (ks : List Str) : List V → Hp → VK → Prop := fun xs H Q => xs = [.ref d] ∧ ∀ p, H p = none → Q (.ref p) (upd H p (.lst (ks.map V.str)))
theorem cr_listK {d : Addr} {ks : List Str} (hc : X.calm = true) (D : KLst X.K X.w d ks) : CallR X (.type "list") (rListK X.K d ks) := by
  intro pins s σ H xs us Q I r q
  obtain ⟨rfl, q⟩ := q
  obtain rfl := Vals.ref1 r
  obtain ⟨⟨es, n, kd, ek⟩, nd, sm⟩ := D
  obtain ⟨vs, ps, kv, ko⟩ := ents_of (P := X.prog) ek
  have le : es.size = vs.length := by rw [← Array.length_toList]; exact (pairs_at ps).1
  have lk : vs.length = ks.length := by
    have := congrArg List.length kv
    simpa using this
  have hat : s.heap.DictAt (mixKind X.prog X.w) d vs n := ⟨_, es, I.kIn _ _ kd.at_, ⟨rfl, rfl, rfl⟩, rfl, fun e m => ko e (Array.mem_toList_iff.mpr m), ps, by
    rw [kv, List.Nodup, List.pairwise_map]
    exact nd.imp fun h z => h (by injection z)⟩
  have low := kd.low
  have h16 : vs.length ≤ sizeLine := by rw [lk]; exact lim_le (by omega)
  refine PySem.W.kdl_call (PySem.W.kdl_dict (knd := mixKind X.prog X.w) (kvs := vs) (ep := n) low) (I.ok.hd hc) hat h16 fun h' tk acc c' hk hD hacc => ?_
  have hv : Vals (vs.map fun p => kV p.1) acc.toList := keys_at (by rw [Array.length_toList]; exact hacc.1) fun j v e => hacc.2 j v (by rw [← Array.getElem?_toList]; exact e)
  have ekv : (vs.map fun p => kV p.1) = ks.map V.str := by
    have := congrArg (List.map kV) kv
    rw [List.map_map, List.map_map] at this
    exact this
  rw [ekv] at hv
  refine ⟨.ref s.heap.objs.size, _, I.laid (t' := tk) hk (Nat.le_refl _) (show ObjOk X.prog X.w _ _ _ (.lst (ks.map V.str)) from ⟨by rw [List.length_map, ← lk]; exact h16, acc.toList, c', hv, by rw [Array.toArray_toList]; exact hD⟩), rfl, q _ (I.hok.fresh (Nat.le_refl _))⟩
theorem RpA.strs {K : PySem.W.Frag} {F : Hp} : ∀ zs : List Str, RpA K F (zs.map V.str) (zs.map PyData.str)
  | [] => .nil
  | z :: zs => .cons (.str z) (RpA.strs zs)
/-- list(D) -/
def tListK (ks : List Str) : DT := fun _ P => P (.fr (ks.map PyData.str))
theorem d_listK {d : Addr} {ks : List Str} (hc : X.calm = true) (D : KLst X.K X.w d ks) (g1 : Gl X "list") (m1 : X.mg "list" = none) (hg : Gl X x2) (hm : X.mg x2 = some (.ref d)) (hdb : (x2 == ("__debug__" : Str)) = false := by decide)
    (h1 : starEach [.Name x2 p2] X.env = (false, eval (.Name x2 p2) X.env) :: starEach [] X.env := by rfl) (h2 : (backTo pos (starEach [] X.env)).any (·.1) = false := by rfl) : DPE X w (.Call (.Name "list" p) [.Name x2 p2] [] pos) (tListK ks) := by
  have hx : PE X (.Name x2 p2) (tC (.ref d)) := pe_glob (v := .ref d) hg hm rfl hdb
  refine pe_weak (pe_callTy (cr_listK hc D) g1 m1 (by decide +kernel) (pa_cons hx pa_nil h1) (by decide) (by decide) h1 h2) fun σ H Q ⟨env, F, P, r, h, q⟩ => ?_
  exact ⟨rfl, fun p hp => res_new r.wd (RpA.strs ks) q h p hp⟩
end
/-- a tuple of the module, told by its place -/
def tupAt (K : PySem.W.Frag) (a : Addr) (vs : List He.Dv) : Bool := match K.lookup a with
  | some ⟨.type c, _, .seq its _, _⟩ => decide (c = "tuple") && (decide (its.size ≤ sizeLine) && He.relAll (vs.map (He.Dv.v K)) its.toList)
  | _ => false
/-- where the value of a key stands -/
def vaA (K : PySem.W.Frag) (d : Addr) (z : Str) : Addr := match PySem.W.nsIn K d z with
  | some (some (.ref a)) => a
  | _ => 0
theorem tupAt_ok {K : PySem.W.Frag} {a : Addr} {vs : List He.Dv} {xs : List PyData} (h : tupAt K a vs = true) (r : ∀ F, RpA K F (vs.map (He.Dv.v K)) xs) : ∀ F, Rp K F (.ref a) (.tuple xs) := fun F => by
  refine .tup ?_ (r F)
  unfold tupAt at h
  split at h
  · next c od its n sl q =>
    rw [Bool.and_eq_true, Bool.and_eq_true] at h
    obtain ⟨h1, h2, h3⟩ := h
    exact .inr ⟨_, its, n, q, congrArg Value.type (of_decide_eq_true h1), rfl, of_decide_eq_true h2, He.relAll_ok h3⟩
  · cases h
end Dl
/-! ### data that is good for ==, repr and copying; names, small fractions, papers -/
namespace Dl
open PySem PySem.Spec PyProof.Rows L2 PySem.W
mutual
/-- data whose lists are not too long -/
def okC : PyData → Bool
  | .list xs => decide (xs.length ≤ 5000) && okCs xs
  | .tuple xs => decide (xs.length ≤ 5000) && okCs xs
  | _ => true
def okCs : List PyData → Bool
  | [] => true
  | x :: xs => okC x && okCs xs
end
/-- good data: not deeper than n, its text not longer than k -/
structure Gd (n k : Nat) (x : PyData) : Prop where
  ly : Ly n x
  sn : Sn n k x
  cp : okC x = true
structure GdL (n k : Nat) (xs : List PyData) : Prop where
  ly : PyData.canLayAll0 xs = true
  real : realA xs = true
  show_ : PyData.showableAll xs = true
  deep : PyData.depthAll xs ≤ n
  len : ((PyData.shownAll xs).map (·.length)).sum + 2 * xs.length ≤ k
  num : (PyData.shownAll xs).length = xs.length
  cp : okCs xs = true
theorem Gd.up {n k m l : Nat} {x : PyData} (h : Gd n k x) (hn : n ≤ m := by decide) (hk : k ≤ l := by decide) : Gd m l x := ⟨h.ly.up hn, h.sn.up hn hk, h.cp⟩
theorem gdl_nil {n : Nat} : GdL n 0 [] := ⟨by simp [PyData.canLayAll0], by simp [realA], by simp [PyData.showableAll], by simp [PyData.depthAll], by simp [PyData.shownAll], by simp [PyData.shownAll], by simp [okCs]⟩
theorem gdl_cons {n k l : Nat} {x : PyData} {xs : List PyData} (h : Gd n k x) (t : GdL n l xs) : GdL n (k + 2 + l) (x :: xs) := by
  have d1 := h.ly.deep
  have d2 := t.deep
  have l1 := h.sn.len
  have l2 := t.len
  refine ⟨by rw [PyData.canLayAll0, h.ly.lay, t.ly]; rfl, by rw [realA, h.sn.real, t.real]; rfl, by rw [PyData.showableAll, h.sn.show_, t.show_]; rfl, by simp only [PyData.depthAll]; omega, ?_, ?_, by rw [okCs, h.cp, t.cp]; rfl⟩
  · simp only [PyData.shownAll, List.map_cons, List.sum_cons, List.length_cons]
    omega
  · simp only [PyData.shownAll, List.length_cons, t.num]
theorem gd_tupL {n k : Nat} {xs : List PyData} (h : GdL n k xs) (hl : xs.length ≤ 5000) : Gd (n + 1) (k + 3) (.tuple xs) := by
  have d := h.deep
  have q := tupleText_len_le (PyData.shownAll xs)
  have l := h.len
  have nm := h.num
  refine ⟨⟨by rw [PyData.canLay0, h.ly], by simp only [PyData.depth]; omega⟩, ⟨by rw [realD, h.real], by rw [PyData.showable, h.show_], by simp only [PyData.depth]; omega, ?_⟩, by rw [okC, h.cp, decide_eq_true hl]; rfl⟩
  show (tupleText (PyData.shownAll xs)).length ≤ _
  omega
theorem gd_lstL {n k : Nat} {xs : List PyData} (h : GdL n k xs) (hl : xs.length ≤ 5000) : Gd (n + 1) (k + 3) (.list xs) := by
  have d := h.deep
  have q := listText_len_le (PyData.shownAll xs)
  have l := h.len
  have nm := h.num
  refine ⟨⟨by rw [PyData.canLay0, h.ly], by simp only [PyData.depth]; omega⟩, ⟨by rw [realD, h.real], by rw [PyData.showable, h.show_], by simp only [PyData.depth]; omega, ?_⟩, by rw [okC, h.cp, decide_eq_true hl]; rfl⟩
  show (listText (PyData.shownAll xs)).length ≤ _
  omega
theorem gdl_all {n k : Nat} : ∀ {xs : List PyData}, (∀ x ∈ xs, Gd n k x) → GdL n (xs.length * (k + 2)) xs
  | [], _ => by rw [List.length_nil, Nat.zero_mul]; exact gdl_nil
  | x :: xs, h => by
    have a := gdl_cons (h x (List.mem_cons_self ..)) (gdl_all fun y hy => h y (List.mem_cons_of_mem _ hy))
    rw [List.length_cons, Nat.succ_mul, Nat.add_comm (xs.length * (k + 2))]
    exact a
theorem GdL.up {n k m l : Nat} {xs : List PyData} (h : GdL n k xs) (hn : n ≤ m := by decide) (hk : k ≤ l := by decide) : GdL m l xs := ⟨h.ly, h.real, h.show_, Nat.le_trans h.deep hn, Nat.le_trans h.len hk, h.num, h.cp⟩
theorem gd_int {i : Int} {j : Nat} (h : i.natAbs < 2 ^ j) (hj : 0 < j := by decide) (hk : j < 1920 := by decide) : Gd 0 (j + 1) (.int i) := ⟨ly_int i, sn_int h hj hk, by simp [okC]⟩
theorem gd_bool (b : Bool) : Gd 0 5 (.bool b) := ⟨ly_bool b, sn_bool b, by simp [okC]⟩
theorem gd_str {z : Str} {l : Nat} (h : ∀ c ∈ z.cps.toList, c < 0x110000) (hl : z.length ≤ l) : Gd 0 (10 * l + 2) (.str z) := by
  have h' : (z.cps.all fun c => decide (c < 0x110000)) = true := by
    rw [← Array.all_toList, List.all_eq_true]
    exact fun c hc => decide_eq_true (h c hc)
  refine ⟨⟨by first | exact h' | (simp only [PyData.canLay0]; done) | (simp only [PyData.canLay0]; exact h') | (unfold PyData.canLay0; exact h'), by simp [PyData.depth]⟩, sn_str (Nat.le_trans (StrLaws.reprText_len z fun c hc => Nat.lt_of_lt_of_le (h c hc) (by decide)) (by omega)), by simp [okC]⟩
theorem Gd.sh {n k : Nat} {x : PyData} (h : Gd n k x) (hn : n ≤ 60 := by decide) (hk : k ≤ 100000 := by decide) : Sh x := h.sn.sh (Nat.le_trans hn (by decide)) hk
theorem Gd.eq {n k : Nat} {x : PyData} (h : Gd n k x) (hn : n ≤ 60 := by decide) : selfEq x := h.ly.selfEq (Nat.le_trans hn (by decide))
/-- a name -/
def Nam (z : Str) : Prop := 1 ≤ z.length ∧ z.length ≤ 8 ∧ ∀ c ∈ z.cps.toList, 97 ≤ c ∧ c ≤ 122
theorem Nam.gd {z : Str} (h : Nam z) : Gd 0 82 (.str z) := gd_str (l := 8) (fun c hc => by have := h.2.2 c hc; omega) h.2.1
/-- a small fraction -/
structure Sml (p q : Int) : Prop where
  f : Frac p q
  t : p.natAbs ≤ 10 ^ 12
  b : q ≤ 1000
abbrev frc (p q : Int) : PyData := .tuple [.int p, .int q]
theorem Sml.gd {p q : Int} (h : Sml p q) : Gd 1 91 (frc p q) := by
  have hq := h.f.pos
  have := h.t
  have := h.b
  exact (gd_tupL (gdl_cons (gd_int (j := 41) (show p.natAbs < 2 ^ 41 by omega)) (gdl_cons (gd_int (j := 41) (show q.natAbs < 2 ^ 41 by omega)) gdl_nil)) (by simp)).up
theorem gd_il {ns : List Int} {m : Nat} (h : ∀ n ∈ ns, 0 ≤ n ∧ n ≤ 1000) (hl : ns.length ≤ m) (hm : m ≤ 5000) : Gd 1 (m * 13 + 3) (.list (IL ns)) := by
  have a := gdl_all (n := 0) (k := 11) (xs := IL ns) fun x hx => by
    obtain ⟨n, hn, rfl⟩ := List.mem_map.mp hx
    have := h n hn
    exact gd_int (j := 10) (show n.natAbs < 2 ^ 10 by omega)
  rw [il_len] at a
  exact (gd_lstL a (by rw [il_len]; omega)).up (Nat.le_refl _) (by have := Nat.mul_le_mul_right 13 hl; omega)
/-- a row of a told, a held, a made paper -/
def RowT (x : PyData) : Prop := ∃ m p q u v : Int, x = .tuple [.int m, frc p q, frc u v] ∧ 0 ≤ m ∧ m ≤ 1000 ∧ Sml p q ∧ Sml u v ∧ p * v ≤ u * q
def SpR (ps : List Int) : Prop := 1 ≤ ps.length ∧ ps.length ≤ 6 ∧ (∀ p ∈ ps, 0 ≤ p ∧ p ≤ 1000) ∧ ps.Pairwise (· ≤ ·)
def RowH (x : PyData) : Prop := ∃ (m : Int) (ps : List Int) (p q u v : Int), x = .tuple [.int m, .list (IL ps), frc p q, frc u v] ∧ 0 ≤ m ∧ m ≤ 1000 ∧ SpR ps ∧ Sml p q ∧ Sml u v ∧ 0 ≤ u
def RowM (x : PyData) : Prop := ∃ (m : Int) (z : Str) (k : Int), x = .tuple [.int m, .str z, .int k] ∧ 0 ≤ m ∧ m ≤ 1000 ∧ Nam z ∧ 0 ≤ k ∧ k ≤ 1000
theorem gd_mark {m : Int} (h0 : 0 ≤ m) (h1 : m ≤ 1000) : Gd 0 11 (.int m) := gd_int (j := 10) (show m.natAbs < 2 ^ 10 by omega)
theorem RowT.gd {x : PyData} : RowT x → Gd 2 300 x := fun ⟨m, p, q, u, v, e, h0, h1, a, b, _⟩ => by
  subst e
  exact (gd_tupL (gdl_cons ((gd_mark h0 h1).up (m := 1) (l := 11)) (gdl_cons a.gd (gdl_cons b.gd gdl_nil))) (by simp)).up
theorem RowH.gd {x : PyData} : RowH x → Gd 2 300 x := fun ⟨m, ps, p, q, u, v, e, h0, h1, s, a, b, _⟩ => by
  subst e
  exact (gd_tupL (gdl_cons ((gd_mark h0 h1).up (m := 1) (l := 11)) (gdl_cons (gd_il (m := 6) s.2.2.1 s.2.1 (by decide)) (gdl_cons a.gd (gdl_cons b.gd gdl_nil)))) (by simp)).up
theorem RowM.gd {x : PyData} : RowM x → Gd 2 300 x := fun ⟨m, z, k, e, h0, h1, a, h2, h3⟩ => by
  subst e
  exact (gd_tupL (gdl_cons ((gd_mark h0 h1).up (m := 1) (l := 11)) (gdl_cons (a.gd.up (m := 1) (l := 82)) (gdl_cons ((gd_mark h2 h3).up (m := 1) (l := 11)) gdl_nil))) (by simp)).up
/-- rows: one to eight, their marks rise -/
def rowMark : PyData → Int
  | .tuple (.int m :: _) => m
  | _ => 0
def RowsOk (R : PyData → Prop) (rows : List PyData) : Prop := 1 ≤ rows.length ∧ rows.length ≤ 8 ∧ (∀ x ∈ rows, R x) ∧ (rows.map rowMark).Pairwise (· < ·)
theorem rows_gd {R : PyData → Prop} (hR : ∀ x, R x → Gd 2 300 x) {rows : List PyData} (h : RowsOk R rows) : Gd 3 2500 (.list rows) := by
  have a := gdl_all (n := 2) (k := 300) (xs := rows) fun x hx => hR x (h.2.2.1 x hx)
  have b := Nat.mul_le_mul_right 302 h.2.1
  exact (gd_lstL a (by have := h.2.1; omega)).up (by decide) (by omega)
/-- what a paper has behind its name -/
inductive Prt : Str → List PyData → Prop
  | thing {so : Str} {lv p q : Int} {ms : List Int} (h : so = "scale" ∧ 2 ≤ ms.length ∨ so = "box" ∧ 1 ≤ ms.length) (l0 : 0 ≤ lv) (l1 : lv ≤ 5) (f : Sml p q) (f0 : 0 ≤ p) (ml : ms.length ≤ 8) (mi : ∀ m ∈ ms, 0 ≤ m ∧ m ≤ 1000) (mr : ms.Pairwise (· < ·)) : Prt "thing" [.str so, .int lv, frc p q, .list (IL ms)]
  | told {t : Int} {rows : List PyData} (t0 : 0 ≤ t) (t1 : t ≤ 10 ^ 6) (r : RowsOk RowT rows) : Prt "told" [.int t, .list rows]
  | held {z : Str} {t : Int} {rows : List PyData} (n : Nam z) (t0 : 0 ≤ t) (t1 : t ≤ 10 ^ 6) (r : RowsOk RowH rows) : Prt "held" [.str z, .int t, .list rows]
  | made {p q : Int} {rows : List PyData} (f : Sml p q) (f0 : 0 ≤ p) (r : RowsOk RowM rows) : Prt "made" [frc p q, .list rows]
  | read {ps : List Int} (s : SpR ps) : Prt "read" [.list (IL ps)]
  | plain {k : Str} (h : k = "off" ∨ k = "harmed" ∨ k = "mended") : Prt k []
/-- a paper -/
def Pap (x : PyData) : Prop := ∃ (c d : Int) (k z : Str) (r : List PyData), x = .tuple (.int c :: .int d :: .str k :: .str z :: r) ∧ 1 ≤ c ∧ c ≤ 10 ^ 9 ∧ 0 ≤ d ∧ d ≤ 10 ^ 6 ∧ Nam z ∧ Prt k r
theorem gd_day {d : Int} (h0 : 0 ≤ d) (h1 : d ≤ 10 ^ 9) : Gd 0 41 (.int d) := gd_int (j := 40) (show d.natAbs < 2 ^ 40 by omega)
theorem gd_lit {z : Str} (h : (z.cps.all fun c => decide (c < 0x110000)) = true) (hl : z.length ≤ 8) : Gd 0 82 (.str z) := gd_str (l := 8) (fun c hc => by
  rw [← Array.all_toList, List.all_eq_true] at h
  exact of_decide_eq_true (h c hc)) hl
theorem Prt.gd {k : Str} {r : List PyData} (h : Prt k r) : Gd 0 82 (.str k) ∧ GdL 3 2800 r ∧ r.length ≤ 4 := by
  cases h with
  | @thing so lv p q ms hs l0 l1 f f0 ml mi mr =>
    have so8 : Gd 0 82 (.str so) := by
      rcases hs with ⟨rfl, _⟩ | ⟨rfl, _⟩ <;> exact gd_lit (by decide +kernel) (by decide +kernel)
    exact ⟨gd_lit (by decide +kernel) (by decide +kernel), (gdl_cons (so8.up (m := 3) (l := 82)) (gdl_cons ((gd_mark l0 (by omega)).up (m := 3) (l := 11)) (gdl_cons (f.gd.up (m := 3) (l := 91)) (gdl_cons ((gd_il (m := 8) mi ml (by decide)).up (m := 3) (l := 107)) gdl_nil)))).up, by simp⟩
  | told t0 t1 r => exact ⟨gd_lit (by decide +kernel) (by decide +kernel), (gdl_cons ((gd_day t0 (by omega)).up (m := 3) (l := 41)) (gdl_cons (rows_gd (fun _ h => h.gd) r) gdl_nil)).up, by simp⟩
  | held n t0 t1 r => exact ⟨gd_lit (by decide +kernel) (by decide +kernel), (gdl_cons (n.gd.up (m := 3) (l := 82)) (gdl_cons ((gd_day t0 (by omega)).up (m := 3) (l := 41)) (gdl_cons (rows_gd (fun _ h => h.gd) r) gdl_nil))).up, by simp⟩
  | made f f0 r => exact ⟨gd_lit (by decide +kernel) (by decide +kernel), (gdl_cons (f.gd.up (m := 3) (l := 91)) (gdl_cons (rows_gd (fun _ h => h.gd) r) gdl_nil)).up, by simp⟩
  | read s => exact ⟨gd_lit (by decide +kernel) (by decide +kernel), (gdl_cons ((gd_il (m := 6) s.2.2.1 s.2.1 (by decide)).up (m := 3) (l := 81)) gdl_nil).up, by simp⟩
  | plain h =>
    refine ⟨?_, (gdl_nil (n := 3)).up (m := 3) (l := 2800), by simp⟩
    rcases h with rfl | rfl | rfl <;> exact gd_lit (by decide +kernel) (by decide +kernel)
theorem Pap.gd {x : PyData} : Pap x → Gd 4 3100 x := fun ⟨c, d, k, z, r, e, c0, c1, d0, d1, n, h⟩ => by
  subst e
  obtain ⟨a, b, l⟩ := h.gd
  exact (gd_tupL (gdl_cons ((gd_day (by omega) c1).up (m := 3) (l := 41)) (gdl_cons ((gd_day d0 (by omega)).up (m := 3) (l := 41)) (gdl_cons (a.up (m := 3) (l := 82)) (gdl_cons (n.gd.up (m := 3) (l := 82)) b)))) (by simp only [List.length_cons]; omega)).up
end Dl
/-! ### an expression over which an owned list stays as it is -/
namespace Dl
open PySem PySem.Spec PyProof.Rows L2 PySem.W
theorem own_known {K : PySem.W.Frag} {w : Wn} {env : List Sl} {σ : L2.St} {F H : Hp} {i : Nat} {l : Addr} {xs : List PyData} (r : RelW K w env σ F H) (e : env[i]? = some (.ow l xs)) : RelW K w (env.set i (.d (.list xs))) σ (opn [l] F H) H := by
  obtain ⟨e1, h0, hf, ne, vs, hl, q⟩ := r.at' i _ e
  have k : ∀ a ∈ [l], w.H a = none ∧ F a = none ∧ a ≠ w.b.b := fun a m => by
    cases List.mem_singleton.mp m
    exact ⟨h0, hf, ne⟩
  have th : ∀ a ∈ [l], ∃ o, H a = some o ∧ isM o = true := fun a m => by
    cases List.mem_singleton.mp m
    exact ⟨_, hl, rfl⟩
  have st := r.st.freezeT k th
  have up : Same F (opn [l] F H) := opn_same fun a m => (k a m).2.1
  refine ⟨by rw [List.length_set]; exact r.len, st, fun j s h => ?_, own_set r.own fun a m => by cases m⟩
  rw [List.getElem?_set] at h
  by_cases hj : i = j
  · subst hj
    rw [if_pos rfl] at h
    split at h
    · cases h
      exact ⟨_, e1, .lst (by unfold opn; rw [if_pos (List.mem_singleton.mpr rfl)]; exact hl) (q.up up)⟩
    · cases h
  · rw [if_neg hj] at h
    have old := r.at' j s h
    have away : l ∉ slA s := fun m => hj (r.own i j _ _ l e h (by simp [slA]) m)
    have out : ∀ a ∈ slA s, F a = none → opn [l] F H a = none := fun a m h0 => by
      unfold opn
      rw [if_neg fun m2 => away (by rw [← List.mem_singleton.mp m2]; exact m)]
      exact h0
    cases s with
    | un => exact old
    | d x => obtain ⟨v, a1, a2⟩ := old; exact ⟨v, a1, a2.up up⟩
    | raw v => exact old
    | bag => exact old
    | ow m zs =>
      obtain ⟨b1, b2, b3, b4, ws, b5, b6⟩ := old
      exact ⟨b1, b2, out m (by simp [slA]) b3, b4, ws, b5, b6.up up⟩
    | tr p T y =>
      obtain ⟨v, b1, nd, kk, mr, qq⟩ := old
      exact ⟨v, b1, nd, fun a m => ⟨(kk a m).1, out a m (kk a m).2.1, (kk a m).2.2⟩, mr, qq.up up fun _ _ _ z => z⟩
/-- what may be told of it afterwards -/
def okT : DV → Prop
  | .d x => noL x = true
  | .fr xs => noLs xs = true
  | .ft _ => False
  | .ow _ _ => False
  | .tr _ _ _ => False
  | .raw _ => False
  | .bag => False
def tTmp (i : Nat) (t : DT) : DT := fun env P => match env[i]? with
  | some (.ow _ xs) => t (env.set i (.d (.list xs))) fun r => okT r ∧ P r
  | _ => False
theorem d_tmp {X : Cx} {w : Wn} {e : Expr} {t : DT} (i : Nat) (h : DPE X w e t) : DPE X w e (tTmp i t) := pe_weak h fun σ H Q ⟨env, F, P, r, h, q⟩ => by
  unfold tTmp at h
  split at h
  · next l xs ei =>
    obtain ⟨e1, h0, hf, ne, vs, hl, q0⟩ := r.at' i _ ei
    have op : ∀ a ∈ [l], F a = none ∧ a ≠ w.b.b ∧ ∃ o, H a = some o ∧ isM o = true := fun a m => by
      cases List.mem_singleton.mp m
      exact ⟨hf, ne, _, hl, rfl⟩
    refine ⟨_, _, _, own_known r ei, h, fun dv v F1 H1 s1 r1 h1 => ?_⟩
    obtain ⟨ok, h1⟩ := h1
    obtain ⟨st, keep⟩ := shut_ok r.wd op s1
    refine q dv v _ H1 st ?_ h1
    cases dv with
    | d x => exact noL_up keep ok r1
    | fr ys =>
      obtain ⟨p, us, a1, a2, a3, a4, a5, a6⟩ := r1
      exact ⟨p, us, a1, a2, by unfold shut; split; rfl; exact a3, a4, a5, noLs_up keep ok a6⟩
    | ft x => exact ok.elim
    | ow l xs => exact ok.elim
    | tr p S x => exact ok.elim
    | raw u => exact ok.elim
    | bag => exact ok.elim
  · exact h.elim
end Dl
namespace Dl
open PySem PySem.Spec PyProof.Rows L2
/-! ### trees made by comprehensions, and changed within -/
section
variable {K : PySem.W.Frag} {F H : Hp} {dp : Bool}
theorem OtA.app {T : List Addr} {ws : List V} {ys : List PyData} (q : OtA K F H dp T ws ys) : ∀ {S : List Addr} {vs : List V} {xs : List PyData}, OtA K F H dp S vs xs → OtA K F H dp (S ++ T) (vs ++ ws) (xs ++ ys)
  | _, _, _, .nil => q
  | _, _, _, .cons h t => by
    rw [List.append_assoc]
    exact .cons h (OtA.app q t)
end
def tre : DV → Option PyData
  | .d x => if noL x = true then some x else none
  | .ft x => some x
  | _ => none
theorem tre_ok {K : PySem.W.Frag} {b : Bg} {Hz F H : Hp} {v : V} {dv : DV} {y : PyData} (r : Res K b Hz F H dv v) (e : tre dv = some y) : ∃ S, S.Nodup ∧ (∀ a ∈ S, Hz a = none ∧ F a = none ∧ a ≠ b.b) ∧ Ot K F H true S v y := by
  unfold tre at e
  split at e
  · next x =>
    split at e
    · next n =>
      cases e
      exact ⟨[], .nil, fun a m => absurd m List.not_mem_nil, .leaf r fun _ => n⟩
    · cases e
  · next x =>
    cases e
    exact r
  · cases e
def lcT (g : PyData → List Sl → (List Sl → Prop) → Prop) (te : DT) (env : List Sl) : List PyData → List PyData → (DV → Prop) → Prop
  | [], acc, P => P (.ft (.list acc))
  | x :: xs, acc, P => g x env fun e2 => te e2 fun dv => ∃ y, tre dv = some y ∧ acc.length < 100000 ∧ lcT g te env xs (acc ++ [y]) P
def tLcT (ti : DIt) (g : PyData → List Sl → (List Sl → Prop) → Prop) (te : DT) (vs : List Nat) : DT := fun env P => ti env fun xs => lcT g te (unS env vs) xs [] P
section
variable {X : Cx} {w : Wn}
theorem lcT_go {ti : DIt} {g : PyData → List Sl → (List Sl → Prop) → Prop} {t : TG} {te : DT} {vs : List Nat} (tg' : Tgt X.K vs g t) {σ : L2.St} {H : Hp} {Q : VK} (h : lf X.K w (tLcT ti g te vs) σ H Q) : tLc (lfI X.K w ti) t (lfT X.K w fun _ P => P true) (lf X.K w te) vs σ H Q := by
  obtain ⟨env, F, P, r, h, q⟩ := h
  exact ⟨env, F, _, r, h, fun xs J F1 H1 s1 wl h1 D hD => by
    obtain ⟨G, Y, wk, hG, hY⟩ := wl.ex
    obtain ⟨us, eb⟩ := s1.bag.lst
    have Db : D ≠ w.b.b := fun e => by rw [e, eb] at hD; cases hD
    have F1D : F1 D = none := by
      cases e : F1 D with
      | none => rfl
      | some o => rw [s1.sub _ _ e] at hD; cases hD
    have r1 := (r.step s1).forgets vs
    refine lc_it wk (fun i H2 => ∃ F2 acc us S, Stp X.K w.b F1 H1 F2 H2 ∧ H2 D = some (.lst us) ∧ OtA X.K F2 H2 true S us acc ∧ S.Nodup ∧ (∀ a ∈ S, H1 a = none ∧ F2 a = none ∧ a ≠ w.b.b ∧ a ≠ D) ∧ F2 D = none ∧ lcT g te (unS env vs) (xs.drop i) acc P) ⟨F1, [], [], [], s1.wd.laidM hD, upd_same, .nil, .nil, fun a m => absurd m List.not_mem_nil, F1D, h1⟩ (fun i H2 _ ⟨F2, acc, us, S, st, _⟩ => hG F2 H2 st.ex st.wd) (fun i v H2 H3 hi ⟨F2, acc, us, S, st, eD, ra, nd, k, fD, hl⟩ y => ?_) fun H2 ⟨F2, acc, us, S, st, eD, ra, nd, k, fD, hl⟩ => ?_
    · obtain ⟨F3, x, s3, ex, rx⟩ := hY i F2 H2 v H3 st.ex st.wd y
      have e1 : xs.drop i = x :: xs.drop (i + 1) := by
        obtain ⟨hl, ex⟩ := List.getElem?_eq_some_iff.mp ex
        rw [List.drop_eq_getElem_cons hl, ex]
      rw [e1] at hl
      have st3 := st.trans s3
      have eD3 := s3.keep D (.lst us) Db (by intro _ z; cases z) eD
      have fD3 : F3 D = none := s3.new D fD (by rw [eD]; exact fun z => nomatch z)
      refine tg'.run w.b w.F w.H env σ F3 H3 v x _ _ (r1.step st3) rx hl fun env' σ' r' wi hl => ⟨wi, env', F3, fun c => c = true ∧ te env' fun dv => ∃ y, tre dv = some y ∧ acc.length < 100000 ∧ lcT g te (unS env vs) (xs.drop (i + 1)) (acc ++ [y]) P, r', ⟨rfl, hl⟩, fun c F4 H4 s4 h4 => ?_⟩
      have eD4 := s4.keep D (.lst us) Db (by intro _ z; cases z) eD3
      have fD4 : F4 D = none := s4.new D fD3 (by rw [eD3]; exact fun z => nomatch z)
      obtain ⟨rfl, h4⟩ := h4
      refine ⟨env', F4, _, r'.step s4, h4, fun dv v5 F5 H5 s5 r5 h5 => ?_⟩
      obtain ⟨y, ey, hlen, h5⟩ := h5
      obtain ⟨S5, nd5, k5, o5⟩ := tre_ok r5 ey
      have s34 := s3.trans s4
      have s35 := s34.trans s5
      have eD5 := s5.keep D (.lst us) Db (by intro _ z; cases z) eD4
      have fD5 : F5 D = none := s5.new D fD4 (by rw [eD4]; exact fun z => nomatch z)
      have th := OtA.there ra
      have ra5 : OtA X.K F5 H5 true S us acc := OtA.up s35.ex (fun a m o ho => by
        obtain ⟨o', ho', mo⟩ := th a m
        rw [ho] at ho'
        cases ho'
        exact s35.keep a o (k a m).2.2.1 (isM_tbl mo) ho) ra
      have st5 := st.trans s35
      have pD : D ∉ S ++ S5 := fun m => by
        rcases List.mem_append.mp m with m | m
        · exact (k D m).2.2.2 rfl
        · have z := (k5 D m).1
          rw [eD4] at z
          cases z
      have up : ∀ a ∈ S ++ S5, ∀ o, H5 a = some o → upd H5 D (.lst (us ++ [v5])) a = some o := fun a m o ho => by
        rw [upd_ne (fun e => pD (by rw [← e]; exact m))]
        exact ho
      have cat : OtA X.K F5 (upd H5 D (.lst (us ++ [v5]))) true (S ++ S5) (us ++ [v5]) (acc ++ [y]) := by
        have q2 := OtA.app (OtA.cons o5 .nil) ra5
        rw [List.append_nil] at q2
        exact OtA.up (fun _ _ z => z) up q2
      refine ⟨us, eD5, by rw [ra5.len]; exact lim_lt hlen, F5, acc ++ [y], us ++ [v5], S ++ S5, ⟨fun a o ne nt ha => ?_, st5.bag.up (fun _ _ h => h) (upd_ne (Ne.symm Db)) (fun t _ h1 h2 => ⟨h1, by obtain ⟨ps, z, k⟩ := h2; exact ⟨ps, by rw [upd_ne (fun e => by rw [e, eD5] at z; cases z)]; exact z, k⟩⟩), st5.ex, fun a o ha => ?_, st5.fb, st5.new, fun a ps ne ha => by
        obtain ⟨qs, h1, k⟩ := st5.tab a ps ne ha
        exact ⟨qs, by rw [upd_ne (ne_of_none ha hD)]; exact h1, k⟩⟩, upd_same, cat, ?_, fun a m => ?_, fD5, h5⟩
      · rw [upd_ne (ne_of_none ha hD)]
        exact st5.keep a o ne nt ha
      · rw [upd_ne (ne_of_none ha fD5)]
        exact st5.sub a o ha
      · refine List.nodup_append.mpr ⟨nd, nd5, fun a m b m2 e => ?_⟩
        subst e
        obtain ⟨o, ho, mo⟩ := th a m
        have z := s34.there (k a m).2.2.1 (by rw [ho]; exact fun z => nomatch z)
        exact z (k5 a m2).1
      · rcases List.mem_append.mp m with m | m
        · refine ⟨(k a m).1, s35.new a (k a m).2.1 ?_, (k a m).2.2⟩
          obtain ⟨o, ho, mo⟩ := th a m
          rw [ho]
          exact fun z => nomatch z
        · obtain ⟨z1, z2, z3⟩ := k5 a m
          exact ⟨(st.trans s34).back z3 z1, z2, z3, fun e => pD (List.mem_append.mpr (.inr (by rw [← e]; exact m)))⟩
    · rw [List.drop_length] at hl
      refine q (.ft (.list acc)) _ F2 H2 (s1.trans st) ⟨D :: S, List.nodup_cons.mpr ⟨fun m => (k D m).2.2.2 rfl, nd⟩, fun a m => ?_, .lst eD ra⟩ hl
      rcases List.mem_cons.mp m with rfl | m
      · exact ⟨s1.back Db hD, fD, Db⟩
      · exact ⟨s1.back (k a m).2.2.1 (k a m).1, (k a m).2.1, (k a m).2.2.1⟩⟩
theorem d_lcT {elt tg iter : Expr} {scope : Scope} {own : List (Str × Nat)} {pos : Pos} {ti : DIt} {g : PyData → List Sl → (List Sl → Prop) → Prop} {t : TG} {te : DT} (hc : X.calm = true) (hN : X.N.Nodup) (hi : PI X tg iter (lfI X.K w ti)) (ok : BlkOk X.N X.env.scope scope own)
    (tg' : Tgt X.K (own.map (·.2)) g t)
    (hg : ∀ (s : Shared) (H : Hp) (C : Addr) (cl : List (Str × Addr)) (fp : List Addr), PG (X.blk s H scope (compEnvC scope cl C X.env) fp) tg t)
    (he : ∀ (s : Shared) (H : Hp) (C : Addr) (cl : List (Str × Addr)) (fp : List Addr), PE (X.blk s H scope (compEnvC scope cl C X.env) fp) elt (lf X.K w te)) (hs : ∀ x, foldedSetIterable iter X.env x = pure x := by intro _; rfl) :
    DPE X w (.ListComp elt [⟨tg, iter, [], 0⟩] scope pos) (tLcT ti g te (own.map (·.2))) :=
  pe_weak (pe_lc hc hN hi ok hg (fun _ _ _ _ _ => pts_nilD) he hs) fun _ _ _ h => lcT_go tg' h
end
/-! ### tuple(e), e a new tree -/
def tTupT (te : DT) : DT := fun env P => te env fun u => match u with
  | .ft (.list xs) => P (.ft (.tuple xs))
  | _ => False
section
variable {X : Cx} {w : Wn} {pos p : Pos} {e : Expr} {te : DT}
theorem ot_lst {K : PySem.W.Frag} {F H : Hp} {S : List Addr} {v : V} {xs : List PyData} (h : Ot K F H true S v (.list xs)) : ∃ a T vs, S = a :: T ∧ v = .ref a ∧ H a = some (.lst vs) ∧ OtA K F H true T vs xs := by
  cases h with
  | leaf r n => have n := n rfl; simp [noL] at n
  | lst h r => exact ⟨_, _, _, rfl, rfl, h, r⟩
theorem d_tupT (g1 : Gl X "tuple") (m1 : X.mg "tuple" = none) (he : DPE X w e te)
    (h1 : starEach [e] X.env = (false, eval e X.env) :: starEach [] X.env := by rfl) (h2 : (backTo pos (starEach [] X.env)).any (·.1) = false := by rfl) :
    DPE X w (.Call (.Name "tuple" p) [e] [] pos) (tTupT te) :=
  pe_weak (pe_callTy call_tuple_of g1 m1 (by decide +kernel) (pa_cons he pa_nil h1) (by decide) (by decide) h1 h2) fun σ H Q ⟨env, F, P, r, h, q⟩ => by
    refine ⟨env, F, _, r, h, fun dv v F1 H1 s1 r1 h1 => ?_⟩
    split at h1
    · obtain ⟨S, nd, k, o⟩ := r1
      obtain ⟨a, T, vs, rfl, rfl, ea, oa⟩ := ot_lst o
      refine ⟨a, vs, rfl, .inl ⟨SqL.of ea, fun l hl => ?_⟩⟩
      have s2 := s1.wd.laid (o := .tup vs) hl
      have ne : ∀ b ∈ T, b ≠ l := fun b m e => by
        obtain ⟨o, ho, _⟩ := oa.there b m
        rw [e, hl] at ho
        cases ho
      refine q (.ft _) _ _ _ (s1.trans s2) ⟨T, (List.nodup_cons.mp nd).2, fun b m => ?_, .tup (SqT.of upd_same) (OtA.up s2.ex (fun b m o ho => by rw [upd_ne (ne b m)]; exact ho) oa)⟩ h1
      obtain ⟨z1, z2, z3⟩ := k b (List.mem_cons_of_mem _ m)
      exact ⟨z1, by rw [upd_ne (ne b m)]; exact z2, z3⟩
    · exact h1.elim
end
/-! ### x[k].clear(), x[k].extend(e), x a tuple's tree -/
theorem OtA.item {K : PySem.W.Frag} {F H : Hp} {ys : List PyData} : ∀ {S : List Addr} {vs : List V} {xs : List PyData} {m : Nat}, OtA K F H true S vs xs → xs[m]? = some (.list ys) →
    ∃ (A : List Addr) (a : Addr) (T B : List Addr) (us : List V), S = A ++ (a :: T) ++ B ∧ vs[m]? = some (.ref a) ∧ H a = some (.lst us) ∧ OtA K F H true T us ys ∧
      ∀ (F2 H2 : Hp) (T2 : List Addr) (us2 : List V) (ys2 : List PyData), Same F F2 → H2 a = some (.lst us2) → OtA K F2 H2 true T2 us2 ys2 → (∀ b, b ∈ A ∨ b ∈ B → ∀ o, H b = some o → H2 b = some o) → OtA K F2 H2 true (A ++ (a :: T2) ++ B) vs (xs.set m (.list ys2))
  | _, _, _, _, .nil, e => by simp at e
  | _, _, _, 0, .cons (S := S) (T := T) h t, e => by
    simp at e
    subst e
    obtain ⟨a, T1, us, rfl, rfl, ea, oa⟩ := ot_lst h
    exact ⟨[], a, T1, T, us, rfl, rfl, ea, oa, fun F2 H2 T2 us2 ys2 sm e2 o2 kp => .cons (.lst e2 o2) (OtA.up sm (fun b m => kp b (.inr m)) t)⟩
  | _, _, _, m + 1, .cons (S := S) (T := T) h t, e => by
    obtain ⟨A, a, T1, B, us, rfl, e1, ea, oa, put⟩ := OtA.item (m := m) t (by simpa using e)
    refine ⟨S ++ A, a, T1, B, us, by simp [List.append_assoc], by simpa using e1, ea, oa, fun F2 H2 T2 us2 ys2 sm e2 o2 kp => ?_⟩
    have z := OtA.cons (Ot.up sm (fun b m => kp b (.inl (List.mem_append.mpr (.inl m)))) h) (put F2 H2 T2 us2 ys2 sm e2 o2 fun b hb => kp b (hb.imp (fun m => List.mem_append.mpr (.inr m)) id))
    simpa [List.append_assoc] using z
/-- x[k].clear(), x a tuple's tree -/
def tClrD (i : Nat) (ti : DT) : DS := fun d env => match env[i]? with
  | some (.tr true S (.tuple xs)) => ti env fun u => rd u fun y => match y with
    | .int k => ∃ m ys, ixN xs.length k = some m ∧ xs[m]? = some (.list ys) ∧ ∀ S2, d.nx (env.set i (.tr true S2 (.tuple (xs.set m (.list [])))))
    | _ => False
  | _ => False
/-- x[k].extend(e), x a tuple's tree, e a new tree -/
def tExtD (i : Nat) (ti te : DT) : DS := fun d env => match env[i]? with
  | some (.tr true S (.tuple xs)) => ti env fun u => rd u fun y => match y with
    | .int k => ∃ m ys, ixN xs.length k = some m ∧ xs[m]? = some (.list ys) ∧ te env fun dv => match dv with
      | .ft (.list zs) => ys.length + zs.length ≤ 100000 ∧ ∀ S2, d.nx (env.set i (.tr true S2 (.tuple (xs.set m (.list (ys ++ zs))))))
      | _ => False
    | _ => False
  | _ => False
theorem noLs_item {xs : List PyData} {m : Nat} {ys : List PyData} (h : noLs xs = true) (e : xs[m]? = some (.list ys)) : False := by
  induction xs generalizing m with
  | nil => simp at e
  | cons x xs ih =>
    rw [noLs, Bool.and_eq_true] at h
    cases m with
    | zero =>
      simp at e
      rw [e] at h
      simp [noL] at h
    | succ m => exact ih h.2 (by simpa using e)
theorem ot_tup {K : PySem.W.Frag} {F H : Hp} {S : List Addr} {v : V} {xs : List PyData} {m : Nat} {ys : List PyData} (h : Ot K F H true S v (.tuple xs)) (e : xs[m]? = some (.list ys)) : ∃ r vs, v = .ref r ∧ SqT K F r vs ∧ OtA K F H true S vs xs := by
  cases h with
  | leaf r n => exact (noLs_item (by have n := n rfl; simpa only [noL] using n) e).elim
  | tup h r => exact ⟨_, _, rfl, h, r⟩
theorem atI_of {α : Type} {xs : List α} {k : Int} {m : Nat} {z : α} (h : ixN xs.length k = some m) (e : xs[m]? = some z) : atI xs k = some z := by
  unfold atI
  rw [h]
  exact e
section
variable {X : Cx} {w : Wn} {pos : Pos} {e : Expr} {ti te : DT}
theorem ds_clr {i : Nat} (base : PE X e (tBM0 X.K "list" rClear (tOp (rIxT X.K) (tVar i) (lf X.K w ti)))) (hs : swapsWith e none pos.line X.env = pure false := by rfl) : DPS X w (.Expr e pos) (tClrD i ti) :=
  ps_weak (ps_expr base hs) fun D σ H ⟨env, F, d, r, h, fit⟩ => by
    unfold tClrD at h
    split at h
    · next S xs ei =>
      obtain ⟨v, e1, _⟩ := r.at' i _ ei
      refine ⟨v, e1, env, F, _, r, h, fun dv u F1 H1 s1 r1 h1 => ?_⟩
      obtain ⟨y, y1, h1⟩ := rd_ok r1 h1
      split at h1
      · next k =>
        cases y1.int
        obtain ⟨m, ys, em, ex, h1⟩ := h1
        have r2 := r.step s1
        obtain ⟨v', e1', nd, k2, mr, q⟩ := r2.at' i _ ei
        rw [e1] at e1'
        cases e1'
        obtain ⟨ro, vs, rfl, hv, oa⟩ := ot_tup q ex
        obtain ⟨A, a, T, B, us, rfl, ev, ea, ot, put⟩ := oa.item ex
        have hn := List.nodup_append.mp nd
        have hn1 := List.nodup_append.mp hn.1
        have aA : a ∉ A := fun z => hn1.2.2 a z a (List.mem_cons_self ..) rfl
        have aB : a ∉ B := fun z => hn.2.2 a (List.mem_append.mpr (.inr (List.mem_cons_self ..))) a z rfl
        have sub : ∀ b, b ∈ A ++ [a] ++ B → b ∈ A ++ (a :: T) ++ B := fun b z => by
          simp only [List.mem_append, List.mem_cons, List.not_mem_nil, or_false] at z ⊢
          rcases z with (z | z) | z
          · exact .inl (.inl z)
          · exact .inl (.inr (.inl z))
          · exact .inr z
        refine ⟨ro, vs, k, .ref a, rfl, rfl, sqt_up s1.sub hv, atI_of (by rw [oa.len]; exact em) ev, .inl ⟨rfl, us, SqL.of ea⟩, a, us, rfl, rfl, ea, ?_⟩
        refine fit.nx _ _ F1 _ (r2.wrtS ei (s' := .tr true (A ++ [a] ++ B) (.tuple (xs.set m (.list [])))) (fun b o n hb => ?_) ⟨_, e1, ?_, fun b z => k2 b (sub b z), fun z => by (cases z), .tup hv (put F1 _ [] [] [] sm0 upd_same .nil fun b hb o ho => ?_)⟩ fun b z => .inl (sub b z)) s1.ex (h1 _)
        · rw [upd_ne (fun z => n (by rw [z]; exact sub a (by simp)))]
          exact hb
        · refine List.Sublist.nodup ?_ nd
          exact List.Sublist.append (List.Sublist.append (List.Sublist.refl _) (List.Sublist.cons_cons _ (List.nil_sublist _))) (List.Sublist.refl _)
        · rw [upd_ne (fun z => by subst z; exact hb.elim aA aB)]
          exact ho
      · exact h1.elim
    · exact h.elim
theorem ds_ext {i : Nat} (base : PE X e (tBM X.K "list" rExtend (tOp (rIxT X.K) (tVar i) (lf X.K w ti)) (tCons (lf X.K w te) tNil))) (hs : swapsWith e none pos.line X.env = pure false := by rfl) : DPS X w (.Expr e pos) (tExtD i ti te) :=
  ps_weak (ps_expr base hs) fun D σ H ⟨env, F, d, r, h, fit⟩ => by
    unfold tExtD at h
    split at h
    · next S xs ei =>
      obtain ⟨v, e1, _⟩ := r.at' i _ ei
      refine ⟨v, e1, env, F, _, r, h, fun dv u F1 H1 s1 r1 h1 => ?_⟩
      obtain ⟨y, y1, h1⟩ := rd_ok r1 h1
      split at h1
      · next k =>
        cases y1.int
        obtain ⟨m, ys, em, ex, h1⟩ := h1
        have r2 := r.step s1
        obtain ⟨v', e1', nd, k2, mr, q⟩ := r2.at' i _ ei
        rw [e1] at e1'
        cases e1'
        obtain ⟨ro, vs, rfl, hv, oa⟩ := ot_tup q ex
        have th := oa.there
        obtain ⟨A, a, T, B, us, rfl, ev, ea, ot, put⟩ := oa.item ex
        refine ⟨ro, vs, k, .ref a, rfl, rfl, sqt_up s1.sub hv, atI_of (by rw [oa.len]; exact em) ev, .inl ⟨rfl, us, SqL.of ea⟩, env, F1, _, r2, h1, fun dv5 v5 F5 H5 s5 r5 h5 => ?_⟩
        split at h5
        · next zs =>
          obtain ⟨S5, nd5, k5, o5⟩ := r5
          obtain ⟨c, T5, ws, rfl, rfl, ec, o5⟩ := ot_lst o5
          obtain ⟨hlen, h5⟩ := h5
          have r3 := r2.step s5
          obtain ⟨v'', e1'', _, k3, _, _⟩ := r3.at' i _ ei
          have aS : a ∈ A ++ (a :: T) ++ B := List.mem_append.mpr (.inl (List.mem_append.mpr (.inr (List.mem_cons_self ..))))
          have old : ∀ b ∈ A ++ (a :: T) ++ B, ∀ o, H1 b = some o → H5 b = some o := fun b z o ho => by
            obtain ⟨o', ho', mo⟩ := th b z
            rw [ho] at ho'
            cases ho'
            exact s5.keep b o (k2 b z).2.2 (isM_tbl mo) ho
          have far : ∀ b ∈ A ++ (a :: T) ++ B, b ∉ c :: T5 := fun b z z5 => by
            obtain ⟨o, ho, mo⟩ := th b z
            rw [(k5 b z5).1] at ho
            cases ho
          have ea5 := old a aS _ ea
          have hn := List.nodup_append.mp nd
          have hn1 := List.nodup_append.mp hn.1
          have hn2 := List.nodup_cons.mp hn1.2.1
          have aA : a ∉ A := fun z => hn1.2.2 a z a (List.mem_cons_self ..) rfl
          have aB : a ∉ B := fun z => hn.2.2 a (List.mem_append.mpr (.inr (List.mem_cons_self ..))) a z rfl
          have aT5 : a ∉ T5 := fun z => far a aS (List.mem_cons_of_mem _ z)
          refine ⟨a, c, us, ws, rfl, rfl, ea5, ec, by rw [ot.len, o5.len]; exact lim_le hlen, ?_⟩
          have mem : ∀ b, b ∈ A ++ (a :: (T ++ T5)) ++ B → b ∈ A ++ (a :: T) ++ B ∨ b ∈ T5 := fun b z => by
            simp only [List.mem_append, List.mem_cons] at z ⊢
            rcases z with (z | z | z | z) | z
            · exact .inl (.inl (.inl z))
            · exact .inl (.inl (.inr (.inl z)))
            · exact .inl (.inl (.inr (.inr z)))
            · exact .inr z
            · exact .inl (.inr z)
          have r4 := r3.wrtS (H' := upd H5 a (.lst (us ++ ws))) ei (s' := .un) (fun b o n hb => by
            rw [upd_ne (fun z => n (by rw [z]; exact aS))]
            exact hb) True.intro fun b z => absurd z List.not_mem_nil
          have r6 := r4.put i (z := .tr true (A ++ (a :: (T ++ T5)) ++ B) (.tuple (xs.set m (.list (ys ++ zs))))) (v := .ref ro) ⟨_, rfl, ?_, fun b z => ?_, fun z => by (cases z), .tup (sqt_up s5.ex hv) (put F5 _ (T ++ T5) (us ++ ws) (ys ++ zs) s5.ex upd_same ?_ fun b hb o ho => ?_)⟩ fun b z j t nj ej m2 => ?_
          · rw [List.set_set] at r6
            have es : σ.set i (some (.ref ro)) = σ := by
              refine List.ext_getElem? fun j => ?_
              rw [List.getElem?_set]
              by_cases hj : i = j
              · subst hj
                rw [if_pos rfl]
                rw [e1]
                rw [if_pos (by
                  have := (List.getElem?_eq_some_iff.mp e1).1
                  exact this)]
              · rw [if_neg hj]
            rw [es] at r6
            exact fit.nx _ _ F5 _ r6 (s1.ex.trans s5.ex) (h5 _)
          · refine List.nodup_append.mpr ⟨List.nodup_append.mpr ⟨hn1.1, List.nodup_cons.mpr ⟨fun z => (List.mem_append.mp z).elim hn2.1 aT5, List.nodup_append.mpr ⟨hn2.2, (List.nodup_cons.mp nd5).2, fun x hx y hy e => ?_⟩⟩, fun x hx y hy e => ?_⟩, hn.2.1, fun x hx y hy e => ?_⟩
            · subst e
              exact far x (by simp [hx]) (List.mem_cons_of_mem _ hy)
            · subst e
              rcases List.mem_cons.mp hy with rfl | hy
              · exact aA hx
              · rcases List.mem_append.mp hy with hy | hy
                · exact hn1.2.2 x hx x (List.mem_cons_of_mem _ hy) rfl
                · exact far x (by simp [hx]) (List.mem_cons_of_mem _ hy)
            · subst e
              rcases mem x (List.mem_append.mpr (.inl hx)) with z | z
              · rcases List.mem_append.mp hx with hx | hx
                · exact hn.2.2 x (List.mem_append.mpr (.inl hx)) x hy rfl
                · rcases List.mem_cons.mp hx with rfl | hx
                  · exact aB hy
                  · rcases List.mem_append.mp hx with hx | hx
                    · exact hn.2.2 x (List.mem_append.mpr (.inr (List.mem_cons_of_mem _ hx))) x hy rfl
                    · exact far x (List.mem_append.mpr (.inr hy)) (List.mem_cons_of_mem _ hx)
              · exact far x (List.mem_append.mpr (.inr hy)) (List.mem_cons_of_mem _ z)
          · rcases mem b z with z | z
            · exact k3 b z
            · obtain ⟨z1, z2, z3⟩ := k5 b (List.mem_cons_of_mem _ z)
              exact ⟨r2.st.back z3 z1, z2, z3⟩
          · have q2 := OtA.app (OtA.up (F' := F5) (H' := upd H5 a (.lst (us ++ ws))) sm0 (fun b z o ho => by
              rw [upd_ne (fun e => aT5 (by rw [← e]; exact z))]
              exact ho) o5) (OtA.up (F' := F5) (H' := upd H5 a (.lst (us ++ ws))) s5.ex (fun b z o ho => by
              rw [upd_ne (fun e => hn2.1 (by rw [← e]; exact z))]
              exact old b (by simp [z]) o ho) ot)
            exact q2
          · rw [upd_ne (fun z => by subst z; exact hb.elim aA aB)]
            refine old b ?_ o ho
            rcases hb with hb | hb
            · simp [hb]
            · simp [hb]
          · rw [List.getElem?_set_ne (Ne.symm nj)] at ej
            rcases mem b z with z | z
            · exact nj (r3.own j i _ _ b ej ei m2 z)
            · obtain ⟨_, _, _, o, ho, _⟩ := slA_ok (r2.at' j _ ej) b m2
              rw [(k5 b (List.mem_cons_of_mem _ z)).1] at ho
              cases ho
        · exact h5.elim
      · exact h1.elim
    · exact h.elim
end
end Dl
namespace Dl
open PySem PySem.Spec PyProof.Rows L2
/-! ### {i: a, j: b} as data -/
def tDict2 (i j : Int) (ta tb : DT) : DT := fun env P => ta env fun u => tb env fun v => match frz u, frz v with
  | .d x, .d y => P (.d (.dict [(.int i, x), (.int j, y)]))
  | _, _ => False
section
variable {X : Cx} {w : Wn} {pos : Pos}
theorem d_dict2 {a b : Expr} {ta tb : DT} {i j : Int} {j1 j2} {p1 p2 : Pos} (ha : DPE X w a ta) (hb : DPE X w b tb) (hm : ∀ u v : V, mergeK [] [(Sum.inl i, u), (Sum.inl j, v)] = [(Sum.inl i, u), (Sum.inl j, v)] := by intro _ _; rfl) :
    DPE X w (.Dict [some (.Constant (.int i) j1 p1), some (.Constant (.int j) j2 p2)] [a, b] pos) (tDict2 i j ta tb) :=
  pe_weak (pe_disp (pps_cons pe_int ha (pps_cons pe_int hb pps_nil)) rfl rfl (by simp) (by simp)) fun σ H Q ⟨env, F, P, r, h, q⟩ => fun p hp => by
    have s0 := r.wd.laidM (o := .dK []) hp
    obtain ⟨bs, eb⟩ := r.wd.bag.lst
    have pb : p ≠ w.b.b := fun e => by rw [e, eb] at hp; cases hp
    have Fp : F p = none := by
      cases e : F p with
      | none => rfl
      | some o => rw [r.wd.sub _ _ e] at hp; cases hp
    refine ⟨env, F, _, r.step s0, h, fun dv v F1 H1 s1 r1 h1 => ?_⟩
    obtain ⟨F1', s1', a1⟩ := frz_ok s1 r1
    refine ⟨env, F1', _, (r.step s0).step s1', h1, fun dv2 v2 F2 H2 s2 r2 h2 => ?_⟩
    obtain ⟨F2', s2', a2⟩ := frz_ok s2 r2
    split at h2
    · next x y ex ey =>
      rw [ex] at a1
      rw [ey] at a2
      have s02 := s0.trans (s1'.trans s2')
      have e1 : H1 p = some (.dK []) := s1'.keep p _ pb (fun _ z => nomatch z) upd_same
      have e2 : H2 p = some (.dK []) := s2'.keep p _ pb (fun _ z => nomatch z) e1
      have f2 : F2' p = none := (s1'.trans s2').new p Fp (by rw [upd_same]; exact fun z => nomatch z)
      refine ⟨e2, [(Sum.inl i, v), (Sum.inl j, v2)], rfl, by simp, ?_⟩
      rw [hm]
      have st : Stp X.K w.b F H F2' (upd H2 p (.dK [(Sum.inl i, v), (Sum.inl j, v2)])) := ⟨fun a o ne nt ha => by
          rw [upd_ne (ne_of_none ha hp)]
          exact s02.keep a o ne nt ha, s02.bag.up (fun _ _ h => h) (upd_ne (Ne.symm pb)) (fun t _ h1 h2 => ⟨h1, by obtain ⟨ps, z, k⟩ := h2; exact ⟨ps, by rw [upd_ne (fun e => by rw [e, e2] at z; cases z)]; exact z, k⟩⟩), s02.ex, fun a o ha => by
          rw [upd_ne (ne_of_none ha f2)]
          exact s02.sub a o ha, s02.fb, s02.new, fun a ps ne ha => by
          obtain ⟨qs, h1, k⟩ := s02.tab a ps ne ha
          exact ⟨qs, by rw [upd_ne (ne_of_none ha hp)]; exact h1, k⟩⟩
      have fz := st.freezeT (S := [p]) (fun a m => by cases List.mem_singleton.mp m; exact ⟨hp, f2, pb⟩) (fun a m => by cases List.mem_singleton.mp m; exact ⟨_, upd_same, rfl⟩)
      have sm : Same F2' (opn [p] F2' (upd H2 p (.dK [(Sum.inl i, v), (Sum.inl j, v2)]))) := opn_same fun l m => by cases List.mem_singleton.mp m; exact f2
      refine q (.d (.dict [(.int i, x), (.int j, y)])) _ _ _ fz ?_ h2
      refine Rp.dct (kvs := [(Sum.inl i, v), (Sum.inl j, v2)]) (ks := [.int i, .int j]) (xs := [x, y]) ?_ (.cons (.int i) (.cons (.int j) .nil)) (.cons (Rp.up sm (Rp.up s2'.ex a1)) (.cons (Rp.up sm a2) .nil))
      unfold opn
      rw [if_pos (List.mem_singleton.mpr rfl)]
      exact upd_same
    · exact h2.elim
end
end Dl
namespace PySem.SeqAt
open PySem PySem.Calls
section
variable {prog : Program} {w : World}
theorem rc_lists_far {A : Around} {s : Shared} {l b : Addr} {items items2 : Array Value} (hl : s.heap.IsList l items) (hb : s.heap.IsList b items2) (hsz : (items.size != items2.size) = true) (hu : A.units < cLine)
    (E Q : Value → Shared → Prop) (h : Q (.bool false) s) : wpAny (model prog w) A (richCompare .Eq (.ref l) (.ref b)) Q E s := by
  obtain ⟨⟨c1, d1, e1, s1⟩, h1, k1, n1, f1⟩ := id hl
  obtain ⟨⟨c2, d2, e2, s2⟩, h2, k2, n2, f2⟩ := id hb
  simp only at k1 f1 k2 f2
  subst k1 f1 k2 f2
  have t1 : s.TypeIs (.ref l) "list" := ⟨_, h1, rfl⟩
  have t2 : s.TypeIs (.ref b) "list" := ⟨_, h2, rfl⟩
  exact wpAny_richCompare_same_room (op := .Eq) t1 t2 F.slot_list_eq (call_meets F.slot_list_eq t1 F.entry_list_eq (F.args_list_eq_2 _ _) (list_eq_lengthsAt l b items items2 n1 n2 d1 d2 s1 s2 hsz)
    ⟨h1, h2, show Value.bool false ≠ Value.notImplemented ∧ Q (.bool false) s from ⟨(fun x => nomatch x), h⟩⟩) hu
end
end PySem.SeqAt
namespace Dl
open PySem PySem.Spec PyProof.Rows L2
/-! ### xs == [] -/
def gEqN : G2 := fun x y P => match x, y with
  | .list xs, .list [] => P (.d (.bool xs.isEmpty))
  | _, _ => False
section
variable {X : Cx} {w : Wn}
theorem o_eqN (hu : X.A.units < cLine) : OpR X (compareOp .Eq) (lR X.K w.b gEqN) := by
  intro pins s σ H x y v u Q I rx ry h
  obtain ⟨F, dx, dy, P, wd, hx, hy, g, q⟩ := h
  unfold gEqN at g
  split at g
  · next xs =>
    obtain ⟨l, vs, rfl, e1, r1⟩ := hx.lst wd.sub
    obtain ⟨m, us, rfl, e2, r2⟩ := hy.lst wd.sub
    cases r2
    obtain rfl : v = .ref l := rx
    obtain rfl : u = .ref m := ry
    obtain ⟨its, ra, p1, _⟩ := I.list (SqL.of e1)
    obtain ⟨its2, rb, p2, _⟩ := I.list (SqL.of e2)
    cases rb
    have len : its.length = xs.length := by rw [← ra.length, r1.len]
    have fin := q _ (.bl xs.isEmpty) F H wd.refl (res_d (.bl _)) g
    cases xs with
    | nil =>
      have e0 : its = [] := List.eq_nil_of_length_eq_zero len
      subst e0
      exact SeqAt.rcP_lists (e := fun _ => true) p1.isList p2.isList rfl hu (fun j h1 h2 => absurd h1 (Nat.not_lt_zero j)) _ _ ⟨.bl true, H, I, rfl, fin⟩
    | cons x xs =>
      refine SeqAt.rc_lists_far p1.isList p2.isList ?_ hu _ _ ⟨.bl false, H, I, rfl, fin⟩
      rw [List.size_toArray, List.size_toArray, len]
      rfl
  · exact g.elim
end
end Dl
set_option exponentiation.threshold 100000
namespace Lk
open PySem PySem.Spec PyProof.Rows L2 Dl
def topS (i : Nat) : Stmt := PySem.Challenge.pw_truechain_k21_stretches_known.main.body.getD i (.Pass ⟨0, 0, 0, 0⟩)
def inS (s : Stmt) (j : Nat) : Stmt := match s with | .ClassDef _ _ _ b _ _ _ _ _ _ _ => b.getD j (.Pass ⟨0, 0, 0, 0⟩) | _ => s
local macro_rules | `(tactic| walk_at "dl") => `(tactic| simp only [↓sqD, ↓alE, ↓rvE, capD, capSl, ↓stE, ↓reE, tRetVD, ↓ifE, tDropD, tParD, tAsgD, tAppD, tInsD, tDict1, tJoin, tSlT, tSlS, cSorted, cTuple, gLtT, tPar3D, ↓ixE, tSetI, tAugI, ↓vaE, ↓cdE, tRaw, ↓biE, ↓rdE, rd, gAdd, gMinus, gMul, gFdiv, gMod, gPow, gIn, gEqv, id,
  isB, ↓tsE, ↓unE, gNeg, ↓anE, ↓orE, ↓noE, ↓uxE, ↓raE, ↓mkE, ↓meE, ↓flE, ↓icE, ↓inE, ↓ikE, ↓xoE, ↓r0E, ↓osE, ↓cnE, mulLE, tSortSet, tTmp, gEqN, tDict2, tTupT, tClrD, tExtD, tListK, tInT, tGetT, tPutT, tSortIt, tEmpT, cMinL, cSortG, isDt, ↓isE, ↓axE, ↓trE, truOk, truD, ↓itE, tAnV, tOrV', tNoV, tIsNV, nonB, tChD, ↓nlE, ↓coE, frz, allD, ↓liE, ↓tuE, ↓caE, one, two, cLen, cAbs, cMin, cInt, cGcd, cList, cIsi, isA, cRepr, cStr, tEmp,
  ↓usE, dat, okR, anyOw, owA, ↓sdE, stD, unS, gnD, gtD, gtLD, gconsD, gnilD, itR1, itR2, itLst, itTup, itEnum, itEnumT, itZip, itStr, ↓foE, startD, toSl, frzS, tSlL, oNone, oSome, List.flatMap_cons, List.flatMap_nil, List.nil_append, List.append_nil, List.cons_append,
  List.map_cons, List.map_nil, List.length_cons, List.length_nil, List.replicate, Nat.reduceAdd, Nat.reduceSub, List.getElem?_cons_zero, List.getElem?_cons_succ, List.set_cons_zero, List.set_cons_succ, at0, at1, at2, ↓gi0, ↓gi1, ↓gi2, ↓li0, ↓li1, ↓li2, tBitLen, true_or, or_true, true_and, and_true, Bool.not_true, Bool.not_false, String.reduceBEq, Bool.or_true, Bool.true_or, Bool.or_false, Bool.false_or, Bool.and_true, Bool.true_and, Bool.and_false, Bool.false_and, Bool.false_eq_true, if_true, if_false, reduceCtorEq, ↓reduceIte])
/-- a weight and a stretch, over D -/
def Pr (D : Int) (z : PyData) : Prop := ∃ a b p q u v E : Int, z = .tuple [.tuple [.int a, .int b], .tuple [.tuple [.int p, .int q], .tuple [.int u, .int v]]] ∧ Fb 204 102 a b ∧ 0 ≤ a ∧ Fb 204 102 p q ∧ Fb 204 102 u v ∧ p * v ≤ u * q ∧ D = 16 * (b * q * v) * E ∧ 0 < E
/-- .. and over smaller bottoms, for each end by itself -/
def PrB (D DL DH : Int) (k : Nat) (z : PyData) : Prop := ∃ a b p q u v E F G : Int, z = .tuple [.tuple [.int a, .int b], .tuple [.tuple [.int p, .int q], .tuple [.int u, .int v]]] ∧ Fb 204 102 a b ∧ 0 ≤ a ∧ Fb 204 102 p q ∧ Fb 204 102 u v ∧ p * v ≤ u * q ∧ D = 16 * (b * q * v) * E ∧ 0 < E ∧ DL = (b * q) * F ∧ F.natAbs < 2 ^ k ∧ DH = (b * v) * G ∧ G.natAbs < 2 ^ k
theorem PrB.pr {D DL DH : Int} {k : Nat} {z : PyData} (h : PrB D DL DH k z) : Pr D z := by
  obtain ⟨a, b, p, q, u, v, E, F, G, e, ha, h0, hp, hu, hl, hD, hE, _⟩ := h
  exact ⟨a, b, p, q, u, v, E, e, ha, h0, hp, hu, hl, hD, hE⟩
def nLo (D : Int) : PyData → Int
  | .tuple [.tuple [.int a, .int b], .tuple [.tuple [.int p, .int q], .tuple [.int u, .int v]]] => a * (p * v) * (D / (b * q * v))
  | _ => 0
def nHi (D : Int) : PyData → Int
  | .tuple [.tuple [.int a, .int b], .tuple [.tuple [.int p, .int q], .tuple [.int u, .int v]]] => a * (u * q) * (D / (b * q * v))
  | _ => 0
/-- the parts of a pair, and what they are over D -/
theorem pr_at {D : Int} {z : PyData} (h : Pr D z) : ∃ a b p q u v E : Int, z = .tuple [.tuple [.int a, .int b], .tuple [.tuple [.int p, .int q], .tuple [.int u, .int v]]] ∧ Fb 204 102 a b ∧ 0 ≤ a ∧ Fb 204 102 p q ∧ Fb 204 102 u v ∧ p * v ≤ u * q ∧ D = 16 * (b * q * v) * E ∧ 0 < E ∧ nLo D z = a * (p * v) * (16 * E) ∧ nHi D z = a * (u * q) * (16 * E) := by
  obtain ⟨a, b, p, q, u, v, E, rfl, ha, h0, hp, hu, hl, hD, hE⟩ := h
  have pos : b * q * v ≠ 0 := Int.ne_of_gt (Int.mul_pos (Int.mul_pos ha.f.pos hp.f.pos) hu.f.pos)
  have e : D / (b * q * v) = 16 * E := by
    rw [hD, show 16 * (b * q * v) * E = (b * q * v) * (16 * E) by ac_rfl, Int.mul_ediv_cancel_left _ pos]
  exact ⟨a, b, p, q, u, v, E, rfl, ha, h0, hp, hu, hl, hD, hE, by simp only [nLo, e], by simp only [nHi, e]⟩
theorem nu_lo {a b p q v E s r D : Int} (hD : D = 16 * (b * q * v) * E) (f : Frac s r) (h : (a * p) * r = (b * q) * s) : Nu D (a * (p * v) * (16 * E)) s r :=
  (nu_scale (c := 16 * v * E) f h).cast (by rw [hD]; ac_rfl) (by ac_rfl)
theorem nu_hi {a b u q v E s r D : Int} (hD : D = 16 * (b * q * v) * E) (f : Frac s r) (h : (a * u) * r = (b * v) * s) : Nu D (a * (u * q) * (16 * E)) s r :=
  (nu_scale (c := 16 * q * E) f h).cast (by rw [hD]; ac_rfl) (by ac_rfl)
theorem part_lt {D : Int} {z : PyData} (h : Pr D z) {m : Nat} (hm : D.natAbs < 2 ^ m) : (nLo D z).natAbs < 2 ^ (540 + m) ∧ (nHi D z).natAbs < 2 ^ (540 + m) := by
  obtain ⟨a, b, p, q, u, v, E, rfl, ha, h0, hp, hu, hl, hD, hE, e1, e2⟩ := pr_at h
  have pos : 0 < b * q * v := Int.mul_pos (Int.mul_pos ha.f.pos hp.f.pos) hu.f.pos
  have h16 : (16 * E).natAbs < 2 ^ m := by
    refine Nat.lt_of_le_of_lt ?_ hm
    rw [hD, show 16 * (b * q * v) * E = (b * q * v) * (16 * E) by ac_rfl, Int.natAbs_mul (b * q * v)]
    exact Nat.le_mul_of_pos_left _ (by omega)
  rw [e1, e2]
  refine ⟨two_le (natAbs_mul_lt (natAbs_mul_lt ha.t (natAbs_mul_lt hp.t hu.b)) h16) (by omega), two_le (natAbs_mul_lt (natAbs_mul_lt ha.t (natAbs_mul_lt hu.t hp.b)) h16) (by omega)⟩
theorem ly6 (a b c d e f : Int) : Ly 3 (.tuple [.tuple [.int a, .int b], .tuple [.tuple [.int c, .int d], .tuple [.int e, .int f]]]) := ly_tup fun z hz => by
  simp only [List.mem_cons, List.not_mem_nil, or_false] at hz
  rcases hz with rfl | rfl
  · exact (ly2 _ _).up
  · exact ly_tup fun z hz => by
      simp only [List.mem_cons, List.not_mem_nil, or_false] at hz
      rcases hz with rfl | rfl <;> exact ly2 _ _
theorem pr_ly {D : Int} {z : PyData} (h : Pr D z) : Ly 3 z := by
  obtain ⟨a, b, p, q, u, v, E, rfl, _⟩ := h
  exact ly6 ..
/-- a stretch -/
def St (z : PyData) : Prop := ∃ p q u v : Int, z = .tuple [.tuple [.int p, .int q], .tuple [.int u, .int v]] ∧ Fb 204 102 p q ∧ Fb 204 102 u v ∧ p * v ≤ u * q
theorem sh4 {a b c d : Int} {j : Nat} (ha : a.natAbs < 2 ^ j) (hb : b.natAbs < 2 ^ j) (hc : c.natAbs < 2 ^ j) (hd : d.natAbs < 2 ^ j) (h0 : 0 < j := by decide) (hj : j < 1920 := by decide) : Sh (.tuple [.tuple [.int a, .int b], .tuple [.int c, .int d]]) := by
  have two : ∀ {x y : Int}, x.natAbs < 2 ^ j → y.natAbs < 2 ^ j → Sn 1 (2 * (j + 1 + 2) + 3) (.tuple [.int x, .int y]) := fun hx hy => sn_tup (m := 2) fun z hz => by
    simp only [List.mem_cons, List.not_mem_nil, or_false] at hz
    rcases hz with rfl | rfl
    · exact sn_int hx h0 hj
    · exact sn_int hy h0 hj
  exact (sn_tup (m := 2) fun z hz => by
    simp only [List.mem_cons, List.not_mem_nil, or_false] at hz
    rcases hz with rfl | rfl
    · exact two ha hb
    · exact two hc hd).sh (by decide) (by omega)
theorem ly4 (a b c d : Int) : Ly 2 (.tuple [.tuple [.int a, .int b], .tuple [.int c, .int d]]) := ly_tup fun z hz => by
  simp only [List.mem_cons, List.not_mem_nil, or_false] at hz
  rcases hz with rfl | rfl <;> exact ly2 _ _
/-- a fraction in lowest terms, as data -/
def FrL (x : PyData) : Prop := ∃ p q : Int, x = .tuple [.int p, .int q] ∧ Fk 210 p q
theorem FrL.isFr {x : PyData} (h : FrL x) : isFr x = true := by
  obtain ⟨p, q, rfl, f⟩ := h
  exact isFr_of f.f
theorem FrL.noL {x : PyData} (h : FrL x) : noL x = true := by
  obtain ⟨p, q, rfl, f⟩ := h
  rfl
theorem FrL.sh {x : PyData} (h : FrL x) : Sh x := by
  obtain ⟨p, q, rfl, f⟩ := h
  exact sh2 f.t f.b
theorem FrL.ly {x : PyData} (h : FrL x) : Ly 1 x := by
  obtain ⟨p, q, rfl, f⟩ := h
  exact ly2 p q
/-- the order of two fractions, as data -/
def cmpF : PyData → PyData → Int
  | .tuple [.int p, .int q], .tuple [.int u, .int v] => cmpT p q u v
  | _, _ => 0
/-- the outermost fraction to a side -/
def sel (s : Int) : List PyData → PyData → PyData
  | [], a => a
  | x :: xs, a => sel s xs (if cmpF x a = s then x else a)
theorem sel_fr {s : Int} : ∀ {xs : List PyData} {a : PyData}, (∀ x ∈ xs, FrL x) → FrL a → FrL (sel s xs a)
  | [], _, _, h => h
  | x :: xs, a, hx, h => by
    unfold sel
    refine sel_fr (fun y hy => hx y (List.mem_cons_of_mem _ hy)) ?_
    split
    · exact hx x (List.mem_cons_self ..)
    · exact h
/-- a stretch, as data -/
def StL (x : PyData) : Prop := ∃ p q u v : Int, x = .tuple [.tuple [.int p, .int q], .tuple [.int u, .int v]] ∧ Fk 210 p q ∧ Fk 210 u v ∧ p * v ≤ u * q
def fstD : PyData → PyData
  | .tuple [a, _] => a
  | _ => .none
def sndD : PyData → PyData
  | .tuple [_, b] => b
  | _ => .none
theorem StL.fst {x : PyData} (h : StL x) : FrL (fstD x) := by
  obtain ⟨p, q, u, v, rfl, f, g, _⟩ := h
  exact ⟨p, q, rfl, f⟩
theorem StL.snd {x : PyData} (h : StL x) : FrL (sndD x) := by
  obtain ⟨p, q, u, v, rfl, f, g, _⟩ := h
  exact ⟨u, v, rfl, g⟩
theorem StL.ly {x : PyData} (h : StL x) : Ly 2 x := by
  obtain ⟨p, q, u, v, rfl, _⟩ := h
  exact ly_tup fun z hz => by
    simp only [List.mem_cons, List.not_mem_nil, or_false] at hz
    rcases hz with rfl | rfl <;> exact ly2 _ _
theorem ne2 (a b : Int) : SeqAt.shaped (.tuple [.int a, .int b]) = true := small2 a b
def LO (a : PyData) (xs : List PyData) : PyData := sel 1 ((a :: xs).map fstD) (fstD a)
def HI (a : PyData) (xs : List PyData) : PyData := sel (-1) ((a :: xs).map sndD) (sndD a)
theorem lo_fr {a : PyData} {xs : List PyData} (h : ∀ x ∈ a :: xs, StL x) : FrL (LO a xs) := sel_fr (fun y hy => by
  obtain ⟨x, hx, rfl⟩ := List.mem_map.mp hy
  exact (h x hx).fst) (h a (List.mem_cons_self ..)).fst
theorem hi_fr {a : PyData} {xs : List PyData} (h : ∀ x ∈ a :: xs, StL x) : FrL (HI a xs) := sel_fr (fun y hy => by
  obtain ⟨x, hx, rfl⟩ := List.mem_map.mp hy
  exact (h x hx).snd) (h a (List.mem_cons_self ..)).snd
/-! the order of fractions -/
def leF : PyData → PyData → Prop
  | .tuple [.int p, .int q], .tuple [.int u, .int v] => p * v ≤ u * q
  | _, _ => True
theorem le_refl {x : PyData} (h : FrL x) : leF x x := by
  obtain ⟨p, q, rfl, f⟩ := h
  exact Int.le_refl _
theorem le_trans {x y z : PyData} (hx : FrL x) (hy : FrL y) (hz : FrL z) (h1 : leF x y) (h2 : leF y z) : leF x z := by
  obtain ⟨p, q, rfl, f⟩ := hx
  obtain ⟨u, v, rfl, g⟩ := hy
  obtain ⟨s, r, rfl, k⟩ := hz
  have h1 : p * v ≤ u * q := h1
  have h2 : u * r ≤ s * v := h2
  show p * r ≤ s * q
  refine Int.le_of_mul_le_mul_left ?_ g.pos
  have a1 := Int.mul_le_mul_of_nonneg_right h1 (Int.le_of_lt k.pos)
  have a2 := Int.mul_le_mul_of_nonneg_right h2 (Int.le_of_lt f.pos)
  have e1 : v * (p * r) = p * v * r := by ac_rfl
  have e2 : v * (s * q) = s * v * q := by ac_rfl
  have e3 : u * q * r = u * r * q := by ac_rfl
  omega
theorem cmp_le {x y : PyData} (hx : FrL x) (hy : FrL y) : (cmpF x y = 1 ↔ ¬ leF x y) ∧ (cmpF x y = -1 ↔ ¬ leF y x) := by
  obtain ⟨p, q, rfl, f⟩ := hx
  obtain ⟨u, v, rfl, g⟩ := hy
  show (cmpT p q u v = 1 ↔ ¬ p * v ≤ u * q) ∧ (cmpT p q u v = -1 ↔ ¬ u * q ≤ p * v)
  unfold cmpT
  split
  · constructor <;> constructor <;> intro h <;> omega
  · split
    · constructor <;> constructor <;> intro h <;> omega
    · constructor <;> constructor <;> intro h <;> omega
theorem sel_mem {s : Int} : ∀ {xs : List PyData} {a : PyData}, sel s xs a = a ∨ sel s xs a ∈ xs
  | [], a => .inl rfl
  | x :: xs, a => by
    unfold sel
    split
    · rcases sel_mem (s := s) (xs := xs) (a := x) with h | h
      · rw [h]; exact .inr (List.mem_cons_self ..)
      · exact .inr (List.mem_cons_of_mem _ h)
    · rcases sel_mem (s := s) (xs := xs) (a := a) with h | h
      · exact .inl h
      · exact .inr (List.mem_cons_of_mem _ h)
theorem sel_hi : ∀ {xs : List PyData} {a : PyData}, (∀ x ∈ xs, FrL x) → FrL a → leF a (sel 1 xs a) ∧ ∀ x ∈ xs, leF x (sel 1 xs a)
  | [], a, _, ha => ⟨le_refl ha, fun x h => absurd h List.not_mem_nil⟩
  | x :: xs, a, hx, ha => by
    have fx := hx x (List.mem_cons_self ..)
    have hx2 := fun y hy => hx y (List.mem_cons_of_mem _ hy)
    unfold sel
    by_cases hc : cmpF x a = 1
    · rw [if_pos hc]
      obtain ⟨i1, i2⟩ := sel_hi (xs := xs) (a := x) hx2 fx
      have na := (cmp_le fx ha).1.mp hc
      have ax : leF a x := by
        obtain ⟨p, q, rfl, f⟩ := fx
        obtain ⟨u, v, rfl, g⟩ := ha
        have na : ¬ p * v ≤ u * q := na
        show u * q ≤ p * v
        omega
      refine ⟨le_trans ha fx (sel_fr hx2 fx) ax i1, fun y hy => ?_⟩
      rcases List.mem_cons.mp hy with rfl | hy
      · exact i1
      · exact i2 y hy
    · rw [if_neg hc]
      obtain ⟨i1, i2⟩ := sel_hi (xs := xs) (a := a) hx2 ha
      have xa : leF x a := Classical.byContradiction fun h => hc ((cmp_le fx ha).1.mpr h)
      refine ⟨i1, fun y hy => ?_⟩
      rcases List.mem_cons.mp hy with rfl | hy
      · exact le_trans fx ha (sel_fr hx2 ha) xa i1
      · exact i2 y hy
theorem sel_lo : ∀ {xs : List PyData} {a : PyData}, (∀ x ∈ xs, FrL x) → FrL a → leF (sel (-1) xs a) a ∧ ∀ x ∈ xs, leF (sel (-1) xs a) x
  | [], a, _, ha => ⟨le_refl ha, fun x h => absurd h List.not_mem_nil⟩
  | x :: xs, a, hx, ha => by
    have fx := hx x (List.mem_cons_self ..)
    have hx2 := fun y hy => hx y (List.mem_cons_of_mem _ hy)
    unfold sel
    by_cases hc : cmpF x a = -1
    · rw [if_pos hc]
      obtain ⟨i1, i2⟩ := sel_lo (xs := xs) (a := x) hx2 fx
      have na := (cmp_le fx ha).2.mp hc
      have xa : leF x a := by
        obtain ⟨p, q, rfl, f⟩ := fx
        obtain ⟨u, v, rfl, g⟩ := ha
        have na : ¬ u * q ≤ p * v := na
        show p * v ≤ u * q
        omega
      refine ⟨le_trans (sel_fr hx2 fx) fx ha i1 xa, fun y hy => ?_⟩
      rcases List.mem_cons.mp hy with rfl | hy
      · exact i1
      · exact i2 y hy
    · rw [if_neg hc]
      obtain ⟨i1, i2⟩ := sel_lo (xs := xs) (a := a) hx2 ha
      have ax : leF a x := Classical.byContradiction fun h => hc ((cmp_le fx ha).2.mpr h)
      refine ⟨i1, fun y hy => ?_⟩
      rcases List.mem_cons.mp hy with rfl | hy
      · exact le_trans (sel_fr hx2 ha) ha fx i1 ax
      · exact i2 y hy
/-- do all of them meet, looked at two by two -/
def twoD (xs : List PyData) : Bool := xs.all fun x => xs.all fun y => !decide (cmpF (sndD x) (fstD y) = -1)
theorem two_ok {a : PyData} {xs : List PyData} (h : ∀ x ∈ a :: xs, StL x) : twoD (a :: xs) = !decide (cmpF (LO a xs) (HI a xs) = 1) := by
  have f1 : ∀ y ∈ (a :: xs).map fstD, FrL y := fun y hy => by
    obtain ⟨x, hx, rfl⟩ := List.mem_map.mp hy
    exact (h x hx).fst
  have f2 : ∀ y ∈ (a :: xs).map sndD, FrL y := fun y hy => by
    obtain ⟨x, hx, rfl⟩ := List.mem_map.mp hy
    exact (h x hx).snd
  have ha := h a (List.mem_cons_self ..)
  have hl := sel_hi f1 ha.fst
  have hh := sel_lo f2 ha.snd
  have m1 : LO a xs ∈ (a :: xs).map fstD := by
    rcases sel_mem (s := 1) (xs := (a :: xs).map fstD) (a := fstD a) with e | e
    · unfold LO; rw [e]; exact List.mem_map_of_mem (List.mem_cons_self ..)
    · exact e
  have m2 : HI a xs ∈ (a :: xs).map sndD := by
    rcases sel_mem (s := -1) (xs := (a :: xs).map sndD) (a := sndD a) with e | e
    · unfold HI; rw [e]; exact List.mem_map_of_mem (List.mem_cons_self ..)
    · exact e
  by_cases hc : cmpF (LO a xs) (HI a xs) = 1
  · rw [decide_eq_true hc, Bool.not_true]
    obtain ⟨y, hy, ey⟩ := List.mem_map.mp m1
    obtain ⟨x, hx, ex⟩ := List.mem_map.mp m2
    unfold twoD
    rw [List.all_eq_false]
    refine ⟨x, hx, ?_⟩
    simp only [Bool.not_eq_true]
    rw [List.all_eq_false]
    refine ⟨y, hy, ?_⟩
    have n1 := (cmp_le (lo_fr h) (hi_fr h)).1.mp hc
    rw [← ex, ← ey] at n1
    have n2 := (cmp_le (h x hx).snd (h y hy).fst).2.mpr n1
    simp [n2]
  · rw [decide_eq_false hc, Bool.not_false]
    unfold twoD
    rw [List.all_eq_true]
    intro x hx
    rw [List.all_eq_true]
    intro y hy
    have le : leF (LO a xs) (HI a xs) := Classical.byContradiction fun n => hc ((cmp_le (lo_fr h) (hi_fr h)).1.mpr n)
    have l1 : leF (fstD y) (LO a xs) := hl.2 _ (List.mem_map_of_mem hy)
    have l2 : leF (HI a xs) (sndD x) := hh.2 _ (List.mem_map_of_mem hx)
    have l3 := le_trans (h y hy).fst (hi_fr h) (h x hx).snd (le_trans (h y hy).fst (lo_fr h) (hi_fr h) l1 le) l2
    have n2 : ¬ cmpF (sndD x) (fstD y) = -1 := fun z => (cmp_le (h x hx).snd (h y hy).fst).2.mp z l3
    simp [n2]
/-- the place of the first one that is so much -/
def idxD (l : List PyData) (x : PyData) : Nat := l.findIdx fun z => z.eqv x
theorem idx_ok {l : List PyData} {x : PyData} (h : x ∈ l) (hx : x.eqv x = true) : ∃ z, l[idxD l x]? = some z ∧ z.eqv x = true ∧ (∀ m z', m < idxD l x → l[m]? = some z' → z'.eqv x = false) ∧ idxD l x < l.length := by
  have hl : idxD l x < l.length := List.findIdx_lt_length_of_exists ⟨x, h, hx⟩
  refine ⟨l[idxD l x], List.getElem?_eq_getElem hl, List.findIdx_getElem (w := hl), fun m z' hm e => ?_, hl⟩
  have := List.not_of_lt_findIdx hm
  have hm2 : m < l.length := Nat.lt_trans hm hl
  rw [List.getElem?_eq_getElem hm2] at e
  cases e
  simpa using this
def meetD (lo hi : PyData) : PyData := if cmpF lo hi = 1 then .none else .tuple [lo, hi]
def apartD (a : PyData) (xs : List PyData) : PyData := if cmpF (LO a xs) (HI a xs) = 1 then .tuple [.int (idxD ((a :: xs).map fstD) (LO a xs)), .int (idxD ((a :: xs).map sndD) (HI a xs))] else .none
/-- a fraction that is not long -/
def FrM (x : PyData) : Prop := ∃ p q : Int, x = .tuple [.int p, .int q] ∧ Fk 300 p q
theorem FrM.fr {x : PyData} (h : FrM x) : isFr x = true := by
  obtain ⟨p, q, rfl, f⟩ := h
  exact isFr_of f.f
/-- is it a stretch? -/
def isSt : PyData → Bool
  | .tuple [a, b] => isFr a && (isFr b && !decide (cmpF a b = 1))
  | _ => false
/-- what may be asked about: its fractions are not long; is it a stretch, then not a long one -/
def OkT (x : PyData) : Prop := (∀ a b, x = .tuple [a, b] → isFr a = true → isFr b = true → FrM a ∧ FrM b) ∧ (isSt x = true → St x)
def isWd : PyData → Bool
  | .tuple [.int p, .int q] => isFr (.tuple [.int p, .int q]) && decide (0 ≤ p)
  | _ => false
theorem isWd_fr {x : PyData} (h : isWd x = true) : isFr x = true := by
  unfold isWd at h
  split at h
  · rw [Bool.and_eq_true] at h
    exact h.1
  · cases h
def isPr : PyData → Bool
  | .tuple [a, b] => isWd a && isSt b
  | _ => false
def OkP (x : PyData) : Prop := ∀ a b, x = .tuple [a, b] → OkT b
def rowB : PyData → Bool
  | .list xs => decide (1 ≤ xs.length) && (decide (xs.length ≤ 60) && xs.all isSt)
  | _ => false
def mixB : PyData → Bool
  | .list xs => decide (xs.length ≤ 1000) && xs.all isPr
  | _ => false
theorem St.stl {x : PyData} (h : St x) : StL x := by
  obtain ⟨p, q, u, v, rfl, f, g, l⟩ := h
  exact ⟨p, q, u, v, rfl, f.fk, g.fk, l⟩
/-- text and copying -/
structure Sd (n k : Nat) (x : PyData) : Prop where
  sn : Sn n k x
  cp : okC x = true
theorem Sd.up {n k m l : Nat} {x : PyData} (h : Sd n k x) (hn : n ≤ m := by decide) (hk : k ≤ l := by decide) : Sd m l x := ⟨h.sn.up hn hk, h.cp⟩
theorem okCs_of {xs : List PyData} (h : ∀ x ∈ xs, okC x = true) : okCs xs = true := by
  induction xs with
  | nil => simp [okCs]
  | cons x xs ih => simp only [okCs, h x (List.mem_cons_self ..), ih fun y hy => h y (List.mem_cons_of_mem _ hy), Bool.and_self]
theorem sd_tup {n k m : Nat} {xs : List PyData} (h : ∀ x ∈ xs, Sd n k x) (hm : xs.length ≤ m := by simp) (h5 : m ≤ 5000 := by decide) : Sd (n + 1) (m * (k + 2) + 3) (.tuple xs) := ⟨sn_tup (fun x hx => (h x hx).sn) hm, by rw [okC, okCs_of fun x hx => (h x hx).cp, decide_eq_true (Nat.le_trans hm h5)]; rfl⟩
theorem sd_lst {n k m : Nat} {xs : List PyData} (h : ∀ x ∈ xs, Sd n k x) (hm : xs.length ≤ m := by simp) (h5 : m ≤ 5000 := by decide) : Sd (n + 1) (m * (k + 2) + 3) (.list xs) := ⟨sn_lst (fun x hx => (h x hx).sn) hm, by rw [okC, okCs_of fun x hx => (h x hx).cp, decide_eq_true (Nat.le_trans hm h5)]; rfl⟩
theorem sd_int {i : Int} {j : Nat} (h : i.natAbs < 2 ^ j) (hj : 0 < j := by decide) (hk : j < 1920 := by decide) : Sd 0 (j + 1) (.int i) := ⟨sn_int h hj hk, by simp [okC]⟩
theorem sd_frc {p q : Int} {j : Nat} (hp : p.natAbs < 2 ^ j) (hq : q.natAbs < 2 ^ j) (hj : 0 < j := by decide) (hk : j < 1920 := by decide) : Sd 1 (2 * (j + 1 + 2) + 3) (frc p q) := sd_tup (m := 2) fun z hz => by
  simp only [List.mem_cons, List.not_mem_nil, or_false] at hz
  rcases hz with rfl | rfl
  · exact sd_int hp hj hk
  · exact sd_int hq hj hk
/-- its whole numbers are not long -/
def Szf (x : PyData) : Prop := ∀ p q : Int, x = .tuple [.int p, .int q] → p.natAbs < 2 ^ 400 ∧ q.natAbs < 2 ^ 400
def SzT (x : PyData) : Prop := ∀ a b, x = .tuple [a, b] → Szf a ∧ Szf b
def ThS (x : PyData) : Prop := OkT x ∧ SzT x
def PS (x : PyData) : Prop := ∀ a b, x = .tuple [a, b] → Szf a ∧ ThS b
def oddL : List PyData := [.none, .bool true, .bool false, .int 5, .int (-1), .str "", .str "1", .str "box", .list [], .dict [], .tuple [], .list [.tuple [.int 0, .int 1], .tuple [.int 1, .int 1]], .dict [(.int 0, .tuple [.int 0, .int 1]), (.int 1, .tuple [.int 1, .int 1])]]
theorem odd_fr {x : PyData} (h : x ∈ oddL) : isFr x = false := by
  have : ∀ x ∈ oddL, isFr x = false := by
    intro x hx
    simp only [oddL, List.mem_cons, List.not_mem_nil, or_false] at hx
    rcases hx with rfl | rfl | rfl | rfl | rfl | rfl | rfl | rfl | rfl | rfl | rfl | rfl | rfl <;> rfl
  exact this x h
theorem odd_no {x : PyData} (h : x ∈ oddL) {a b : PyData} : x ≠ .tuple [a, b] := by
  intro e
  subst e
  simp [oddL] at h
theorem odd_sd {x : PyData} (h : x ∈ oddL) : Sd 2 60 x := by
  simp only [oddL, List.mem_cons, List.not_mem_nil, or_false] at h
  rcases h with rfl | rfl | rfl | rfl | rfl | rfl | rfl | rfl | rfl | rfl | rfl | rfl | rfl <;> exact ⟨⟨by decide +kernel, by decide +kernel, by decide +kernel, by decide +kernel⟩, by decide +kernel⟩
theorem odd_szf {x : PyData} (h : x ∈ oddL) : Szf x := fun p q e => absurd e (odd_no h)
theorem odd_ths {x : PyData} (h : x ∈ oddL) : ThS x := by
  have e : isSt x = false := by
    unfold isSt
    split
    · exact absurd rfl (odd_no h)
    · rfl
  exact ⟨⟨fun a b z => absurd z (odd_no h), fun z => by rw [e] at z; cases z⟩, fun a b z => absurd z (odd_no h)⟩
theorem odd_ps {x : PyData} (h : x ∈ oddL) : PS x := fun a b z => absurd z (odd_no h)
/-- what is no fraction, and not long -/
structure NoF (x : PyData) : Prop where
  fr : isFr x = false
  sz : Szf x
  hd : ∀ a b, x = .tuple [a, b] → isFr a = false
  sd : Sd 2 900 x
/-- a thing that is handed in -/
structure Th (x : PyData) : Prop where
  ok : ThS x
  sd : Sd 4 2720 x
/-- what is handed in beside it -/
structure Bes (x : PyData) : Prop where
  fb : isFr x = true → ∃ p q : Int, x = .tuple [.int p, .int q] ∧ Fb 204 102 p q
  sz : Szf x
  sd : Sd 2 900 x
theorem szf_of {p q : Int} (hp : p.natAbs < 2 ^ 400) (hq : q.natAbs < 2 ^ 400) : Szf (.tuple [.int p, .int q]) := fun a b e => by
  cases e
  exact ⟨hp, hq⟩
theorem fb_szf {p q : Int} (f : Fb 204 102 p q) : Szf (.tuple [.int p, .int q]) := szf_of (two_le f.t (by decide)) (two_le f.b (by decide))
theorem fb_sd {p q : Int} (f : Fb 204 102 p q) : Sd 2 900 (.tuple [.int p, .int q]) := (sd_frc (j := 204) f.t (two_le f.b (by decide))).up
theorem isFr_no {p q : Int} (h : q < 1 ∨ Int.gcd p q ≠ 1) : isFr (.tuple [.int p, .int q]) = false := by
  unfold isFr
  rcases h with h | h
  · simp; omega
  · simp [h]
theorem cmpF_one {p q u v : Int} : (!decide (cmpF (.tuple [.int p, .int q]) (.tuple [.int u, .int v]) = 1)) = !decide (u * q < p * v) := by
  show (!decide (cmpT p q u v = 1)) = _
  unfold cmpT
  by_cases h1 : p * v < u * q
  · rw [if_pos h1, decide_eq_false (show ¬ u * q < p * v by omega)]
    rfl
  · rw [if_neg h1]
    by_cases h2 : u * q < p * v
    · rw [if_pos h2, decide_eq_true h2]
      rfl
    · rw [if_neg h2, decide_eq_false h2]
      rfl
theorem ths_two {p q u v : Int} (f : Fb 204 102 p q) (g : Fb 204 102 u v) : ThS (.tuple [.tuple [.int p, .int q], .tuple [.int u, .int v]]) := by
  refine ⟨⟨fun a b e _ _ => ?_, fun h => ?_⟩, fun a b e => ?_⟩
  · cases e
    exact ⟨⟨p, q, rfl, f.fk⟩, ⟨u, v, rfl, g.fk⟩⟩
  · unfold isSt at h
    simp only [Bool.and_eq_true] at h
    have h := h.2.2
    rw [cmpF_one] at h
    exact ⟨p, q, u, v, rfl, f, g, by simpa using h⟩
  · cases e
    exact ⟨fb_szf f, fb_szf g⟩
theorem sd_two {a b : PyData} (ha : Sd 2 900 a) (hb : Sd 2 900 b) : Sd 4 2720 (.tuple [a, b]) := (sd_tup (n := 2) (k := 900) (m := 2) fun z hz => by
  simp only [List.mem_cons, List.not_mem_nil, or_false] at hz
  rcases hz with rfl | rfl
  · exact ha
  · exact hb).up
theorem sd_three {a b c : PyData} (ha : Sd 2 900 a) (hb : Sd 2 900 b) (hc : Sd 2 900 c) : Sd 4 2720 (.tuple [a, b, c]) := (sd_tup (n := 2) (k := 900) (m := 3) fun z hz => by
  simp only [List.mem_cons, List.not_mem_nil, or_false] at hz
  rcases hz with rfl | rfl | rfl
  · exact ha
  · exact hb
  · exact hc).up
theorem isSt_no {a b : PyData} (h : isFr a = false ∨ isFr b = false) : isSt (.tuple [a, b]) = false := by
  unfold isSt
  rcases h with h | h <;> simp [h]
theorem th_no {a b : PyData} (h : isFr a = false ∨ isFr b = false) (ha : Szf a) (hb : Szf b) (sa : Sd 2 900 a) (sb : Sd 2 900 b) : Th (.tuple [a, b]) := by
  refine ⟨⟨⟨fun x y e fx fy => ?_, fun z => ?_⟩, fun x y e => ?_⟩, sd_two sa sb⟩
  · cases e
    rcases h with h | h
    · rw [h] at fx; cases fx
    · rw [h] at fy; cases fy
  · rw [isSt_no h] at z; cases z
  · cases e; exact ⟨ha, hb⟩
theorem th_other {x : PyData} (h : ∀ a b, x ≠ .tuple [a, b]) (sd : Sd 4 2720 x) : Th x := by
  have e : isSt x = false := by
    unfold isSt
    split
    · next a b => exact absurd rfl (h a b)
    · rfl
  exact ⟨⟨⟨fun a b z => absurd z (h a b), fun z => by rw [e] at z; cases z⟩, fun a b z => absurd z (h a b)⟩, sd⟩
/-! _law_bag -/
abbrev s__law_bag : Stmt := topS 34
abbrev N__law_bag : List Str := ["_law_script", "_law_cell"]
theorem sc__law_bag : FnScope N__law_bag ["_law_script"] (defScope s__law_bag) := ⟨rfl, rfl, rfl, by decide +kernel, rfl, by decide +kernel, by decide +kernel⟩
section
variable {ts : List Addr} {P : Program} {w : World} {K : PySem.W.Frag} {mg : Str → Option Value} {base : Heap}
theorem ok__law_bag {f : Addr} {fd : FuncData} (Fn : L2.Fun K "_law_bag" "_law_bag" s__law_bag f fd) (z_abs : mg "abs" = none) : Fg P w K mg base (L2.CX P w) 1 f (spBag K) := by
  refine r_def Fn sc__law_bag (fun _ _ _ _ _ _ us hl => match us, hl with | [_], _ => rfl) (spBag K) fun cdv A outer s H vs Q E ag hr want => ?_
  obtain ⟨a, ns, rfl, seq, hl, q⟩ := want
  have S := sc__law_bag
  refine ⟨rfl, bgT K, pss_one (ps_ret (pe_lst (pa_cons pe_int (pa_cons pe_int (pa_cons pe_int (pa_cons (pe_lc (own := [("_law_cell", 1)]) rfl S.nd (pi_list (pe_slice sl_list (pv 0) po_none (po_some pe_int))) (blkOk_by (N := N__law_bag) (sc := defScope s__law_bag) (by decide +kernel)) (fun _ _ _ _ _ => pg_name (i := 1) S.nd rfl (Or.inl rfl)) (fun _ _ _ _ _ => pts_nil) (fun _ _ _ _ _ => pe_callB call_abs (by rfl) z_abs (by decide +kernel) (pa_cons (pv 1) pa_nil))) pa_nil)))))), ?_⟩
  exact bg_go seq hl q
end
/-! _law_take -/
abbrev s__law_take : Stmt := topS 35
abbrev N__law_take : List Str := ["_law_bag_here", "_law_many", "_law_cell", "_law_value", "_law_first", "_law_second"]
theorem sc__law_take : FnScope N__law_take ["_law_bag_here", "_law_many"] (defScope s__law_take) := ⟨rfl, rfl, rfl, by decide +kernel, rfl, by decide +kernel, by decide +kernel⟩
section
variable {ts : List Addr} {P : Program} {w : World} {K : PySem.W.Frag} {mg : Str → Option Value} {base : Heap}
theorem ok__law_take {f : Addr} {fd : FuncData} (Fn : L2.Fun K "_law_take" "_law_take" s__law_take f fd) (z_len : mg "len" = none) : Fg P w K mg base (L2.CX P w) 1 f (Pm K ts sp__law_take) := by
  refine r_def Fn sc__law_take (fun _ _ _ _ _ _ us hl => match us, hl with | [_, _], _ => rfl) (Pm K ts sp__law_take) fun cdv A outer s H vs Q E ag hr want => ?_
  obtain ⟨b, F, dvs, R, _, wd, ar, ⟨m, rfl, hm, hs, hR⟩, q⟩ := want
  match vs, ar with
  | [_, _], .cons a1 (.cons a2 .nil) =>
  cases a1
  cases a2
  have S := sc__law_take
  refine ⟨rfl, tkT K, pss_cons (ps_if (pt_cmpR op_eq (pe_ix ix_list (pv 0) pe_int (fun _ _ => rfl)) pe_int (nomark _))
      (pss_cons (ps_set (i := 2) S.nd rfl (.inl rfl) pe_int)
      (pss_cons (ps_if (pt_cmpR op_lt (pe_ix ix_list (pv 0) pe_int (fun _ _ => rfl)) (pe_callB call_len_seq (by rfl) z_len PySem.boot_len (pa_cons (pe_ix ix_list (pv 0) pe_int (fun _ _ => rfl)) pa_nil)) (nomark _))
        (pss_one (ps_set (i := 2) S.nd rfl (.inl rfl) (pe_ix ix_list (pe_ix ix_list (pv 0) pe_int (fun _ _ => rfl)) (pe_ix ix_list (pv 0) pe_int (fun _ _ => rfl)) (fun _ _ => rfl)))) pss_nil)
      (pss_cons (ps_augS (pv 0) pe_int get_lst pe_int ip_add set_list)
      (pss_cons (ps_if (pt_cmpR op_ge (pv 2) pe_int (nomark _)) (pss_one (ps_asg (pv 2) (pg_sub (pv 0) pe_int set_list))) pss_nil)
      (pss_one (ps_asg (pe_op op_mod (pe_op op_add (pe_op op_add (pe_op op_mul (pe_ix ix_list (pv 0) pe_int (fun _ _ => rfl)) pe_int) (pe_op op_mod (pv 2) pe_int)) (pe_op op_mul pe_int (pe_ix ix_list (pv 0) pe_int (fun _ _ => rfl)))) pe_int) (pg_sub (pv 0) pe_int set_list))))))) pss_nil)
    (pss_cons (ps_if (pt_cmpR op_gt (pe_ix ix_list (pv 0) pe_int (fun _ _ => rfl)) pe_int (nomark _))
      (pss_cons (ps_set (i := 3) S.nd rfl (.inl rfl) (pe_op op_mod (pe_ix ix_list (pv 0) pe_int (fun _ _ => rfl)) (pv 1)))
      (pss_cons (ps_asg (pe_op op_fdivX (pe_ix ix_list (pv 0) pe_int (fun _ _ => rfl)) (pv 1)) (pg_sub (pv 0) pe_int set_list))
      (pss_one (ps_ret (pv 3))))) pss_nil)
    (pss_cons (ps_set (i := 4) S.nd rfl (.inl rfl) (pe_op op_mod (pe_op op_mul (pe_op op_add (pe_ix ix_list (pv 0) pe_int (fun _ _ => rfl)) pe_int) pe_int) pe_int))
    (pss_cons (ps_set (i := 5) S.nd rfl (.inl rfl) (pe_op op_mod (pe_op op_mul (pe_op op_mod (pe_op op_mul (pv 4) (pv 4)) pe_int) pe_int) pe_int))
    (pss_cons (ps_if (pt_cmpR op_gt (pv 1) pe_int (nomark _)) (pss_one (ps_ret (pe_op op_mod (pe_op op_add (pe_op op_mul (pv 5) pe_int) (pv 4)) (pv 1)))) pss_nil)
    (pss_one (ps_ret (pe_op op_mod (pe_op op_fdiv (pv 5) pe_int) (pv 1)))))))), ?_⟩
  exact tk_go wd hm hs fun r r0 r1 H2 st => q (.d (.int r)) _ F H2 st (.int r) (hR r r0 r1)
end
/-! _law_odd -/
abbrev s__law_odd : Stmt := topS 45
abbrev N__law_odd : List Str := ["_law_bag_here", "_law_way", "_law_some"]
theorem sc__law_odd : FnScope N__law_odd ["_law_bag_here"] (defScope s__law_odd) := ⟨rfl, rfl, rfl, by decide +kernel, rfl, by decide +kernel, by decide +kernel⟩
def rd__law_odd : DS := (tSeqD (tSetD 1 (tUse sp__law_take (tConsD (tVarD 0) (tConsD (tCD (.int 13)) tNilD))))
    (tSeqD (tSetD 2 (tLstD (tConsD (tCD .none) (tConsD (tCD (.bool true)) (tConsD (tCD (.bool false)) (tConsD (tCD (.int 5)) (tConsD (tUnD gNeg (tCD (.int 1))) (tConsD (tCD (.str "")) (tConsD (tCD (.str "1")) (tConsD (tCD (.str "box")) (tConsD (tLstD tNilD) (tConsD tEmp (tConsD (tTupD tNilD) (tConsD (tLstD (tConsD (tTupD (tConsD (tCD (.int 0)) (tConsD (tCD (.int 1)) tNilD))) (tConsD (tTupD (tConsD (tCD (.int 1)) (tConsD (tCD (.int 1)) tNilD))) tNilD))) (tConsD (tDict2 0 1 (tTupD (tConsD (tCD (.int 0)) (tConsD (tCD (.int 1)) tNilD))) (tTupD (tConsD (tCD (.int 1)) (tConsD (tCD (.int 1)) tNilD)))) tNilD)))))))))))))))
    (tRetD (tBin gIx (tVarD 2) (tVarD 1)))))
def sp__law_odd : DSp := fun us P => us = [.bag] ∧ ∀ x ∈ oddL, P (.d x)
theorem vc__law_odd : ∀ dvs Q, sp__law_odd dvs Q → dvs.length = 1 ∧ rd__law_odd { nx := fun _ => Q (.d .none), rt := Q } (startD N__law_odd dvs) := by
  rintro dvs Q ⟨rfl, h⟩
  refine ⟨rfl, ?_⟩
  unfold rd__law_odd
  refine seqG fun R hR => ?_
  walk_at "dl"
  refine ⟨13, rfl, by decide, by decide, fun w w0 w1 => ?_⟩
  walk_at "dl"
  refine hR _ (seqG fun R hR => ?_)
  walk_at "dl"
  refine ⟨by decide, by decide, by decide, by decide, by decide, by decide, by decide, by decide, fun l => hR _ ?_⟩
  walk_at "dl"
  exact pick w0 w1 fun x hx => h x hx
section
variable {ts : List Addr} {P : Program} {w : World} {K : PySem.W.Frag} {mg : Str → Option Value} {base : Heap}
theorem ok__law_odd {f : Addr} {fd : FuncData} (Fn : L2.Fun K "_law_odd" "_law_odd" s__law_odd f fd) {f__law_take : Addr} (g__law_take : Fg P w K mg base (L2.CX P w) 1 f__law_take (Pm K ts sp__law_take)) (m__law_take : mg "_law_take" = some (.ref f__law_take)) (p__law_take : PySem.W.keepIn K (.ref f__law_take) = true) : Fg P w K mg base (L2.CX P w) 2 f (Pm K ts sp__law_odd) := d_def Fn sc__law_odd (fun _ _ _ _ _ _ us hl => match us, hl with | [_], _ => rfl) sp__law_odd rd__law_odd (fun cdv A outer s H E wn hcd ht ag hr => by
  have S := sc__law_odd
  have hu := hr.units
  exact (dss_cons (ds_set (i := 1) S.nd rfl (by first | exact Or.inl rfl | exact Or.inr rfl) (d_use g__law_take ht ag (hr.mono (by decide)) passZ (by rfl) m__law_take p__law_take (da_cons (d_var 0) (da_cons d_int da_nil))))
    (dss_cons (ds_set (i := 2) S.nd rfl (by first | exact Or.inl rfl | exact Or.inr rfl) (d_lst (da_cons d_non (da_cons d_bl (da_cons d_bl (da_cons d_int (da_cons (d_neg d_int) (da_cons d_str (da_cons d_str (da_cons d_str (da_cons (d_lst da_nil) (da_cons d_emp (da_cons (d_tup da_nil) (da_cons (d_lst (da_cons (d_tup (da_cons d_int (da_cons d_int da_nil))) (da_cons (d_tup (da_cons d_int (da_cons d_int da_nil))) da_nil))) (da_cons (d_dict2 (d_tup (da_cons d_int (da_cons d_int da_nil))) (d_tup (da_cons d_int (da_cons d_int da_nil)))) da_nil)))))))))))))))
    (dss_one (ds_ret (d_ix (d_var 2) (d_var 1))))))) vc__law_odd
end
/-! _law_other_fraction -/
abbrev s__law_other_fraction : Stmt := topS 46
abbrev N__law_other_fraction : List Str := ["_law_bag_here", "_law_one", "_law_way", "_law_top", "_law_bottom", "_law_some"]
theorem sc__law_other_fraction : FnScope N__law_other_fraction ["_law_bag_here", "_law_one"] (defScope s__law_other_fraction) := ⟨rfl, rfl, rfl, by decide +kernel, rfl, by decide +kernel, by decide +kernel⟩
def rd__law_other_fraction : DS := (tSeqD (tSetD 2 (tUse sp__law_take (tConsD (tVarD 0) (tConsD (tCD (.int 10)) tNilD))))
    (tSeqD (tAsgD (tVarD 1) (gtD 2 (gconsD (gnD 3) (gconsD (gnD 4) gnilD))))
    (tSeqD (tSetD 5 (tLstD (tConsD (tTupD (tConsD (tBin gMul (tCD (.int 2)) (tVarD 3)) (tConsD (tBin gMul (tCD (.int 2)) (tVarD 4)) tNilD))) (tConsD (tTupD (tConsD (tVarD 3) (tConsD (tCD (.int 0)) tNilD))) (tConsD (tTupD (tConsD (tVarD 3) (tConsD (tUnD gNeg (tVarD 4)) tNilD))) (tConsD (tTupD (tConsD (tUnD gNeg (tVarD 3)) (tConsD (tUnD gNeg (tVarD 4)) tNilD))) (tConsD (tLstD (tConsD (tVarD 3) (tConsD (tVarD 4) tNilD))) tNilD)))))))
    (tSeqD (tSetD 5 (tBin gAdd (tVarD 5) (tLstD (tConsD (tTupD (tConsD (tVarD 3) (tConsD (tVarD 4) (tConsD (tCD (.int 1)) tNilD)))) (tConsD (tTupD (tConsD (tVarD 3) tNilD)) (tConsD (tTupD (tConsD (tBin (gEqv id) (tVarD 3) (tCD (.int 1))) (tConsD (tVarD 4) tNilD))) (tConsD (tTupD (tConsD (tVarD 3) (tConsD (tBin (gEqv id) (tVarD 4) (tCD (.int 1))) tNilD))) (tConsD (tUse sp__law_odd (tConsD (tVarD 0) tNilD)) tNilD))))))))
    (tRetD (tBin gIx (tVarD 5) (tVarD 2)))))))
theorem nof_frc {p q : Int} (h : q < 1 ∨ Int.gcd p q ≠ 1) (hp : p.natAbs < 2 ^ 210) (hq : q.natAbs < 2 ^ 210) : NoF (.tuple [.int p, .int q]) := ⟨isFr_no h, szf_of (two_le hp (by decide)) (two_le hq (by decide)), fun a b e => by cases e; rfl, (sd_frc hp hq).up⟩
theorem dbl {p : Int} (h : p.natAbs < 2 ^ 204) : (2 * p).natAbs < 2 ^ 210 := Nat.lt_of_lt_of_le (show (2 * p).natAbs < 2 * 2 ^ 204 by omega) (by decide)
theorem lg2 {p : Int} (h : p.natAbs < 2 ^ 204) : (Int.natAbs 2).log2 + p.natAbs.log2 < 1000000 := by
  have a : p.natAbs.log2 < 9000 := log_le h (by decide) (by decide)
  have b : (Int.natAbs 2).log2 = 1 := by decide
  omega
theorem sd_bool (b : Bool) : Sd 0 205 (.bool b) := ⟨(sn_bool b).up, by simp [okC]⟩
def sp__law_other_fraction : DSp := fun us P => ∃ p q : Int, us = [.bag, .d (.tuple [.int p, .int q])] ∧ Fb 204 102 p q ∧ ∀ x, NoF x → P (.d x)
theorem vc__law_other_fraction : ∀ dvs Q, sp__law_other_fraction dvs Q → dvs.length = 2 ∧ rd__law_other_fraction { nx := fun _ => Q (.d .none), rt := Q } (startD N__law_other_fraction dvs) := by
  rintro dvs Q ⟨p, q, rfl, f, h⟩
  refine ⟨rfl, ?_⟩
  unfold rd__law_other_fraction
  refine seqG fun R hR => ?_
  walk_at "dl"
  refine ⟨10, rfl, by decide, by decide, fun w w0 w1 => ?_⟩
  walk_at "dl"
  refine hR _ (seqG fun R hR => ?_)
  walk_at "dl"
  refine hR _ (seqG fun R hR => ?_)
  walk_at "dl"
  have pt := f.t
  have qb := f.b
  have p2 : p.natAbs < 2 ^ 210 := two_le pt (by decide)
  have q2 : q.natAbs < 2 ^ 210 := two_le qb (by decide)
  have ip : Sd 0 205 (.int p) := sd_int pt
  have iq : Sd 0 205 (.int q) := sd_int (two_le qb (by decide))
  have i1 : Sd 0 205 (.int 1) := (sd_int (j := 1) (by decide)).up
  refine ⟨lg2 pt, lg2 (two_le qb (by decide)), by decide, by decide, by decide, by decide, by decide, by decide, fun l => hR _ (seqG fun R hR => ?_)⟩
  walk_at "dl"
  refine ⟨by decide, by decide, by decide, by decide, rfl, fun o ho => ?_⟩
  walk_at "dl"
  refine ⟨by decide, by decide, fun l2 => hR _ ?_⟩
  walk_at "dl"
  refine pick w0 w1 fun x hx => ?_
  simp only [List.mem_cons, List.not_mem_nil, or_false] at hx
  refine h x ?_
  have nq : (-q).natAbs < 2 ^ 210 := by rw [Int.natAbs_neg]; exact q2
  have np : (-p).natAbs < 2 ^ 210 := by rw [Int.natAbs_neg]; exact p2
  have q0 := f.f.pos
  rcases hx with rfl | rfl | rfl | rfl | rfl | rfl | rfl | rfl | rfl | rfl
  · refine nof_frc (.inr ?_) (dbl pt) (dbl (two_le qb (by decide)))
    rw [Int.gcd_mul_left, f.f.low]
    decide
  · exact nof_frc (.inl (by decide)) p2 (by decide)
  · exact nof_frc (.inl (by omega)) p2 nq
  · exact nof_frc (.inl (by omega)) np nq
  · refine ⟨rfl, fun a b e => (by cases e), fun a b e => (by cases e), (sd_lst (n := 0) (k := 205) (m := 2) fun z hz => ?_).up⟩
    simp only [List.mem_cons, List.not_mem_nil, or_false] at hz
    rcases hz with rfl | rfl
    · exact ip
    · exact iq
  · refine ⟨rfl, fun a b e => (by cases e), fun a b e => (by cases e), (sd_tup (n := 0) (k := 205) (m := 3) fun z hz => ?_).up⟩
    simp only [List.mem_cons, List.not_mem_nil, or_false] at hz
    rcases hz with rfl | rfl | rfl
    · exact ip
    · exact iq
    · exact i1
  · refine ⟨rfl, fun a b e => (by cases e), fun a b e => (by cases e), (sd_tup (n := 0) (k := 205) (m := 1) fun z hz => ?_).up⟩
    cases List.mem_singleton.mp hz
    exact ip
  · refine ⟨rfl, fun a b e => (by cases e), fun a b e => (by cases e; rfl), (sd_tup (n := 0) (k := 205) (m := 2) fun z hz => ?_).up⟩
    simp only [List.mem_cons, List.not_mem_nil, or_false] at hz
    rcases hz with rfl | rfl
    · exact sd_bool _
    · exact iq
  · refine ⟨rfl, fun a b e => (by cases e), fun a b e => (by cases e; rfl), (sd_tup (n := 0) (k := 205) (m := 2) fun z hz => ?_).up⟩
    simp only [List.mem_cons, List.not_mem_nil, or_false] at hz
    rcases hz with rfl | rfl
    · exact ip
    · exact sd_bool _
  · exact ⟨odd_fr ho, odd_szf ho, fun a b e => absurd e (odd_no ho), (odd_sd ho).up⟩
section
variable {ts : List Addr} {P : Program} {w : World} {K : PySem.W.Frag} {mg : Str → Option Value} {base : Heap}
theorem ok__law_other_fraction {f : Addr} {fd : FuncData} (Fn : L2.Fun K "_law_other_fraction" "_law_other_fraction" s__law_other_fraction f fd) {f__law_take : Addr} (g__law_take : Fg P w K mg base (L2.CX P w) 1 f__law_take (Pm K ts sp__law_take)) (m__law_take : mg "_law_take" = some (.ref f__law_take)) (p__law_take : PySem.W.keepIn K (.ref f__law_take) = true) {f__law_odd : Addr} (g__law_odd : Fg P w K mg base (L2.CX P w) 2 f__law_odd (Pm K ts sp__law_odd)) (m__law_odd : mg "_law_odd" = some (.ref f__law_odd)) (p__law_odd : PySem.W.keepIn K (.ref f__law_odd) = true) : Fg P w K mg base (L2.CX P w) 3 f (Pm K ts sp__law_other_fraction) := d_def Fn sc__law_other_fraction (fun _ _ _ _ _ _ us hl => match us, hl with | [_, _], _ => rfl) sp__law_other_fraction rd__law_other_fraction (fun cdv A outer s H E wn hcd ht ag hr => by
  have S := sc__law_other_fraction
  have hu := hr.units
  exact (dss_cons (ds_set (i := 2) S.nd rfl (by first | exact Or.inl rfl | exact Or.inr rfl) (d_use g__law_take ht ag (hr.mono (by decide)) passZ (by rfl) m__law_take p__law_take (da_cons (d_var 0) (da_cons d_int da_nil))))
    (dss_cons (ds_asg (d_var 1) (dg_tup rfl (dgs_cons (dg_name (i := 3) S.nd rfl (by first | exact Or.inl rfl | exact Or.inr rfl)) (dgs_cons (dg_name (i := 4) S.nd rfl (by first | exact Or.inl rfl | exact Or.inr rfl)) dgs_nil))))
    (dss_cons (ds_set (i := 5) S.nd rfl (by first | exact Or.inl rfl | exact Or.inr rfl) (d_lst (da_cons (d_tup (da_cons (d_bin o_mul d_int (d_var 3)) (da_cons (d_bin o_mul d_int (d_var 4)) da_nil))) (da_cons (d_tup (da_cons (d_var 3) (da_cons d_int da_nil))) (da_cons (d_tup (da_cons (d_var 3) (da_cons (d_neg (d_var 4)) da_nil))) (da_cons (d_tup (da_cons (d_neg (d_var 3)) (da_cons (d_neg (d_var 4)) da_nil))) (da_cons (d_lst (da_cons (d_var 3) (da_cons (d_var 4) da_nil))) da_nil)))))))
    (dss_cons (ds_set (i := 5) S.nd rfl (by first | exact Or.inl rfl | exact Or.inr rfl) (d_bin o_add (d_var 5) (d_lst (da_cons (d_tup (da_cons (d_var 3) (da_cons (d_var 4) (da_cons d_int da_nil)))) (da_cons (d_tup (da_cons (d_var 3) da_nil)) (da_cons (d_tup (da_cons (d_cmp (o_eq hu) (d_var 3) d_int) (da_cons (d_var 4) da_nil))) (da_cons (d_tup (da_cons (d_var 3) (da_cons (d_cmp (o_eq hu) (d_var 4) d_int) da_nil))) (da_cons (d_use g__law_odd ht ag (hr.mono (by decide)) passZ (by rfl) m__law_odd p__law_odd (da_cons (d_var 0) da_nil)) da_nil))))))))
    (dss_one (ds_ret (d_ix (d_var 5) (d_var 2))))))))) vc__law_other_fraction
end
/-! _law_low -/
abbrev s__law_low : Stmt := topS 38
abbrev N__law_low : List Str := ["_law_top", "_law_bottom", "_law_one", "_law_other"]
theorem sc__law_low : FnScope N__law_low ["_law_top", "_law_bottom"] (defScope s__law_low) := ⟨rfl, rfl, rfl, by decide +kernel, rfl, by decide +kernel, by decide +kernel⟩
def rd__law_low : DS := (tSeqD (tParD 2 3 (tConsD (tCallD cAbs (tConsD (tVarD 0) tNilD)) (tConsD (tVarD 1) tNilD)))
    (tSeqD (tWhD (tTst (tBin (gIn (fun i j => decide (j < i)) fun i j => decide (j.cps.toList < i.cps.toList)) (tVarD 3) (tCD (.int 0)))) (tParD 2 3 (tConsD (tVarD 3) (tConsD (tBin gMod (tVarD 2) (tVarD 3)) tNilD))))
    (tRetD (tTupD (tConsD (tBin gFdiv (tVarD 0) (tVarD 2)) (tConsD (tBin gFdiv (tVarD 1) (tVarD 2)) tNilD))))))
def sp__law_low : DSp := fun us P => ∃ t b : Int, us = [.d (.int t), .d (.int b)] ∧ 0 < b ∧ b.natAbs.log2 < 9000 ∧ ∀ s r, Frac s r → t * r = b * s → P (.d (.tuple [.int s, .int r]))
theorem vc__law_low : ∀ dvs Q, sp__law_low dvs Q → dvs.length = 2 ∧ rd__law_low { nx := fun _ => Q (.d .none), rt := Q } (startD N__law_low dvs) := by
  rintro dvs Q ⟨t, b, rfl, b0, bs, h⟩
  refine ⟨rfl, ?_⟩
  have hb : b ≠ 0 := Int.ne_of_gt b0
  have hbn : ¬ b < 0 := Int.not_lt.mpr (Int.le_of_lt b0)
  have gp := gcd_pos (t := t) hb
  have gn : ((Int.gcd t b : Nat) : Int) ≠ 0 := Int.ne_of_gt (Int.natCast_pos.mpr gp)
  have gl : ((Int.gcd t b : Nat) : Int).natAbs.log2 < 9000 := by
    rw [Int.natAbs_natCast]
    exact log_lt (by decide) (Nat.lt_of_le_of_lt (gcd_le hb) (lt_two bs))
  obtain ⟨k1, k2⟩ := lo_ok (t := t) hb
  have h := h _ _ k1 k2
  rw [loT, loB, if_neg hbn, if_neg hbn] at h
  clear k1 k2
  unfold rd__law_low
  walk_at "dl"
  refine whD_ind (fun env => ∃ x y : Int, env = [.d (.int t), .d (.int b), .d (.int x), .d (.int y)] ∧ 0 ≤ x ∧ 0 ≤ y ∧ Int.gcd x y = Int.gcd t b) (fun env => match env with | [_, _, _, .d (.int y)] => y.toNat | _ => 0) (fun env R hI hR => ?_) ⟨_, _, rfl, by omega, by omega, by simp [Int.gcd]⟩
  obtain ⟨x, y, rfl, hx, hy, hg⟩ := hI
  walk_at "dl"
  by_cases hp : 0 < y
  · simp only [hp, decide_true, if_true]
    obtain ⟨g1, g2, g3⟩ := gcd_turn x y hx hp
    exact ⟨by omega, hR _ ⟨_, _, rfl, hy, g2, g1.trans hg⟩ (by show (x.fmod y).toNat < y.toNat; omega)⟩
  · have : y = 0 := by omega
    subst this
    simp only [Int.lt_irrefl, decide_false, Bool.false_eq_true, if_false]
    have e : x = (Int.gcd t b : Int) := by
      rw [← hg, Int.gcd_zero]; omega
    subst e
    refine ⟨gn, gl, gn, gl, by decide, ?_⟩
    rw [Int.fdiv_eq_ediv_of_dvd (Int.gcd_dvd_left _ _), Int.fdiv_eq_ediv_of_dvd (Int.gcd_dvd_right _ _)]
    exact h
section
variable {ts : List Addr} {P : Program} {w : World} {K : PySem.W.Frag} {mg : Str → Option Value} {base : Heap}
theorem ok__law_low {f : Addr} {fd : FuncData} (Fn : L2.Fun K "_law_low" "_law_low" s__law_low f fd) (z_abs : mg "abs" = none) : Fg P w K mg base (L2.CX P w) 1 f (Pm K ts sp__law_low) := d_def Fn sc__law_low (fun _ _ _ _ _ _ us hl => match us, hl with | [_, _], _ => rfl) sp__law_low rd__law_low (fun cdv A outer s H E wn hcd ht ag hr => by
  have S := sc__law_low
  have hu := hr.units
  exact (dss_cons (ds_par (i := 2) (j := 3) rfl S.nd rfl rfl (by decide) rfl rfl (da_cons (d_callB k_abs (by rfl) z_abs (by decide +kernel) (da_cons (d_var 0) da_nil)) (da_cons (d_var 1) da_nil)) (ps_par (i := 2) (j := 3) rfl S.nd rfl rfl (by decide) rfl rfl (da_cons (d_callB k_abs (by rfl) z_abs (by decide +kernel) (da_cons (d_var 0) da_nil)) (da_cons (d_var 1) da_nil)) (by rfl)))
    (dss_cons (ds_while PassesOwn.never (dt_cmp o_gt (d_var 3) d_int) (dss_one (ds_par (i := 2) (j := 3) rfl S.nd rfl rfl (by decide) rfl rfl (da_cons (d_var 3) (da_cons (d_bin o_mod (d_var 2) (d_var 3)) da_nil)) (ps_par (i := 2) (j := 3) rfl S.nd rfl rfl (by decide) rfl rfl (da_cons (d_var 3) (da_cons (d_bin o_mod (d_var 2) (d_var 3)) da_nil)) (by rfl)))))
    (dss_one (ds_ret (d_tup (da_cons (d_bin o_fdiv (d_var 0) (d_var 2)) (da_cons (d_bin o_fdiv (d_var 1) (d_var 2)) da_nil)))))))) vc__law_low
end
/-! _law_plus -/
abbrev s__law_plus : Stmt := topS 39
abbrev N__law_plus : List Str := ["_law_one", "_law_other"]
theorem sc__law_plus : FnScope N__law_plus ["_law_one", "_law_other"] (defScope s__law_plus) := ⟨rfl, rfl, rfl, by decide +kernel, rfl, by decide +kernel, by decide +kernel⟩
def rd__law_plus : DS := (tRetD (tUse sp__law_low (tConsD (tBin gAdd (tBin gMul (tBin gIx (tVarD 0) (tCD (.int 0))) (tBin gIx (tVarD 1) (tCD (.int 1)))) (tBin gMul (tBin gIx (tVarD 1) (tCD (.int 0))) (tBin gIx (tVarD 0) (tCD (.int 1))))) (tConsD (tBin gMul (tBin gIx (tVarD 0) (tCD (.int 1))) (tBin gIx (tVarD 1) (tCD (.int 1)))) tNilD))))
def sp__law_plus : DSp := fun us P => ∃ p q u v : Int, us = [.d (.tuple [.int p, .int q]), .d (.tuple [.int u, .int v])] ∧ 0 < q ∧ 0 < v ∧ p.natAbs < 2 ^ 4000 ∧ q.natAbs < 2 ^ 4000 ∧ u.natAbs < 2 ^ 4000 ∧ v.natAbs < 2 ^ 4000 ∧ ∀ s r, Frac s r → (p * v + u * q) * r = (q * v) * s → P (.d (.tuple [.int s, .int r]))
theorem vc__law_plus : ∀ dvs Q, sp__law_plus dvs Q → dvs.length = 2 ∧ rd__law_plus { nx := fun _ => Q (.d .none), rt := Q } (startD N__law_plus dvs) := by
  rintro dvs Q ⟨p, q, u, v, rfl, q0, v0, p1, q1, u1, v1, h⟩
  refine ⟨rfl, ?_⟩
  have m1 := mul_log p1 v1 (by decide) (by decide) (by decide)
  have m2 := mul_log u1 q1 (by decide) (by decide) (by decide)
  have m3 := mul_log q1 v1 (by decide) (by decide) (by decide)
  unfold rd__law_plus
  walk_at "dl"
  exact ⟨m1, m2, m3, _, _, rfl, Int.mul_pos q0 v0, log_le (natAbs_mul_lt q1 v1) (by decide) (by decide), h⟩
section
variable {ts : List Addr} {P : Program} {w : World} {K : PySem.W.Frag} {mg : Str → Option Value} {base : Heap}
theorem ok__law_plus {f : Addr} {fd : FuncData} (Fn : L2.Fun K "_law_plus" "_law_plus" s__law_plus f fd) {f__law_low : Addr} (g__law_low : Fg P w K mg base (L2.CX P w) 1 f__law_low (Pm K ts sp__law_low)) (m__law_low : mg "_law_low" = some (.ref f__law_low)) (p__law_low : PySem.W.keepIn K (.ref f__law_low) = true) : Fg P w K mg base (L2.CX P w) 2 f (Pm K ts sp__law_plus) := d_def Fn sc__law_plus (fun _ _ _ _ _ _ us hl => match us, hl with | [_, _], _ => rfl) sp__law_plus rd__law_plus (fun cdv A outer s H E wn hcd ht ag hr => by
  have S := sc__law_plus
  have hu := hr.units
  exact (dss_one (ds_ret (d_use g__law_low ht ag (hr.mono (by decide)) passZ (by rfl) m__law_low p__law_low (da_cons (d_bin o_add (d_bin o_mul (d_ix (d_var 0) d_int) (d_ix (d_var 1) d_int)) (d_bin o_mul (d_ix (d_var 1) d_int) (d_ix (d_var 0) d_int))) (da_cons (d_bin o_mul (d_ix (d_var 0) d_int) (d_ix (d_var 1) d_int)) da_nil)))))) vc__law_plus
end
/-! _law_spoilt -/
abbrev s__law_spoilt : Stmt := topS 47
abbrev N__law_spoilt : List Str := ["_law_bag_here", "_law_way", "_law_stretch_here", "_law_low_here", "_law_high", "_law_other", "_law_near", "_law_some"]
theorem sc__law_spoilt : FnScope N__law_spoilt ["_law_bag_here", "_law_way", "_law_stretch_here"] (defScope s__law_spoilt) := ⟨rfl, rfl, rfl, by decide +kernel, rfl, by decide +kernel, by decide +kernel⟩
def rd__law_spoilt : DS := (tSeqD (tAsgD (tVarD 2) (gtD 2 (gconsD (gnD 3) (gconsD (gnD 4) gnilD))))
    (tSeqD (tSetD 5 (tUse sp__law_other_fraction (tConsD (tVarD 0) (tConsD (tBin gIx (tLstD (tConsD (tVarD 3) (tConsD (tVarD 4) tNilD))) (tBin gMod (tVarD 1) (tCD (.int 2)))) tNilD))))
    (tSeqD (tIfD (tTst (tBin gLt (tVarD 1) (tCD (.int 4)))) (tRetVD 2) (fun d env => d.nx env))
    (tSeqD (tIfD (tTst (tBin gLt (tVarD 1) (tCD (.int 6)))) (tRetD (tTupD (tConsD (tVarD 4) (tConsD (tVarD 3) tNilD)))) (fun d env => d.nx env))
    (tSeqD (tIfD (tTst (tBin gLt (tVarD 1) (tCD (.int 10)))) (tRetD (tBin gIx (tLstD (tConsD (tTupD (tConsD (tVarD 5) (tConsD (tVarD 4) tNilD))) (tConsD (tTupD (tConsD (tVarD 3) (tConsD (tVarD 5) tNilD))) tNilD))) (tBin gMod (tVarD 1) (tCD (.int 2))))) (fun d env => d.nx env))
    (tSeqD (tSetD 6 (tUse sp__law_plus (tConsD (tVarD 4) (tConsD (tTupD (tConsD (tCD (.int 1)) (tConsD (tBin gPow (tCD (.int 10)) (tCD (.int 20))) tNilD))) tNilD))))
    (tSeqD (tSetD 7 (tLstD (tConsD (tCallD cList (tConsD (tVarD 2) tNilD)) (tConsD (tBin gAdd (tVarD 2) (tTupD (tConsD (tVarD 4) tNilD))) (tConsD (tSlT (tVarD 2) oNone (oSome (tCD (.int 1)))) (tConsD (tUse sp__law_odd (tConsD (tVarD 0) tNilD)) (tConsD (tTupD (tConsD (tVarD 6) (tConsD (tVarD 4) tNilD))) (tConsD (tTupD (tConsD (tVarD 5) (tConsD (tVarD 5) tNilD))) tNilD))))))))
    (tRetD (tBin gIx (tVarD 7) (tBin gMinus (tVarD 1) (tCD (.int 10))))))))))))
def sp__law_spoilt : DSp := fun us P => ∃ way p q u v : Int, us = [.bag, .d (.int way), .d (.tuple [.tuple [.int p, .int q], .tuple [.int u, .int v]])] ∧ 0 ≤ way ∧ way < 16 ∧ Fb 204 102 p q ∧ Fb 204 102 u v ∧ ∀ x, Th x → P (.d x)
theorem vc__law_spoilt : ∀ dvs Q, sp__law_spoilt dvs Q → dvs.length = 3 ∧ rd__law_spoilt { nx := fun _ => Q (.d .none), rt := Q } (startD N__law_spoilt dvs) := by
  rintro dvs Q ⟨way, p, q, u, v, rfl, w0, w1, f, g, h⟩
  refine ⟨rfl, ?_⟩
  have m0 := Int.fmod_nonneg_of_pos way (show (0 : Int) < 2 by decide)
  have m1 := Int.fmod_lt_of_pos way (show (0 : Int) < 2 by decide)
  unfold rd__law_spoilt
  refine seqG fun R hR => ?_
  walk_at "dl"
  refine hR _ (seqG fun R hR => ?_)
  walk_at "dl"
  refine ⟨by decide, by decide, ?_⟩
  have st : (.tuple [.tuple [.int p, .int q], .tuple [.int u, .int v]] : PyData) = .tuple [.tuple [.int p, .int q], .tuple [.int u, .int v]] := rfl
  have go : ∀ s r : Int, Fb 204 102 s r → ∀ o, NoF o → R [.bag, .d (.int way), .d (.tuple [.tuple [.int p, .int q], .tuple [.int u, .int v]]), .d (.tuple [.int p, .int q]), .d (.tuple [.int u, .int v]), .d o, .un, .un] := by
    intro s r _ o no
    refine hR _ (seqG fun R hR => ?_)
    walk_at "dl"
    by_cases c1 : way < 4
    · simp only [c1, decide_true, if_true]
      exact h _ ⟨ths_two f g, sd_two (fb_sd f) (fb_sd g)⟩
    simp only [c1, decide_false, Bool.false_eq_true, if_false]
    refine hR _ (seqG fun R hR => ?_)
    walk_at "dl"
    by_cases c2 : way < 6
    · simp only [c2, decide_true, if_true]
      exact ⟨by decide, h _ ⟨ths_two g f, sd_two (fb_sd g) (fb_sd f)⟩⟩
    simp only [c2, decide_false, Bool.false_eq_true, if_false]
    refine hR _ (seqG fun R hR => ?_)
    walk_at "dl"
    by_cases c3 : way < 10
    · simp only [c3, decide_true, if_true]
      refine ⟨by decide, by decide, by decide, by decide, ?_⟩
      refine pick m0 m1 fun x hx => ?_
      simp only [List.mem_cons, List.not_mem_nil, or_false] at hx
      rcases hx with rfl | rfl
      · exact h _ (th_no (.inl no.fr) no.sz (fb_szf g) no.sd (fb_sd g))
      · exact h _ (th_no (.inr no.fr) (fb_szf f) no.sz (fb_sd f) no.sd)
    simp only [c3, decide_false, Bool.false_eq_true, if_false]
    refine hR _ (seqG fun R hR => ?_)
    walk_at "dl"
    have e20 : (10 : Int) ^ Int.toNat 20 = 100000000000000000000 := by decide
    rw [e20]
    have up : ∀ {x : Int} {k : Nat}, x.natAbs < 2 ^ 204 → x.natAbs < 2 ^ 4000 := fun z => two_le z (by decide)
    refine ⟨by decide, by decide, u, v, 1, 100000000000000000000, rfl, g.f.pos, by decide, two_le g.t (by decide), two_le g.b (by decide), by decide, by decide, fun s r k e => ?_⟩
    walk_at "dl"
    refine hR _ (seqG fun R hR => ?_)
    walk_at "dl"
    refine ⟨by decide, List.cons_ne_nil _ _, by decide, rfl, fun od ho => ?_⟩
    walk_at "dl"
    refine ⟨by decide, by decide, by decide, fun l => hR _ ?_⟩
    walk_at "dl"
    have near : Th (.tuple [.tuple [.int s, .int r], .tuple [.int u, .int v]]) := by
      have g0 := g.f.pos
      have r0 := k.pos
      have vb : (v * 100000000000000000000).natAbs < 2 ^ (102 + 70) := natAbs_mul_lt g.b (by decide)
      have k2 : Fb 300 300 s r := (fb_of (k := 280) (m := 280) k (Int.mul_ne_zero (Int.ne_of_gt g0) (by decide)) e (two_le (sum_lt (p := u) (v := 100000000000000000000) (u := 1) (q := v) (k := 204) (m := 70) g.t (two_le g.b (by decide)) (by decide) (by decide)) (by decide)) (two_le vb (by decide))).up
      have no : isSt (.tuple [.tuple [.int s, .int r], .tuple [.int u, .int v]]) = false := by
        cases z : isSt (.tuple [.tuple [.int s, .int r], .tuple [.int u, .int v]]) with
        | false => rfl
        | true =>
          exfalso
          simp only [isSt, Bool.and_eq_true] at z
          have z := z.2.2
          rw [cmpF_one] at z
          have z : s * v ≤ u * r := by simpa using z
          have z2 : 100000000000000000000 * (s * v) ≤ 100000000000000000000 * (u * r) := Int.mul_le_mul_of_nonneg_left z (by decide)
          have a1 : v * 100000000000000000000 * s = 100000000000000000000 * (s * v) := by rw [Int.mul_comm v, Int.mul_assoc, Int.mul_comm v s]
          have a2 : (u * 100000000000000000000 + 1 * v) * r = 100000000000000000000 * (u * r) + v * r := by rw [Int.one_mul, Int.add_mul, Int.mul_comm u, Int.mul_assoc]
          have a3 : 0 < v * r := Int.mul_pos g0 r0
          omega
      refine ⟨⟨⟨fun a b e2 _ _ => ?_, fun z => by rw [no] at z; cases z⟩, fun a b e2 => ?_⟩, sd_two ?_ (fb_sd g)⟩
      · cases e2
        exact ⟨⟨s, r, rfl, k2.fk⟩, ⟨u, v, rfl, g.fk⟩⟩
      · cases e2
        exact ⟨szf_of (two_le k2.t (by decide)) (two_le k2.b (by decide)), fb_szf g⟩
      · exact (sd_frc k2.t k2.b).up
    refine pick (show 0 ≤ way - 10 by omega) (show way - 10 < ((6 : Nat) : Int) by omega) fun x hx => ?_
    simp only [List.mem_cons, List.not_mem_nil, or_false] at hx
    refine h x ?_
    rcases hx with rfl | rfl | rfl | rfl | rfl | rfl
    · refine th_other (fun a b e => by cases e) (sd_lst (n := 2) (k := 900) (m := 2) fun z hz => ?_).up
      simp only [List.mem_cons, List.not_mem_nil, or_false] at hz
      rcases hz with rfl | rfl
      · exact fb_sd f
      · exact fb_sd g
    · exact th_other (fun a b e => by cases e) (sd_three (fb_sd f) (fb_sd g) (fb_sd g))
    · rw [show Dl.cutD [(.tuple [.int p, .int q] : PyData), .tuple [.int u, .int v]] none (some 1) = [.tuple [.int p, .int q]] from rfl]
      refine th_other (fun a b e => by cases e) (sd_tup (n := 2) (k := 900) (m := 1) fun z hz => ?_).up
      cases List.mem_singleton.mp hz
      exact fb_sd f
    · exact ⟨odd_ths ho, (odd_sd ho).up⟩
    · exact near
    · exact th_no (.inl no.fr) no.sz no.sz no.sd no.sd
  refine pick m0 m1 fun x hx => ?_
  simp only [List.mem_cons, List.not_mem_nil, or_false] at hx
  rcases hx with rfl | rfl
  · walk_at "dl"
    refine ⟨p, q, rfl, f, fun o no => ?_⟩
    walk_at "dl"
    exact go p q f o no
  · walk_at "dl"
    refine ⟨u, v, rfl, g, fun o no => ?_⟩
    walk_at "dl"
    exact go p q f o no
section
variable {ts : List Addr} {P : Program} {w : World} {K : PySem.W.Frag} {mg : Str → Option Value} {base : Heap}
theorem ok__law_spoilt {f : Addr} {fd : FuncData} (Fn : L2.Fun K "_law_spoilt" "_law_spoilt" s__law_spoilt f fd) {f__law_other_fraction : Addr} (g__law_other_fraction : Fg P w K mg base (L2.CX P w) 3 f__law_other_fraction (Pm K ts sp__law_other_fraction)) (m__law_other_fraction : mg "_law_other_fraction" = some (.ref f__law_other_fraction)) (p__law_other_fraction : PySem.W.keepIn K (.ref f__law_other_fraction) = true) {f__law_plus : Addr} (g__law_plus : Fg P w K mg base (L2.CX P w) 2 f__law_plus (Pm K ts sp__law_plus)) (m__law_plus : mg "_law_plus" = some (.ref f__law_plus)) (p__law_plus : PySem.W.keepIn K (.ref f__law_plus) = true) {f__law_odd : Addr} (g__law_odd : Fg P w K mg base (L2.CX P w) 2 f__law_odd (Pm K ts sp__law_odd)) (m__law_odd : mg "_law_odd" = some (.ref f__law_odd)) (p__law_odd : PySem.W.keepIn K (.ref f__law_odd) = true) (z_list : mg "list" = none) : Fg P w K mg base (L2.CX P w) 4 f (Pm K ts sp__law_spoilt) := d_def Fn sc__law_spoilt (fun _ _ _ _ _ _ us hl => match us, hl with | [_, _, _], _ => rfl) sp__law_spoilt rd__law_spoilt (fun cdv A outer s H E wn hcd ht ag hr => by
  have S := sc__law_spoilt
  have hu := hr.units
  exact (dss_cons (ds_asg (d_var 2) (dg_tup rfl (dgs_cons (dg_name (i := 3) S.nd rfl (by first | exact Or.inl rfl | exact Or.inr rfl)) (dgs_cons (dg_name (i := 4) S.nd rfl (by first | exact Or.inl rfl | exact Or.inr rfl)) dgs_nil))))
    (dss_cons (ds_set (i := 5) S.nd rfl (by first | exact Or.inl rfl | exact Or.inr rfl) (d_use g__law_other_fraction ht ag (hr.mono (by decide)) passZ (by rfl) m__law_other_fraction p__law_other_fraction (da_cons (d_var 0) (da_cons (d_ix (d_lst (da_cons (d_var 3) (da_cons (d_var 4) da_nil))) (d_bin o_mod (d_var 1) d_int)) da_nil))))
    (dss_cons (ds_if (dt_cmp o_lt (d_var 1) d_int) (dss_one (ds_retV 2)) dss_nil)
    (dss_cons (ds_if (dt_cmp o_lt (d_var 1) d_int) (dss_one (ds_ret (d_tup (da_cons (d_var 4) (da_cons (d_var 3) da_nil))))) dss_nil)
    (dss_cons (ds_if (dt_cmp o_lt (d_var 1) d_int) (dss_one (ds_ret (d_ix (d_lst (da_cons (d_tup (da_cons (d_var 5) (da_cons (d_var 4) da_nil))) (da_cons (d_tup (da_cons (d_var 3) (da_cons (d_var 5) da_nil))) da_nil))) (d_bin o_mod (d_var 1) d_int)))) dss_nil)
    (dss_cons (ds_set (i := 6) S.nd rfl (by first | exact Or.inl rfl | exact Or.inr rfl) (d_use g__law_plus ht ag (hr.mono (by decide)) passZ (by rfl) m__law_plus p__law_plus (da_cons (d_var 4) (da_cons (d_tup (da_cons d_int (da_cons (d_bin o_pow d_int d_int) da_nil))) da_nil))))
    (dss_cons (ds_set (i := 7) S.nd rfl (by first | exact Or.inl rfl | exact Or.inr rfl) (d_lst (da_cons (d_callTy k_list (by rfl) z_list (by decide +kernel) (da_cons (d_var 2) da_nil)) (da_cons (d_bin o_add (d_var 2) (d_tup (da_cons (d_var 4) da_nil))) (da_cons (d_slT (d_var 2) do_none (do_some d_int)) (da_cons (d_use g__law_odd ht ag (hr.mono (by decide)) passZ (by rfl) m__law_odd p__law_odd (da_cons (d_var 0) da_nil)) (da_cons (d_tup (da_cons (d_var 6) (da_cons (d_var 4) da_nil))) (da_cons (d_tup (da_cons (d_var 5) (da_cons (d_var 5) da_nil))) da_nil))))))))
    (dss_one (ds_ret (d_ix (d_var 7) (d_bin o_sub (d_var 1) d_int)))))))))))) vc__law_spoilt
end
/-! _law_any -/
abbrev s__law_any : Stmt := topS 41
abbrev N__law_any : List Str := ["_law_bag_here", "_law_way", "_law_sign", "_law_bottom"]
theorem sc__law_any : FnScope N__law_any ["_law_bag_here"] (defScope s__law_any) := ⟨rfl, rfl, rfl, by decide +kernel, rfl, by decide +kernel, by decide +kernel⟩
def rd__law_any : DS := (tSeqD (tSetD 1 (tUse sp__law_take (tConsD (tVarD 0) (tConsD (tCD (.int 5)) tNilD))))
    (tSeqD (tSetD 2 (tBin gIx (tLstD (tConsD (tCD (.int 1)) (tConsD (tUnD gNeg (tCD (.int 1))) tNilD))) (tUse sp__law_take (tConsD (tVarD 0) (tConsD (tCD (.int 2)) tNilD)))))
    (tSeqD (tSetD 3 (tBin gAdd (tCD (.int 1)) (tUse sp__law_take (tConsD (tVarD 0) (tConsD (tBin gIx (tLstD (tConsD (tCD (.int 1)) (tConsD (tCD (.int 3)) (tConsD (tCD (.int 1000)) (tConsD (tBin gPow (tCD (.int 10)) (tCD (.int 30))) (tConsD (tCD (.int 12)) tNilD)))))) (tVarD 1)) tNilD)))))
    (tRetD (tUse sp__law_low (tConsD (tBin gMul (tVarD 2) (tUse sp__law_take (tConsD (tVarD 0) (tConsD (tBin gIx (tLstD (tConsD (tCD (.int 3)) (tConsD (tCD (.int 40)) (tConsD (tBin gAdd (tBin gPow (tCD (.int 10)) (tCD (.int 12))) (tCD (.int 1))) (tConsD (tBin gPow (tCD (.int 10)) (tCD (.int 60))) (tConsD (tCD (.int 2)) tNilD)))))) (tVarD 1)) tNilD)))) (tConsD (tVarD 3) tNilD)))))))
def sp__law_any : DSp := fun us P => us = [.bag] ∧ ∀ s r : Int, Fb 200 100 s r → P (.d (.tuple [.int s, .int r]))
theorem vc__law_any : ∀ dvs Q, sp__law_any dvs Q → dvs.length = 1 ∧ rd__law_any { nx := fun _ => Q (.d .none), rt := Q } (startD N__law_any dvs) := by
  rintro dvs Q ⟨rfl, h⟩
  refine ⟨rfl, ?_⟩
  have big : (10 : Int) ^ 60 < 2 ^ 200 := by decide
  unfold rd__law_any
  walk_at "dl"
  refine ⟨5, rfl, by decide, by decide, fun w w0 w1 => ?_⟩
  walk_at "dl"
  refine ⟨by decide, 2, rfl, by decide, by decide, fun d d1 d2 => ?_⟩
  walk_at "dl"
  refine pick d1 d2 fun z hz => ?_
  obtain ⟨s, rfl, hs⟩ := sgn hz
  clear hz d1 d2
  walk_at "dl"
  refine ⟨by decide, by decide, pick w0 w1 fun z hz => ?_⟩
  obtain ⟨m, rfl, m0, m1, m2⟩ : ∃ m : Int, z = .int m ∧ 0 < m ∧ m.natAbs.log2 < 9000 ∧ m ≤ 10 ^ 30 := by
    simp only [List.mem_cons, List.not_mem_nil, or_false] at hz
    rcases hz with rfl | rfl | rfl | rfl | rfl
    · exact ⟨_, rfl, by decide, by decide, by decide⟩
    · exact ⟨_, rfl, by decide, by decide, by decide⟩
    · exact ⟨_, rfl, by decide, by decide, by decide⟩
    · exact ⟨_, rfl, by decide, by decide, by decide⟩
    · exact ⟨_, rfl, by decide, by decide, by decide⟩
  clear hz
  refine ⟨m, rfl, m0, m1, fun r r0 r1 => ?_⟩
  obtain ⟨b, eb⟩ : ∃ b, b = 1 + r := ⟨_, rfl⟩
  have b0 : 0 < b := by omega
  have b2 : b.natAbs < 2 ^ 100 := by
    have : (10 : Int) ^ 30 < 2 ^ 100 := by decide
    omega
  walk_at "dl"
  simp only [← eb]
  clear eb m0 m1 m2 r0 r1
  refine ⟨by decide, by decide, by decide, pick w0 w1 fun z hz => ?_⟩
  obtain ⟨m, rfl, m0, m1, m2⟩ : ∃ m : Int, z = .int m ∧ 0 < m ∧ m.natAbs.log2 < 9000 ∧ m ≤ 10 ^ 60 := by
    simp only [List.mem_cons, List.not_mem_nil, or_false] at hz
    rcases hz with rfl | rfl | rfl | rfl | rfl
    · exact ⟨_, rfl, by decide, by decide, by decide⟩
    · exact ⟨_, rfl, by decide, by decide, by decide⟩
    · exact ⟨_, rfl, by decide, by decide, by decide⟩
    · exact ⟨_, rfl, by decide, by decide, by decide⟩
    · exact ⟨_, rfl, by decide, by decide, by decide⟩
  clear hz
  refine ⟨m, rfl, m0, m1, fun r r0 r1 => ?_⟩
  have r2 : r.natAbs < 2 ^ 200 := by omega
  have et : (s * r).natAbs < 2 ^ 200 := by rw [Int.natAbs_mul, hs, Nat.one_mul]; exact r2
  walk_at "dl"
  refine ⟨mul_log (m := 1) (n := 200) (by omega) r2 (by decide) (by decide) (by decide), _, _, rfl, b0, log_le b2 (by decide) (by decide), fun p q f e => ?_⟩
  exact h p q (fb_of f (Int.ne_of_gt b0) e et b2)
section
variable {ts : List Addr} {P : Program} {w : World} {K : PySem.W.Frag} {mg : Str → Option Value} {base : Heap}
theorem ok__law_any {f : Addr} {fd : FuncData} (Fn : L2.Fun K "_law_any" "_law_any" s__law_any f fd) {f__law_take : Addr} (g__law_take : Fg P w K mg base (L2.CX P w) 1 f__law_take (Pm K ts sp__law_take)) (m__law_take : mg "_law_take" = some (.ref f__law_take)) (p__law_take : PySem.W.keepIn K (.ref f__law_take) = true) {f__law_low : Addr} (g__law_low : Fg P w K mg base (L2.CX P w) 1 f__law_low (Pm K ts sp__law_low)) (m__law_low : mg "_law_low" = some (.ref f__law_low)) (p__law_low : PySem.W.keepIn K (.ref f__law_low) = true) : Fg P w K mg base (L2.CX P w) 2 f (Pm K ts sp__law_any) := d_def Fn sc__law_any (fun _ _ _ _ _ _ us hl => match us, hl with | [_], _ => rfl) sp__law_any rd__law_any (fun cdv A outer s H E wn hcd ht ag hr => by
  have S := sc__law_any
  have hu := hr.units
  exact (dss_cons (ds_set (i := 1) S.nd rfl (by first | exact Or.inl rfl | exact Or.inr rfl) (d_use g__law_take ht ag (hr.mono (by decide)) passZ (by rfl) m__law_take p__law_take (da_cons (d_var 0) (da_cons d_int da_nil))))
    (dss_cons (ds_set (i := 2) S.nd rfl (by first | exact Or.inl rfl | exact Or.inr rfl) (d_ix (d_lst (da_cons d_int (da_cons (d_neg d_int) da_nil))) (d_use g__law_take ht ag (hr.mono (by decide)) passZ (by rfl) m__law_take p__law_take (da_cons (d_var 0) (da_cons d_int da_nil)))))
    (dss_cons (ds_set (i := 3) S.nd rfl (by first | exact Or.inl rfl | exact Or.inr rfl) (d_bin o_add d_int (d_use g__law_take ht ag (hr.mono (by decide)) passZ (by rfl) m__law_take p__law_take (da_cons (d_var 0) (da_cons (d_ix (d_lst (da_cons d_int (da_cons d_int (da_cons d_int (da_cons (d_bin o_pow d_int d_int) (da_cons d_int da_nil)))))) (d_var 1)) da_nil)))))
    (dss_one (ds_ret (d_use g__law_low ht ag (hr.mono (by decide)) passZ (by rfl) m__law_low p__law_low (da_cons (d_bin o_mul (d_var 2) (d_use g__law_take ht ag (hr.mono (by decide)) passZ (by rfl) m__law_take p__law_take (da_cons (d_var 0) (da_cons (d_ix (d_lst (da_cons d_int (da_cons d_int (da_cons (d_bin o_add (d_bin o_pow d_int d_int) d_int) (da_cons (d_bin o_pow d_int d_int) (da_cons d_int da_nil)))))) (d_var 1)) da_nil)))) (da_cons (d_var 3) da_nil))))))))) vc__law_any
end
/-! _law_under -/
abbrev s__law_under : Stmt := topS 40
abbrev N__law_under : List Str := ["_law_one", "_law_other"]
theorem sc__law_under : FnScope N__law_under ["_law_one", "_law_other"] (defScope s__law_under) := ⟨rfl, rfl, rfl, by decide +kernel, rfl, by decide +kernel, by decide +kernel⟩
def rd__law_under : DS := (tRetD (tBin gLt (tBin gMul (tBin gIx (tVarD 0) (tCD (.int 0))) (tBin gIx (tVarD 1) (tCD (.int 1)))) (tBin gMul (tBin gIx (tVarD 1) (tCD (.int 0))) (tBin gIx (tVarD 0) (tCD (.int 1))))))
def sp__law_under : DSp := fun us P => ∃ p q u v : Int, us = [.d (.tuple [.int p, .int q]), .d (.tuple [.int u, .int v])] ∧ p.natAbs < 2 ^ 4000 ∧ q.natAbs < 2 ^ 4000 ∧ u.natAbs < 2 ^ 4000 ∧ v.natAbs < 2 ^ 4000 ∧ P (.d (.bool (decide (p * v < u * q))))
theorem vc__law_under : ∀ dvs Q, sp__law_under dvs Q → dvs.length = 2 ∧ rd__law_under { nx := fun _ => Q (.d .none), rt := Q } (startD N__law_under dvs) := by
  rintro dvs Q ⟨p, q, u, v, rfl, p1, q1, u1, v1, h⟩
  refine ⟨rfl, ?_⟩
  have m1 := mul_log p1 v1 (by decide) (by decide) (by decide)
  have m2 := mul_log u1 q1 (by decide) (by decide) (by decide)
  unfold rd__law_under
  walk_at "dl"
  exact ⟨m1, m2, h⟩
section
variable {ts : List Addr} {P : Program} {w : World} {K : PySem.W.Frag} {mg : Str → Option Value} {base : Heap}
theorem ok__law_under {f : Addr} {fd : FuncData} (Fn : L2.Fun K "_law_under" "_law_under" s__law_under f fd)  : Fg P w K mg base (L2.CX P w) 1 f (Pm K ts sp__law_under) := d_def Fn sc__law_under (fun _ _ _ _ _ _ us hl => match us, hl with | [_, _], _ => rfl) sp__law_under rd__law_under (fun cdv A outer s H E wn hcd ht ag hr => by
  have S := sc__law_under
  have hu := hr.units
  exact (dss_one (ds_ret (d_cmp o_lt (d_bin o_mul (d_ix (d_var 0) d_int) (d_ix (d_var 1) d_int)) (d_bin o_mul (d_ix (d_var 1) d_int) (d_ix (d_var 0) d_int)))))) vc__law_under
end
/-! _law_stretch -/
abbrev s__law_stretch : Stmt := topS 42
abbrev N__law_stretch : List Str := ["_law_bag_here", "_law_way", "_law_one", "_law_other"]
theorem sc__law_stretch : FnScope N__law_stretch ["_law_bag_here"] (defScope s__law_stretch) := ⟨rfl, rfl, rfl, by decide +kernel, rfl, by decide +kernel, by decide +kernel⟩
def rd__law_stretch : DS := (tSeqD (tSetD 1 (tUse sp__law_take (tConsD (tVarD 0) (tConsD (tCD (.int 3)) tNilD))))
    (tSeqD (tSetD 2 (tUse sp__law_any (tConsD (tVarD 0) tNilD)))
    (tSeqD (tSetD 3 (tBin gIx (tLstD (tConsD (tVarD 2) (tConsD (tUse sp__law_any (tConsD (tVarD 0) tNilD)) (tConsD (tUse sp__law_plus (tConsD (tVarD 2) (tConsD (tTupD (tConsD (tBin gAdd (tCD (.int 1)) (tUse sp__law_take (tConsD (tVarD 0) (tConsD (tCD (.int 4)) tNilD)))) (tConsD (tBin gAdd (tCD (.int 1)) (tUse sp__law_take (tConsD (tVarD 0) (tConsD (tCD (.int 3)) tNilD)))) tNilD))) tNilD))) tNilD)))) (tVarD 1)))
    (tSeqD (tIfD (tTru (tUse sp__law_under (tConsD (tVarD 3) (tConsD (tVarD 2) tNilD)))) (tRetD (tTupD (tConsD (tVarD 3) (tConsD (tVarD 2) tNilD)))) (fun d env => d.nx env))
    (tRetD (tTupD (tConsD (tVarD 2) (tConsD (tVarD 3) tNilD))))))))
def sp__law_stretch : DSp := fun us P => us = [.bag] ∧ ∀ p q u v : Int, Fb 204 102 p q → Fb 204 102 u v → p * v ≤ u * q → P (.d (.tuple [.tuple [.int p, .int q], .tuple [.int u, .int v]]))
theorem vc__law_stretch : ∀ dvs Q, sp__law_stretch dvs Q → dvs.length = 1 ∧ rd__law_stretch { nx := fun _ => Q (.d .none), rt := Q } (startD N__law_stretch dvs) := by
  rintro dvs Q ⟨rfl, h⟩
  refine ⟨rfl, ?_⟩
  unfold rd__law_stretch
  walk_at "dl"
  refine ⟨3, rfl, by decide, by decide, fun w w0 w1 => ?_⟩
  walk_at "dl"
  refine ⟨rfl, fun p q f => ?_⟩
  walk_at "dl"
  refine ⟨rfl, fun u v g => ?_⟩
  walk_at "dl"
  refine ⟨4, rfl, by decide, by decide, fun x x0 x1 => ?_⟩
  walk_at "dl"
  refine ⟨3, rfl, by decide, by decide, fun y y0 y1 => ?_⟩
  walk_at "dl"
  have xa : (1 + x).natAbs < 2 ^ 3 := by omega
  have ya : (1 + y).natAbs < 2 ^ 2 := by omega
  have y2 : 0 < 1 + y := by omega
  have l1 : ∀ {z : Int}, z.natAbs < 2 ^ 200 → z.natAbs < 2 ^ 4000 := fun z => two_le z (by decide)
  have l1' : ∀ {z : Int}, z.natAbs < 2 ^ 100 → z.natAbs < 2 ^ 4000 := fun z => two_le z (by decide)
  have l2 : ∀ {z : Int}, z.natAbs < 2 ^ 3 → z.natAbs < 2 ^ 4000 := fun z => two_le z (by decide)
  have l2' : ∀ {z : Int}, z.natAbs < 2 ^ 2 → z.natAbs < 2 ^ 4000 := fun z => two_le z (by decide)
  refine ⟨by decide, p, q, 1 + x, 1 + y, rfl, f.f.pos, y2, l1 f.t, l1' f.b, l2 xa, l2' ya, fun a b k e => ?_⟩
  have k1 : Fb 204 102 a b := (fb_of k (mul_ne f.f.pos y2) e (sum_ltb f.t f.b xa ya 203) (natAbs_mul_lt f.b ya)).up
  clear e k xa ya y2 x0 x1 y0 y1
  walk_at "dl"
  refine ⟨by decide, pick w0 w1 fun z hz => ?_⟩
  obtain ⟨c, d, rfl, k⟩ : ∃ c d : Int, z = .tuple [.int c, .int d] ∧ Fb 204 102 c d := by
    simp only [List.mem_cons, List.not_mem_nil, or_false] at hz
    rcases hz with rfl | rfl | rfl
    · exact ⟨_, _, rfl, f.up⟩
    · exact ⟨_, _, rfl, g.up⟩
    · exact ⟨_, _, rfl, k1⟩
  clear hz k1 w0 w1
  have f := f.up (j := 204) (i := 102)
  have l3 : ∀ {z : Int}, z.natAbs < 2 ^ 204 → z.natAbs < 2 ^ 4000 := fun z => two_le z (by decide)
  have l4 : ∀ {z : Int}, z.natAbs < 2 ^ 102 → z.natAbs < 2 ^ 4000 := fun z => two_le z (by decide)
  walk_at "dl"
  refine ⟨c, d, p, q, rfl, l3 k.t, l4 k.b, l3 f.t, l4 f.b, ?_⟩
  by_cases hc : c * q < p * d
  · simp only [hc, decide_true, if_true]
    exact ⟨by decide, by decide, h _ _ _ _ k f (Int.le_of_lt hc)⟩
  · simp only [hc, decide_false, Bool.false_eq_true, if_false]
    exact ⟨by decide, by decide, h _ _ _ _ f k (Int.not_lt.mp hc)⟩
section
variable {ts : List Addr} {P : Program} {w : World} {K : PySem.W.Frag} {mg : Str → Option Value} {base : Heap}
theorem ok__law_stretch {f : Addr} {fd : FuncData} (Fn : L2.Fun K "_law_stretch" "_law_stretch" s__law_stretch f fd) {f__law_take : Addr} (g__law_take : Fg P w K mg base (L2.CX P w) 1 f__law_take (Pm K ts sp__law_take)) (m__law_take : mg "_law_take" = some (.ref f__law_take)) (p__law_take : PySem.W.keepIn K (.ref f__law_take) = true) {f__law_any : Addr} (g__law_any : Fg P w K mg base (L2.CX P w) 2 f__law_any (Pm K ts sp__law_any)) (m__law_any : mg "_law_any" = some (.ref f__law_any)) (p__law_any : PySem.W.keepIn K (.ref f__law_any) = true) {f__law_plus : Addr} (g__law_plus : Fg P w K mg base (L2.CX P w) 2 f__law_plus (Pm K ts sp__law_plus)) (m__law_plus : mg "_law_plus" = some (.ref f__law_plus)) (p__law_plus : PySem.W.keepIn K (.ref f__law_plus) = true) {f__law_under : Addr} (g__law_under : Fg P w K mg base (L2.CX P w) 1 f__law_under (Pm K ts sp__law_under)) (m__law_under : mg "_law_under" = some (.ref f__law_under)) (p__law_under : PySem.W.keepIn K (.ref f__law_under) = true) : Fg P w K mg base (L2.CX P w) 3 f (Pm K ts sp__law_stretch) := d_def Fn sc__law_stretch (fun _ _ _ _ _ _ us hl => match us, hl with | [_], _ => rfl) sp__law_stretch rd__law_stretch (fun cdv A outer s H E wn hcd ht ag hr => by
  have S := sc__law_stretch
  have hu := hr.units
  exact (dss_cons (ds_set (i := 1) S.nd rfl (by first | exact Or.inl rfl | exact Or.inr rfl) (d_use g__law_take ht ag (hr.mono (by decide)) passZ (by rfl) m__law_take p__law_take (da_cons (d_var 0) (da_cons d_int da_nil))))
    (dss_cons (ds_set (i := 2) S.nd rfl (by first | exact Or.inl rfl | exact Or.inr rfl) (d_use g__law_any ht ag (hr.mono (by decide)) passZ (by rfl) m__law_any p__law_any (da_cons (d_var 0) da_nil)))
    (dss_cons (ds_set (i := 3) S.nd rfl (by first | exact Or.inl rfl | exact Or.inr rfl) (d_ix (d_lst (da_cons (d_var 2) (da_cons (d_use g__law_any ht ag (hr.mono (by decide)) passZ (by rfl) m__law_any p__law_any (da_cons (d_var 0) da_nil)) (da_cons (d_use g__law_plus ht ag (hr.mono (by decide)) passZ (by rfl) m__law_plus p__law_plus (da_cons (d_var 2) (da_cons (d_tup (da_cons (d_bin o_add d_int (d_use g__law_take ht ag (hr.mono (by decide)) passZ (by rfl) m__law_take p__law_take (da_cons (d_var 0) (da_cons d_int da_nil)))) (da_cons (d_bin o_add d_int (d_use g__law_take ht ag (hr.mono (by decide)) passZ (by rfl) m__law_take p__law_take (da_cons (d_var 0) (da_cons d_int da_nil)))) da_nil))) da_nil))) da_nil)))) (d_var 1)))
    (dss_cons (ds_if (dt_e (d_use g__law_under ht ag (hr.mono (by decide)) passZ (by rfl) m__law_under p__law_under (da_cons (d_var 3) (da_cons (d_var 2) da_nil)))) (dss_one (ds_ret (d_tup (da_cons (d_var 3) (da_cons (d_var 2) da_nil))))) dss_nil)
    (dss_one (ds_ret (d_tup (da_cons (d_var 2) (da_cons (d_var 3) da_nil)))))))))) vc__law_stretch
end
/-! _law_beside -/
abbrev s__law_beside : Stmt := topS 49
abbrev N__law_beside : List Str := ["_law_bag_here", "_law_way", "_law_one", "_law_good"]
theorem sc__law_beside : FnScope N__law_beside ["_law_bag_here"] (defScope s__law_beside) := ⟨rfl, rfl, rfl, by decide +kernel, rfl, by decide +kernel, by decide +kernel⟩
def rd__law_beside : DS := (tSeqD (tSetD 1 (tUse sp__law_take (tConsD (tVarD 0) (tConsD (tCD (.int 6)) tNilD))))
    (tSeqD (tSetD 2 (tUse sp__law_any (tConsD (tVarD 0) tNilD)))
    (tSeqD (tSetD 3 (tTupD (tConsD (tCallD cAbs (tConsD (tBin gIx (tVarD 2) (tCD (.int 0))) tNilD)) (tConsD (tBin gIx (tVarD 2) (tCD (.int 1))) tNilD))))
    (tRetD (tBin gIx (tLstD (tConsD (tVarD 3) (tConsD (tVarD 3) (tConsD (tTupD (tConsD (tCD (.int 0)) (tConsD (tCD (.int 1)) tNilD))) (tConsD (tVarD 2) (tConsD (tTupD (tConsD (tUnD gNeg (tCD (.int 1))) (tConsD (tCD (.int 7)) tNilD))) (tConsD (tUse sp__law_other_fraction (tConsD (tVarD 0) (tConsD (tVarD 3) tNilD))) tNilD))))))) (tVarD 1))))))
def sp__law_beside : DSp := fun us P => us = [.bag] ∧ ∀ x, Bes x → P (.d x)
theorem vc__law_beside : ∀ dvs Q, sp__law_beside dvs Q → dvs.length = 1 ∧ rd__law_beside { nx := fun _ => Q (.d .none), rt := Q } (startD N__law_beside dvs) := by
  rintro dvs Q ⟨rfl, h⟩
  refine ⟨rfl, ?_⟩
  unfold rd__law_beside
  refine seqG fun R hR => ?_
  walk_at "dl"
  refine ⟨6, rfl, by decide, by decide, fun w w0 w1 => ?_⟩
  walk_at "dl"
  refine hR _ (seqG fun R hR => ?_)
  walk_at "dl"
  refine ⟨rfl, fun s r f => ?_⟩
  walk_at "dl"
  refine hR _ (seqG fun R hR => ?_)
  walk_at "dl"
  have ft := f.t
  have fb := f.b
  have gd : Fb 204 102 (s.natAbs : Nat) r := ⟨⟨f.f.pos, by rw [show Int.gcd ((s.natAbs : Nat) : Int) r = Int.gcd s r from by simp [Int.gcd]]; exact f.f.low⟩, by rw [Int.natAbs_natCast]; exact two_le ft (by decide), two_le fb (by decide)⟩
  have bes : ∀ {a b : Int}, Fb 204 102 a b → Bes (.tuple [.int a, .int b]) := fun k => ⟨fun _ => ⟨_, _, rfl, k⟩, fb_szf k, fb_sd k⟩
  refine ⟨by decide, hR _ ?_⟩
  walk_at "dl"
  refine ⟨by decide, by decide, _, _, rfl, gd, fun o no => ?_⟩
  walk_at "dl"
  refine ⟨by decide, ?_⟩
  refine pick w0 w1 fun x hx => ?_
  simp only [List.mem_cons, List.not_mem_nil, or_false] at hx
  rcases hx with rfl | rfl | rfl | rfl | rfl | rfl
  · exact h _ (bes gd)
  · exact h _ (bes gd)
  · exact h _ (bes ⟨⟨by decide, by decide⟩, by decide, by decide⟩)
  · exact h _ (bes f.up)
  · exact h _ (bes ⟨⟨by decide, by decide⟩, by decide, by decide⟩)
  · exact h _ ⟨fun z => (by rw [no.fr] at z; cases z), no.sz, no.sd⟩
section
variable {ts : List Addr} {P : Program} {w : World} {K : PySem.W.Frag} {mg : Str → Option Value} {base : Heap}
theorem ok__law_beside {f : Addr} {fd : FuncData} (Fn : L2.Fun K "_law_beside" "_law_beside" s__law_beside f fd) {f__law_take : Addr} (g__law_take : Fg P w K mg base (L2.CX P w) 1 f__law_take (Pm K ts sp__law_take)) (m__law_take : mg "_law_take" = some (.ref f__law_take)) (p__law_take : PySem.W.keepIn K (.ref f__law_take) = true) {f__law_any : Addr} (g__law_any : Fg P w K mg base (L2.CX P w) 2 f__law_any (Pm K ts sp__law_any)) (m__law_any : mg "_law_any" = some (.ref f__law_any)) (p__law_any : PySem.W.keepIn K (.ref f__law_any) = true) {f__law_other_fraction : Addr} (g__law_other_fraction : Fg P w K mg base (L2.CX P w) 3 f__law_other_fraction (Pm K ts sp__law_other_fraction)) (m__law_other_fraction : mg "_law_other_fraction" = some (.ref f__law_other_fraction)) (p__law_other_fraction : PySem.W.keepIn K (.ref f__law_other_fraction) = true) (z_abs : mg "abs" = none) : Fg P w K mg base (L2.CX P w) 4 f (Pm K ts sp__law_beside) := d_def Fn sc__law_beside (fun _ _ _ _ _ _ us hl => match us, hl with | [_], _ => rfl) sp__law_beside rd__law_beside (fun cdv A outer s H E wn hcd ht ag hr => by
  have S := sc__law_beside
  have hu := hr.units
  exact (dss_cons (ds_set (i := 1) S.nd rfl (by first | exact Or.inl rfl | exact Or.inr rfl) (d_use g__law_take ht ag (hr.mono (by decide)) passZ (by rfl) m__law_take p__law_take (da_cons (d_var 0) (da_cons d_int da_nil))))
    (dss_cons (ds_set (i := 2) S.nd rfl (by first | exact Or.inl rfl | exact Or.inr rfl) (d_use g__law_any ht ag (hr.mono (by decide)) passZ (by rfl) m__law_any p__law_any (da_cons (d_var 0) da_nil)))
    (dss_cons (ds_set (i := 3) S.nd rfl (by first | exact Or.inl rfl | exact Or.inr rfl) (d_tup (da_cons (d_callB k_abs (by rfl) z_abs (by decide +kernel) (da_cons (d_ix (d_var 2) d_int) da_nil)) (da_cons (d_ix (d_var 2) d_int) da_nil))))
    (dss_one (ds_ret (d_ix (d_lst (da_cons (d_var 3) (da_cons (d_var 3) (da_cons (d_tup (da_cons d_int (da_cons d_int da_nil))) (da_cons (d_var 2) (da_cons (d_tup (da_cons (d_neg d_int) (da_cons d_int da_nil))) (da_cons (d_use g__law_other_fraction ht ag (hr.mono (by decide)) passZ (by rfl) m__law_other_fraction p__law_other_fraction (da_cons (d_var 0) (da_cons (d_var 3) da_nil))) da_nil))))))) (d_var 1)))))))) vc__law_beside
end
/-! is_whole -/
abbrev s_is_whole : Stmt := topS 6
abbrev N_is_whole : List Str := ["thing"]
theorem sc_is_whole : FnScope N_is_whole ["thing"] (defScope s_is_whole) := ⟨rfl, rfl, rfl, by decide +kernel, rfl, by decide +kernel, by decide +kernel⟩
def rd_is_whole : DS := (tRetD (tAnV (tCallD (cIsi "int") (tConsD (tVarD 0) (tConsD (tRaw (.ty "int")) tNilD))) (tNoV (tCallD (cIsi "bool") (tConsD (tVarD 0) (tConsD (tRaw (.ty "bool")) tNilD))))))
def sp_is_whole : DSp := fun us P => ∃ x, us = [.d x] ∧ P (.d (.bool (isWh x)))
theorem vc_is_whole : ∀ dvs Q, sp_is_whole dvs Q → dvs.length = 1 ∧ rd_is_whole { nx := fun _ => Q (.d .none), rt := Q } (startD N_is_whole dvs) := by
  rintro dvs Q ⟨x, rfl, h⟩
  refine ⟨rfl, ?_⟩
  unfold rd_is_whole
  cases x <;> (walk_at "dl"; exact h)
section
variable {ts : List Addr} {P : Program} {w : World} {K : PySem.W.Frag} {mg : Str → Option Value} {base : Heap}
theorem ok_is_whole {f : Addr} {fd : FuncData} (Fn : L2.Fun K "is_whole" "is_whole" s_is_whole f fd) (z_isinstance : mg "isinstance" = none) (z_int : mg "int" = none) (z_bool : mg "bool" = none) : Fg P w K mg base (L2.CX P w) 1 f (Pm K ts sp_is_whole) := d_def Fn sc_is_whole (fun _ _ _ _ _ _ us hl => match us, hl with | [_], _ => rfl) sp_is_whole rd_is_whole (fun cdv A outer s H E wn hcd ht ag hr => by
  have S := sc_is_whole
  have hu := hr.units
  exact (dss_one (ds_ret (d_and (d_callB (k_isi (n := "int") (by simp)) (by rfl) z_isinstance (by decide +kernel) (da_cons (d_var 0) (da_cons (d_ty (by rfl) z_int (by decide +kernel)) da_nil))) (d_one (d_not (d_callB (k_isi (n := "bool") (by simp)) (by rfl) z_isinstance (by decide +kernel) (da_cons (d_var 0) (da_cons (d_ty (by rfl) z_bool (by decide +kernel)) da_nil))))))))) vc_is_whole
end
/-! is_fraction -/
abbrev s_is_fraction : Stmt := topS 10
abbrev N_is_fraction : List Str := ["thing", "top", "bottom"]
theorem sc_is_fraction : FnScope N_is_fraction ["thing"] (defScope s_is_fraction) := ⟨rfl, rfl, rfl, by decide +kernel, rfl, by decide +kernel, by decide +kernel⟩
def rd_is_fraction : DS := (tSeqD (tIfD (tOrD (tNotD (tTru (tCallD (cIsi "tuple") (tConsD (tVarD 0) (tConsD (tRaw (.ty "tuple")) tNilD))))) (tTst (tBin (gEqv not) (tCallD cLen (tConsD (tVarD 0) tNilD)) (tCD (.int 2))))) (tRetD (tCD (.bool false))) (fun d env => d.nx env))
    (tSeqD (tAsgD (tVarD 0) (gtD 2 (gconsD (gnD 1) (gconsD (gnD 2) gnilD))))
    (tSeqD (tIfD (tOrD (tNotD (tTru (tUse sp_is_whole (tConsD (tVarD 1) tNilD)))) (tOrD (tNotD (tTru (tUse sp_is_whole (tConsD (tVarD 2) tNilD)))) (tTst (tBin gLt (tVarD 2) (tCD (.int 1)))))) (tRetD (tCD (.bool false))) (fun d env => d.nx env))
    (tRetD (tBin (gEqv id) (tCallD cGcd (tConsD (tVarD 1) (tConsD (tVarD 2) tNilD))) (tCD (.int 1)))))))
def sp_is_fraction : DSp := fun us P => ∃ x, us = [.d x] ∧ P (.d (.bool (isFr x)))
theorem vc_is_fraction : ∀ dvs Q, sp_is_fraction dvs Q → dvs.length = 1 ∧ rd_is_fraction { nx := fun _ => Q (.d .none), rt := Q } (startD N_is_fraction dvs) := by
  rintro dvs Q ⟨x, rfl, h⟩
  refine ⟨rfl, ?_⟩
  unfold rd_is_fraction
  have no : isFr x = false → Q (.d (.bool false)) := fun e => by rw [e] at h; exact h
  cases x with
  | tuple xs =>
    match xs, h, no with
    | [], _, no => walk_at "dl"; exact no rfl
    | [a], _, no => walk_at "dl"; cases a <;> exact no rfl
    | a :: b :: c :: r, _, no =>
      walk_at "dl"
      have e : ¬ (((r.length + 1 + 1 + 1 : Nat) : Int) = 2) := by omega
      simp only [e, decide_false, Bool.not_false, if_true]
      cases a <;> cases b <;> exact no rfl
    | [a, b], h, no =>
      walk_at "dl"
      simp only [Int.cast_ofNat_Int, decide_true, Bool.not_true, Bool.false_eq_true, if_false]
      refine ⟨_, rfl, ?_⟩
      walk_at "dl"
      cases a with
      | int p =>
        rw [show isWh (.int p) = true from rfl]
        simp only [Bool.not_true, Bool.false_eq_true, if_false]
        refine ⟨_, rfl, ?_⟩
        walk_at "dl"
        cases b with
        | int q =>
          rw [show isWh (.int q) = true from rfl]
          simp only [Bool.not_true, Bool.false_eq_true, if_false]
          have eg : p.natAbs.gcd q.natAbs = Int.gcd p q := rfl
          walk_at "dl"
          by_cases hq : q < 1
          · simp only [hq, decide_true, if_true]
            exact no (by simp [isFr]; omega)
          · simp only [hq, decide_false, Bool.false_eq_true, if_false, eg]
            have e1 : isFr (.tuple [.int p, .int q]) = decide (((Int.gcd p q : Nat) : Int) = 1) := by
              simp only [isFr, show 0 < q by omega, decide_true, Bool.true_and]
              exact decide_eq_decide.mpr (by omega)
            rw [e1] at h
            exact h
        | _ => simp only [isWh, Bool.not_false, if_true]; exact no rfl
      | _ => simp only [isWh, Bool.not_false, if_true]; cases b <;> exact no rfl
  | _ => walk_at "dl"; exact no rfl
section
variable {ts : List Addr} {P : Program} {w : World} {K : PySem.W.Frag} {mg : Str → Option Value} {base : Heap}
theorem ok_is_fraction {f : Addr} {fd : FuncData} (Fn : L2.Fun K "is_fraction" "is_fraction" s_is_fraction f fd) {f_is_whole : Addr} (g_is_whole : Fg P w K mg base (L2.CX P w) 1 f_is_whole (Pm K ts sp_is_whole)) (m_is_whole : mg "is_whole" = some (.ref f_is_whole)) (p_is_whole : PySem.W.keepIn K (.ref f_is_whole) = true) (z_isinstance : mg "isinstance" = none) (z_tuple : mg "tuple" = none) (z_len : mg "len" = none) (i_gcd : mg "gcd" = some (.builtin "math.gcd")) : Fg P w K mg base (L2.CX P w) 2 f (Pm K ts sp_is_fraction) := d_def Fn sc_is_fraction (fun _ _ _ _ _ _ us hl => match us, hl with | [_], _ => rfl) sp_is_fraction rd_is_fraction (fun cdv A outer s H E wn hcd ht ag hr => by
  have S := sc_is_fraction
  have hu := hr.units
  exact (dss_cons (ds_if (dt_w (dw_or (dt_not (dt_e (d_callB (k_isi (n := "tuple") (by simp)) (by rfl) z_isinstance (by decide +kernel) (da_cons (d_var 0) (da_cons (d_ty (by rfl) z_tuple (by decide +kernel)) da_nil))))) (dw_or1 (dt_cmp (o_ne hu) (d_callB k_len (by rfl) z_len (by decide +kernel) (da_cons (d_var 0) da_nil)) d_int)))) (dss_one (ds_ret d_bl)) dss_nil)
    (dss_cons (ds_asg (d_var 0) (dg_tup rfl (dgs_cons (dg_name (i := 1) S.nd rfl (by first | exact Or.inl rfl | exact Or.inr rfl)) (dgs_cons (dg_name (i := 2) S.nd rfl (by first | exact Or.inl rfl | exact Or.inr rfl)) dgs_nil))))
    (dss_cons (ds_if (dt_w (dw_or (dt_not (dt_e (d_use g_is_whole ht ag (hr.mono (by decide)) passZ (by rfl) m_is_whole p_is_whole (da_cons (d_var 1) da_nil)))) (dw_or (dt_not (dt_e (d_use g_is_whole ht ag (hr.mono (by decide)) passZ (by rfl) m_is_whole p_is_whole (da_cons (d_var 2) da_nil)))) (dw_or1 (dt_cmp o_lt (d_var 2) d_int))))) (dss_one (ds_ret d_bl)) dss_nil)
    (dss_one (ds_ret (d_cmp (o_eq hu) (d_callM k_gcd (by rfl) i_gcd (da_cons (d_var 1) (da_cons (d_var 2) da_nil))) d_int))))))) vc_is_fraction
end
/-! compared -/
abbrev s_compared : Stmt := topS 16
abbrev N_compared : List Str := ["one", "other", "here", "there"]
theorem sc_compared : FnScope N_compared ["one", "other"] (defScope s_compared) := ⟨rfl, rfl, rfl, by decide +kernel, rfl, by decide +kernel, by decide +kernel⟩
def rd_compared : DS := (tSeqD (tSetD 2 (tBin gMul (tBin gIx (tVarD 0) (tCD (.int 0))) (tBin gIx (tVarD 1) (tCD (.int 1)))))
    (tSeqD (tSetD 3 (tBin gMul (tBin gIx (tVarD 1) (tCD (.int 0))) (tBin gIx (tVarD 0) (tCD (.int 1)))))
    (tSeqD (tIfD (tTst (tBin gLt (tVarD 2) (tVarD 3))) (tRetD (tUnD gNeg (tCD (.int 1)))) (fun d env => d.nx env))
    (tSeqD (tIfD (tTst (tBin (gIn (fun i j => decide (j < i)) fun i j => decide (j.cps.toList < i.cps.toList)) (tVarD 2) (tVarD 3))) (tRetD (tCD (.int 1))) (fun d env => d.nx env))
    (tRetD (tCD (.int 0)))))))
def sp_compared : DSp := fun us P => ∃ p q u v : Int, us = [.d (.tuple [.int p, .int q]), .d (.tuple [.int u, .int v])] ∧ p.natAbs < 2 ^ 8000 ∧ q.natAbs < 2 ^ 8000 ∧ u.natAbs < 2 ^ 8000 ∧ v.natAbs < 2 ^ 8000 ∧ P (.d (.int (cmpT p q u v)))
theorem vc_compared : ∀ dvs Q, sp_compared dvs Q → dvs.length = 2 ∧ rd_compared { nx := fun _ => Q (.d .none), rt := Q } (startD N_compared dvs) := by
  rintro dvs Q ⟨p, q, u, v, rfl, p1, q1, u1, v1, h⟩
  refine ⟨rfl, ?_⟩
  have m1 := mul_log p1 v1 (by decide) (by decide) (by decide)
  have m2 := mul_log u1 q1 (by decide) (by decide) (by decide)
  unfold rd_compared
  walk_at "dl"
  refine ⟨m1, m2, ?_⟩
  unfold cmpT at h
  by_cases h1 : p * v < u * q
  · simp only [h1, decide_true, if_true] at h ⊢
    exact h
  · by_cases h2 : u * q < p * v
    · simp only [h1, h2, decide_true, decide_false, Bool.false_eq_true, if_true, if_false] at h ⊢
      exact h
    · simp only [h1, h2, decide_false, Bool.false_eq_true, if_false] at h ⊢
      exact h
section
variable {ts : List Addr} {P : Program} {w : World} {K : PySem.W.Frag} {mg : Str → Option Value} {base : Heap}
theorem ok_compared {f : Addr} {fd : FuncData} (Fn : L2.Fun K "compared" "compared" s_compared f fd)  : Fg P w K mg base (L2.CX P w) 1 f (Pm K ts sp_compared) := d_def Fn sc_compared (fun _ _ _ _ _ _ us hl => match us, hl with | [_, _], _ => rfl) sp_compared rd_compared (fun cdv A outer s H E wn hcd ht ag hr => by
  have S := sc_compared
  have hu := hr.units
  exact (dss_cons (ds_set (i := 2) S.nd rfl (by first | exact Or.inl rfl | exact Or.inr rfl) (d_bin o_mul (d_ix (d_var 0) d_int) (d_ix (d_var 1) d_int)))
    (dss_cons (ds_set (i := 3) S.nd rfl (by first | exact Or.inl rfl | exact Or.inr rfl) (d_bin o_mul (d_ix (d_var 1) d_int) (d_ix (d_var 0) d_int)))
    (dss_cons (ds_if (dt_cmp o_lt (d_var 2) (d_var 3)) (dss_one (ds_ret (d_neg d_int))) dss_nil)
    (dss_cons (ds_if (dt_cmp o_gt (d_var 2) (d_var 3)) (dss_one (ds_ret d_int)) dss_nil)
    (dss_one (ds_ret d_int))))))) vc_compared
end
/-! is_stretch -/
abbrev s_is_stretch : Stmt := topS 20
abbrev N_is_stretch : List Str := ["thing", "low", "high"]
theorem sc_is_stretch : FnScope N_is_stretch ["thing"] (defScope s_is_stretch) := ⟨rfl, rfl, rfl, by decide +kernel, rfl, by decide +kernel, by decide +kernel⟩
def rd_is_stretch : DS := (tSeqD (tIfD (tOrD (tNotD (tTru (tCallD (cIsi "tuple") (tConsD (tVarD 0) (tConsD (tRaw (.ty "tuple")) tNilD))))) (tTst (tBin (gEqv not) (tCallD cLen (tConsD (tVarD 0) tNilD)) (tCD (.int 2))))) (tRetD (tCD (.bool false))) (fun d env => d.nx env))
    (tSeqD (tAsgD (tVarD 0) (gtD 2 (gconsD (gnD 1) (gconsD (gnD 2) gnilD))))
    (tRetD (tAnV (tUse sp_is_fraction (tConsD (tVarD 1) tNilD)) (tAnV (tUse sp_is_fraction (tConsD (tVarD 2) tNilD)) (tBin (gEqv not) (tUse sp_compared (tConsD (tVarD 1) (tConsD (tVarD 2) tNilD))) (tCD (.int 1))))))))
def sp_is_stretch : DSp := fun us P => ∃ x, us = [.d x] ∧ OkT x ∧ P (.d (.bool (isSt x)))
theorem vc_is_stretch : ∀ dvs Q, sp_is_stretch dvs Q → dvs.length = 1 ∧ rd_is_stretch { nx := fun _ => Q (.d .none), rt := Q } (startD N_is_stretch dvs) := by
  rintro dvs Q ⟨x, rfl, ok, h⟩
  refine ⟨rfl, ?_⟩
  unfold rd_is_stretch
  have no : isSt x = false → Q (.d (.bool false)) := fun e => by rw [e] at h; exact h
  cases x with
  | tuple xs =>
    match xs, h, no, ok with
    | [], _, no, _ => walk_at "dl"; exact no rfl
    | [a], _, no, _ => walk_at "dl"; exact no rfl
    | a :: b :: c :: r, _, no, _ =>
      walk_at "dl"
      have e : ¬ (((r.length + 1 + 1 + 1 : Nat) : Int) = 2) := by omega
      simp only [e, decide_false, Bool.not_false, if_true]
      exact no rfl
    | [a, b], h, no, ok =>
      walk_at "dl"
      simp only [Int.cast_ofNat_Int, decide_true, Bool.not_true, Bool.false_eq_true, if_false]
      refine ⟨_, rfl, ?_⟩
      cases fa : isFr a with
      | false =>
        walk_at "dl"
        exact no (by simp [isSt, fa])
      | true =>
        walk_at "dl"
        refine ⟨_, rfl, ?_⟩
        cases fb : isFr b with
        | false =>
          walk_at "dl"
          exact no (by simp [isSt, fb])
        | true =>
          walk_at "dl"
          obtain ⟨⟨p, q, rfl, f⟩, ⟨u, v, rfl, g⟩⟩ := ok.1 a b rfl fa fb
          refine ⟨p, q, u, v, rfl, two_le f.t (by decide), two_le f.b (by decide), two_le g.t (by decide), two_le g.b (by decide), ?_⟩
          walk_at "dl"
          simp only [isSt, fa, fb, Bool.true_and] at h
          exact h
  | _ => walk_at "dl"; exact no rfl
section
variable {ts : List Addr} {P : Program} {w : World} {K : PySem.W.Frag} {mg : Str → Option Value} {base : Heap}
theorem ok_is_stretch {f : Addr} {fd : FuncData} (Fn : L2.Fun K "is_stretch" "is_stretch" s_is_stretch f fd) {f_is_fraction : Addr} (g_is_fraction : Fg P w K mg base (L2.CX P w) 2 f_is_fraction (Pm K ts sp_is_fraction)) (m_is_fraction : mg "is_fraction" = some (.ref f_is_fraction)) (p_is_fraction : PySem.W.keepIn K (.ref f_is_fraction) = true) {f_compared : Addr} (g_compared : Fg P w K mg base (L2.CX P w) 1 f_compared (Pm K ts sp_compared)) (m_compared : mg "compared" = some (.ref f_compared)) (p_compared : PySem.W.keepIn K (.ref f_compared) = true) (z_isinstance : mg "isinstance" = none) (z_tuple : mg "tuple" = none) (z_len : mg "len" = none) : Fg P w K mg base (L2.CX P w) 3 f (Pm K ts sp_is_stretch) := d_def Fn sc_is_stretch (fun _ _ _ _ _ _ us hl => match us, hl with | [_], _ => rfl) sp_is_stretch rd_is_stretch (fun cdv A outer s H E wn hcd ht ag hr => by
  have S := sc_is_stretch
  have hu := hr.units
  exact (dss_cons (ds_if (dt_w (dw_or (dt_not (dt_e (d_callB (k_isi (n := "tuple") (by simp)) (by rfl) z_isinstance (by decide +kernel) (da_cons (d_var 0) (da_cons (d_ty (by rfl) z_tuple (by decide +kernel)) da_nil))))) (dw_or1 (dt_cmp (o_ne hu) (d_callB k_len (by rfl) z_len (by decide +kernel) (da_cons (d_var 0) da_nil)) d_int)))) (dss_one (ds_ret d_bl)) dss_nil)
    (dss_cons (ds_asg (d_var 0) (dg_tup rfl (dgs_cons (dg_name (i := 1) S.nd rfl (by first | exact Or.inl rfl | exact Or.inr rfl)) (dgs_cons (dg_name (i := 2) S.nd rfl (by first | exact Or.inl rfl | exact Or.inr rfl)) dgs_nil))))
    (dss_one (ds_ret (d_and (d_use g_is_fraction ht ag (hr.mono (by decide)) passZ (by rfl) m_is_fraction p_is_fraction (da_cons (d_var 1) da_nil)) (d_and (d_use g_is_fraction ht ag (hr.mono (by decide)) passZ (by rfl) m_is_fraction p_is_fraction (da_cons (d_var 2) da_nil)) (d_one (d_cmp (o_ne hu) (d_use g_compared ht ag (hr.mono (by decide)) passZ (by rfl) m_compared p_compared (da_cons (d_var 1) (da_cons (d_var 2) da_nil))) d_int))))))))) vc_is_stretch
end
/-! _law_copy -/
abbrev s__law_copy : Stmt := topS 37
abbrev N__law_copy : List Str := ["_law_thing", "_law_one"]
theorem sc__law_copy : FnScope N__law_copy ["_law_thing"] (defScope s__law_copy) := ⟨rfl, rfl, rfl, by decide +kernel, rfl, by decide +kernel, by decide +kernel⟩
def cpR : PyData → DV
  | .list xs => .fr xs
  | x => .d x
theorem frz_cp (x : PyData) : frz (cpR x) = .d x := by cases x <;> rfl
def sp__law_copy : Nat → DSp
  | 0 => fun _ _ => False
  | m + 1 => fun us P => ∃ x, us = [.d x] ∧ x.depth ≤ m ∧ okC x = true ∧ P (cpR x)
def rd__law_copy (m : Nat) : DS := (tSeqD (tIfD (tTru (tCallD (cIsi "list") (tConsD (tVarD 0) (tConsD (tRaw (.ty "list")) tNilD)))) (tRetD (tLcD (itLst (tVarD 0)) (gnD 1) (fun _ P => P true) (tUse (sp__law_copy m) (tConsD (tVarD 1) tNilD)) [1])) (fun d env => d.nx env))
    (tSeqD (tIfD (tTru (tCallD (cIsi "tuple") (tConsD (tVarD 0) (tConsD (tRaw (.ty "tuple")) tNilD)))) (tRetD (tCallD cTuple (tConsD (tLcD (itTup (tVarD 0)) (gnD 1) (fun _ P => P true) (tUse (sp__law_copy m) (tConsD (tVarD 1) tNilD)) [1]) tNilD))) (fun d env => d.nx env))
    (tRetVD 0)))
theorem okC_mem : ∀ {xs : List PyData} {x : PyData}, okCs xs = true → x ∈ xs → okC x = true
  | [], _, _, h => absurd h List.not_mem_nil
  | y :: ys, x, h, hx => by
    simp only [okCs, Bool.and_eq_true] at h
    rcases List.mem_cons.mp hx with rfl | hx
    · exact h.1
    · exact okC_mem h.2 hx
theorem depth_mem : ∀ {xs : List PyData} {x : PyData}, x ∈ xs → x.depth ≤ PyData.depthAll xs
  | [], _, h => absurd h List.not_mem_nil
  | y :: ys, x, hx => by
    simp only [PyData.depthAll]
    rcases List.mem_cons.mp hx with rfl | hx
    · omega
    · have := depth_mem hx
      omega
theorem copy_all (m : Nat) {xs : List PyData} {env : List Sl} {P : DV → Prop} (hd : PyData.depthAll xs + 1 ≤ m) (hl : xs.length ≤ 5000) (hc : okCs xs = true) (he : ∃ s0 s1, env = [s0, s1]) (h : P (.fr xs)) :
    lcD (gnD 1) (fun _ P => P true) (tUse (sp__law_copy m) (tConsD (tVarD 1) tNilD)) env xs [] P := by
  obtain ⟨s0, s1, rfl⟩ := he
  refine lcD_ind (fun zs acc => acc ++ zs = xs) (fun acc hI => ?_) (fun z zs acc R hI hR => ?_) _ _ rfl
  · rw [List.append_nil] at hI
    rw [hI]
    exact h
  · have hz : z ∈ xs := by rw [← hI]; exact List.mem_append.mpr (.inr (List.mem_cons_self ..))
    have h1 := depth_mem hz
    have h2 := okC_mem hc hz
    have h3 : acc.length < 5000 := by
      have := congrArg List.length hI
      rw [List.length_append, List.length_cons] at this
      omega
    obtain ⟨k, rfl⟩ : ∃ k, m = k + 1 := ⟨m - 1, by omega⟩
    walk_at "dl"
    refine ⟨z, rfl, by omega, h2, ?_⟩
    have e := frz_cp z
    unfold frz at e
    have hR := hR (acc ++ [z]) (by rw [← hI, List.append_assoc]; rfl)
    cases z <;> (simp only [cpR] at e ⊢; exact ⟨by omega, hR⟩)
theorem vc__law_copy (m : Nat) : ∀ dvs Q, sp__law_copy (m + 1) dvs Q → dvs.length = 1 ∧ rd__law_copy m { nx := fun _ => Q (.d .none), rt := Q } (startD N__law_copy dvs) := by
  rintro dvs Q ⟨x, rfl, hd, hc, h⟩
  refine ⟨rfl, ?_⟩
  unfold rd__law_copy
  cases x with
  | list xs =>
    simp only [okC, Bool.and_eq_true, decide_eq_true_eq] at hc
    simp only [PyData.depth] at hd
    walk_at "dl"
    unfold tLcD
    walk_at "dl"
    exact copy_all m hd hc.1 hc.2 ⟨_, _, rfl⟩ h
  | tuple xs =>
    simp only [okC, Bool.and_eq_true, decide_eq_true_eq] at hc
    simp only [PyData.depth] at hd
    walk_at "dl"
    unfold tLcD
    walk_at "dl"
    refine copy_all m hd hc.1 hc.2 ⟨_, _, rfl⟩ ?_
    walk_at "dl"
    exact h
  | _ => walk_at "dl"; exact h
section
variable {ts : List Addr} {P : Program} {w : World} {K : PySem.W.Frag} {mg : Str → Option Value} {base : Heap}
theorem ok__law_copy {f : Addr} {fd : FuncData} (Fn : L2.Fun K "_law_copy" "_law_copy" s__law_copy f fd) (m__law_copy : mg "_law_copy" = some (.ref f)) (p__law_copy : PySem.W.keepIn K (.ref f) = true) (z_isinstance : mg "isinstance" = none) (z_list : mg "list" = none) (z_tuple : mg "tuple" = none) : ∀ m : Nat, Fg P w K mg base (L2.CX P w) (1 + m) f (Pm K ts (sp__law_copy m)) := by
  intro m
  induction m with
  | zero => exact fun A outer s H us vs Q E _ _ _ _ ⟨_, _, _, _, _, _, _, h, _⟩ => h.elim
  | succ m g__law_copy => exact show Fg P w K mg base (L2.CX P w) (1 + m + 1) f _ from d_def Fn sc__law_copy (fun _ _ _ _ _ _ us hl => match us, hl with | [_], _ => rfl) (sp__law_copy (m + 1)) (rd__law_copy m) (fun cdv A outer s H E wn hcd ht ag hr => by
  have S := sc__law_copy
  have hu := hr.units
  exact (dss_cons (ds_if (dt_e (d_callB (k_isi (n := "list") (by simp)) (by rfl) z_isinstance (by decide +kernel) (da_cons (d_var 0) (da_cons (d_ty (by rfl) z_list (by decide +kernel)) da_nil)))) (dss_one (ds_ret (d_lc (own := [("_law_one", 1)]) rfl S.nd (di_list (d_var 0)) (blkOk_by (N := N__law_copy) (sc := defScope s__law_copy) (by decide +kernel)) (tgt1 1) (fun _ _ _ _ _ => pg_name (i := 1) S.nd rfl (Or.inl rfl)) (fun _ _ _ _ _ => pts_nilD) (fun _ _ _ _ _ => (d_use g__law_copy ht ag (hr.mono (by omega)) passZ (by rfl) m__law_copy p__law_copy (da_cons (d_var 1) da_nil)))))) dss_nil)
    (dss_cons (ds_if (dt_e (d_callB (k_isi (n := "tuple") (by simp)) (by rfl) z_isinstance (by decide +kernel) (da_cons (d_var 0) (da_cons (d_ty (by rfl) z_tuple (by decide +kernel)) da_nil)))) (dss_one (ds_ret (d_callTy k_tuple (by rfl) z_tuple (by decide +kernel) (da_cons (d_lc (own := [("_law_one", 1)]) rfl S.nd (di_tup (d_var 0)) (blkOk_by (N := N__law_copy) (sc := defScope s__law_copy) (by decide +kernel)) (tgt1 1) (fun _ _ _ _ _ => pg_name (i := 1) S.nd rfl (Or.inl rfl)) (fun _ _ _ _ _ => pts_nilD) (fun _ _ _ _ _ => (d_use g__law_copy ht ag (hr.mono (by omega)) passZ (by rfl) m__law_copy p__law_copy (da_cons (d_var 1) da_nil)))) da_nil)))) dss_nil)
    (dss_one (ds_retV 0))))) (vc__law_copy m)
end
/-! _law_alike -/
abbrev s__law_alike : Stmt := topS 36
abbrev N__law_alike : List Str := ["_law_found", "_law_due_here"]
theorem sc__law_alike : FnScope N__law_alike ["_law_found", "_law_due_here"] (defScope s__law_alike) := ⟨rfl, rfl, rfl, by decide +kernel, rfl, by decide +kernel, by decide +kernel⟩
def rd__law_alike : DS := (tRetD (tAnV (tBin (gEqv id) (tVarD 0) (tVarD 1)) (tBin (gEqv id) (tCallD cRepr (tConsD (tVarD 0) tNilD)) (tCallD cRepr (tConsD (tVarD 1) tNilD)))))
def sp__law_alike : DSp := fun us P => ∃ x, us = [.d x, .d x] ∧ selfEq x ∧ Sh x ∧ P (.d (.bool true))
theorem vc__law_alike : ∀ dvs Q, sp__law_alike dvs Q → dvs.length = 2 ∧ rd__law_alike { nx := fun _ => Q (.d .none), rt := Q } (startD N__law_alike dvs) := by
  rintro dvs Q ⟨x, rfl, hs, sh, h⟩
  refine ⟨rfl, ?_⟩
  have e : ∀ P : DV → Prop, P (.d (.bool true)) → gEqv id x x P := fun P q => gEqv_self hs q
  unfold rd__law_alike
  generalize hg : gEqv id = g at *
  walk_at "dl"
  refine e _ ?_
  walk_at "dl"
  refine ⟨sh, sh, ?_⟩
  subst hg
  walk_at "dl"
  exact h
section
variable {ts : List Addr} {P : Program} {w : World} {K : PySem.W.Frag} {mg : Str → Option Value} {base : Heap}
theorem ok__law_alike {f : Addr} {fd : FuncData} (Fn : L2.Fun K "_law_alike" "_law_alike" s__law_alike f fd) (z_repr : mg "repr" = none) : Fg P w K mg base (L2.CX P w) 1 f (Pm K ts sp__law_alike) := d_def Fn sc__law_alike (fun _ _ _ _ _ _ us hl => match us, hl with | [_, _], _ => rfl) sp__law_alike rd__law_alike (fun cdv A outer s H E wn hcd ht ag hr => by
  have S := sc__law_alike
  have hu := hr.units
  exact (dss_one (ds_ret (d_and (d_cmp (o_eq hu) (d_var 0) (d_var 1)) (d_one (d_cmp (o_eq hu) (d_callB (k_repr ag hu) (by rfl) z_repr (by decide +kernel) (da_cons (d_var 0) da_nil)) (d_callB (k_repr ag hu) (by rfl) z_repr (by decide +kernel) (da_cons (d_var 1) da_nil)))))))) vc__law_alike
end
/-! _law_is_fraction -/
abbrev s__law_is_fraction : Stmt := topS 43
abbrev N__law_is_fraction : List Str := ["_law_thing", "_law_part", "_law_one", "_law_other"]
theorem sc__law_is_fraction : FnScope N__law_is_fraction ["_law_thing"] (defScope s__law_is_fraction) := ⟨rfl, rfl, rfl, by decide +kernel, rfl, by decide +kernel, by decide +kernel⟩
def rd__law_is_fraction : DS := (tSeqD (tIfD (tOrD (tNotD (tTru (tCallD (cIsi "tuple") (tConsD (tVarD 0) (tConsD (tRaw (.ty "tuple")) tNilD))))) (tTst (tBin (gEqv not) (tCallD cLen (tConsD (tVarD 0) tNilD)) (tCD (.int 2))))) (tRetD (tCD (.bool false))) (fun d env => d.nx env))
    (tSeqD (tForD (gnD 1) (itTup (tVarD 0)) (tIfD (tOrD (tNotD (tTru (tCallD (cIsi "int") (tConsD (tVarD 1) (tConsD (tRaw (.ty "int")) tNilD))))) (tTru (tCallD (cIsi "bool") (tConsD (tVarD 1) (tConsD (tRaw (.ty "bool")) tNilD))))) (tRetD (tCD (.bool false))) (fun d env => d.nx env)))
    (tSeqD (tIfD (tTst (tBin gLt (tBin gIx (tVarD 0) (tCD (.int 1))) (tCD (.int 1)))) (tRetD (tCD (.bool false))) (fun d env => d.nx env))
    (tSeqD (tParD 2 3 (tConsD (tCallD cAbs (tConsD (tBin gIx (tVarD 0) (tCD (.int 0))) tNilD)) (tConsD (tBin gIx (tVarD 0) (tCD (.int 1))) tNilD)))
    (tSeqD (tWhD (tTst (tBin (gIn (fun i j => decide (j < i)) fun i j => decide (j.cps.toList < i.cps.toList)) (tVarD 3) (tCD (.int 0)))) (tParD 2 3 (tConsD (tVarD 3) (tConsD (tBin gMod (tVarD 2) (tVarD 3)) tNilD))))
    (tRetD (tBin (gEqv id) (tVarD 2) (tCD (.int 1)))))))))
def sp__law_is_fraction : DSp := fun us P => ∃ x, us = [.d x] ∧ Szf x ∧ P (.d (.bool (isFr x)))
theorem vc__law_is_fraction : ∀ dvs Q, sp__law_is_fraction dvs Q → dvs.length = 1 ∧ rd__law_is_fraction { nx := fun _ => Q (.d .none), rt := Q } (startD N__law_is_fraction dvs) := by
  rintro dvs Q ⟨x, rfl, sz, h⟩
  refine ⟨rfl, ?_⟩
  unfold rd__law_is_fraction
  have no : isFr x = false → Q (.d (.bool false)) := fun e => by rw [e] at h; exact h
  cases x with
  | tuple xs =>
    match xs, h, no, sz with
    | [], _, no, _ => walk_at "dl"; exact no rfl
    | [a], _, no, _ => walk_at "dl"; cases a <;> exact no rfl
    | a :: b :: c :: r, _, no, _ =>
      walk_at "dl"
      have e : ¬ (((r.length + 1 + 1 + 1 : Nat) : Int) = 2) := by omega
      simp only [e, decide_false, Bool.not_false, if_true]
      cases a <;> cases b <;> exact no rfl
    | [a, b], h, no, sz =>
      walk_at "dl"
      simp only [Int.cast_ofNat_Int, decide_true, Bool.not_true, Bool.false_eq_true, if_false]
      simp only [forD]
      walk_at "dl"
      cases a with
      | int p =>
        simp only [Bool.not_true, Bool.false_eq_true, if_false]
        cases b with
        | int q =>
          simp only [Bool.not_true, Bool.false_eq_true, if_false]
          obtain ⟨p4, q4⟩ := sz p q rfl
          walk_at "dl"
          by_cases hq : q < 1
          · simp only [hq, decide_true, if_true]
            exact no (isFr_no (.inl hq))
          · simp only [hq, decide_false, Bool.false_eq_true, if_false]
            have e1 : isFr (.tuple [.int p, .int q]) = decide (((Int.gcd p q : Nat) : Int) = 1) := by
              simp only [isFr, show 0 < q by omega, decide_true, Bool.true_and]
              exact decide_eq_decide.mpr (by omega)
            rw [e1] at h
            clear no e1
            refine whD_ind (fun env => ∃ x y : Int, env = [.d (.tuple [.int p, .int q]), .d (.int q), .d (.int x), .d (.int y)] ∧ 0 ≤ x ∧ 0 ≤ y ∧ Int.gcd x y = Int.gcd p q) (fun env => match env with | [_, _, _, .d (.int y)] => y.toNat | _ => 0) (fun env R hI hR => ?_) ⟨_, _, rfl, by omega, by omega, by simp [Int.gcd]⟩
            · obtain ⟨x, y, rfl, hx, hy, hg⟩ := hI
              walk_at "dl"
              by_cases hp : 0 < y
              · simp only [hp, decide_true, if_true]
                obtain ⟨g1, g2, g3⟩ := gcd_turn x y hx hp
                exact ⟨by omega, hR _ ⟨_, _, rfl, hy, g2, g1.trans hg⟩ (by show (x.fmod y).toNat < y.toNat; omega)⟩
              · have : y = 0 := by omega
                subst this
                simp only [Int.lt_irrefl, decide_false, Bool.false_eq_true, if_false]
                have e : x = (Int.gcd p q : Int) := by
                  rw [← hg, Int.gcd_zero]; omega
                subst e
                exact h
        | bool c =>
          simp only [Bool.not_true, Bool.false_eq_true, if_false, if_true]
          exact no rfl
        | _ =>
          simp only [Bool.not_false, if_true]
          exact no rfl
      | bool c =>
        simp only [Bool.not_true, Bool.false_eq_true, if_false, if_true]
        cases b <;> exact no rfl
      | _ =>
        simp only [Bool.not_false, if_true]
        cases b <;> exact no rfl
  | _ => walk_at "dl"; exact no rfl
section
variable {ts : List Addr} {P : Program} {w : World} {K : PySem.W.Frag} {mg : Str → Option Value} {base : Heap}
theorem ok__law_is_fraction {f : Addr} {fd : FuncData} (Fn : L2.Fun K "_law_is_fraction" "_law_is_fraction" s__law_is_fraction f fd) (z_isinstance : mg "isinstance" = none) (z_tuple : mg "tuple" = none) (z_len : mg "len" = none) (z_int : mg "int" = none) (z_bool : mg "bool" = none) (z_abs : mg "abs" = none) : Fg P w K mg base (L2.CX P w) 1 f (Pm K ts sp__law_is_fraction) := d_def Fn sc__law_is_fraction (fun _ _ _ _ _ _ us hl => match us, hl with | [_], _ => rfl) sp__law_is_fraction rd__law_is_fraction (fun cdv A outer s H E wn hcd ht ag hr => by
  have S := sc__law_is_fraction
  have hu := hr.units
  exact (dss_cons (ds_if (dt_w (dw_or (dt_not (dt_e (d_callB (k_isi (n := "tuple") (by simp)) (by rfl) z_isinstance (by decide +kernel) (da_cons (d_var 0) (da_cons (d_ty (by rfl) z_tuple (by decide +kernel)) da_nil))))) (dw_or1 (dt_cmp (o_ne hu) (d_callB k_len (by rfl) z_len (by decide +kernel) (da_cons (d_var 0) da_nil)) d_int)))) (dss_one (ds_ret d_bl)) dss_nil)
    (dss_cons (ds_for PassesOwn.never rfl (di_tup (d_var 0)) (dg_name (i := 1) S.nd rfl (by first | exact Or.inl rfl | exact Or.inr rfl)) (dss_one (ds_if (dt_w (dw_or (dt_not (dt_e (d_callB (k_isi (n := "int") (by simp)) (by rfl) z_isinstance (by decide +kernel) (da_cons (d_var 1) (da_cons (d_ty (by rfl) z_int (by decide +kernel)) da_nil))))) (dw_or1 (dt_e (d_callB (k_isi (n := "bool") (by simp)) (by rfl) z_isinstance (by decide +kernel) (da_cons (d_var 1) (da_cons (d_ty (by rfl) z_bool (by decide +kernel)) da_nil))))))) (dss_one (ds_ret d_bl)) dss_nil)))
    (dss_cons (ds_if (dt_cmp o_lt (d_ix (d_var 0) d_int) d_int) (dss_one (ds_ret d_bl)) dss_nil)
    (dss_cons (ds_par (i := 2) (j := 3) rfl S.nd rfl rfl (by decide) rfl rfl (da_cons (d_callB k_abs (by rfl) z_abs (by decide +kernel) (da_cons (d_ix (d_var 0) d_int) da_nil)) (da_cons (d_ix (d_var 0) d_int) da_nil)) (ps_par (i := 2) (j := 3) rfl S.nd rfl rfl (by decide) rfl rfl (da_cons (d_callB k_abs (by rfl) z_abs (by decide +kernel) (da_cons (d_ix (d_var 0) d_int) da_nil)) (da_cons (d_ix (d_var 0) d_int) da_nil)) (by rfl)))
    (dss_cons (ds_while PassesOwn.never (dt_cmp o_gt (d_var 3) d_int) (dss_one (ds_par (i := 2) (j := 3) rfl S.nd rfl rfl (by decide) rfl rfl (da_cons (d_var 3) (da_cons (d_bin o_mod (d_var 2) (d_var 3)) da_nil)) (ps_par (i := 2) (j := 3) rfl S.nd rfl rfl (by decide) rfl rfl (da_cons (d_var 3) (da_cons (d_bin o_mod (d_var 2) (d_var 3)) da_nil)) (by rfl)))))
    (dss_one (ds_ret (d_cmp (o_eq hu) (d_var 2) d_int))))))))) vc__law_is_fraction
end
/-! _law_is_stretch -/
abbrev s__law_is_stretch : Stmt := topS 44
abbrev N__law_is_stretch : List Str := ["_law_thing"]
theorem sc__law_is_stretch : FnScope N__law_is_stretch ["_law_thing"] (defScope s__law_is_stretch) := ⟨rfl, rfl, rfl, by decide +kernel, rfl, by decide +kernel, by decide +kernel⟩
def rd__law_is_stretch : DS := (tSeqD (tIfD (tOrD (tNotD (tTru (tCallD (cIsi "tuple") (tConsD (tVarD 0) (tConsD (tRaw (.ty "tuple")) tNilD))))) (tTst (tBin (gEqv not) (tCallD cLen (tConsD (tVarD 0) tNilD)) (tCD (.int 2))))) (tRetD (tCD (.bool false))) (fun d env => d.nx env))
    (tSeqD (tIfD (tOrD (tNotD (tTru (tUse sp__law_is_fraction (tConsD (tBin gIx (tVarD 0) (tCD (.int 0))) tNilD)))) (tNotD (tTru (tUse sp__law_is_fraction (tConsD (tBin gIx (tVarD 0) (tCD (.int 1))) tNilD))))) (tRetD (tCD (.bool false))) (fun d env => d.nx env))
    (tRetD (tNoV (tUse sp__law_under (tConsD (tBin gIx (tVarD 0) (tCD (.int 1))) (tConsD (tBin gIx (tVarD 0) (tCD (.int 0))) tNilD)))))))
def sp__law_is_stretch : DSp := fun us P => ∃ x, us = [.d x] ∧ SzT x ∧ P (.d (.bool (isSt x)))
theorem vc__law_is_stretch : ∀ dvs Q, sp__law_is_stretch dvs Q → dvs.length = 1 ∧ rd__law_is_stretch { nx := fun _ => Q (.d .none), rt := Q } (startD N__law_is_stretch dvs) := by
  rintro dvs Q ⟨x, rfl, sz, h⟩
  refine ⟨rfl, ?_⟩
  unfold rd__law_is_stretch
  have no : isSt x = false → Q (.d (.bool false)) := fun e => by rw [e] at h; exact h
  cases x with
  | tuple xs =>
    match xs, h, no, sz with
    | [], _, no, _ => walk_at "dl"; exact no rfl
    | [a], _, no, _ => walk_at "dl"; exact no rfl
    | a :: b :: c :: r, _, no, _ =>
      walk_at "dl"
      have e : ¬ (((r.length + 1 + 1 + 1 : Nat) : Int) = 2) := by omega
      simp only [e, decide_false, Bool.not_false, if_true]
      exact no rfl
    | [a, b], h, no, sz =>
      obtain ⟨sa, sb⟩ := sz a b rfl
      walk_at "dl"
      simp only [Int.cast_ofNat_Int, decide_true, Bool.not_true, Bool.false_eq_true, if_false]
      refine ⟨_, rfl, sa, ?_⟩
      cases fa : isFr a with
      | false =>
        walk_at "dl"
        exact no (by simp [isSt, fa])
      | true =>
        walk_at "dl"
        refine ⟨_, rfl, sb, ?_⟩
        cases fb : isFr b with
        | false =>
          walk_at "dl"
          exact no (by simp [isSt, fb])
        | true =>
          walk_at "dl"
          obtain ⟨p, q, rfl, f⟩ := of_isFr fa
          obtain ⟨u, v, rfl, g⟩ := of_isFr fb
          obtain ⟨p1, q1⟩ := sa p q rfl
          obtain ⟨u1, v1⟩ := sb u v rfl
          have up : ∀ {x : Int}, x.natAbs < 2 ^ 400 → x.natAbs < 2 ^ 4000 := fun z => two_le z (by decide)
          refine ⟨u, v, p, q, rfl, up u1, up v1, up p1, up q1, ?_⟩
          walk_at "dl"
          simp only [isSt, fa, fb, Bool.true_and] at h
          rw [cmpF_one] at h
          exact h
  | _ => walk_at "dl"; exact no rfl
section
variable {ts : List Addr} {P : Program} {w : World} {K : PySem.W.Frag} {mg : Str → Option Value} {base : Heap}
theorem ok__law_is_stretch {f : Addr} {fd : FuncData} (Fn : L2.Fun K "_law_is_stretch" "_law_is_stretch" s__law_is_stretch f fd) {f__law_is_fraction : Addr} (g__law_is_fraction : Fg P w K mg base (L2.CX P w) 1 f__law_is_fraction (Pm K ts sp__law_is_fraction)) (m__law_is_fraction : mg "_law_is_fraction" = some (.ref f__law_is_fraction)) (p__law_is_fraction : PySem.W.keepIn K (.ref f__law_is_fraction) = true) {f__law_under : Addr} (g__law_under : Fg P w K mg base (L2.CX P w) 1 f__law_under (Pm K ts sp__law_under)) (m__law_under : mg "_law_under" = some (.ref f__law_under)) (p__law_under : PySem.W.keepIn K (.ref f__law_under) = true) (z_isinstance : mg "isinstance" = none) (z_tuple : mg "tuple" = none) (z_len : mg "len" = none) : Fg P w K mg base (L2.CX P w) 2 f (Pm K ts sp__law_is_stretch) := d_def Fn sc__law_is_stretch (fun _ _ _ _ _ _ us hl => match us, hl with | [_], _ => rfl) sp__law_is_stretch rd__law_is_stretch (fun cdv A outer s H E wn hcd ht ag hr => by
  have S := sc__law_is_stretch
  have hu := hr.units
  exact (dss_cons (ds_if (dt_w (dw_or (dt_not (dt_e (d_callB (k_isi (n := "tuple") (by simp)) (by rfl) z_isinstance (by decide +kernel) (da_cons (d_var 0) (da_cons (d_ty (by rfl) z_tuple (by decide +kernel)) da_nil))))) (dw_or1 (dt_cmp (o_ne hu) (d_callB k_len (by rfl) z_len (by decide +kernel) (da_cons (d_var 0) da_nil)) d_int)))) (dss_one (ds_ret d_bl)) dss_nil)
    (dss_cons (ds_if (dt_w (dw_or (dt_not (dt_e (d_use g__law_is_fraction ht ag (hr.mono (by decide)) passZ (by rfl) m__law_is_fraction p__law_is_fraction (da_cons (d_ix (d_var 0) d_int) da_nil)))) (dw_or1 (dt_not (dt_e (d_use g__law_is_fraction ht ag (hr.mono (by decide)) passZ (by rfl) m__law_is_fraction p__law_is_fraction (da_cons (d_ix (d_var 0) d_int) da_nil))))))) (dss_one (ds_ret d_bl)) dss_nil)
    (dss_one (ds_ret (d_not (d_use g__law_under ht ag (hr.mono (by decide)) passZ (by rfl) m__law_under p__law_under (da_cons (d_ix (d_var 0) d_int) (da_cons (d_ix (d_var 0) d_int) da_nil))))))))) vc__law_is_stretch
end
/-! require -/
abbrev s_require : Stmt := topS 4
abbrev N_require : List Str := ["as_told", "at", "good"]
theorem sc_require : FnScope N_require ["as_told"] (defScope s_require) := ⟨rfl, rfl, rfl, by decide +kernel, rfl, by decide +kernel, by decide +kernel⟩
def rd_require (R : List Sl → XD) : DS := (tForD (gtD 2 (gconsD (gnD 1) (gconsD (gnD 2) gnilD))) (itEnumT (tConsD (tVarD 0) tNilD)) (tIfD (tNotD (tTru (tVarD 2))) (tRaiseX R "Wrong" "at" (tVarD 1)) (fun d env => d.nx env)))
def sp_require : DSpX := fun us P R => ∃ bs : List Bool, us = bs.map (fun b => .d (.bool b)) ∧ bs.length ≤ 1000 ∧ (match fstF 0 bs with | none => P (.d .none) | some i => R "Wrong" "at" (.int (i : Nat)))
theorem vc_require : ∀ dvs Q R, sp_require dvs Q R → allD dvs fun xs => xs.length ≤ 100000 ∧ rd_require (fun _ => R) { nx := fun _ => Q (.d .none), rt := Q } (startD N_require [.d (.tuple xs)]) := by
  rintro dvs Q R ⟨bs, rfl, hl, h⟩
  refine allD_bools bs ⟨by rw [List.length_map]; omega, ?_⟩
  unfold rd_require
  walk_at "dl"
  rw [enumF_eq]
  refine forD_ind (fun zs env => ∃ s1 s2 k cs, env = [.d (.tuple (bs.map .bool)), s1, s2] ∧ zs = enumF k cs ∧ fstF k cs = fstF 0 bs) (fun env hI => ?_) (fun x zs env R2 hI hR => ?_) _ _ ⟨_, _, 0, bs, rfl, rfl, rfl⟩
  · obtain ⟨s1, s2, k, cs, rfl, e, e2⟩ := hI
    cases cs with
    | cons c cs => cases e
    | nil =>
      rw [← e2] at h
      exact h
  · obtain ⟨s1, s2, k, cs, rfl, e, e2⟩ := hI
    cases cs with
    | nil => cases e
    | cons c cs =>
      cases e
      walk_at "dl"
      cases c with
      | true =>
        exact hR _ ⟨_, _, k + 1, cs, rfl, rfl, e2⟩
      | false =>
        rw [← e2] at h
        exact h
theorem two_req {a b : Bool} {P : DV → Prop} {R : XD} (h0 : a = false → R "Wrong" "at" (.int 0)) (h1 : a = true → b = false → R "Wrong" "at" (.int 1)) (h2 : a = true → b = true → P (.d .none)) : sp_require [.d (.bool a), .d (.bool b)] P R := by
  refine ⟨[a, b], rfl, by simp, ?_⟩
  cases a with
  | false => exact h0 rfl
  | true =>
    cases b with
    | false => exact h1 rfl rfl
    | true => exact h2 rfl rfl
theorem one_req {a : Bool} {P : DV → Prop} {R : XD} (h0 : a = false → R "Wrong" "at" (.int 0)) (h1 : a = true → P (.d .none)) : sp_require [.d (.bool a)] P R := by
  refine ⟨[a], rfl, by simp, ?_⟩
  cases a with
  | false => exact h0 rfl
  | true => exact h1 rfl
section
variable {ts : List Addr} {P : Program} {w : World} {K : PySem.W.Frag} {mg : Str → Option Value} {base : Heap}
theorem ok_require {f : Addr} {fd : FuncData} (Fn : L2.Fun K "require" "require" s_require f fd) (z_enumerate : mg "enumerate" = none) {C_Wrong fI_Wrong : Addr} {fd_Wrong : FuncData} (T_Wrong : OexC K C_Wrong) (ic_Wrong : PySem.W.findIn K (.ref C_Wrong) "__init__" = some (some (.ref fI_Wrong))) (ti_Wrong : PySem.W.typeIn K (.ref fI_Wrong) = some (.type "function")) (i1_Wrong : FnOk P w K mg base (L2.CX P w) 1 fI_Wrong fd_Wrong ["self", "at"] (spIni C_Wrong "at")) (hb_Wrong : Binds K fd_Wrong ["self", "at"] []) (m_Wrong : mg "Wrong" = some (.ref C_Wrong)) : Fg P w K mg base (L2.CX P w) 3 f (PmX mg K ts sp_require) := d_starX Fn sc_require (fun _ _ _ _ _ _ us => by cases us <;> rfl) sp_require (fun R => rd_require fun _ => R) (fun cdv A outer s H E R wn hcd ht hE ag hr tk => by
  have S := sc_require
  have hu := hr.units
  have hE := XEnd.at hE
  exact (dss_one (ds_for (passes_of rfl) rfl (di_enumT (by rfl) z_enumerate (da_cons (d_var 0) da_nil)) (dg_tup rfl (dgs_cons (dg_name (i := 1) S.nd rfl (by first | exact Or.inl rfl | exact Or.inr rfl)) (dgs_cons (dg_name (i := 2) S.nd rfl (by first | exact Or.inl rfl | exact Or.inr rfl)) dgs_nil))) (dss_one (ds_if (dt_not (dt_e (d_var 2))) (dss_one (ds_raise1 (E := fun _ => E) rfl tk T_Wrong ic_Wrong ti_Wrong i1_Wrong (hr.mono (by decide)) hb_Wrong (by rfl) m_Wrong (d_var 1) hE passZ)) dss_nil))))) vc_require
end
/-! is_width -/
abbrev s_is_width : Stmt := topS 27
abbrev N_is_width : List Str := ["thing"]
theorem sc_is_width : FnScope N_is_width ["thing"] (defScope s_is_width) := ⟨rfl, rfl, rfl, by decide +kernel, rfl, by decide +kernel, by decide +kernel⟩
def rd_is_width : DS := (tRetD (tAnV (tUse sp_is_fraction (tConsD (tVarD 0) tNilD)) (tBin (gIn (fun i j => decide (j ≤ i)) fun i j => !decide (i.cps.toList < j.cps.toList)) (tBin gIx (tVarD 0) (tCD (.int 0))) (tCD (.int 0)))))
def sp_is_width : DSp := fun us P => ∃ x, us = [.d x] ∧ P (.d (.bool (isWd x)))
theorem vc_is_width : ∀ dvs Q, sp_is_width dvs Q → dvs.length = 1 ∧ rd_is_width { nx := fun _ => Q (.d .none), rt := Q } (startD N_is_width dvs) := by
  rintro dvs Q ⟨x, rfl, h⟩
  refine ⟨rfl, ?_⟩
  unfold rd_is_width
  walk_at "dl"
  refine ⟨_, rfl, ?_⟩
  cases fx : isFr x with
  | false =>
    walk_at "dl"
    have e : isWd x = false := by
      cases w : isWd x with
      | false => rfl
      | true => rw [isWd_fr w] at fx; cases fx
    rw [e] at h
    exact h
  | true =>
    obtain ⟨p, q, rfl, f⟩ := of_isFr fx
    walk_at "dl"
    simp only [isWd, fx, Bool.true_and] at h
    exact h
section
variable {ts : List Addr} {P : Program} {w : World} {K : PySem.W.Frag} {mg : Str → Option Value} {base : Heap}
theorem ok_is_width {f : Addr} {fd : FuncData} (Fn : L2.Fun K "is_width" "is_width" s_is_width f fd) {f_is_fraction : Addr} (g_is_fraction : Fg P w K mg base (L2.CX P w) 2 f_is_fraction (Pm K ts sp_is_fraction)) (m_is_fraction : mg "is_fraction" = some (.ref f_is_fraction)) (p_is_fraction : PySem.W.keepIn K (.ref f_is_fraction) = true) : Fg P w K mg base (L2.CX P w) 3 f (Pm K ts sp_is_width) := d_def Fn sc_is_width (fun _ _ _ _ _ _ us hl => match us, hl with | [_], _ => rfl) sp_is_width rd_is_width (fun cdv A outer s H E wn hcd ht ag hr => by
  have S := sc_is_width
  have hu := hr.units
  exact (dss_one (ds_ret (d_and (d_use g_is_fraction ht ag (hr.mono (by decide)) passZ (by rfl) m_is_fraction p_is_fraction (da_cons (d_var 0) da_nil)) (d_one (d_cmp o_ge (d_ix (d_var 0) d_int) d_int)))))) vc_is_width
end
/-! added -/
abbrev s_added : Stmt := topS 12
abbrev N_added : List Str := ["one", "other", "common", "part", "top", "rest"]
theorem sc_added : FnScope N_added ["one", "other"] (defScope s_added) := ⟨rfl, rfl, rfl, by decide +kernel, rfl, by decide +kernel, by decide +kernel⟩
def rd_added : DS := (tSeqD (tSetD 2 (tCallD cGcd (tConsD (tBin gIx (tVarD 0) (tCD (.int 1))) (tConsD (tBin gIx (tVarD 1) (tCD (.int 1))) tNilD))))
    (tSeqD (tSetD 3 (tBin gFdiv (tBin gIx (tVarD 0) (tCD (.int 1))) (tVarD 2)))
    (tSeqD (tSetD 4 (tBin gAdd (tBin gMul (tBin gIx (tVarD 0) (tCD (.int 0))) (tBin gFdiv (tBin gIx (tVarD 1) (tCD (.int 1))) (tVarD 2))) (tBin gMul (tBin gIx (tVarD 1) (tCD (.int 0))) (tVarD 3))))
    (tSeqD (tSetD 5 (tCallD cGcd (tConsD (tVarD 4) (tConsD (tVarD 2) tNilD))))
    (tRetD (tTupD (tConsD (tBin gFdiv (tVarD 4) (tVarD 5)) (tConsD (tBin gMul (tVarD 3) (tBin gFdiv (tBin gIx (tVarD 1) (tCD (.int 1))) (tVarD 5))) tNilD))))))))
def sp_added : DSp := fun us P => ∃ p q u v : Int, us = [.d (.tuple [.int p, .int q]), .d (.tuple [.int u, .int v])] ∧ Frac p q ∧ Frac u v ∧ p.natAbs < 2 ^ 8000 ∧ q.natAbs < 2 ^ 8000 ∧ u.natAbs < 2 ^ 8000 ∧ v.natAbs < 2 ^ 8000 ∧
  ∀ s r, Frac s r → (p * v + u * q) * r = (q * v) * s → P (.d (.tuple [.int s, .int r]))
theorem vc_added : ∀ dvs Q, sp_added dvs Q → dvs.length = 2 ∧ rd_added { nx := fun _ => Q (.d .none), rt := Q } (startD N_added dvs) := by
  rintro dvs Q ⟨p, q, u, v, rfl, f, g, sp, sq, su, sv, h⟩
  refine ⟨rfl, ?_⟩
  obtain ⟨c, hc⟩ : ∃ c : Int, c = Int.gcd q v := ⟨_, rfl⟩
  obtain ⟨part, hpart⟩ : ∃ part, part = q / c := ⟨_, rfl⟩
  obtain ⟨top, htop⟩ : ∃ top, top = p * (v / c) + u * part := ⟨_, rfl⟩
  obtain ⟨rest, hrest⟩ : ∃ rest : Int, rest = Int.gcd top c := ⟨_, rfl⟩
  obtain ⟨c0, cq, dq, dv, r0, rc, dt, dr, ff, hx⟩ := sum_ok f g hc hpart htop hrest
  have hv := g.pos
  have hq := f.pos
  have lc : c.natAbs.log2 < 9000 := log_le (Nat.lt_of_le_of_lt cq sq) (by decide) (by decide)
  have lr : rest.natAbs.log2 < 9000 := log_le (Nat.lt_of_le_of_lt (Nat.le_trans rc cq) sq) (by decide) (by decide)
  have bpart : part.natAbs < 2 ^ 8000 := by rw [hpart, Int.natAbs_ediv_of_dvd dq]; exact Nat.lt_of_le_of_lt (Nat.div_le_self _ _) sq
  have bvc : (v / c).natAbs < 2 ^ 8000 := by rw [Int.natAbs_ediv_of_dvd dv]; exact Nat.lt_of_le_of_lt (Nat.div_le_self _ _) sv
  have bvr : (v / rest).natAbs < 2 ^ 8000 := by rw [Int.natAbs_ediv_of_dvd dr]; exact Nat.lt_of_le_of_lt (Nat.div_le_self _ _) sv
  have eg : (((q.natAbs.gcd v.natAbs : Nat)) : Int) = c := hc.symm
  unfold rd_added
  walk_at "dl"
  simp only [eg, Int.fdiv_eq_ediv_of_dvd dq, Int.fdiv_eq_ediv_of_dvd dv, ← hpart, ← htop]
  have eg2 : (((top.natAbs.gcd c.natAbs : Nat)) : Int) = rest := hrest.symm
  simp only [eg2, Int.fdiv_eq_ediv_of_dvd dt, Int.fdiv_eq_ediv_of_dvd dr]
  refine ⟨Int.ne_of_gt c0, lc, Int.ne_of_gt c0, lc, mul_log sp bvc (by decide) (by decide) (by decide), mul_log su bpart (by decide) (by decide) (by decide), Int.ne_of_gt r0, lr, Int.ne_of_gt r0, lr, mul_log bpart bvr (by decide) (by decide) (by decide), by decide, ?_⟩
  exact h _ _ ff hx
section
variable {ts : List Addr} {P : Program} {w : World} {K : PySem.W.Frag} {mg : Str → Option Value} {base : Heap}
theorem ok_added {f : Addr} {fd : FuncData} (Fn : L2.Fun K "added" "added" s_added f fd) (i_gcd : mg "gcd" = some (.builtin "math.gcd")) : Fg P w K mg base (L2.CX P w) 1 f (Pm K ts sp_added) := d_def Fn sc_added (fun _ _ _ _ _ _ us hl => match us, hl with | [_, _], _ => rfl) sp_added rd_added (fun cdv A outer s H E wn hcd ht ag hr => by
  have S := sc_added
  have hu := hr.units
  exact (dss_cons (ds_set (i := 2) S.nd rfl (by first | exact Or.inl rfl | exact Or.inr rfl) (d_callM k_gcd (by rfl) i_gcd (da_cons (d_ix (d_var 0) d_int) (da_cons (d_ix (d_var 1) d_int) da_nil))))
    (dss_cons (ds_set (i := 3) S.nd rfl (by first | exact Or.inl rfl | exact Or.inr rfl) (d_bin o_fdiv (d_ix (d_var 0) d_int) (d_var 2)))
    (dss_cons (ds_set (i := 4) S.nd rfl (by first | exact Or.inl rfl | exact Or.inr rfl) (d_bin o_add (d_bin o_mul (d_ix (d_var 0) d_int) (d_bin o_fdiv (d_ix (d_var 1) d_int) (d_var 2))) (d_bin o_mul (d_ix (d_var 1) d_int) (d_var 3))))
    (dss_cons (ds_set (i := 5) S.nd rfl (by first | exact Or.inl rfl | exact Or.inr rfl) (d_callM k_gcd (by rfl) i_gcd (da_cons (d_var 4) (da_cons (d_var 2) da_nil))))
    (dss_one (ds_ret (d_tup (da_cons (d_bin o_fdiv (d_var 4) (d_var 5)) (da_cons (d_bin o_mul (d_var 3) (d_bin o_fdiv (d_ix (d_var 1) d_int) (d_var 5))) da_nil)))))))))) vc_added
end
/-! negative -/
abbrev s_negative : Stmt := topS 13
abbrev N_negative : List Str := ["one", "top", "bottom"]
theorem sc_negative : FnScope N_negative ["one"] (defScope s_negative) := ⟨rfl, rfl, rfl, by decide +kernel, rfl, by decide +kernel, by decide +kernel⟩
def rd_negative : DS := (tSeqD (tAsgD (tVarD 0) (gtD 2 (gconsD (gnD 1) (gconsD (gnD 2) gnilD))))
    (tRetD (tTupD (tConsD (tUnD gNeg (tVarD 1)) (tConsD (tVarD 2) tNilD)))))
def sp_negative : DSp := fun us P => ∃ p q : Int, us = [.d (.tuple [.int p, .int q])] ∧ P (.d (.tuple [.int (-p), .int q]))
theorem vc_negative : ∀ dvs Q, sp_negative dvs Q → dvs.length = 1 ∧ rd_negative { nx := fun _ => Q (.d .none), rt := Q } (startD N_negative dvs) := by
  rintro dvs Q ⟨p, q, rfl, h⟩
  refine ⟨rfl, ?_⟩
  unfold rd_negative
  walk_at "dl"
  exact ⟨by decide, h⟩
section
variable {ts : List Addr} {P : Program} {w : World} {K : PySem.W.Frag} {mg : Str → Option Value} {base : Heap}
theorem ok_negative {f : Addr} {fd : FuncData} (Fn : L2.Fun K "negative" "negative" s_negative f fd)  : Fg P w K mg base (L2.CX P w) 1 f (Pm K ts sp_negative) := d_def Fn sc_negative (fun _ _ _ _ _ _ us hl => match us, hl with | [_], _ => rfl) sp_negative rd_negative (fun cdv A outer s H E wn hcd ht ag hr => by
  have S := sc_negative
  have hu := hr.units
  exact (dss_cons (ds_asg (d_var 0) (dg_tup rfl (dgs_cons (dg_name (i := 1) S.nd rfl (by first | exact Or.inl rfl | exact Or.inr rfl)) (dgs_cons (dg_name (i := 2) S.nd rfl (by first | exact Or.inl rfl | exact Or.inr rfl)) dgs_nil))))
    (dss_one (ds_ret (d_tup (da_cons (d_neg (d_var 1)) (da_cons (d_var 2) da_nil))))))) vc_negative
end
/-! stretched -/
abbrev s_stretched : Stmt := topS 31
abbrev N_stretched : List Str := ["ends", "by"]
theorem sc_stretched : FnScope N_stretched ["ends", "by"] (defScope s_stretched) := ⟨rfl, rfl, rfl, by decide +kernel, rfl, by decide +kernel, by decide +kernel⟩
def rd_stretched : DS := (tRetD (tTupD (tConsD (tUse sp_added (tConsD (tBin gIx (tVarD 0) (tCD (.int 0))) (tConsD (tUse sp_negative (tConsD (tVarD 1) tNilD)) tNilD))) (tConsD (tUse sp_added (tConsD (tBin gIx (tVarD 0) (tCD (.int 1))) (tConsD (tVarD 1) tNilD))) tNilD))))
def sp_stretched : DSp := fun us P => ∃ p q u v a b : Int, us = [.d (.tuple [.tuple [.int p, .int q], .tuple [.int u, .int v]]), .d (.tuple [.int a, .int b])] ∧ Fk 1000 p q ∧ Fk 1000 u v ∧ Fk 1000 a b ∧ ∀ s r s' r', Frac s r → (p * b - a * q) * r = (q * b) * s → Frac s' r' → (u * b + a * v) * r' = (v * b) * s' → P (.d (.tuple [.tuple [.int s, .int r], .tuple [.int s', .int r']]))
theorem vc_stretched : ∀ dvs Q, sp_stretched dvs Q → dvs.length = 2 ∧ rd_stretched { nx := fun _ => Q (.d .none), rt := Q } (startD N_stretched dvs) := by
  rintro dvs Q ⟨p, q, u, v, a, b, rfl, f, g, k, h⟩
  refine ⟨rfl, ?_⟩
  have l : ∀ {z : Int}, z.natAbs < 2 ^ 1000 → z.natAbs < 2 ^ 8000 := fun z => two_le z (by decide)
  unfold rd_stretched
  walk_at "dl"
  refine ⟨a, b, rfl, ?_⟩
  walk_at "dl"
  refine ⟨p, q, -a, b, rfl, f.f, ⟨k.f.pos, by rw [Int.neg_gcd]; exact k.f.low⟩, l f.t, l f.b, by rw [Int.natAbs_neg]; exact l k.t, l k.b, fun s r k1 e1 => ?_⟩
  walk_at "dl"
  refine ⟨u, v, a, b, rfl, g.f, k.f, l g.t, l g.b, l k.t, l k.b, fun s' r' k2 e2 => ?_⟩
  walk_at "dl"
  exact ⟨by decide, h _ _ _ _ k1 (by rw [← e1, Int.neg_mul, Int.sub_eq_add_neg]) k2 e2⟩
section
variable {ts : List Addr} {P : Program} {w : World} {K : PySem.W.Frag} {mg : Str → Option Value} {base : Heap}
theorem ok_stretched {f : Addr} {fd : FuncData} (Fn : L2.Fun K "stretched" "stretched" s_stretched f fd) {f_added : Addr} (g_added : Fg P w K mg base (L2.CX P w) 1 f_added (Pm K ts sp_added)) (m_added : mg "added" = some (.ref f_added)) (p_added : PySem.W.keepIn K (.ref f_added) = true) {f_negative : Addr} (g_negative : Fg P w K mg base (L2.CX P w) 1 f_negative (Pm K ts sp_negative)) (m_negative : mg "negative" = some (.ref f_negative)) (p_negative : PySem.W.keepIn K (.ref f_negative) = true) : Fg P w K mg base (L2.CX P w) 2 f (Pm K ts sp_stretched) := d_def Fn sc_stretched (fun _ _ _ _ _ _ us hl => match us, hl with | [_, _], _ => rfl) sp_stretched rd_stretched (fun cdv A outer s H E wn hcd ht ag hr => by
  have S := sc_stretched
  have hu := hr.units
  exact (dss_one (ds_ret (d_tup (da_cons (d_use g_added ht ag (hr.mono (by decide)) passZ (by rfl) m_added p_added (da_cons (d_ix (d_var 0) d_int) (da_cons (d_use g_negative ht ag (hr.mono (by decide)) passZ (by rfl) m_negative p_negative (da_cons (d_var 1) da_nil)) da_nil))) (da_cons (d_use g_added ht ag (hr.mono (by decide)) passZ (by rfl) m_added p_added (da_cons (d_ix (d_var 0) d_int) (da_cons (d_var 1) da_nil))) da_nil)))))) vc_stretched
end
/-! widened -/
abbrev s_widened : Stmt := topS 21
abbrev N_widened : List Str := ["stretch", "by"]
theorem sc_widened : FnScope N_widened ["stretch", "by"] (defScope s_widened) := ⟨rfl, rfl, rfl, by decide +kernel, rfl, by decide +kernel, by decide +kernel⟩
def rd_widened (R : List Sl → XD) : DS := (tSeqD (tDropD (tUseX sp_require R (tConsD (tUse sp_is_stretch (tConsD (tVarD 0) tNilD)) (tConsD (tUse sp_is_width (tConsD (tVarD 1) tNilD)) tNilD))))
    (tRetD (tUse sp_stretched (tConsD (tVarD 0) (tConsD (tVarD 1) tNilD)))))
def sp_widened : DSpX := fun us P R => ∃ x y, us = [.d x, .d y] ∧ OkT x ∧ (isFr y = true → FrM y) ∧ (isSt x = false → R "Wrong" "at" (.int 0)) ∧ (isSt x = true → isWd y = false → R "Wrong" "at" (.int 1)) ∧ (isSt x = true → isWd y = true → ∀ z, P (.d z))
theorem vc_widened : ∀ dvs Q R, sp_widened dvs Q R → dvs.length = 2 ∧ rd_widened (fun _ => R) { nx := fun _ => Q (.d .none), rt := Q } (startD N_widened dvs) := by
  rintro dvs Q R ⟨x, y, rfl, ok, sy, h0, h1, h2⟩
  refine ⟨rfl, ?_⟩
  unfold rd_widened
  walk_at "dl"
  refine ⟨_, rfl, ok, _, rfl, ?_⟩
  walk_at "dl"
  refine two_req h0 h1 fun a b => ?_
  obtain ⟨p, q, u, v, rfl, f, g, l⟩ := ok.2 a
  obtain ⟨c, d, rfl, k⟩ := sy (isWd_fr b)
  exact ⟨p, q, u, v, c, d, rfl, f.fk, g.fk, k.up, fun s r s' r' _ _ _ _ => h2 a b _⟩
section
variable {ts : List Addr} {P : Program} {w : World} {K : PySem.W.Frag} {mg : Str → Option Value} {base : Heap}
theorem ok_widened {f : Addr} {fd : FuncData} (Fn : L2.Fun K "widened" "widened" s_widened f fd) {f_require : Addr} (g_require : Fg P w K mg base (L2.CX P w) 3 f_require (PmX mg K ts sp_require)) (m_require : mg "require" = some (.ref f_require)) (p_require : PySem.W.keepIn K (.ref f_require) = true) {f_is_width : Addr} (g_is_width : Fg P w K mg base (L2.CX P w) 3 f_is_width (Pm K ts sp_is_width)) (m_is_width : mg "is_width" = some (.ref f_is_width)) (p_is_width : PySem.W.keepIn K (.ref f_is_width) = true) {f_is_stretch : Addr} (g_is_stretch : Fg P w K mg base (L2.CX P w) 3 f_is_stretch (Pm K ts sp_is_stretch)) (m_is_stretch : mg "is_stretch" = some (.ref f_is_stretch)) (p_is_stretch : PySem.W.keepIn K (.ref f_is_stretch) = true) {f_stretched : Addr} (g_stretched : Fg P w K mg base (L2.CX P w) 2 f_stretched (Pm K ts sp_stretched)) (m_stretched : mg "stretched" = some (.ref f_stretched)) (p_stretched : PySem.W.keepIn K (.ref f_stretched) = true) : Fg P w K mg base (L2.CX P w) 4 f (PmX mg K ts sp_widened) := d_defX Fn sc_widened (fun _ _ _ _ _ _ us hl => match us, hl with | [_, _], _ => rfl) sp_widened (fun R => rd_widened fun _ => R) (fun cdv A outer s H E R wn hcd ht hE ag hr tk => by
  have S := sc_widened
  have hu := hr.units
  have hE := XEnd.at hE
  exact (dss_cons (ds_expr (d_useX g_require ht ag (hr.mono (by decide)) (fun σ => passAt tk σ) hE (by rfl) m_require p_require (da_cons (d_use g_is_stretch ht ag (hr.mono (by decide)) passZ (by rfl) m_is_stretch p_is_stretch (da_cons (d_var 0) da_nil)) (da_cons (d_use g_is_width ht ag (hr.mono (by decide)) passZ (by rfl) m_is_width p_is_width (da_cons (d_var 1) da_nil)) da_nil))))
    (dss_one (ds_ret (d_use g_stretched ht ag (hr.mono (by decide)) passZ (by rfl) m_stretched p_stretched (da_cons (d_var 0) (da_cons (d_var 1) da_nil))))))) vc_widened
end
/-! holds -/
abbrev s_holds : Stmt := topS 25
abbrev N_holds : List Str := ["stretch", "worth"]
theorem sc_holds : FnScope N_holds ["stretch", "worth"] (defScope s_holds) := ⟨rfl, rfl, rfl, by decide +kernel, rfl, by decide +kernel, by decide +kernel⟩
def rd_holds (R : List Sl → XD) : DS := (tSeqD (tDropD (tUseX sp_require R (tConsD (tUse sp_is_stretch (tConsD (tVarD 0) tNilD)) (tConsD (tUse sp_is_fraction (tConsD (tVarD 1) tNilD)) tNilD))))
    (tRetD (tAnV (tBin (gEqv not) (tUse sp_compared (tConsD (tBin gIx (tVarD 0) (tCD (.int 0))) (tConsD (tVarD 1) tNilD))) (tCD (.int 1))) (tBin (gEqv not) (tUse sp_compared (tConsD (tVarD 1) (tConsD (tBin gIx (tVarD 0) (tCD (.int 1))) tNilD))) (tCD (.int 1))))))
theorem cmp_one {p q u v : Int} : decide (cmpT p q u v = 1) = decide (u * q < p * v) := by
  unfold cmpT
  by_cases h1 : p * v < u * q
  · rw [if_pos h1]
    simp only [Int.reduceNeg, reduceCtorEq, decide_false]
    symm
    simp only [decide_eq_false_iff_not]
    omega
  · rw [if_neg h1]
    by_cases h2 : u * q < p * v
    · simp [h2]
    · simp [h2]
def sp_holds : DSpX := fun us P R => ∃ x y, us = [.d x, .d y] ∧ OkT x ∧ (isFr y = true → FrM y) ∧ (isSt x = false → R "Wrong" "at" (.int 0)) ∧ (isSt x = true → isFr y = false → R "Wrong" "at" (.int 1)) ∧ (isSt x = true → isFr y = true → ∀ z, P (.d z))
theorem vc_holds : ∀ dvs Q R, sp_holds dvs Q R → dvs.length = 2 ∧ rd_holds (fun _ => R) { nx := fun _ => Q (.d .none), rt := Q } (startD N_holds dvs) := by
  rintro dvs Q R ⟨x, y, rfl, ok, sy, h0, h1, h2⟩
  refine ⟨rfl, ?_⟩
  unfold rd_holds
  walk_at "dl"
  refine ⟨_, rfl, ok, _, rfl, ?_⟩
  walk_at "dl"
  refine two_req h0 h1 fun a b => ?_
  obtain ⟨p, q, u, v, rfl, f, g, l⟩ := ok.2 a
  obtain ⟨c, d, rfl, k⟩ := sy b
  have f : Fk 300 p q := f.fk
  have g : Fk 300 u v := g.fk
  have up : ∀ {x : Int}, x.natAbs < 2 ^ 300 → x.natAbs < 2 ^ 8000 := fun z => two_le z (by decide)
  walk_at "dl"
  refine ⟨p, q, c, d, rfl, up f.t, up f.b, up k.t, up k.b, ?_⟩
  walk_at "dl"
  rw [cmp_one]
  by_cases h1 : c * q < p * d
  · simp only [h1, decide_true, Bool.not_true, Bool.false_and, Bool.false_eq_true, if_false]
    exact h2 a b _
  · simp only [h1, decide_false, Bool.not_false, Bool.true_and, if_true]
    refine ⟨c, d, u, v, rfl, up k.t, up k.b, up g.t, up g.b, ?_⟩
    walk_at "dl"
    exact h2 a b _
section
variable {ts : List Addr} {P : Program} {w : World} {K : PySem.W.Frag} {mg : Str → Option Value} {base : Heap}
theorem ok_holds {f : Addr} {fd : FuncData} (Fn : L2.Fun K "holds" "holds" s_holds f fd) {f_require : Addr} (g_require : Fg P w K mg base (L2.CX P w) 3 f_require (PmX mg K ts sp_require)) (m_require : mg "require" = some (.ref f_require)) (p_require : PySem.W.keepIn K (.ref f_require) = true) {f_is_fraction : Addr} (g_is_fraction : Fg P w K mg base (L2.CX P w) 2 f_is_fraction (Pm K ts sp_is_fraction)) (m_is_fraction : mg "is_fraction" = some (.ref f_is_fraction)) (p_is_fraction : PySem.W.keepIn K (.ref f_is_fraction) = true) {f_is_stretch : Addr} (g_is_stretch : Fg P w K mg base (L2.CX P w) 3 f_is_stretch (Pm K ts sp_is_stretch)) (m_is_stretch : mg "is_stretch" = some (.ref f_is_stretch)) (p_is_stretch : PySem.W.keepIn K (.ref f_is_stretch) = true) {f_compared : Addr} (g_compared : Fg P w K mg base (L2.CX P w) 1 f_compared (Pm K ts sp_compared)) (m_compared : mg "compared" = some (.ref f_compared)) (p_compared : PySem.W.keepIn K (.ref f_compared) = true) : Fg P w K mg base (L2.CX P w) 4 f (PmX mg K ts sp_holds) := d_defX Fn sc_holds (fun _ _ _ _ _ _ us hl => match us, hl with | [_, _], _ => rfl) sp_holds (fun R => rd_holds fun _ => R) (fun cdv A outer s H E R wn hcd ht hE ag hr tk => by
  have S := sc_holds
  have hu := hr.units
  have hE := XEnd.at hE
  exact (dss_cons (ds_expr (d_useX g_require ht ag (hr.mono (by decide)) (fun σ => passAt tk σ) hE (by rfl) m_require p_require (da_cons (d_use g_is_stretch ht ag (hr.mono (by decide)) passZ (by rfl) m_is_stretch p_is_stretch (da_cons (d_var 0) da_nil)) (da_cons (d_use g_is_fraction ht ag (hr.mono (by decide)) passZ (by rfl) m_is_fraction p_is_fraction (da_cons (d_var 1) da_nil)) da_nil))))
    (dss_one (ds_ret (d_and (d_cmp (o_ne hu) (d_use g_compared ht ag (hr.mono (by decide)) passZ (by rfl) m_compared p_compared (da_cons (d_ix (d_var 0) d_int) (da_cons (d_var 1) da_nil))) d_int) (d_one (d_cmp (o_ne hu) (d_use g_compared ht ag (hr.mono (by decide)) passZ (by rfl) m_compared p_compared (da_cons (d_var 1) (da_cons (d_ix (d_var 0) d_int) da_nil))) d_int))))))) vc_holds
end
/-! width -/
abbrev s_width : Stmt := topS 26
abbrev N_width : List Str := ["stretch"]
theorem sc_width : FnScope N_width ["stretch"] (defScope s_width) := ⟨rfl, rfl, rfl, by decide +kernel, rfl, by decide +kernel, by decide +kernel⟩
def rd_width (R : List Sl → XD) : DS := (tSeqD (tDropD (tUseX sp_require R (tConsD (tUse sp_is_stretch (tConsD (tVarD 0) tNilD)) tNilD)))
    (tRetD (tUse sp_added (tConsD (tBin gIx (tVarD 0) (tCD (.int 1))) (tConsD (tUse sp_negative (tConsD (tBin gIx (tVarD 0) (tCD (.int 0))) tNilD)) tNilD)))))
def sp_width : DSpX := fun us P R => ∃ x, us = [.d x] ∧ OkT x ∧ (isSt x = false → R "Wrong" "at" (.int 0)) ∧ (isSt x = true → ∀ z, P (.d z))
theorem vc_width : ∀ dvs Q R, sp_width dvs Q R → dvs.length = 1 ∧ rd_width (fun _ => R) { nx := fun _ => Q (.d .none), rt := Q } (startD N_width dvs) := by
  rintro dvs Q R ⟨x, rfl, ok, h0, h2⟩
  refine ⟨rfl, ?_⟩
  unfold rd_width
  walk_at "dl"
  refine ⟨_, rfl, ok, ?_⟩
  walk_at "dl"
  refine one_req h0 fun a => ?_
  obtain ⟨p, q, u, v, rfl, f, g, l⟩ := ok.2 a
  have f : Fk 300 p q := f.fk
  have g : Fk 300 u v := g.fk
  have up : ∀ {x : Int}, x.natAbs < 2 ^ 300 → x.natAbs < 2 ^ 8000 := fun z => two_le z (by decide)
  walk_at "dl"
  refine ⟨p, q, rfl, ?_⟩
  walk_at "dl"
  exact ⟨u, v, -p, q, rfl, g.f, ⟨f.pos, by rw [Int.neg_gcd]; exact f.f.low⟩, up g.t, up g.b, by rw [Int.natAbs_neg]; exact up f.t, up f.b, fun s r fr e => h2 a _⟩
section
variable {ts : List Addr} {P : Program} {w : World} {K : PySem.W.Frag} {mg : Str → Option Value} {base : Heap}
theorem ok_width {f : Addr} {fd : FuncData} (Fn : L2.Fun K "width" "width" s_width f fd) {f_require : Addr} (g_require : Fg P w K mg base (L2.CX P w) 3 f_require (PmX mg K ts sp_require)) (m_require : mg "require" = some (.ref f_require)) (p_require : PySem.W.keepIn K (.ref f_require) = true) {f_is_stretch : Addr} (g_is_stretch : Fg P w K mg base (L2.CX P w) 3 f_is_stretch (Pm K ts sp_is_stretch)) (m_is_stretch : mg "is_stretch" = some (.ref f_is_stretch)) (p_is_stretch : PySem.W.keepIn K (.ref f_is_stretch) = true) {f_added : Addr} (g_added : Fg P w K mg base (L2.CX P w) 1 f_added (Pm K ts sp_added)) (m_added : mg "added" = some (.ref f_added)) (p_added : PySem.W.keepIn K (.ref f_added) = true) {f_negative : Addr} (g_negative : Fg P w K mg base (L2.CX P w) 1 f_negative (Pm K ts sp_negative)) (m_negative : mg "negative" = some (.ref f_negative)) (p_negative : PySem.W.keepIn K (.ref f_negative) = true) : Fg P w K mg base (L2.CX P w) 4 f (PmX mg K ts sp_width) := d_defX Fn sc_width (fun _ _ _ _ _ _ us hl => match us, hl with | [_], _ => rfl) sp_width (fun R => rd_width fun _ => R) (fun cdv A outer s H E R wn hcd ht hE ag hr tk => by
  have S := sc_width
  have hu := hr.units
  have hE := XEnd.at hE
  exact (dss_cons (ds_expr (d_useX g_require ht ag (hr.mono (by decide)) (fun σ => passAt tk σ) hE (by rfl) m_require p_require (da_cons (d_use g_is_stretch ht ag (hr.mono (by decide)) passZ (by rfl) m_is_stretch p_is_stretch (da_cons (d_var 0) da_nil)) da_nil)))
    (dss_one (ds_ret (d_use g_added ht ag (hr.mono (by decide)) passZ (by rfl) m_added p_added (da_cons (d_ix (d_var 0) d_int) (da_cons (d_use g_negative ht ag (hr.mono (by decide)) passZ (by rfl) m_negative p_negative (da_cons (d_ix (d_var 0) d_int) da_nil)) da_nil))))))) vc_width
end
/-! is_list_of_stretches -/
abbrev s_is_list_of_stretches : Stmt := topS 30
abbrev N_is_list_of_stretches : List Str := ["thing", "stretch"]
theorem sc_is_list_of_stretches : FnScope N_is_list_of_stretches ["thing"] (defScope s_is_list_of_stretches) := ⟨rfl, rfl, rfl, by decide +kernel, rfl, by decide +kernel, by decide +kernel⟩
def rd_is_list_of_stretches : DS := (tSeqD (tIfD (tOrD (tNotD (tTru (tCallD (cIsi "list") (tConsD (tVarD 0) (tConsD (tRaw (.ty "list")) tNilD))))) (tNotD (tTst (tChD (gIn (fun i j => decide (i ≤ j)) fun i j => !decide (j.cps.toList < i.cps.toList)) (gIn (fun i j => decide (i ≤ j)) fun i j => !decide (j.cps.toList < i.cps.toList)) (tCD (.int 1)) (tCallD cLen (tConsD (tVarD 0) tNilD)) (tCD (.int 60)))))) (tRetD (tCD (.bool false))) (fun d env => d.nx env))
    (tRetD (tAll1 (itLst (tVarD 0)) (tUse sp_is_stretch (tConsD (tVarD 0) tNilD)) [])))
def sp_is_list_of_stretches : DSp := fun us P => ∃ x, us = [.d x] ∧ (∀ xs, x = .list xs → ∀ z ∈ xs, OkT z) ∧ P (.d (.bool (rowB x)))
theorem vc_is_list_of_stretches : ∀ dvs Q, sp_is_list_of_stretches dvs Q → dvs.length = 1 ∧ rd_is_list_of_stretches { nx := fun _ => Q (.d .none), rt := Q } (startD N_is_list_of_stretches dvs) := by
  rintro dvs Q ⟨x, rfl, ok, h⟩
  refine ⟨rfl, ?_⟩
  unfold rd_is_list_of_stretches
  cases x with
  | list xs =>
    have ok := ok xs rfl
    walk_at "dl"
    by_cases c1 : 1 ≤ xs.length
    · have c1' : (1 : Int) ≤ (xs.length : Nat) := by omega
      by_cases c2 : xs.length ≤ 60
      · have c2' : ((xs.length : Nat) : Int) ≤ 60 := by omega
        simp only [c1', c2', decide_true, Bool.not_true, if_true, Bool.false_eq_true, if_false]
        simp only [rowB, c1, c2, decide_true, Bool.true_and] at h
        refine ⟨isSt, fun z hz => ⟨z, rfl, ok z hz, ?_⟩, h⟩
        walk_at "dl"
      · have c2' : ¬ ((xs.length : Nat) : Int) ≤ 60 := by omega
        simp only [c1', c2', decide_true, decide_false, Bool.not_false, if_true, Bool.false_eq_true, if_false]
        simp only [rowB, c2, decide_false, Bool.false_and, Bool.and_false] at h
        exact h
    · have c1' : ¬ (1 : Int) ≤ (xs.length : Nat) := by omega
      simp only [c1', decide_false, Bool.not_false, if_true, Bool.false_eq_true, if_false]
      simp only [rowB, c1, decide_false, Bool.false_and] at h
      exact h
  | _ => walk_at "dl"; exact h
section
variable {ts : List Addr} {P : Program} {w : World} {K : PySem.W.Frag} {mg : Str → Option Value} {base : Heap}
theorem ok_is_list_of_stretches {f : Addr} {fd : FuncData} (Fn : L2.Fun K "is_list_of_stretches" "is_list_of_stretches" s_is_list_of_stretches f fd) {f_is_stretch : Addr} (g_is_stretch : Fg P w K mg base (L2.CX P w) 3 f_is_stretch (Pm K ts sp_is_stretch)) (m_is_stretch : mg "is_stretch" = some (.ref f_is_stretch)) (p_is_stretch : PySem.W.keepIn K (.ref f_is_stretch) = true) (z_isinstance : mg "isinstance" = none) (z_list : mg "list" = none) (z_len : mg "len" = none) (z_all : mg "all" = none) {t_MOST_STRETCHES : Tok} (c_MOST_STRETCHES : mg "MOST_STRETCHES" = some (.int 60 t_MOST_STRETCHES)) {e_is_list_of_stretches P_is_list_of_stretches : Addr} (tb_is_list_of_stretches : GxR.TabB base mg e_is_list_of_stretches P_is_list_of_stretches) (fc_is_list_of_stretches : fd.code = .ref e_is_list_of_stretches) (ti_is_list_of_stretches : P_is_list_of_stretches ∈ ts) : Fg P w K mg base (L2.CX P w) 5 f (Pm K ts sp_is_list_of_stretches) := d_def Fn sc_is_list_of_stretches (fun _ _ _ _ _ _ us hl => match us, hl with | [_], _ => rfl) sp_is_list_of_stretches rd_is_list_of_stretches (fun cdv A outer s H E wn hcd ht ag hr => by
  have S := sc_is_list_of_stretches
  have hu := hr.units
  exact (dss_cons (ds_if (dt_w (dw_or (dt_not (dt_e (d_callB (k_isi (n := "list") (by simp)) (by rfl) z_isinstance (by decide +kernel) (da_cons (d_var 0) (da_cons (d_ty (by rfl) z_list (by decide +kernel)) da_nil))))) (dw_or1 (dt_not (dt_chain o_le o_le d_int (d_callB k_len (by rfl) z_len (by decide +kernel) (da_cons (d_var 0) da_nil)) (d_globI (by rfl) c_MOST_STRETCHES)))))) (dss_one (ds_ret d_bl)) dss_nil)
    (dss_one (ds_ret (d_all1 (N := ["stretch"]) (caps := []) ht hr (by rfl) z_all tb_is_list_of_stretches (hcd.symm.trans fc_is_list_of_stretches) ti_is_list_of_stretches rfl rfl (by decide +kernel) (by rfl) (hfree0 (by decide +kernel)) (by show capOk ["stretch"] N_is_list_of_stretches 1 [] _ (defScope s_is_list_of_stretches) = true; decide +kernel) (by decide) rfl (by rfl) (di_list (d_var 0)) (by intro _; rfl) (fun _ _ _ _ _ _ hA wn ht => by
      have ag := Eq.mpr (congrArg (fun a => Around.guards a = some []) hA) (loop_guards ag)
      have hr := Eq.mpr (congrArg (Room _) hA) (loop_room hr)
      have hu := hr.units
      exact (d_use g_is_stretch ht ag (hr.mono (by decide)) passZ (by rfl) m_is_stretch p_is_stretch (da_cons (d_var 0) da_nil)))))))) vc_is_list_of_stretches
end
/-! outermost -/
abbrev s_outermost : Stmt := topS 17
abbrev N_outermost : List Str := ["some", "side", "found", "one"]
theorem sc_outermost : FnScope N_outermost ["some", "side"] (defScope s_outermost) := ⟨rfl, rfl, rfl, by decide +kernel, rfl, by decide +kernel, by decide +kernel⟩
def rd_outermost : DS := (tSeqD (tSetD 2 (tBin gIx (tVarD 0) (tCD (.int 0))))
    (tSeqD (tForD (gnD 3) (itLst (tVarD 0)) (tIfD (tTst (tBin (gEqv id) (tUse sp_compared (tConsD (tVarD 3) (tConsD (tVarD 2) tNilD))) (tVarD 1))) (tSetD 2 (tVarD 3)) (fun d env => d.nx env)))
    (tRetVD 2)))
def sp_outermost : DSp := fun us P => ∃ (a : PyData) (xs : List PyData) (s : Int), us = [.d (.list (a :: xs)), .d (.int s)] ∧ (∀ x ∈ a :: xs, FrL x) ∧ P (.d (sel s (a :: xs) a))
theorem vc_outermost : ∀ dvs Q, sp_outermost dvs Q → dvs.length = 2 ∧ rd_outermost { nx := fun _ => Q (.d .none), rt := Q } (startD N_outermost dvs) := by
  rintro dvs Q ⟨a, xs, s, rfl, hf, h⟩
  refine ⟨rfl, ?_⟩
  have up : ∀ {x : Int}, x.natAbs < 2 ^ 210 → x.natAbs < 2 ^ 8000 := fun z => two_le z (by decide)
  unfold rd_outermost
  walk_at "dl"
  refine forD_ind (fun ys env => ∃ b s3, env = [.d (.list (a :: xs)), .d (.int s), .d b, s3] ∧ FrL b ∧ (∀ x ∈ ys, FrL x) ∧ sel s ys b = sel s (a :: xs) a) (fun env hI => ?_) (fun x ys env R hI hR => ?_) _ _ ⟨a, _, rfl, hf a (List.mem_cons_self ..), hf, rfl⟩
  · obtain ⟨b, s3, rfl, _, _, e⟩ := hI
    walk_at "dl"
    rw [← e] at h
    exact h
  · obtain ⟨b, s3, rfl, hb, hx, e⟩ := hI
    obtain ⟨p, q, rfl, f⟩ := hx x (List.mem_cons_self ..)
    obtain ⟨u, v, rfl, g⟩ := hb
    have hx2 := fun y hy => hx y (List.mem_cons_of_mem _ hy)
    walk_at "dl"
    refine ⟨p, q, u, v, rfl, up f.t, up f.b, up g.t, up g.b, ?_⟩
    walk_at "dl"
    have e : sel s ys (if cmpT p q u v = s then .tuple [.int p, .int q] else .tuple [.int u, .int v]) = sel s (a :: xs) a := e
    by_cases hc : cmpT p q u v = s
    · simp only [hc, decide_true, if_true]
      rw [if_pos hc] at e
      exact hR _ ⟨_, _, rfl, ⟨p, q, rfl, f⟩, hx2, e⟩
    · simp only [hc, decide_false, Bool.false_eq_true, if_false]
      rw [if_neg hc] at e
      exact hR _ ⟨_, _, rfl, ⟨u, v, rfl, g⟩, hx2, e⟩
section
variable {ts : List Addr} {P : Program} {w : World} {K : PySem.W.Frag} {mg : Str → Option Value} {base : Heap}
theorem ok_outermost {f : Addr} {fd : FuncData} (Fn : L2.Fun K "outermost" "outermost" s_outermost f fd) {f_compared : Addr} (g_compared : Fg P w K mg base (L2.CX P w) 1 f_compared (Pm K ts sp_compared)) (m_compared : mg "compared" = some (.ref f_compared)) (p_compared : PySem.W.keepIn K (.ref f_compared) = true) : Fg P w K mg base (L2.CX P w) 2 f (Pm K ts sp_outermost) := d_def Fn sc_outermost (fun _ _ _ _ _ _ us hl => match us, hl with | [_, _], _ => rfl) sp_outermost rd_outermost (fun cdv A outer s H E wn hcd ht ag hr => by
  have S := sc_outermost
  have hu := hr.units
  exact (dss_cons (ds_set (i := 2) S.nd rfl (by first | exact Or.inl rfl | exact Or.inr rfl) (d_ix (d_var 0) d_int))
    (dss_cons (ds_for PassesOwn.never rfl (di_list (d_var 0)) (dg_name (i := 3) S.nd rfl (by first | exact Or.inl rfl | exact Or.inr rfl)) (dss_one (ds_if (dt_cmp (o_eq hu) (d_use g_compared ht ag (hr.mono (by decide)) passZ (by rfl) m_compared p_compared (da_cons (d_var 3) (da_cons (d_var 2) da_nil))) (d_var 1)) (dss_one (ds_set (i := 2) S.nd rfl (by first | exact Or.inl rfl | exact Or.inr rfl) (d_var 3))) dss_nil)))
    (dss_one (ds_retV 2))))) vc_outermost
end
/-! innermost -/
abbrev s_innermost : Stmt := topS 32
abbrev N_innermost : List Str := ["some", "low", "stretch", "high"]
theorem sc_innermost : FnScope N_innermost ["some"] (defScope s_innermost) := ⟨rfl, rfl, rfl, by decide +kernel, rfl, by decide +kernel, by decide +kernel⟩
def rd_innermost : DS := (tSeqD (tSetD 1 (tUse sp_outermost (tConsD (tLcD (itLst (tVarD 0)) (gnD 2) (fun _ P => P true) (tBin gIx (tVarD 2) (tCD (.int 0))) [2]) (tConsD (tCD (.int 1)) tNilD))))
    (tSeqD (tSetD 3 (tUse sp_outermost (tConsD (tLcD (itLst (tVarD 0)) (gnD 2) (fun _ P => P true) (tBin gIx (tVarD 2) (tCD (.int 1))) [2]) (tConsD (tUnD gNeg (tCD (.int 1))) tNilD))))
    (tRetD (tTupD (tConsD (tVarD 1) (tConsD (tVarD 3) tNilD))))))
def sp_innermost : DSp := fun us P => ∃ (a : PyData) (xs : List PyData), us = [.d (.list (a :: xs))] ∧ xs.length < 60 ∧ (∀ x ∈ a :: xs, StL x) ∧ P (.d (.tuple [LO a xs, HI a xs]))
theorem vc_innermost : ∀ dvs Q, sp_innermost dvs Q → dvs.length = 1 ∧ rd_innermost { nx := fun _ => Q (.d .none), rt := Q } (startD N_innermost dvs) := by
  rintro dvs Q ⟨a, xs, rfl, hl, hx, h⟩
  refine ⟨rfl, ?_⟩
  have f1 : ∀ y ∈ (a :: xs).map fstD, FrL y := fun y hy => by
    obtain ⟨x, hx2, rfl⟩ := List.mem_map.mp hy
    exact (hx x hx2).fst
  have f2 : ∀ y ∈ (a :: xs).map sndD, FrL y := fun y hy => by
    obtain ⟨x, hx2, rfl⟩ := List.mem_map.mp hy
    exact (hx x hx2).snd
  unfold rd_innermost
  refine seqG fun R hR => ?_
  walk_at "dl"
  unfold tLcD
  walk_at "dl"
  refine lcD_ind (fun zs acc => ∃ dn, dn ++ zs = a :: xs ∧ acc = dn.map fstD) (fun acc hI => ?_) (fun z zs acc R2 hI hR2 => ?_) _ _ ⟨[], rfl, rfl⟩
  · obtain ⟨dn, e, rfl⟩ := hI
    rw [List.append_nil] at e
    subst e
    walk_at "dl"
    refine ⟨_, _, _, rfl, f1, ?_⟩
    walk_at "dl"
    refine hR _ (seqG fun R hR => ?_)
    walk_at "dl"
    unfold tLcD
    walk_at "dl"
    refine lcD_ind (fun zs acc => ∃ dn, dn ++ zs = a :: xs ∧ acc = dn.map sndD) (fun acc hI => ?_) (fun z zs acc R2 hI hR2 => ?_) _ _ ⟨[], rfl, rfl⟩
    · obtain ⟨dn, e, rfl⟩ := hI
      rw [List.append_nil] at e
      subst e
      walk_at "dl"
      refine ⟨_, _, _, rfl, f2, ?_⟩
      walk_at "dl"
      refine hR _ ?_
      walk_at "dl"
      exact ⟨by decide, h⟩
    · obtain ⟨dn, e, rfl⟩ := hI
      have e' : (dn ++ [z]) ++ zs = a :: xs := by rw [← e, List.append_assoc]; rfl
      obtain ⟨p, q, u, v, rfl, f, g, hpu⟩ := hx z (by rw [← e]; simp)
      have hlen := congrArg List.length e
      rw [List.length_append, List.length_cons, List.length_cons] at hlen
      walk_at "dl"
      exact ⟨by rw [List.length_map]; omega, hR2 _ ⟨_, e', by rw [List.map_append]; rfl⟩⟩
  · obtain ⟨dn, e, rfl⟩ := hI
    have e' : (dn ++ [z]) ++ zs = a :: xs := by rw [← e, List.append_assoc]; rfl
    obtain ⟨p, q, u, v, rfl, f, g, hpu⟩ := hx z (by rw [← e]; simp)
    have hlen := congrArg List.length e
    rw [List.length_append, List.length_cons, List.length_cons] at hlen
    walk_at "dl"
    exact ⟨by rw [List.length_map]; omega, hR2 _ ⟨_, e', by rw [List.map_append]; rfl⟩⟩
section
variable {ts : List Addr} {P : Program} {w : World} {K : PySem.W.Frag} {mg : Str → Option Value} {base : Heap}
theorem ok_innermost {f : Addr} {fd : FuncData} (Fn : L2.Fun K "innermost" "innermost" s_innermost f fd) {f_outermost : Addr} (g_outermost : Fg P w K mg base (L2.CX P w) 2 f_outermost (Pm K ts sp_outermost)) (m_outermost : mg "outermost" = some (.ref f_outermost)) (p_outermost : PySem.W.keepIn K (.ref f_outermost) = true) : Fg P w K mg base (L2.CX P w) 3 f (Pm K ts sp_innermost) := d_def Fn sc_innermost (fun _ _ _ _ _ _ us hl => match us, hl with | [_], _ => rfl) sp_innermost rd_innermost (fun cdv A outer s H E wn hcd ht ag hr => by
  have S := sc_innermost
  have hu := hr.units
  exact (dss_cons (ds_set (i := 1) S.nd rfl (by first | exact Or.inl rfl | exact Or.inr rfl) (d_use g_outermost ht ag (hr.mono (by decide)) passZ (by rfl) m_outermost p_outermost (da_cons (d_lc (own := [("stretch", 2)]) rfl S.nd (di_list (d_var 0)) (blkOk_by (N := N_innermost) (sc := defScope s_innermost) (by decide +kernel)) (tgt1 2) (fun _ _ _ _ _ => pg_name (i := 2) S.nd rfl (Or.inl rfl)) (fun _ _ _ _ _ => pts_nilD) (fun _ _ _ _ _ => (d_ix (d_var 2) d_int))) (da_cons d_int da_nil))))
    (dss_cons (ds_set (i := 3) S.nd rfl (by first | exact Or.inl rfl | exact Or.inr rfl) (d_use g_outermost ht ag (hr.mono (by decide)) passZ (by rfl) m_outermost p_outermost (da_cons (d_lc (own := [("stretch", 2)]) rfl S.nd (di_list (d_var 0)) (blkOk_by (N := N_innermost) (sc := defScope s_innermost) (by decide +kernel)) (tgt1 2) (fun _ _ _ _ _ => pg_name (i := 2) S.nd rfl (Or.inl rfl)) (fun _ _ _ _ _ => pts_nilD) (fun _ _ _ _ _ => (d_ix (d_var 2) d_int))) (da_cons (d_neg d_int) da_nil))))
    (dss_one (ds_ret (d_tup (da_cons (d_var 1) (da_cons (d_var 3) da_nil)))))))) vc_innermost
end
/-! meeting -/
abbrev s_meeting : Stmt := topS 23
abbrev N_meeting : List Str := ["some", "low", "high"]
theorem sc_meeting : FnScope N_meeting ["some"] (defScope s_meeting) := ⟨rfl, rfl, rfl, by decide +kernel, rfl, by decide +kernel, by decide +kernel⟩
def rd_meeting (R : List Sl → XD) : DS := (tSeqD (tDropD (tUseX sp_require R (tConsD (tUse sp_is_list_of_stretches (tConsD (tVarD 0) tNilD)) tNilD)))
    (tSeqD (tAsgD (tUse sp_innermost (tConsD (tVarD 0) tNilD)) (gtD 2 (gconsD (gnD 1) (gconsD (gnD 2) gnilD))))
    (tSeqD (tIfD (tTst (tBin (gEqv id) (tUse sp_compared (tConsD (tVarD 1) (tConsD (tVarD 2) tNilD))) (tCD (.int 1)))) (tRetD (tCD .none)) (fun d env => d.nx env))
    (tRetD (tTupD (tConsD (tVarD 1) (tConsD (tVarD 2) tNilD)))))))
def sp_meeting : DSpX := fun us P R => ∃ x, us = [.d x] ∧ (∀ xs, x = .list xs → ∀ z ∈ xs, OkT z) ∧ (rowB x = false → R "Wrong" "at" (.int 0)) ∧ (rowB x = true → ∀ z, P (.d z))
theorem rowB_st {x : PyData} (h : rowB x = true) (ok : ∀ xs, x = .list xs → ∀ z ∈ xs, OkT z) : ∃ a xs, x = .list (a :: xs) ∧ xs.length < 60 ∧ ∀ z ∈ a :: xs, StL z := by
  unfold rowB at h
  split at h
  · next xs =>
    simp only [Bool.and_eq_true, decide_eq_true_eq, List.all_eq_true] at h
    cases xs with
    | nil => simp at h
    | cons a xs =>
      have l := h.2.1
      rw [List.length_cons] at l
      exact ⟨a, xs, rfl, by omega, fun z hz => ((ok _ rfl z hz).2 (h.2.2 z hz)).stl⟩
  · cases h
theorem vc_meeting : ∀ dvs Q R, sp_meeting dvs Q R → dvs.length = 1 ∧ rd_meeting (fun _ => R) { nx := fun _ => Q (.d .none), rt := Q } (startD N_meeting dvs) := by
  rintro dvs Q Rx ⟨x, rfl, ok, h0, h2⟩
  refine ⟨rfl, ?_⟩
  have up : ∀ {x : Int}, x.natAbs < 2 ^ 210 → x.natAbs < 2 ^ 8000 := fun z => two_le z (by decide)
  unfold rd_meeting
  refine seqG fun R hR => ?_
  walk_at "dl"
  refine ⟨_, rfl, ok, ?_⟩
  walk_at "dl"
  refine one_req h0 fun hb => ?_
  obtain ⟨a, xs, rfl, hl, hx⟩ := rowB_st hb ok
  have h := h2 hb (meetD (LO a xs) (HI a xs))
  obtain ⟨p, q, e1, f⟩ := lo_fr hx
  obtain ⟨u, v, e2, g⟩ := hi_fr hx
  refine hR _ (seqG fun R hR => ?_)
  walk_at "dl"
  refine ⟨a, xs, rfl, hl, hx, ?_⟩
  rw [e1, e2] at h ⊢
  walk_at "dl"
  refine hR _ (seqG fun R hR => ?_)
  refine ifG fun A B hA hB => ?_
  walk_at "dl"
  refine ⟨p, q, u, v, rfl, up f.t, up f.b, up g.t, up g.b, ?_⟩
  walk_at "dl"
  have h : Q (.d (if cmpT p q u v = 1 then .none else .tuple [.tuple [.int p, .int q], .tuple [.int u, .int v]])) := h
  by_cases hc : cmpT p q u v = 1
  · rw [if_pos hc] at h
    simp only [hc, decide_true, if_true]
    refine hA ?_
    walk_at "dl"
    exact h
  · rw [if_neg hc] at h
    simp only [hc, decide_false, Bool.false_eq_true, if_false]
    refine hB (hR _ ?_)
    walk_at "dl"
    exact ⟨by decide, h⟩
section
variable {ts : List Addr} {P : Program} {w : World} {K : PySem.W.Frag} {mg : Str → Option Value} {base : Heap}
theorem ok_meeting {f : Addr} {fd : FuncData} (Fn : L2.Fun K "meeting" "meeting" s_meeting f fd) {f_require : Addr} (g_require : Fg P w K mg base (L2.CX P w) 3 f_require (PmX mg K ts sp_require)) (m_require : mg "require" = some (.ref f_require)) (p_require : PySem.W.keepIn K (.ref f_require) = true) {f_is_list_of_stretches : Addr} (g_is_list_of_stretches : Fg P w K mg base (L2.CX P w) 5 f_is_list_of_stretches (Pm K ts sp_is_list_of_stretches)) (m_is_list_of_stretches : mg "is_list_of_stretches" = some (.ref f_is_list_of_stretches)) (p_is_list_of_stretches : PySem.W.keepIn K (.ref f_is_list_of_stretches) = true) {f_innermost : Addr} (g_innermost : Fg P w K mg base (L2.CX P w) 3 f_innermost (Pm K ts sp_innermost)) (m_innermost : mg "innermost" = some (.ref f_innermost)) (p_innermost : PySem.W.keepIn K (.ref f_innermost) = true) {f_compared : Addr} (g_compared : Fg P w K mg base (L2.CX P w) 1 f_compared (Pm K ts sp_compared)) (m_compared : mg "compared" = some (.ref f_compared)) (p_compared : PySem.W.keepIn K (.ref f_compared) = true) : Fg P w K mg base (L2.CX P w) 6 f (PmX mg K ts sp_meeting) := d_defX Fn sc_meeting (fun _ _ _ _ _ _ us hl => match us, hl with | [_], _ => rfl) sp_meeting (fun R => rd_meeting fun _ => R) (fun cdv A outer s H E R wn hcd ht hE ag hr tk => by
  have S := sc_meeting
  have hu := hr.units
  have hE := XEnd.at hE
  exact (dss_cons (ds_expr (d_useX g_require ht ag (hr.mono (by decide)) (fun σ => passAt tk σ) hE (by rfl) m_require p_require (da_cons (d_use g_is_list_of_stretches ht ag (hr.mono (by decide)) passZ (by rfl) m_is_list_of_stretches p_is_list_of_stretches (da_cons (d_var 0) da_nil)) da_nil)))
    (dss_cons (ds_asg (d_use g_innermost ht ag (hr.mono (by decide)) passZ (by rfl) m_innermost p_innermost (da_cons (d_var 0) da_nil)) (dg_tup rfl (dgs_cons (dg_name (i := 1) S.nd rfl (by first | exact Or.inl rfl | exact Or.inr rfl)) (dgs_cons (dg_name (i := 2) S.nd rfl (by first | exact Or.inl rfl | exact Or.inr rfl)) dgs_nil))))
    (dss_cons (ds_if (dt_cmp (o_eq hu) (d_use g_compared ht ag (hr.mono (by decide)) passZ (by rfl) m_compared p_compared (da_cons (d_var 1) (da_cons (d_var 2) da_nil))) d_int) (dss_one (ds_ret d_non)) dss_nil)
    (dss_one (ds_ret (d_tup (da_cons (d_var 1) (da_cons (d_var 2) da_nil))))))))) vc_meeting
end
/-! apart -/
abbrev s_apart : Stmt := topS 24
abbrev N_apart : List Str := ["some", "low", "high", "stretch"]
theorem sc_apart : FnScope N_apart ["some"] (defScope s_apart) := ⟨rfl, rfl, rfl, by decide +kernel, rfl, by decide +kernel, by decide +kernel⟩
def rd_apart (R : List Sl → XD) : DS := (tSeqD (tDropD (tUseX sp_require R (tConsD (tUse sp_is_list_of_stretches (tConsD (tVarD 0) tNilD)) tNilD)))
    (tSeqD (tAsgD (tUse sp_innermost (tConsD (tVarD 0) tNilD)) (gtD 2 (gconsD (gnD 1) (gconsD (gnD 2) gnilD))))
    (tSeqD (tIfD (tTst (tBin (gEqv not) (tUse sp_compared (tConsD (tVarD 1) (tConsD (tVarD 2) tNilD))) (tCD (.int 1)))) (tRetD (tCD .none)) (fun d env => d.nx env))
    (tRetD (tTupD (tConsD (tIdxD (tLcD (itLst (tVarD 0)) (gnD 3) (fun _ P => P true) (tBin gIx (tVarD 3) (tCD (.int 0))) [3]) (tConsD (tVarD 1) tNilD)) (tConsD (tIdxD (tLcD (itLst (tVarD 0)) (gnD 3) (fun _ P => P true) (tBin gIx (tVarD 3) (tCD (.int 1))) [3]) (tConsD (tVarD 2) tNilD)) tNilD)))))))
theorem fst_ly {x : PyData} (h : FrL x) : x.eqv x = true := h.ly.self
def sp_apart : DSpX := fun us P R => ∃ x, us = [.d x] ∧ (∀ xs, x = .list xs → ∀ z ∈ xs, OkT z) ∧ (rowB x = false → R "Wrong" "at" (.int 0)) ∧ (rowB x = true → ∀ z, P (.d z))
theorem map_ly {f : PyData → PyData} {xs : List PyData} (h : ∀ x ∈ xs, FrL (f x)) : Ly 2 (.list (xs.map f)) := ly_lst fun y hy => by
  obtain ⟨x, hx, rfl⟩ := List.mem_map.mp hy
  exact (h x hx).ly
theorem lo_mem {a : PyData} {xs : List PyData} : LO a xs ∈ (a :: xs).map fstD := by
  rcases sel_mem (s := 1) (xs := (a :: xs).map fstD) (a := fstD a) with e | e
  · unfold LO; rw [e]; exact List.mem_map_of_mem (List.mem_cons_self ..)
  · exact e
theorem hi_mem {a : PyData} {xs : List PyData} : HI a xs ∈ (a :: xs).map sndD := by
  rcases sel_mem (s := -1) (xs := (a :: xs).map sndD) (a := sndD a) with e | e
  · unfold HI; rw [e]; exact List.mem_map_of_mem (List.mem_cons_self ..)
  · exact e
theorem vc_apart : ∀ dvs Q R, sp_apart dvs Q R → dvs.length = 1 ∧ rd_apart (fun _ => R) { nx := fun _ => Q (.d .none), rt := Q } (startD N_apart dvs) := by
  rintro dvs Q Rx ⟨x, rfl, ok, h0, h2⟩
  refine ⟨rfl, ?_⟩
  have up : ∀ {x : Int}, x.natAbs < 2 ^ 210 → x.natAbs < 2 ^ 8000 := fun z => two_le z (by decide)
  unfold rd_apart
  refine seqG fun R hR => ?_
  walk_at "dl"
  refine ⟨_, rfl, ok, ?_⟩
  walk_at "dl"
  refine one_req h0 fun hb => ?_
  obtain ⟨a, xs, rfl, hl, hx⟩ := rowB_st hb ok
  have h := h2 hb (apartD a xs)
  have i1 := idx_ok lo_mem (fst_ly (lo_fr hx))
  have i2 := idx_ok hi_mem (fst_ly (hi_fr hx))
  have y1 := map_ly fun x h => (hx x h).fst
  have y2 := map_ly fun x h => (hx x h).snd
  unfold apartD at h
  obtain ⟨p, q, e1, f⟩ := lo_fr hx
  obtain ⟨u, v, e2, g⟩ := hi_fr hx
  refine hR _ (seqG fun R hR => ?_)
  walk_at "dl"
  refine ⟨a, xs, rfl, hl, hx, ?_⟩
  rw [e1] at i1
  rw [e2] at i2
  rw [e1, e2] at h ⊢
  walk_at "dl"
  refine hR _ (seqG fun R hR => ?_)
  refine ifG fun A B hA hB => ?_
  walk_at "dl"
  refine ⟨p, q, u, v, rfl, up f.t, up f.b, up g.t, up g.b, ?_⟩
  walk_at "dl"
  by_cases hc : cmpT p q u v = 1
  · rw [if_pos (show cmpF (.tuple [.int p, .int q]) (.tuple [.int u, .int v]) = 1 from hc)] at h
    simp only [hc, decide_true, Bool.not_true, Bool.false_eq_true, if_false]
    refine hB (hR _ ?_)
    walk_at "dl"
    unfold tLcD
    walk_at "dl"
    refine lcD_ind (fun zs acc => ∃ dn, dn ++ zs = a :: xs ∧ acc = dn.map fstD) (fun acc hI => ?_) (fun z zs acc R2 hI hR2 => ?_) _ _ ⟨[], rfl, rfl⟩
    · obtain ⟨dn, e, rfl⟩ := hI
      rw [List.append_nil] at e
      subst e
      obtain ⟨z, j1, j2, j3, -⟩ := i1
      walk_at "dl"
      refine ⟨y1.shaped, ne2 _ _, _, z, j1, j2, j3, ?_⟩
      refine lcD_ind (fun zs acc => ∃ dn, dn ++ zs = a :: xs ∧ acc = dn.map sndD) (fun acc hI => ?_) (fun z zs acc R2 hI hR2 => ?_) _ _ ⟨[], rfl, rfl⟩
      · obtain ⟨dn, e, rfl⟩ := hI
        rw [List.append_nil] at e
        subst e
        obtain ⟨z, j1, j2, j3, -⟩ := i2
        walk_at "dl"
        refine ⟨y2.shaped, ne2 _ _, _, z, j1, j2, j3, ?_⟩
        exact ⟨by decide, h⟩
      · obtain ⟨dn, e, rfl⟩ := hI
        have e' : (dn ++ [z]) ++ zs = a :: xs := by rw [← e, List.append_assoc]; rfl
        obtain ⟨p, q, u, v, rfl, f, g, hpu⟩ := hx z (by rw [← e]; simp)
        have hlen := congrArg List.length e
        rw [List.length_append, List.length_cons, List.length_cons] at hlen
        walk_at "dl"
        exact ⟨by rw [List.length_map]; omega, hR2 _ ⟨_, e', by rw [List.map_append]; rfl⟩⟩
    · obtain ⟨dn, e, rfl⟩ := hI
      have e' : (dn ++ [z]) ++ zs = a :: xs := by rw [← e, List.append_assoc]; rfl
      obtain ⟨p, q, u, v, rfl, f, g, hpu⟩ := hx z (by rw [← e]; simp)
      have hlen := congrArg List.length e
      rw [List.length_append, List.length_cons, List.length_cons] at hlen
      walk_at "dl"
      exact ⟨by rw [List.length_map]; omega, hR2 _ ⟨_, e', by rw [List.map_append]; rfl⟩⟩
  · rw [if_neg (show ¬ cmpF (.tuple [.int p, .int q]) (.tuple [.int u, .int v]) = 1 from hc)] at h
    simp only [hc, decide_false, Bool.not_false, if_true]
    refine hA ?_
    walk_at "dl"
    exact h
section
variable {ts : List Addr} {P : Program} {w : World} {K : PySem.W.Frag} {mg : Str → Option Value} {base : Heap}
theorem ok_apart {f : Addr} {fd : FuncData} (Fn : L2.Fun K "apart" "apart" s_apart f fd) {f_require : Addr} (g_require : Fg P w K mg base (L2.CX P w) 3 f_require (PmX mg K ts sp_require)) (m_require : mg "require" = some (.ref f_require)) (p_require : PySem.W.keepIn K (.ref f_require) = true) {f_is_list_of_stretches : Addr} (g_is_list_of_stretches : Fg P w K mg base (L2.CX P w) 5 f_is_list_of_stretches (Pm K ts sp_is_list_of_stretches)) (m_is_list_of_stretches : mg "is_list_of_stretches" = some (.ref f_is_list_of_stretches)) (p_is_list_of_stretches : PySem.W.keepIn K (.ref f_is_list_of_stretches) = true) {f_innermost : Addr} (g_innermost : Fg P w K mg base (L2.CX P w) 3 f_innermost (Pm K ts sp_innermost)) (m_innermost : mg "innermost" = some (.ref f_innermost)) (p_innermost : PySem.W.keepIn K (.ref f_innermost) = true) {f_compared : Addr} (g_compared : Fg P w K mg base (L2.CX P w) 1 f_compared (Pm K ts sp_compared)) (m_compared : mg "compared" = some (.ref f_compared)) (p_compared : PySem.W.keepIn K (.ref f_compared) = true) : Fg P w K mg base (L2.CX P w) 6 f (PmX mg K ts sp_apart) := d_defX Fn sc_apart (fun _ _ _ _ _ _ us hl => match us, hl with | [_], _ => rfl) sp_apart (fun R => rd_apart fun _ => R) (fun cdv A outer s H E R wn hcd ht hE ag hr tk => by
  have S := sc_apart
  have hu := hr.units
  have hE := XEnd.at hE
  exact (dss_cons (ds_expr (d_useX g_require ht ag (hr.mono (by decide)) (fun σ => passAt tk σ) hE (by rfl) m_require p_require (da_cons (d_use g_is_list_of_stretches ht ag (hr.mono (by decide)) passZ (by rfl) m_is_list_of_stretches p_is_list_of_stretches (da_cons (d_var 0) da_nil)) da_nil)))
    (dss_cons (ds_asg (d_use g_innermost ht ag (hr.mono (by decide)) passZ (by rfl) m_innermost p_innermost (da_cons (d_var 0) da_nil)) (dg_tup rfl (dgs_cons (dg_name (i := 1) S.nd rfl (by first | exact Or.inl rfl | exact Or.inr rfl)) (dgs_cons (dg_name (i := 2) S.nd rfl (by first | exact Or.inl rfl | exact Or.inr rfl)) dgs_nil))))
    (dss_cons (ds_if (dt_cmp (o_ne hu) (d_use g_compared ht ag (hr.mono (by decide)) passZ (by rfl) m_compared p_compared (da_cons (d_var 1) (da_cons (d_var 2) da_nil))) d_int) (dss_one (ds_ret d_non)) dss_nil)
    (dss_one (ds_ret (d_tup (da_cons (d_index (d_lc (own := [("stretch", 3)]) rfl S.nd (di_list (d_var 0)) (blkOk_by (N := N_apart) (sc := defScope s_apart) (by decide +kernel)) (tgt1 3) (fun _ _ _ _ _ => pg_name (i := 3) S.nd rfl (Or.inl rfl)) (fun _ _ _ _ _ => pts_nilD) (fun _ _ _ _ _ => (d_ix (d_var 3) d_int))) (da_cons (d_var 1) da_nil) (fun a b => pe_bm PySem.F.plainAttrs_list PySem.F.slot_list_index PySem.F.type_list_index (mt_indexD (hu65 hr)) a b)) (da_cons (d_index (d_lc (own := [("stretch", 3)]) rfl S.nd (di_list (d_var 0)) (blkOk_by (N := N_apart) (sc := defScope s_apart) (by decide +kernel)) (tgt1 3) (fun _ _ _ _ _ => pg_name (i := 3) S.nd rfl (Or.inl rfl)) (fun _ _ _ _ _ => pts_nilD) (fun _ _ _ _ _ => (d_ix (d_var 3) d_int))) (da_cons (d_var 2) da_nil) (fun a b => pe_bm PySem.F.plainAttrs_list PySem.F.slot_list_index PySem.F.type_list_index (mt_indexD (hu65 hr)) a b)) da_nil))))))))) vc_apart
end
/-! is_weighted -/
abbrev s_is_weighted : Stmt := topS 29
abbrev N_is_weighted : List Str := ["thing"]
theorem sc_is_weighted : FnScope N_is_weighted ["thing"] (defScope s_is_weighted) := ⟨rfl, rfl, rfl, by decide +kernel, rfl, by decide +kernel, by decide +kernel⟩
def rd_is_weighted : DS := (tRetD (tAnV (tCallD (cIsi "tuple") (tConsD (tVarD 0) (tConsD (tRaw (.ty "tuple")) tNilD))) (tAnV (tBin (gEqv id) (tCallD cLen (tConsD (tVarD 0) tNilD)) (tCD (.int 2))) (tAnV (tUse sp_is_width (tConsD (tBin gIx (tVarD 0) (tCD (.int 0))) tNilD)) (tUse sp_is_stretch (tConsD (tBin gIx (tVarD 0) (tCD (.int 1))) tNilD))))))
def sp_is_weighted : DSp := fun us P => ∃ x, us = [.d x] ∧ OkP x ∧ P (.d (.bool (isPr x)))
theorem vc_is_weighted : ∀ dvs Q, sp_is_weighted dvs Q → dvs.length = 1 ∧ rd_is_weighted { nx := fun _ => Q (.d .none), rt := Q } (startD N_is_weighted dvs) := by
  rintro dvs Q ⟨x, rfl, ok, h⟩
  refine ⟨rfl, ?_⟩
  unfold rd_is_weighted
  have no : isPr x = false → Q (.d (.bool false)) := fun e => by rw [e] at h; exact h
  cases x with
  | tuple xs =>
    match xs, h, no, ok with
    | [], _, no, _ => walk_at "dl"; exact no rfl
    | [a], _, no, _ => walk_at "dl"; exact no rfl
    | a :: b :: c :: r, _, no, _ =>
      walk_at "dl"
      have e : ¬ (((r.length + 1 + 1 + 1 : Nat) : Int) = 2) := by omega
      simp only [e, decide_false, Bool.false_eq_true, if_false]
      exact no rfl
    | [a, b], h, no, ok =>
      walk_at "dl"
      simp only [Int.cast_ofNat_Int, decide_true, if_true]
      refine ⟨_, rfl, ?_⟩
      cases wa : isWd a with
      | false =>
        walk_at "dl"
        exact no (by simp [isPr, wa])
      | true =>
        walk_at "dl"
        refine ⟨_, rfl, ok a b rfl, ?_⟩
        simp only [isPr, wa, Bool.true_and] at h
        exact h
  | _ => walk_at "dl"; exact no rfl
section
variable {ts : List Addr} {P : Program} {w : World} {K : PySem.W.Frag} {mg : Str → Option Value} {base : Heap}
theorem ok_is_weighted {f : Addr} {fd : FuncData} (Fn : L2.Fun K "is_weighted" "is_weighted" s_is_weighted f fd) {f_is_width : Addr} (g_is_width : Fg P w K mg base (L2.CX P w) 3 f_is_width (Pm K ts sp_is_width)) (m_is_width : mg "is_width" = some (.ref f_is_width)) (p_is_width : PySem.W.keepIn K (.ref f_is_width) = true) {f_is_stretch : Addr} (g_is_stretch : Fg P w K mg base (L2.CX P w) 3 f_is_stretch (Pm K ts sp_is_stretch)) (m_is_stretch : mg "is_stretch" = some (.ref f_is_stretch)) (p_is_stretch : PySem.W.keepIn K (.ref f_is_stretch) = true) (z_isinstance : mg "isinstance" = none) (z_tuple : mg "tuple" = none) (z_len : mg "len" = none) : Fg P w K mg base (L2.CX P w) 4 f (Pm K ts sp_is_weighted) := d_def Fn sc_is_weighted (fun _ _ _ _ _ _ us hl => match us, hl with | [_], _ => rfl) sp_is_weighted rd_is_weighted (fun cdv A outer s H E wn hcd ht ag hr => by
  have S := sc_is_weighted
  have hu := hr.units
  exact (dss_one (ds_ret (d_and (d_callB (k_isi (n := "tuple") (by simp)) (by rfl) z_isinstance (by decide +kernel) (da_cons (d_var 0) (da_cons (d_ty (by rfl) z_tuple (by decide +kernel)) da_nil))) (d_and (d_cmp (o_eq hu) (d_callB k_len (by rfl) z_len (by decide +kernel) (da_cons (d_var 0) da_nil)) d_int) (d_and (d_use g_is_width ht ag (hr.mono (by decide)) passZ (by rfl) m_is_width p_is_width (da_cons (d_ix (d_var 0) d_int) da_nil)) (d_one (d_use g_is_stretch ht ag (hr.mono (by decide)) passZ (by rfl) m_is_stretch p_is_stretch (da_cons (d_ix (d_var 0) d_int) da_nil))))))))) vc_is_weighted
end
/-! is_mixture -/
abbrev s_is_mixture : Stmt := topS 28
abbrev N_is_mixture : List Str := ["thing", "pair"]
theorem sc_is_mixture : FnScope N_is_mixture ["thing"] (defScope s_is_mixture) := ⟨rfl, rfl, rfl, by decide +kernel, rfl, by decide +kernel, by decide +kernel⟩
def rd_is_mixture : DS := (tSeqD (tIfD (tOrD (tNotD (tTru (tCallD (cIsi "list") (tConsD (tVarD 0) (tConsD (tRaw (.ty "list")) tNilD))))) (tTst (tBin (gIn (fun i j => decide (j < i)) fun i j => decide (j.cps.toList < i.cps.toList)) (tCallD cLen (tConsD (tVarD 0) tNilD)) (tCD (.int 1000))))) (tRetD (tCD (.bool false))) (fun d env => d.nx env))
    (tRetD (tAll1 (itLst (tVarD 0)) (tUse sp_is_weighted (tConsD (tVarD 0) tNilD)) [])))
def sp_is_mixture : DSp := fun us P => ∃ x, us = [.d x] ∧ (∀ xs, x = .list xs → ∀ z ∈ xs, OkP z) ∧ P (.d (.bool (mixB x)))
theorem vc_is_mixture : ∀ dvs Q, sp_is_mixture dvs Q → dvs.length = 1 ∧ rd_is_mixture { nx := fun _ => Q (.d .none), rt := Q } (startD N_is_mixture dvs) := by
  rintro dvs Q ⟨x, rfl, ok, h⟩
  refine ⟨rfl, ?_⟩
  unfold rd_is_mixture
  cases x with
  | list xs =>
    have ok := ok xs rfl
    walk_at "dl"
    by_cases c2 : xs.length ≤ 1000
    · have c2' : ¬ (1000 : Int) < (xs.length : Nat) := by omega
      simp only [c2', decide_false, Bool.false_eq_true, if_false]
      simp only [mixB, c2, decide_true, Bool.true_and] at h
      refine ⟨isPr, fun z hz => ⟨z, rfl, ok z hz, ?_⟩, h⟩
      walk_at "dl"
    · have c2' : (1000 : Int) < (xs.length : Nat) := by omega
      simp only [c2', decide_true, if_true]
      simp only [mixB, c2, decide_false, Bool.false_and] at h
      exact h
  | _ => walk_at "dl"; exact h
section
variable {ts : List Addr} {P : Program} {w : World} {K : PySem.W.Frag} {mg : Str → Option Value} {base : Heap}
theorem ok_is_mixture {f : Addr} {fd : FuncData} (Fn : L2.Fun K "is_mixture" "is_mixture" s_is_mixture f fd) {f_is_weighted : Addr} (g_is_weighted : Fg P w K mg base (L2.CX P w) 4 f_is_weighted (Pm K ts sp_is_weighted)) (m_is_weighted : mg "is_weighted" = some (.ref f_is_weighted)) (p_is_weighted : PySem.W.keepIn K (.ref f_is_weighted) = true) (z_isinstance : mg "isinstance" = none) (z_list : mg "list" = none) (z_len : mg "len" = none) (z_all : mg "all" = none) {t_LONGEST_LIST : Tok} (c_LONGEST_LIST : mg "LONGEST_LIST" = some (.int 1000 t_LONGEST_LIST)) {e_is_mixture P_is_mixture : Addr} (tb_is_mixture : GxR.TabB base mg e_is_mixture P_is_mixture) (fc_is_mixture : fd.code = .ref e_is_mixture) (ti_is_mixture : P_is_mixture ∈ ts) : Fg P w K mg base (L2.CX P w) 6 f (Pm K ts sp_is_mixture) := d_def Fn sc_is_mixture (fun _ _ _ _ _ _ us hl => match us, hl with | [_], _ => rfl) sp_is_mixture rd_is_mixture (fun cdv A outer s H E wn hcd ht ag hr => by
  have S := sc_is_mixture
  have hu := hr.units
  exact (dss_cons (ds_if (dt_w (dw_or (dt_not (dt_e (d_callB (k_isi (n := "list") (by simp)) (by rfl) z_isinstance (by decide +kernel) (da_cons (d_var 0) (da_cons (d_ty (by rfl) z_list (by decide +kernel)) da_nil))))) (dw_or1 (dt_cmp o_gt (d_callB k_len (by rfl) z_len (by decide +kernel) (da_cons (d_var 0) da_nil)) (d_globI (by rfl) c_LONGEST_LIST))))) (dss_one (ds_ret d_bl)) dss_nil)
    (dss_one (ds_ret (d_all1 (N := ["pair"]) (caps := []) ht hr (by rfl) z_all tb_is_mixture (hcd.symm.trans fc_is_mixture) ti_is_mixture rfl rfl (by decide +kernel) (by rfl) (hfree0 (by decide +kernel)) (by show capOk ["pair"] N_is_mixture 1 [] _ (defScope s_is_mixture) = true; decide +kernel) (by decide) rfl (by rfl) (di_list (d_var 0)) (by intro _; rfl) (fun _ _ _ _ _ _ hA wn ht => by
      have ag := Eq.mpr (congrArg (fun a => Around.guards a = some []) hA) (loop_guards ag)
      have hr := Eq.mpr (congrArg (Room _) hA) (loop_room hr)
      have hu := hr.units
      exact (d_use g_is_weighted ht ag (hr.mono (by decide)) passZ (by rfl) m_is_weighted p_is_weighted (da_cons (d_var 0) da_nil)))))))) vc_is_mixture
end
/-! summed -/
abbrev s_summed : Stmt := topS 15
abbrev N_summed : List Str := ["some", "sums", "half", "one", "other"]
theorem sc_summed : FnScope N_summed ["some"] (defScope s_summed) := ⟨rfl, rfl, rfl, by decide +kernel, rfl, by decide +kernel, by decide +kernel⟩
def rd_summed : DS := (tSeqD (tSetD 1 (tOrV' (tVarD 0) (tLstD (tConsD (tCD (.tuple [(.int 0), (.int 1)])) tNilD))))
    (tSeqD (tWhD (tTst (tBin (gIn (fun i j => decide (j < i)) fun i j => decide (j.cps.toList < i.cps.toList)) (tCallD cLen (tConsD (tVarD 1) tNilD)) (tCD (.int 1)))) (tSeqD (fun d env => (tSetD 2 (tBin gFdiv (tCallD cLen (tConsD (tVarD 1) tNilD)) (tCD (.int 2)))) d (frzS 1 env))
        (tSetD 1 (tBin gAdd (tLcD (itZip (tConsD (tSlL (tVarD 1) oNone (oSome (tVarD 2))) (tConsD (tSlL (tVarD 1) (oSome (tVarD 2)) oNone) tNilD))) (gtD 2 (gconsD (gnD 3) (gconsD (gnD 4) gnilD))) (fun _ P => P true) (tUse sp_added (tConsD (tVarD 3) (tConsD (tVarD 4) tNilD))) [3, 4]) (tSlL (tVarD 1) (oSome (tBin gMul (tCD (.int 2)) (tVarD 2))) oNone)))))
    (tRetD (tBin gIx (tVarD 1) (tCD (.int 0))))))
def sp_summed : DSp := fun us P => ∃ (xs : List PyData) (ns : List Int) (D : Int), us = [.d (.list xs)] ∧ NuL D ns xs ∧ 0 < D ∧ D.natAbs < 2 ^ 4000 ∧ aS ns < 2 ^ 4000 ∧ xs.length ≤ 1000 ∧ ∀ s r, Nu D ns.sum s r → P (.d (.tuple [.int s, .int r]))
theorem half_sum {D : Int} {ms : List Int} {ys zs : List PyData} {h : Nat} (hm : NuL D ms ys) (hl : 2 * h ≤ ys.length) (hz : NuL D (addZ (ms.take h) (ms.drop h)) zs) : NuL D (addZ (ms.take h) (ms.drop h) ++ ms.drop (2 * h)) (zs ++ ys.drop (2 * h)) ∧ (addZ (ms.take h) (ms.drop h) ++ ms.drop (2 * h)).sum = ms.sum ∧ aS (addZ (ms.take h) (ms.drop h) ++ ms.drop (2 * h)) ≤ aS ms := by
  have e := hm.len
  have l1 : (ms.take h).length = h := by rw [List.length_take]; omega
  have l2 : (ms.take h).length ≤ (ms.drop h).length := by rw [l1, List.length_drop]; omega
  have d : (ms.drop h).drop (ms.take h).length = ms.drop (2 * h) := by rw [l1, List.drop_drop]; congr 1; omega
  have s1 := addZ_sum l2
  have s2 := addZ_aS l2
  rw [d] at s1 s2
  have tk : (ms.take h).sum + (ms.drop h).sum = ms.sum := by rw [← List.sum_append, List.take_append_drop]
  have tk2 : aS (ms.take h) + aS (ms.drop h) = aS ms := by rw [← aS_app, List.take_append_drop]
  exact ⟨hz.app (hm.drop _), by rw [List.sum_append, s1, tk], by rw [aS_app]; omega⟩
theorem zip_items {D : Int} : ∀ {as bs : List Int} {xs ys : List PyData}, NuL D as xs → NuL D bs ys → ∀ z ∈ zipD xs ys, ∃ n m p q u v, z = .tuple [.tuple [.int p, .int q], .tuple [.int u, .int v]] ∧ Nu D n p q ∧ Nu D m u v
  | _, _, _, _, .nil, _, z, hz => by cases hz
  | _, _, _, _, .cons _ _, .nil, z, hz => by cases hz
  | _, _, _, _, .cons a t, .cons b u, z, hz => by
    unfold zipD at hz
    rw [List.zip_cons_cons, List.map_cons] at hz
    rcases List.mem_cons.mp hz with rfl | hz
    · exact ⟨_, _, _, _, _, _, rfl, a, b⟩
    · exact zip_items t u z hz
theorem vc_summed : ∀ dvs Q, sp_summed dvs Q → dvs.length = 1 ∧ rd_summed { nx := fun _ => Q (.d .none), rt := Q } (startD N_summed dvs) := by
  rintro dvs Q ⟨xs, ns, D, rfl, hn, hD, hD2, hs, hl, h⟩
  refine ⟨rfl, ?_⟩
  have hD0 : D ≠ 0 := Int.ne_of_gt hD
  unfold rd_summed
  refine seqG fun R hR => ?_
  have rest : ∀ (slot : Sl) (ys : List PyData) (ms : List Int), (slot = .d (.list ys) ∨ ∃ l, slot = .ow l ys) → NuL D ms ys → ms.sum = ns.sum → aS ms < 2 ^ 4000 → ys ≠ [] → ys.length ≤ 1000 → R [.d (.list xs), slot, .un, .un, .un] := by
    intro slot ys ms hsl hm hsum ha hne hyl
    refine hR _ (seqG fun R2 hR2 => ?_)
    refine whD_ind (fun env => ∃ slot ys ms s2 s3 s4, env = [.d (.list xs), slot, s2, s3, s4] ∧ (slot = .d (.list ys) ∨ ∃ l, slot = .ow l ys) ∧ NuL D ms ys ∧ ms.sum = ns.sum ∧ aS ms < 2 ^ 4000 ∧ ys ≠ [] ∧ ys.length ≤ 1000)
      (fun env => match env with | [_, .d (.list ys), _, _, _] => ys.length | [_, .ow _ ys, _, _, _] => ys.length | _ => 0) (fun env R3 hI hR3 => ?_) ⟨slot, ys, ms, _, _, _, rfl, hsl, hm, hsum, ha, hne, hyl⟩
    obtain ⟨slot, ys, ms, s2, s3, s4, rfl, hsl, hm, hsum, ha, hne, hyl⟩ := hI
    have e0 : ∀ slot, (slot = .d (.list ys) ∨ ∃ l, slot = .ow l ys) → (match [Sl.d (.list xs), slot, s2, s3, s4] with | [_, .d (.list ys), _, _, _] => ys.length | [_, .ow _ ys, _, _, _] => ys.length | _ => 0) = ys.length := by
      intro slot h
      rcases h with rfl | ⟨l, rfl⟩ <;> rfl
    rw [e0 slot hsl] at hR3
    -- what is behind the test, whichever list it is
    have turn : 1 < ys.length → ∀ K : DV → Prop, (∀ (zs : List PyData) (ms' : List Int), NuL D ms' zs → ms'.sum = ns.sum → aS ms' < 2 ^ 4000 → zs ≠ [] → zs.length < ys.length → ∀ us vs : List PyData, us ++ vs = zs → vs = ys.drop (2 * (ys.length / 2)) → us.length ≤ 1000 → K (.fr us)) →
        tLcD (itZip (tConsD (tSlL (tVarD 1) oNone (oSome (tVarD 2))) (tConsD (tSlL (tVarD 1) (oSome (tVarD 2)) oNone) tNilD))) (gtD 2 (gconsD (gnD 3) (gconsD (gnD 4) gnilD))) (fun x P => P true) (tUse sp_added (tConsD (tVarD 3) (tConsD (tVarD 4) tNilD))) [3, 4]
          [Sl.d (.list xs), Sl.d (.list ys), Sl.d (.int ((ys.length / 2 : Nat) : Int)), s3, s4] K := by
      intro hlt K hK
      unfold tLcD
      walk_at "dl"
      rw [cut_from, cut_to]
      have up : ∀ {n p q : Int}, Nu D n p q → n.natAbs < 2 ^ 4000 → Fk 8000 p q := fun k hn => ⟨k.f, two_le (Nat.lt_of_le_of_lt (k.le hD0).2 hn) (by decide), two_le (Nat.lt_of_le_of_lt (k.le hD0).1 hD2) (by decide)⟩
      refine lcD_ind (fun zs acc => ∃ as bs : List Int, ∃ us vs, zs = zipD us vs ∧ NuL D as us ∧ NuL D bs vs ∧ as.length ≤ bs.length ∧ (∀ n ∈ as ++ bs, n.natAbs < 2 ^ 4000) ∧ acc.length + us.length = ys.length / 2 ∧ ∃ cs, NuL D cs acc ∧ cs ++ addZ as bs = addZ (ms.take (ys.length / 2)) (ms.drop (ys.length / 2))) (fun acc hI => ?_) (fun x zs acc R4 hI hR4 => ?_) _ _ ?_
      · obtain ⟨as, bs, us, vs, hz, ha1, hb1, hle, _, hlen, cs, hc, he⟩ := hI
        have u0 : as = [] ∧ us = [] := by
          cases ha1 with
          | nil => exact ⟨rfl, rfl⟩
          | cons _ _ =>
            cases hb1 with
            | nil => simp at hle
            | cons _ _ => cases hz
        obtain ⟨rfl, rfl⟩ := u0
        have he : cs = addZ (ms.take (ys.length / 2)) (ms.drop (ys.length / 2)) := by
          rw [← he]
          cases bs <;> simp [addZ]
        rw [he] at hc
        obtain ⟨g1, g2, g3⟩ := half_sum hm (by omega) hc
        rw [List.length_nil, Nat.add_zero] at hlen
        refine hK _ _ g1 (g2.trans hsum) (Nat.lt_of_le_of_lt g3 ha) (fun z => ?_) ?_ acc _ rfl rfl (by omega)
        · have := congrArg List.length z
          rw [List.length_append, List.length_nil] at this
          omega
        · rw [List.length_append, List.length_drop]; omega
      · obtain ⟨as, bs, us, vs, hz, ha1, hb1, hle, hb, hlen, cs, hc, he⟩ := hI
        cases ha1 with
        | nil => cases hz
        | @cons n p q as us a ta =>
          cases hb1 with
          | nil => cases hz
          | @cons m u v bs vs b tb =>
            have hz : x :: zs = .tuple [.tuple [.int p, .int q], .tuple [.int u, .int v]] :: zipD us vs := hz
            injection hz with hx hzs
            subst hx hzs
            have f1 := up a (hb n (by simp))
            have f2 := up b (hb m (by simp))
            walk_at "dl"
            refine ⟨p, q, u, v, rfl, a.f, b.f, f1.t, f1.b, f2.t, f2.b, fun s r k e => ?_⟩
            walk_at "dl"
            rw [List.length_cons] at hlen
            refine ⟨by omega, hR4 _ ⟨as, bs, us, vs, rfl, ta, tb, by simpa using hle, fun z hz => hb z ?_, by rw [List.length_append, List.length_singleton]; omega, cs ++ [n + m], hc.app (.cons (a.plus b k e) .nil), by rw [← he]; simp [addZ]⟩⟩
            rcases List.mem_append.mp hz with hz | hz
            · exact List.mem_append.mpr (.inl (List.mem_cons_of_mem _ hz))
            · exact List.mem_append.mpr (.inr (List.mem_cons_of_mem _ hz))
      · have e := hm.len
        refine ⟨_, _, _, _, rfl, hm.take _, hm.drop _, by rw [List.length_take, List.length_drop]; omega, fun n hn => ?_, by rw [List.length_take]; simp; omega, [], .nil, rfl⟩
        refine Nat.lt_of_le_of_lt (aS_mem (ns := ms) ?_) ha
        rw [← List.take_append_drop (ys.length / 2) ms]
        exact hn
    have e2 : ((ys.length : Nat) : Int).fdiv 2 = ((ys.length / 2 : Nat) : Int) := by
      rw [Int.fdiv_eq_ediv_of_nonneg _ (by decide)]; omega
    have hd2 : ys.length / 2 < 2 ^ 10 := by omega
    have lg : (Int.natAbs 2).log2 + (((ys.length / 2 : Nat) : Int)).natAbs.log2 < 1000000 := mul_log (a := 2) (m := 2) (n := 10) (by decide) (by rw [Int.natAbs_natCast]; exact hd2) (by decide) (by decide) (by decide)
    rcases hsl with rfl | ⟨l, rfl⟩
    · walk_at "dl"
      by_cases hlt : 1 < ys.length
      · have hlt2 : (1 : Int) < ys.length := by omega
        simp only [hlt2, decide_true, if_true]
        rw [e2]
        refine ⟨by decide, by decide, turn hlt _ fun zs ms' z1 z2 z3 z4 z5 us vs z6 z7 z8 => ?_⟩
        walk_at "dl"
        rw [show (2 : Int) * ((ys.length / 2 : Nat) : Int) = ((2 * (ys.length / 2) : Nat) : Int) by omega, cut_from, ← z7, ← List.length_append, z6]
        refine ⟨lg, by omega, fun l' => hR3 _ ⟨.ow l' zs, zs, ms', _, _, _, rfl, .inr ⟨l', rfl⟩, z1, z2, z3, z4, by omega⟩ ?_⟩
        exact z5
      · have hlt2 : ¬ (1 : Int) < ys.length := by omega
        simp only [hlt2, decide_false, Bool.false_eq_true, if_false]
        cases hm with
        | nil => exact (hne rfl).elim
        | @cons n p q _ _ a t =>
          cases t with
          | cons _ _ => exact (hlt (by simp)).elim
          | nil =>
            refine hR2 _ ?_
            walk_at "dl"
            have e3 : n = ns.sum := by rw [← hsum]; simp
            exact h _ _ (e3 ▸ a)
    · walk_at "dl"
      by_cases hlt : 1 < ys.length
      · have hlt2 : (1 : Int) < ys.length := by omega
        simp only [hlt2, decide_true, if_true]
        rw [e2]
        refine ⟨by decide, by decide, turn hlt _ fun zs ms' z1 z2 z3 z4 z5 us vs z6 z7 z8 => ?_⟩
        walk_at "dl"
        rw [show (2 : Int) * ((ys.length / 2 : Nat) : Int) = ((2 * (ys.length / 2) : Nat) : Int) by omega, cut_from, ← z7, ← List.length_append, z6]
        refine ⟨lg, by omega, fun l' => hR3 _ ⟨.ow l' zs, zs, ms', _, _, _, rfl, .inr ⟨l', rfl⟩, z1, z2, z3, z4, by omega⟩ ?_⟩
        exact z5
      · have hlt2 : ¬ (1 : Int) < ys.length := by omega
        simp only [hlt2, decide_false, Bool.false_eq_true, if_false]
        cases hm with
        | nil => exact (hne rfl).elim
        | @cons n p q _ _ a t =>
          cases t with
          | cons _ _ => exact (hlt (by simp)).elim
          | nil =>
            refine hR2 _ ?_
            walk_at "dl"
            have e3 : n = ns.sum := by rw [← hsum]; simp
            exact h _ _ (e3 ▸ a)
  walk_at "dl"
  cases hn with
  | nil => exact ⟨by decide, fun l => rest _ _ [0] (.inr ⟨l, rfl⟩) (.cons nu_zero .nil) rfl (by decide) (by simp) (by simp)⟩
  | cons a t => exact rest _ _ _ (.inl rfl) (.cons a t) rfl hs (by simp) hl
section
variable {ts : List Addr} {P : Program} {w : World} {K : PySem.W.Frag} {mg : Str → Option Value} {base : Heap}
theorem ok_summed {f : Addr} {fd : FuncData} (Fn : L2.Fun K "summed" "summed" s_summed f fd) {f_added : Addr} (g_added : Fg P w K mg base (L2.CX P w) 1 f_added (Pm K ts sp_added)) (m_added : mg "added" = some (.ref f_added)) (p_added : PySem.W.keepIn K (.ref f_added) = true) (z_len : mg "len" = none) (z_zip : mg "zip" = none) {u_NOUGHT : Value} {v_NOUGHT : V} (c_NOUGHT : mg "NOUGHT" = some u_NOUGHT) (r_NOUGHT : RelV v_NOUGHT u_NOUGHT) (e_NOUGHT : ∀ F, Rp K F v_NOUGHT (.tuple [(.int 0), (.int 1)])) : Fg P w K mg base (L2.CX P w) 2 f (Pm K ts sp_summed) := d_def Fn sc_summed (fun _ _ _ _ _ _ us hl => match us, hl with | [_], _ => rfl) sp_summed rd_summed (fun cdv A outer s H E wn hcd ht ag hr => by
  have S := sc_summed
  have hu := hr.units
  exact (dss_cons (ds_set (i := 1) S.nd rfl (by first | exact Or.inl rfl | exact Or.inr rfl) (d_or (d_var 0) (d_one (d_lst (da_cons (d_globC (by rfl) c_NOUGHT r_NOUGHT e_NOUGHT) da_nil)))))
    (dss_cons (ds_while PassesOwn.never (dt_cmp o_gt (d_callB k_len (by rfl) z_len (by decide +kernel) (da_cons (d_var 1) da_nil)) d_int) (dss_cons (ds_frz 1 (ds_set (i := 2) S.nd rfl (by first | exact Or.inl rfl | exact Or.inr rfl) (d_bin o_fdiv (d_callB k_len (by rfl) z_len (by decide +kernel) (da_cons (d_var 1) da_nil)) d_int)))
        (dss_one (ds_set (i := 1) S.nd rfl (by first | exact Or.inl rfl | exact Or.inr rfl) (d_bin o_add (d_lc (own := [("one", 3), ("other", 4)]) rfl S.nd (di_zip (by rfl) z_zip (da_cons (d_slL (d_var 1) do_none (do_some (d_var 2))) (da_cons (d_slL (d_var 1) (do_some (d_var 2)) do_none) da_nil))) (blkOk_by (N := N_summed) (sc := defScope s_summed) (by decide +kernel)) (tgt2 3 4 (by decide)) (fun _ _ _ _ _ => pg_tup rfl (pgs_cons (pg_name (i := 3) S.nd rfl (Or.inl rfl)) (pgs_cons (pg_name (i := 4) S.nd rfl (Or.inl rfl)) pgs_nil))) (fun _ _ _ _ _ => pts_nilD) (fun _ _ _ _ _ => (d_use g_added ht ag (hr.mono (by decide)) passZ (by rfl) m_added p_added (da_cons (d_var 3) (da_cons (d_var 4) da_nil))))) (d_slL (d_var 1) (do_some (d_bin o_mul d_int (d_var 2))) do_none))))))
    (dss_one (ds_ret (d_ix (d_var 1) d_int)))))) vc_summed
end
/-! in_lowest_terms -/
abbrev s_in_lowest_terms : Stmt := topS 11
abbrev N_in_lowest_terms : List Str := ["top", "bottom", "common"]
theorem sc_in_lowest_terms : FnScope N_in_lowest_terms ["top", "bottom"] (defScope s_in_lowest_terms) := ⟨rfl, rfl, rfl, by decide +kernel, rfl, by decide +kernel, by decide +kernel⟩
def rd_in_lowest_terms : DS := (tSeqD (tSetD 2 (tCallD cGcd (tConsD (tVarD 0) (tConsD (tVarD 1) tNilD))))
    (tSeqD (tIfD (tTst (tBin gLt (tVarD 1) (tCD (.int 0)))) (tSetD 2 (tUnD gNeg (tVarD 2))) (fun d env => d.nx env))
    (tRetD (tTupD (tConsD (tBin gFdiv (tVarD 0) (tVarD 2)) (tConsD (tBin gFdiv (tVarD 1) (tVarD 2)) tNilD))))))
def sp_in_lowest_terms : DSp := fun us P => ∃ t b : Int, us = [.d (.int t), .d (.int b)] ∧ b ≠ 0 ∧ b.natAbs.log2 < 9000 ∧ P (.d (.tuple [.int (loT t b), .int (loB t b)]))
theorem vc_in_lowest_terms : ∀ dvs Q, sp_in_lowest_terms dvs Q → dvs.length = 2 ∧ rd_in_lowest_terms { nx := fun _ => Q (.d .none), rt := Q } (startD N_in_lowest_terms dvs) := by
  rintro dvs Q ⟨t, b, rfl, hb, hs, h⟩
  refine ⟨rfl, ?_⟩
  have hp : 0 < Int.gcd t b := gcd_pos hb
  have hl : (Int.gcd t b).log2 < 9000 := log_lt (by decide) (Nat.lt_of_le_of_lt (gcd_le hb) (lt_two hs))
  have d1 : ((Int.gcd t b : Nat) : Int) ∣ t := Int.gcd_dvd_left _ _
  have d2 : ((Int.gcd t b : Nat) : Int) ∣ b := Int.gcd_dvd_right _ _
  have eg : t.natAbs.gcd b.natAbs = Int.gcd t b := rfl
  unfold rd_in_lowest_terms
  by_cases hn : b < 0
  · walk_at "dl"
    simp only [eg, hn, decide_true, if_true]
    refine ⟨by omega, by rw [Int.natAbs_neg, Int.natAbs_natCast]; exact hl, by omega, by rw [Int.natAbs_neg, Int.natAbs_natCast]; exact hl, by decide, ?_⟩
    rw [Int.fdiv_eq_ediv_of_dvd (Int.neg_dvd.mpr d1), Int.fdiv_eq_ediv_of_dvd (Int.neg_dvd.mpr d2), Int.ediv_neg, Int.ediv_neg]
    rw [loT, loB, if_pos hn, if_pos hn] at h
    exact h
  · walk_at "dl"
    simp only [eg, hn, decide_false, Bool.false_eq_true, if_false]
    refine ⟨by omega, by rw [Int.natAbs_natCast]; exact hl, by omega, by rw [Int.natAbs_natCast]; exact hl, by decide, ?_⟩
    rw [Int.fdiv_eq_ediv_of_dvd d1, Int.fdiv_eq_ediv_of_dvd d2]
    rw [loT, loB, if_neg hn, if_neg hn] at h
    exact h
section
variable {ts : List Addr} {P : Program} {w : World} {K : PySem.W.Frag} {mg : Str → Option Value} {base : Heap}
theorem ok_in_lowest_terms {f : Addr} {fd : FuncData} (Fn : L2.Fun K "in_lowest_terms" "in_lowest_terms" s_in_lowest_terms f fd) (i_gcd : mg "gcd" = some (.builtin "math.gcd")) : Fg P w K mg base (L2.CX P w) 1 f (Pm K ts sp_in_lowest_terms) := d_def Fn sc_in_lowest_terms (fun _ _ _ _ _ _ us hl => match us, hl with | [_, _], _ => rfl) sp_in_lowest_terms rd_in_lowest_terms (fun cdv A outer s H E wn hcd ht ag hr => by
  have S := sc_in_lowest_terms
  have hu := hr.units
  exact (dss_cons (ds_set (i := 2) S.nd rfl (by first | exact Or.inl rfl | exact Or.inr rfl) (d_callM k_gcd (by rfl) i_gcd (da_cons (d_var 0) (da_cons (d_var 1) da_nil))))
    (dss_cons (ds_if (dt_cmp o_lt (d_var 1) d_int) (dss_one (ds_set (i := 2) S.nd rfl (by first | exact Or.inl rfl | exact Or.inr rfl) (d_neg (d_var 2)))) dss_nil)
    (dss_one (ds_ret (d_tup (da_cons (d_bin o_fdiv (d_var 0) (d_var 2)) (da_cons (d_bin o_fdiv (d_var 1) (d_var 2)) da_nil)))))))) vc_in_lowest_terms
end
/-! multiplied -/
abbrev s_multiplied : Stmt := topS 14
abbrev N_multiplied : List Str := ["one", "other"]
theorem sc_multiplied : FnScope N_multiplied ["one", "other"] (defScope s_multiplied) := ⟨rfl, rfl, rfl, by decide +kernel, rfl, by decide +kernel, by decide +kernel⟩
def rd_multiplied : DS := (tRetD (tUse sp_in_lowest_terms (tConsD (tBin gMul (tBin gIx (tVarD 0) (tCD (.int 0))) (tBin gIx (tVarD 1) (tCD (.int 0)))) (tConsD (tBin gMul (tBin gIx (tVarD 0) (tCD (.int 1))) (tBin gIx (tVarD 1) (tCD (.int 1)))) tNilD))))
def sp_multiplied : DSp := fun us P => ∃ p q u v : Int, us = [.d (.tuple [.int p, .int q]), .d (.tuple [.int u, .int v])] ∧ Frac p q ∧ Frac u v ∧ p.natAbs < 2 ^ 4400 ∧ q.natAbs < 2 ^ 4400 ∧ u.natAbs < 2 ^ 4400 ∧ v.natAbs < 2 ^ 4400 ∧
  ∀ s r, Frac s r → (p * u) * r = (q * v) * s → P (.d (.tuple [.int s, .int r]))
theorem vc_multiplied : ∀ dvs Q, sp_multiplied dvs Q → dvs.length = 2 ∧ rd_multiplied { nx := fun _ => Q (.d .none), rt := Q } (startD N_multiplied dvs) := by
  rintro dvs Q ⟨p, q, u, v, rfl, f, g, sp, sq, su, sv, h⟩
  refine ⟨rfl, ?_⟩
  have hq := f.pos
  have hv := g.pos
  have hb : q * v ≠ 0 := Int.mul_ne_zero (Int.ne_of_gt hq) (Int.ne_of_gt hv)
  obtain ⟨k1, k2⟩ := lo_ok (t := p * u) hb
  unfold rd_multiplied
  walk_at "dl"
  exact ⟨mul_log sp su (by decide) (by decide) (by decide), mul_log sq sv (by decide) (by decide) (by decide), p * u, q * v, rfl, hb, log_le (natAbs_mul_lt sq sv) (by decide) (by decide), h _ _ k1 k2⟩
section
variable {ts : List Addr} {P : Program} {w : World} {K : PySem.W.Frag} {mg : Str → Option Value} {base : Heap}
theorem ok_multiplied {f : Addr} {fd : FuncData} (Fn : L2.Fun K "multiplied" "multiplied" s_multiplied f fd) {f_in_lowest_terms : Addr} (g_in_lowest_terms : Fg P w K mg base (L2.CX P w) 1 f_in_lowest_terms (Pm K ts sp_in_lowest_terms)) (m_in_lowest_terms : mg "in_lowest_terms" = some (.ref f_in_lowest_terms)) (p_in_lowest_terms : PySem.W.keepIn K (.ref f_in_lowest_terms) = true) : Fg P w K mg base (L2.CX P w) 2 f (Pm K ts sp_multiplied) := d_def Fn sc_multiplied (fun _ _ _ _ _ _ us hl => match us, hl with | [_, _], _ => rfl) sp_multiplied rd_multiplied (fun cdv A outer s H E wn hcd ht ag hr => by
  have S := sc_multiplied
  have hu := hr.units
  exact (dss_one (ds_ret (d_use g_in_lowest_terms ht ag (hr.mono (by decide)) passZ (by rfl) m_in_lowest_terms p_in_lowest_terms (da_cons (d_bin o_mul (d_ix (d_var 0) d_int) (d_ix (d_var 1) d_int)) (da_cons (d_bin o_mul (d_ix (d_var 0) d_int) (d_ix (d_var 1) d_int)) da_nil)))))) vc_multiplied
end
/-! mixed -/
abbrev s_mixed : Stmt := topS 22
abbrev N_mixed : List Str := ["parts", "low", "weight", "stretch", "high"]
theorem sc_mixed : FnScope N_mixed ["parts"] (defScope s_mixed) := ⟨rfl, rfl, rfl, by decide +kernel, rfl, by decide +kernel, by decide +kernel⟩
def rd_mixed (R : List Sl → XD) : DS := (tSeqD (tDropD (tUseX sp_require R (tConsD (tUse sp_is_mixture (tConsD (tVarD 0) tNilD)) tNilD)))
    (tSeqD (tSetD 1 (tUse sp_summed (tConsD (tLcD (itLst (tVarD 0)) (gtD 2 (gconsD (gnD 2) (gconsD (gnD 3) gnilD))) (fun _ P => P true) (tUse sp_multiplied (tConsD (tVarD 2) (tConsD (tBin gIx (tVarD 3) (tCD (.int 0))) tNilD))) [2, 3]) tNilD)))
    (tSeqD (tSetD 4 (tUse sp_summed (tConsD (tLcD (itLst (tVarD 0)) (gtD 2 (gconsD (gnD 2) (gconsD (gnD 3) gnilD))) (fun _ P => P true) (tUse sp_multiplied (tConsD (tVarD 2) (tConsD (tBin gIx (tVarD 3) (tCD (.int 1))) tNilD))) [2, 3]) tNilD)))
    (tRetD (tTupD (tConsD (tVarD 1) (tConsD (tVarD 4) tNilD)))))))
def MixOk (m : Nat) (xs : List PyData) : Prop := ∃ D : Int, 0 < D ∧ D.natAbs < 2 ^ m ∧ ∀ z ∈ xs, isPr z = true → Pr D z
def sp_mixed : DSpX := fun us P R => ∃ x, us = [.d x] ∧ (∀ xs, x = .list xs → (∀ z ∈ xs, OkP z) ∧ MixOk 2700 xs) ∧ (mixB x = false → R "Wrong" "at" (.int 0)) ∧ (mixB x = true → ∀ z, P (.d z))
theorem aS_pr {D : Int} {xs : List PyData} (hl : xs.length ≤ 1000) (hD2 : D.natAbs < 2 ^ 2700) (hx : ∀ z ∈ xs, Pr D z) : aS (xs.map (nLo D)) < 2 ^ 3300 ∧ aS (xs.map (nHi D)) < 2 ^ 3300 := by
  have one : ∀ f : PyData → Int, (∀ z ∈ xs, (f z).natAbs < 2 ^ 3240) → aS (xs.map f) < 2 ^ 3300 := fun f hf => by
    have h : aS (xs.map f) ≤ (xs.map f).length * 2 ^ 3240 := aS_le fun n hn => by
      obtain ⟨x, hx2, rfl⟩ := List.mem_map.mp hn
      exact Nat.le_of_lt (hf x hx2)
    rw [List.length_map] at h
    have h2 : xs.length * 2 ^ 3240 ≤ 1000 * 2 ^ 3240 := Nat.mul_le_mul_right _ hl
    exact Nat.lt_of_le_of_lt (Nat.le_trans h h2) (by decide)
  exact ⟨one _ fun z hz => (part_lt (hx z hz) hD2).1, one _ fun z hz => (part_lt (hx z hz) hD2).2⟩
theorem vc_mixed : ∀ dvs Q R, sp_mixed dvs Q R → dvs.length = 1 ∧ rd_mixed (fun _ => R) { nx := fun _ => Q (.d .none), rt := Q } (startD N_mixed dvs) := by
  rintro dvs Q Rx ⟨x, rfl, ok, h0, h2⟩
  refine ⟨rfl, ?_⟩
  have up : ∀ {n : Nat}, n < 2 ^ 3300 → n < 2 ^ 4000 := fun z => two_le z (by decide)
  unfold rd_mixed
  refine seqG fun R hR => ?_
  walk_at "dl"
  refine ⟨_, rfl, fun xs e => (ok xs e).1, ?_⟩
  walk_at "dl"
  refine one_req h0 fun hb => ?_
  obtain ⟨xs, rfl, hl, ha⟩ : ∃ xs, x = .list xs ∧ xs.length ≤ 1000 ∧ ∀ z ∈ xs, isPr z = true := by
    unfold mixB at hb
    split at hb
    · simp only [Bool.and_eq_true, decide_eq_true_eq, List.all_eq_true] at hb
      exact ⟨_, rfl, hb⟩
    · cases hb
  obtain ⟨D, hD, hD2, hx⟩ := (ok xs rfl).2
  have hx : ∀ z ∈ xs, Pr D z := fun z hz => hx z hz (ha z hz)
  obtain ⟨s1, s2⟩ := aS_pr hl hD2 hx
  refine hR _ (seqG fun R hR => ?_)
  walk_at "dl"
  unfold tLcD
  walk_at "dl"
  refine lcD_ind (fun zs acc => ∃ done, done ++ zs = xs ∧ NuL D (done.map (nLo D)) acc) (fun acc hI => ?_) (fun z zs acc R2 hI hR2 => ?_) _ _ ⟨[], rfl, .nil⟩
  · obtain ⟨done, e, hn⟩ := hI
    rw [List.append_nil] at e
    subst e
    walk_at "dl"
    refine ⟨acc, _, D, rfl, hn, hD, two_le hD2 (by decide), up s1, by rw [← hn.len, List.length_map]; exact hl, fun s r ks => ?_⟩
    walk_at "dl"
    refine hR _ (seqG fun R hR => ?_)
    walk_at "dl"
    unfold tLcD
    walk_at "dl"
    refine lcD_ind (fun zs acc => ∃ dn, dn ++ zs = done ∧ NuL D (dn.map (nHi D)) acc) (fun acc2 hI => ?_) (fun z zs acc2 R2 hI hR2 => ?_) _ _ ⟨[], rfl, .nil⟩
    · obtain ⟨dn, e, hn2⟩ := hI
      rw [List.append_nil] at e
      subst e
      walk_at "dl"
      refine ⟨acc2, _, D, rfl, hn2, hD, two_le hD2 (by decide), up s2, by rw [← hn2.len, List.length_map]; exact hl, fun s' r' ks' => ?_⟩
      walk_at "dl"
      refine hR _ ?_
      walk_at "dl"
      exact ⟨by decide, h2 hb _⟩
    · obtain ⟨dn, e, hn2⟩ := hI
      have e' : (dn ++ [z]) ++ zs = done := by rw [← e, List.append_assoc]; rfl
      obtain ⟨a, b, p, q, u, v, E, rfl, ha, h0, hp, hu, _, hDE, _, _, eh⟩ := pr_at (hx z (by rw [← e]; simp))
      have hlen := congrArg List.length e
      rw [List.length_append, List.length_cons] at hlen
      have hal := hn2.len
      rw [List.length_map] at hal
      walk_at "dl"
      refine ⟨a, b, u, v, rfl, ha.f, hu.f, two_le ha.t (by decide), two_le ha.b (by decide), two_le hu.t (by decide), two_le hu.b (by decide), fun s' r' k e2 => ?_⟩
      walk_at "dl"
      refine ⟨by omega, hR2 _ ⟨_, e', ?_⟩⟩
      rw [List.map_append]
      refine hn2.app (.cons ?_ .nil)
      rw [eh]
      exact nu_hi hDE k e2
  · obtain ⟨dn, e, hn⟩ := hI
    have e' : (dn ++ [z]) ++ zs = xs := by rw [← e, List.append_assoc]; rfl
    obtain ⟨a, b, p, q, u, v, E, rfl, ha, h0, hp, hu, _, hDE, _, el, _⟩ := pr_at (hx z (by rw [← e]; simp))
    have hlen := congrArg List.length e
    rw [List.length_append, List.length_cons] at hlen
    have hal := hn.len
    rw [List.length_map] at hal
    walk_at "dl"
    refine ⟨a, b, p, q, rfl, ha.f, hp.f, two_le ha.t (by decide), two_le ha.b (by decide), two_le hp.t (by decide), two_le hp.b (by decide), fun s' r' k e2 => ?_⟩
    walk_at "dl"
    refine ⟨by omega, hR2 _ ⟨_, e', ?_⟩⟩
    rw [List.map_append]
    refine hn.app (.cons ?_ .nil)
    rw [el]
    exact nu_lo hDE k e2
section
variable {ts : List Addr} {P : Program} {w : World} {K : PySem.W.Frag} {mg : Str → Option Value} {base : Heap}
theorem ok_mixed {f : Addr} {fd : FuncData} (Fn : L2.Fun K "mixed" "mixed" s_mixed f fd) {f_require : Addr} (g_require : Fg P w K mg base (L2.CX P w) 3 f_require (PmX mg K ts sp_require)) (m_require : mg "require" = some (.ref f_require)) (p_require : PySem.W.keepIn K (.ref f_require) = true) {f_is_mixture : Addr} (g_is_mixture : Fg P w K mg base (L2.CX P w) 6 f_is_mixture (Pm K ts sp_is_mixture)) (m_is_mixture : mg "is_mixture" = some (.ref f_is_mixture)) (p_is_mixture : PySem.W.keepIn K (.ref f_is_mixture) = true) {f_summed : Addr} (g_summed : Fg P w K mg base (L2.CX P w) 2 f_summed (Pm K ts sp_summed)) (m_summed : mg "summed" = some (.ref f_summed)) (p_summed : PySem.W.keepIn K (.ref f_summed) = true) {f_multiplied : Addr} (g_multiplied : Fg P w K mg base (L2.CX P w) 2 f_multiplied (Pm K ts sp_multiplied)) (m_multiplied : mg "multiplied" = some (.ref f_multiplied)) (p_multiplied : PySem.W.keepIn K (.ref f_multiplied) = true) : Fg P w K mg base (L2.CX P w) 7 f (PmX mg K ts sp_mixed) := d_defX Fn sc_mixed (fun _ _ _ _ _ _ us hl => match us, hl with | [_], _ => rfl) sp_mixed (fun R => rd_mixed fun _ => R) (fun cdv A outer s H E R wn hcd ht hE ag hr tk => by
  have S := sc_mixed
  have hu := hr.units
  have hE := XEnd.at hE
  exact (dss_cons (ds_expr (d_useX g_require ht ag (hr.mono (by decide)) (fun σ => passAt tk σ) hE (by rfl) m_require p_require (da_cons (d_use g_is_mixture ht ag (hr.mono (by decide)) passZ (by rfl) m_is_mixture p_is_mixture (da_cons (d_var 0) da_nil)) da_nil)))
    (dss_cons (ds_set (i := 1) S.nd rfl (by first | exact Or.inl rfl | exact Or.inr rfl) (d_use g_summed ht ag (hr.mono (by decide)) passZ (by rfl) m_summed p_summed (da_cons (d_lc (own := [("weight", 2), ("stretch", 3)]) rfl S.nd (di_list (d_var 0)) (blkOk_by (N := N_mixed) (sc := defScope s_mixed) (by decide +kernel)) (tgt2 2 3 (by decide)) (fun _ _ _ _ _ => pg_tup rfl (pgs_cons (pg_name (i := 2) S.nd rfl (Or.inl rfl)) (pgs_cons (pg_name (i := 3) S.nd rfl (Or.inl rfl)) pgs_nil))) (fun _ _ _ _ _ => pts_nilD) (fun _ _ _ _ _ => (d_use g_multiplied ht ag (hr.mono (by decide)) passZ (by rfl) m_multiplied p_multiplied (da_cons (d_var 2) (da_cons (d_ix (d_var 3) d_int) da_nil))))) da_nil)))
    (dss_cons (ds_set (i := 4) S.nd rfl (by first | exact Or.inl rfl | exact Or.inr rfl) (d_use g_summed ht ag (hr.mono (by decide)) passZ (by rfl) m_summed p_summed (da_cons (d_lc (own := [("weight", 2), ("stretch", 3)]) rfl S.nd (di_list (d_var 0)) (blkOk_by (N := N_mixed) (sc := defScope s_mixed) (by decide +kernel)) (tgt2 2 3 (by decide)) (fun _ _ _ _ _ => pg_tup rfl (pgs_cons (pg_name (i := 2) S.nd rfl (Or.inl rfl)) (pgs_cons (pg_name (i := 3) S.nd rfl (Or.inl rfl)) pgs_nil))) (fun _ _ _ _ _ => pts_nilD) (fun _ _ _ _ _ => (d_use g_multiplied ht ag (hr.mono (by decide)) passZ (by rfl) m_multiplied p_multiplied (da_cons (d_var 2) (da_cons (d_ix (d_var 3) d_int) da_nil))))) da_nil)))
    (dss_one (ds_ret (d_tup (da_cons (d_var 1) (da_cons (d_var 4) da_nil))))))))) vc_mixed
end
/-! _law_call -/
abbrev s__law_call : Stmt := topS 50
abbrev N__law_call : List Str := ["_law_door", "_law_one", "_law_other"]
theorem sc__law_call : FnScope N__law_call ["_law_door", "_law_one", "_law_other"] (defScope s__law_call) := ⟨rfl, rfl, rfl, by decide +kernel, rfl, by decide +kernel, by decide +kernel⟩
def rd__law_call (R : List Sl → XD) : DS := (tSeqD (tIfD (tTst (tBin (gEqv id) (tVarD 0) (tCD (.str "widened")))) (tRetD (tUseX sp_widened R (tConsD (tVarD 1) (tConsD (tVarD 2) tNilD)))) (fun d env => d.nx env))
    (tSeqD (tIfD (tTst (tBin (gEqv id) (tVarD 0) (tCD (.str "holds")))) (tRetD (tUseX sp_holds R (tConsD (tVarD 1) (tConsD (tVarD 2) tNilD)))) (fun d env => d.nx env))
    (tSeqD (tIfD (tTst (tBin (gEqv id) (tVarD 0) (tCD (.str "width")))) (tRetD (tUseX sp_width R (tConsD (tVarD 1) tNilD))) (fun d env => d.nx env))
    (tSeqD (tIfD (tTst (tBin (gEqv id) (tVarD 0) (tCD (.str "meeting")))) (tRetD (tUseX sp_meeting R (tConsD (tVarD 1) tNilD))) (fun d env => d.nx env))
    (tSeqD (tIfD (tTst (tBin (gEqv id) (tVarD 0) (tCD (.str "apart")))) (tRetD (tUseX sp_apart R (tConsD (tVarD 1) tNilD))) (fun d env => d.nx env))
    (tRetD (tUseX sp_mixed R (tConsD (tVarD 1) tNilD))))))))
def doorL : List Str := ["widened", "holds", "width", "meeting", "apart", "mixed"]
structure Rdy (door : Str) (x y : PyData) : Prop where
  dr : door ∈ doorL
  row : (door = "meeting" ∨ door = "apart") → ∀ xs, x = .list xs → xs.length ≤ 2000 ∧ ∀ z ∈ xs, ThS z
  mix : door = "mixed" → ∀ xs, x = .list xs → xs.length ≤ 2000 ∧ (∀ z ∈ xs, PS z) ∧ MixOk 2700 xs
  one : (door = "widened" ∨ door = "holds" ∨ door = "width") → ThS x
  bes : (isFr y = true → FrM y) ∧ Szf y
/-- the place that is refused -/
def dueB (door : Str) (x y : PyData) : Option Int :=
  if door = "meeting" ∨ door = "apart" then (if rowB x = true then none else some 0)
  else if door = "mixed" then (if mixB x = true then none else some 0)
  else if isSt x = true then (if door = "widened" ∧ isWd y = false ∨ door = "holds" ∧ isFr y = false then some 1 else none)
  else some 0
def sp__law_call : DSpX := fun us P R => ∃ (door : Str) (x y : PyData), us = [.d (.str door), .d x, .d y] ∧ Rdy door x y ∧ (dueB door x y = none → ∀ z, P (.d z)) ∧ (∀ k, dueB door x y = some k → R "Wrong" "at" (.int k))
theorem vc__law_call : ∀ dvs Q R, sp__law_call dvs Q R → dvs.length = 3 ∧ rd__law_call (fun _ => R) { nx := fun _ => Q (.d .none), rt := Q } (startD N__law_call dvs) := by
  rintro dvs Q R ⟨door, x, y, rfl, rdy, h0, h1⟩
  refine ⟨rfl, ?_⟩
  have hd := rdy.dr
  unfold rd__law_call
  simp only [doorL, List.mem_cons, List.not_mem_nil, or_false] at hd
  have e1 : ("widened" : Str) ≠ "meeting" ∧ ("widened" : Str) ≠ "apart" ∧ ("widened" : Str) ≠ "mixed" ∧ ("widened" : Str) ≠ "holds" := by decide +kernel
  have e2 : ("holds" : Str) ≠ "meeting" ∧ ("holds" : Str) ≠ "apart" ∧ ("holds" : Str) ≠ "mixed" ∧ ("holds" : Str) ≠ "widened" := by decide +kernel
  have e3 : ("width" : Str) ≠ "meeting" ∧ ("width" : Str) ≠ "apart" ∧ ("width" : Str) ≠ "mixed" ∧ ("width" : Str) ≠ "widened" ∧ ("width" : Str) ≠ "holds" := by decide +kernel
  have e6 : ("mixed" : Str) ≠ "meeting" ∧ ("mixed" : Str) ≠ "apart" := by decide +kernel
  rcases hd with rfl | rfl | rfl | rfl | rfl | rfl
  · have hs := rdy.one (.inl rfl)
    have d : dueB "widened" x y = if isSt x = true then (if isWd y = false then some 1 else none) else some 0 := by
      unfold dueB
      simp only [e1.1, e1.2.1, e1.2.2.1, e1.2.2.2, or_self, false_and, or_false, true_and, if_false]
    rw [d] at h0 h1
    walk_at "dl"
    rw [if_pos (by decide +kernel)]
    refine ⟨x, y, rfl, hs.1, rdy.bes.1, fun a => h1 0 (by rw [a]; rfl), fun a b => h1 1 (by rw [a, b]; rfl), fun a b z => h0 (by rw [a, b]; rfl) z⟩
  · have hs := rdy.one (.inr (.inl rfl))
    have d : dueB "holds" x y = if isSt x = true then (if isFr y = false then some 1 else none) else some 0 := by
      unfold dueB
      simp only [e2.1, e2.2.1, e2.2.2.1, e2.2.2.2, or_self, false_and, false_or, true_and, if_false]
    rw [d] at h0 h1
    refine seqG fun R hR => ?_
    walk_at "dl"
    rw [if_neg (by decide +kernel)]
    refine hR _ (seqG fun R hR => ?_)
    walk_at "dl"
    rw [if_pos (by decide +kernel)]
    refine ⟨x, y, rfl, hs.1, rdy.bes.1, fun a => h1 0 (by rw [a]; rfl), fun a b => h1 1 (by rw [a, b]; rfl), fun a b z => h0 (by rw [a, b]; rfl) z⟩
  · have hs := rdy.one (.inr (.inr rfl))
    have d : dueB "width" x y = if isSt x = true then none else some 0 := by
      unfold dueB
      simp only [e3.1, e3.2.1, e3.2.2.1, e3.2.2.2.1, e3.2.2.2.2, or_self, false_and, if_false]
    rw [d] at h0 h1
    refine seqG fun R hR => ?_
    walk_at "dl"
    rw [if_neg (by decide +kernel)]
    refine hR _ (seqG fun R hR => ?_)
    walk_at "dl"
    rw [if_neg (by decide +kernel)]
    refine hR _ (seqG fun R hR => ?_)
    walk_at "dl"
    rw [if_pos (by decide +kernel)]
    refine ⟨x, rfl, hs.1, fun a => h1 0 (by rw [a]; rfl), fun a z => h0 (by rw [a]; rfl) z⟩
  · have hs := rdy.row (.inl rfl)
    have d : dueB "meeting" x y = if rowB x = true then none else some 0 := by
      unfold dueB
      rw [if_pos (.inl rfl)]
    rw [d] at h0 h1
    refine seqG fun R hR => ?_
    walk_at "dl"
    rw [if_neg (by decide +kernel)]
    refine hR _ (seqG fun R hR => ?_)
    walk_at "dl"
    rw [if_neg (by decide +kernel)]
    refine hR _ (seqG fun R hR => ?_)
    walk_at "dl"
    rw [if_neg (by decide +kernel)]
    refine hR _ (seqG fun R hR => ?_)
    walk_at "dl"
    rw [if_pos (by decide +kernel)]
    refine ⟨x, rfl, fun xs e z hz => ((hs xs e).2 z hz).1, fun a => h1 0 (by rw [a]; rfl), fun a z => h0 (by rw [a]; rfl) z⟩
  · have hs := rdy.row (.inr rfl)
    have d : dueB "apart" x y = if rowB x = true then none else some 0 := by
      unfold dueB
      rw [if_pos (.inr rfl)]
    rw [d] at h0 h1
    refine seqG fun R hR => ?_
    walk_at "dl"
    rw [if_neg (by decide +kernel)]
    refine hR _ (seqG fun R hR => ?_)
    walk_at "dl"
    rw [if_neg (by decide +kernel)]
    refine hR _ (seqG fun R hR => ?_)
    walk_at "dl"
    rw [if_neg (by decide +kernel)]
    refine hR _ (seqG fun R hR => ?_)
    walk_at "dl"
    rw [if_neg (by decide +kernel)]
    refine hR _ (seqG fun R hR => ?_)
    walk_at "dl"
    rw [if_pos (by decide +kernel)]
    refine ⟨x, rfl, fun xs e z hz => ((hs xs e).2 z hz).1, fun a => h1 0 (by rw [a]; rfl), fun a z => h0 (by rw [a]; rfl) z⟩
  · have hs := rdy.mix rfl
    have d : dueB "mixed" x y = if mixB x = true then none else some 0 := by
      unfold dueB
      simp only [e6.1, e6.2, or_self, if_false, if_true]
    rw [d] at h0 h1
    refine seqG fun R hR => ?_
    walk_at "dl"
    rw [if_neg (by decide +kernel)]
    refine hR _ (seqG fun R hR => ?_)
    walk_at "dl"
    rw [if_neg (by decide +kernel)]
    refine hR _ (seqG fun R hR => ?_)
    walk_at "dl"
    rw [if_neg (by decide +kernel)]
    refine hR _ (seqG fun R hR => ?_)
    walk_at "dl"
    rw [if_neg (by decide +kernel)]
    refine hR _ (seqG fun R hR => ?_)
    walk_at "dl"
    rw [if_neg (by decide +kernel)]
    refine hR _ ?_
    walk_at "dl"
    refine ⟨x, rfl, fun xs e => ⟨fun z hz a b e2 => ((hs xs e).2.1 z hz a b e2).2.1, (hs xs e).2.2⟩, fun a => h1 0 (by rw [a]; rfl), fun a z => h0 (by rw [a]; rfl) z⟩
section
variable {ts : List Addr} {P : Program} {w : World} {K : PySem.W.Frag} {mg : Str → Option Value} {base : Heap}
theorem ok__law_call {f : Addr} {fd : FuncData} (Fn : L2.Fun K "_law_call" "_law_call" s__law_call f fd) {f_widened : Addr} (g_widened : Fg P w K mg base (L2.CX P w) 4 f_widened (PmX mg K ts sp_widened)) (m_widened : mg "widened" = some (.ref f_widened)) (p_widened : PySem.W.keepIn K (.ref f_widened) = true) {f_holds : Addr} (g_holds : Fg P w K mg base (L2.CX P w) 4 f_holds (PmX mg K ts sp_holds)) (m_holds : mg "holds" = some (.ref f_holds)) (p_holds : PySem.W.keepIn K (.ref f_holds) = true) {f_width : Addr} (g_width : Fg P w K mg base (L2.CX P w) 4 f_width (PmX mg K ts sp_width)) (m_width : mg "width" = some (.ref f_width)) (p_width : PySem.W.keepIn K (.ref f_width) = true) {f_meeting : Addr} (g_meeting : Fg P w K mg base (L2.CX P w) 6 f_meeting (PmX mg K ts sp_meeting)) (m_meeting : mg "meeting" = some (.ref f_meeting)) (p_meeting : PySem.W.keepIn K (.ref f_meeting) = true) {f_apart : Addr} (g_apart : Fg P w K mg base (L2.CX P w) 6 f_apart (PmX mg K ts sp_apart)) (m_apart : mg "apart" = some (.ref f_apart)) (p_apart : PySem.W.keepIn K (.ref f_apart) = true) {f_mixed : Addr} (g_mixed : Fg P w K mg base (L2.CX P w) 7 f_mixed (PmX mg K ts sp_mixed)) (m_mixed : mg "mixed" = some (.ref f_mixed)) (p_mixed : PySem.W.keepIn K (.ref f_mixed) = true) : Fg P w K mg base (L2.CX P w) 8 f (PmX mg K ts sp__law_call) := d_defX Fn sc__law_call (fun _ _ _ _ _ _ us hl => match us, hl with | [_, _, _], _ => rfl) sp__law_call (fun R => rd__law_call fun _ => R) (fun cdv A outer s H E R wn hcd ht hE ag hr tk => by
  have S := sc__law_call
  have hu := hr.units
  have hE := XEnd.at hE
  exact (dss_cons (ds_if (dt_cmp (o_eq hu) (d_var 0) d_str) (dss_one (ds_ret (d_useX g_widened ht ag (hr.mono (by decide)) (fun σ => passAt tk σ) hE (by rfl) m_widened p_widened (da_cons (d_var 1) (da_cons (d_var 2) da_nil))))) dss_nil)
    (dss_cons (ds_if (dt_cmp (o_eq hu) (d_var 0) d_str) (dss_one (ds_ret (d_useX g_holds ht ag (hr.mono (by decide)) (fun σ => passAt tk σ) hE (by rfl) m_holds p_holds (da_cons (d_var 1) (da_cons (d_var 2) da_nil))))) dss_nil)
    (dss_cons (ds_if (dt_cmp (o_eq hu) (d_var 0) d_str) (dss_one (ds_ret (d_useX g_width ht ag (hr.mono (by decide)) (fun σ => passAt tk σ) hE (by rfl) m_width p_width (da_cons (d_var 1) da_nil)))) dss_nil)
    (dss_cons (ds_if (dt_cmp (o_eq hu) (d_var 0) d_str) (dss_one (ds_ret (d_useX g_meeting ht ag (hr.mono (by decide)) (fun σ => passAt tk σ) hE (by rfl) m_meeting p_meeting (da_cons (d_var 1) da_nil)))) dss_nil)
    (dss_cons (ds_if (dt_cmp (o_eq hu) (d_var 0) d_str) (dss_one (ds_ret (d_useX g_apart ht ag (hr.mono (by decide)) (fun σ => passAt tk σ) hE (by rfl) m_apart p_apart (da_cons (d_var 1) da_nil)))) dss_nil)
    (dss_one (ds_ret (d_useX g_mixed ht ag (hr.mono (by decide)) (fun σ => passAt tk σ) hE (by rfl) m_mixed p_mixed (da_cons (d_var 1) da_nil)))))))))) vc__law_call
end
/-! _law_refused -/
abbrev s__law_refused : Stmt := topS 51
abbrev N__law_refused : List Str := ["_law_door", "_law_one", "_law_other", "_law_told", "e"]
theorem sc__law_refused : FnScope N__law_refused ["_law_door", "_law_one", "_law_other"] (defScope s__law_refused) := ⟨rfl, rfl, rfl, by decide +kernel, rfl, by decide +kernel, by decide +kernel⟩
def rd__law_refused : DS := (tSeqD (tSetD 3 (tTupD (tConsD (tCD (.str "told")) tNilD)))
    (tSeqD (tTryAs 4 [("Wrong", "at")] (fun _ => true) (fun a c n x => (tSetD 3 (tTupD (tConsD (tCD (.str "refused")) (tConsD (tAtX 4 a x) tNilD))))) (fun _ _ _ _ => False) (fun R => (tDropD (tUseX sp__law_call R (tConsD (tVarD 0) (tConsD (tVarD 1) (tConsD (tVarD 2) tNilD)))))))
    (tRetVD 3)))
def dueT : Option Int → PyData
  | none => .tuple [.str "told"]
  | some k => .tuple [.str "refused", .int k]
def sp__law_refused : DSp := fun us P => ∃ (door : Str) (x y : PyData), us = [.d (.str door), .d x, .d y] ∧ Rdy door x y ∧ P (.d (dueT (dueB door x y)))
theorem vc__law_refused : ∀ dvs Q, sp__law_refused dvs Q → dvs.length = 3 ∧ rd__law_refused { nx := fun _ => Q (.d .none), rt := Q } (startD N__law_refused dvs) := by
  rintro dvs Q ⟨door, x, y, rfl, rdy, h⟩
  refine ⟨rfl, ?_⟩
  unfold rd__law_refused
  refine seqG fun R hR => ?_
  walk_at "dl"
  refine ⟨by decide, hR _ (seqG fun R hR => ?_)⟩
  refine ⟨noOw_ok _ rfl, ?_⟩
  walk_at "dl"
  refine ⟨door, x, y, rfl, rdy, fun e z => ?_, fun k e => ?_⟩
  · walk_at "dl"
    refine hR _ ?_
    walk_at "dl"
    rw [e] at h
    exact h
  · refine ⟨by decide, fun _ => ⟨noOw_ok _ rfl, fun a => ?_⟩, fun z => nomatch z⟩
    walk_at "dl"
    refine ⟨by decide, ?_⟩
    show R [.d (.str door), .d x, .d y, .d (.tuple [.str "refused", .int k]), .un]
    refine hR _ ?_
    walk_at "dl"
    rw [e] at h
    exact h
section
variable {ts : List Addr} {P : Program} {w : World} {K : PySem.W.Frag} {mg : Str → Option Value} {base : Heap}
theorem ok__law_refused {f : Addr} {fd : FuncData} (Fn : L2.Fun K "_law_refused" "_law_refused" s__law_refused f fd) {C_Wrong : Addr} (m_Wrong : mg "Wrong" = some (.ref C_Wrong)) (em_Wrong_Wrong : PySem.W.exmOne K (.ref C_Wrong) (.ref C_Wrong) = some true) (ex_Wrong : ExcC K C_Wrong) (xf_Wrong : XfC K C_Wrong) (nf_Wrong : PySem.W.findIn K (.ref C_Wrong) "at" = some none) {f__law_call : Addr} (g__law_call : Fg P w K mg base (L2.CX P w) 8 f__law_call (PmX mg K ts sp__law_call)) (m__law_call : mg "_law_call" = some (.ref f__law_call)) (p__law_call : PySem.W.keepIn K (.ref f__law_call) = true) : Fg P w K mg base (L2.CX P w) 9 f (Pm K ts sp__law_refused) := d_def Fn sc__law_refused (fun _ _ _ _ _ _ us hl => match us, hl with | [_, _, _], _ => rfl) sp__law_refused rd__law_refused (fun cdv A outer s H E wn hcd ht ag hr => by
  have S := sc__law_refused
  have hu := hr.units
  exact (dss_cons (ds_set (i := 3) S.nd rfl (by first | exact Or.inl rfl | exact Or.inr rfl) (d_tup (da_cons d_str da_nil)))
    (dss_cons (ds_tryAs (i := 4) (E := fun _ _ _ _ => False) (R := fun _ _ _ _ => False) (cs := [("Wrong", "at")]) (exm := fun _ => true) rfl rfl S.nd rfl rfl ⟨by rfl, by decide, .inl m_Wrong⟩ takes0 (fun _ _ _ _ _ => XEnd.none) (by decide) (fun q hq C hC => by
        have e := List.mem_singleton.mp hq
        subst e
        cases Value.ref.inj (Option.some.inj (hC.symm.trans m_Wrong))
        exact em_Wrong_Wrong) (fun pn xe E R w' hw tk hE => by
        have ht := (congrArg Bg.ts hw).trans ht
        exact (dss_one (ds_expr (d_useX g__law_call ht ag (hr.mono (by decide)) (fun σ => passAt tk σ) hE (by rfl) m__law_call p__law_call (da_cons (d_var 0) (da_cons (d_var 1) (da_cons (d_var 2) da_nil))))))) (fun a oe pn c C n x v dd w' hw hcs hc wd hd rp hz hf => by
        have ht := (congrArg Bg.ts hw).trans ht
        obtain ⟨rfl, rfl⟩ := Prod.mk.inj (List.mem_singleton.mp hcs)
        cases Value.ref.inj (Option.some.inj (hc.symm.trans m_Wrong))
        exact (dss_one (ds_set (i := 3) S.nd rfl (by first | exact Or.inl rfl | exact Or.inr rfl) (d_tup (da_cons d_str (da_cons (d_atX xf_Wrong nf_Wrong hz hf wd hd rp (pv 4)) da_nil)))))))
    (dss_one (ds_retV 3))))) vc__law_refused
end
/-! _law_amount -/
abbrev s__law_amount : Stmt := topS 48
abbrev N__law_amount : List Str := ["_law_thing"]
theorem sc__law_amount : FnScope N__law_amount ["_law_thing"] (defScope s__law_amount) := ⟨rfl, rfl, rfl, by decide +kernel, rfl, by decide +kernel, by decide +kernel⟩
def rd__law_amount : DS := (tRetD (tAnV (tUse sp__law_is_fraction (tConsD (tVarD 0) tNilD)) (tBin (gIn (fun i j => decide (j ≤ i)) fun i j => !decide (i.cps.toList < j.cps.toList)) (tBin gIx (tVarD 0) (tCD (.int 0))) (tCD (.int 0)))))
def sp__law_amount : DSp := fun us P => ∃ x, us = [.d x] ∧ Szf x ∧ P (.d (.bool (isWd x)))
theorem vc__law_amount : ∀ dvs Q, sp__law_amount dvs Q → dvs.length = 1 ∧ rd__law_amount { nx := fun _ => Q (.d .none), rt := Q } (startD N__law_amount dvs) := by
  rintro dvs Q ⟨x, rfl, sz, h⟩
  refine ⟨rfl, ?_⟩
  unfold rd__law_amount
  walk_at "dl"
  refine ⟨_, rfl, sz, ?_⟩
  cases fx : isFr x with
  | false =>
    walk_at "dl"
    have e : isWd x = false := by
      cases w : isWd x with
      | false => rfl
      | true => rw [isWd_fr w] at fx; cases fx
    rw [e] at h
    exact h
  | true =>
    obtain ⟨p, q, rfl, f⟩ := of_isFr fx
    walk_at "dl"
    simp only [isWd, fx, Bool.true_and] at h
    exact h
section
variable {ts : List Addr} {P : Program} {w : World} {K : PySem.W.Frag} {mg : Str → Option Value} {base : Heap}
theorem ok__law_amount {f : Addr} {fd : FuncData} (Fn : L2.Fun K "_law_amount" "_law_amount" s__law_amount f fd) {f__law_is_fraction : Addr} (g__law_is_fraction : Fg P w K mg base (L2.CX P w) 1 f__law_is_fraction (Pm K ts sp__law_is_fraction)) (m__law_is_fraction : mg "_law_is_fraction" = some (.ref f__law_is_fraction)) (p__law_is_fraction : PySem.W.keepIn K (.ref f__law_is_fraction) = true) : Fg P w K mg base (L2.CX P w) 2 f (Pm K ts sp__law_amount) := d_def Fn sc__law_amount (fun _ _ _ _ _ _ us hl => match us, hl with | [_], _ => rfl) sp__law_amount rd__law_amount (fun cdv A outer s H E wn hcd ht ag hr => by
  have S := sc__law_amount
  have hu := hr.units
  exact (dss_one (ds_ret (d_and (d_use g__law_is_fraction ht ag (hr.mono (by decide)) passZ (by rfl) m__law_is_fraction p__law_is_fraction (da_cons (d_var 0) da_nil)) (d_one (d_cmp o_ge (d_ix (d_var 0) d_int) d_int)))))) vc__law_amount
end
/-! _law_is_pair -/
abbrev s__law_is_pair : Stmt := topS 53
abbrev N__law_is_pair : List Str := ["_law_thing"]
theorem sc__law_is_pair : FnScope N__law_is_pair ["_law_thing"] (defScope s__law_is_pair) := ⟨rfl, rfl, rfl, by decide +kernel, rfl, by decide +kernel, by decide +kernel⟩
def rd__law_is_pair : DS := (tRetD (tAnV (tCallD (cIsi "tuple") (tConsD (tVarD 0) (tConsD (tRaw (.ty "tuple")) tNilD))) (tAnV (tBin (gEqv id) (tCallD cLen (tConsD (tVarD 0) tNilD)) (tCD (.int 2))) (tAnV (tUse sp__law_amount (tConsD (tBin gIx (tVarD 0) (tCD (.int 0))) tNilD)) (tUse sp__law_is_stretch (tConsD (tBin gIx (tVarD 0) (tCD (.int 1))) tNilD))))))
def sp__law_is_pair : DSp := fun us P => ∃ x, us = [.d x] ∧ PS x ∧ P (.d (.bool (isPr x)))
theorem vc__law_is_pair : ∀ dvs Q, sp__law_is_pair dvs Q → dvs.length = 1 ∧ rd__law_is_pair { nx := fun _ => Q (.d .none), rt := Q } (startD N__law_is_pair dvs) := by
  rintro dvs Q ⟨x, rfl, ok, h⟩
  refine ⟨rfl, ?_⟩
  unfold rd__law_is_pair
  have no : isPr x = false → Q (.d (.bool false)) := fun e => by rw [e] at h; exact h
  cases x with
  | tuple xs =>
    match xs, h, no, ok with
    | [], _, no, _ => walk_at "dl"; exact no rfl
    | [a], _, no, _ => walk_at "dl"; exact no rfl
    | a :: b :: c :: r, _, no, _ =>
      walk_at "dl"
      have e : ¬ (((r.length + 1 + 1 + 1 : Nat) : Int) = 2) := by omega
      simp only [e, decide_false, Bool.false_eq_true, if_false]
      exact no rfl
    | [a, b], h, no, ok =>
      walk_at "dl"
      simp only [Int.cast_ofNat_Int, decide_true, if_true]
      refine ⟨_, rfl, (ok a b rfl).1, ?_⟩
      cases wa : isWd a with
      | false =>
        walk_at "dl"
        exact no (by simp [isPr, wa])
      | true =>
        walk_at "dl"
        refine ⟨_, rfl, (ok a b rfl).2.2, ?_⟩
        simp only [isPr, wa, Bool.true_and] at h
        exact h
  | _ => walk_at "dl"; exact no rfl
section
variable {ts : List Addr} {P : Program} {w : World} {K : PySem.W.Frag} {mg : Str → Option Value} {base : Heap}
theorem ok__law_is_pair {f : Addr} {fd : FuncData} (Fn : L2.Fun K "_law_is_pair" "_law_is_pair" s__law_is_pair f fd) {f__law_amount : Addr} (g__law_amount : Fg P w K mg base (L2.CX P w) 2 f__law_amount (Pm K ts sp__law_amount)) (m__law_amount : mg "_law_amount" = some (.ref f__law_amount)) (p__law_amount : PySem.W.keepIn K (.ref f__law_amount) = true) {f__law_is_stretch : Addr} (g__law_is_stretch : Fg P w K mg base (L2.CX P w) 2 f__law_is_stretch (Pm K ts sp__law_is_stretch)) (m__law_is_stretch : mg "_law_is_stretch" = some (.ref f__law_is_stretch)) (p__law_is_stretch : PySem.W.keepIn K (.ref f__law_is_stretch) = true) (z_isinstance : mg "isinstance" = none) (z_tuple : mg "tuple" = none) (z_len : mg "len" = none) : Fg P w K mg base (L2.CX P w) 3 f (Pm K ts sp__law_is_pair) := d_def Fn sc__law_is_pair (fun _ _ _ _ _ _ us hl => match us, hl with | [_], _ => rfl) sp__law_is_pair rd__law_is_pair (fun cdv A outer s H E wn hcd ht ag hr => by
  have S := sc__law_is_pair
  have hu := hr.units
  exact (dss_one (ds_ret (d_and (d_callB (k_isi (n := "tuple") (by simp)) (by rfl) z_isinstance (by decide +kernel) (da_cons (d_var 0) (da_cons (d_ty (by rfl) z_tuple (by decide +kernel)) da_nil))) (d_and (d_cmp (o_eq hu) (d_callB k_len (by rfl) z_len (by decide +kernel) (da_cons (d_var 0) da_nil)) d_int) (d_and (d_use g__law_amount ht ag (hr.mono (by decide)) passZ (by rfl) m__law_amount p__law_amount (da_cons (d_ix (d_var 0) d_int) da_nil)) (d_one (d_use g__law_is_stretch ht ag (hr.mono (by decide)) passZ (by rfl) m__law_is_stretch p__law_is_stretch (da_cons (d_ix (d_var 0) d_int) da_nil))))))))) vc__law_is_pair
end
/-! _law_due -/
abbrev s__law_due : Stmt := topS 52
abbrev N__law_due : List Str := ["_law_door", "_law_one", "_law_other", "_law_good", "_law_some"]
theorem sc__law_due : FnScope N__law_due ["_law_door", "_law_one", "_law_other"] (defScope s__law_due) := ⟨rfl, rfl, rfl, by decide +kernel, rfl, by decide +kernel, by decide +kernel⟩
def rd__law_due : DS := (tSeqD (tIfD (tTst (tBin gMem (tVarD 0) (tTupD (tConsD (tCD (.str "meeting")) (tConsD (tCD (.str "apart")) tNilD))))) (tSeqD (tSetD 3 (tAnV (tCallD (cIsi "list") (tConsD (tVarD 1) (tConsD (tRaw (.ty "list")) tNilD))) (tChD (gIn (fun i j => decide (i ≤ j)) fun i j => !decide (j.cps.toList < i.cps.toList)) (gIn (fun i j => decide (i ≤ j)) fun i j => !decide (j.cps.toList < i.cps.toList)) (tCD (.int 1)) (tCallD cLen (tConsD (tVarD 1) tNilD)) (tCD (.int 60)))))
        (tSetD 3 (tAnV (tVarD 3) (tBin gEqN (tLcD (itLst (tVarD 1)) (gnD 4) (tNotD (tTru (tUse sp__law_is_stretch (tConsD (tVarD 4) tNilD)))) (tVarD 4) [4]) (tLstD tNilD))))) (tIfD (tTst (tBin (gEqv id) (tVarD 0) (tCD (.str "mixed")))) (tSeqD (tSetD 3 (tAnV (tCallD (cIsi "list") (tConsD (tVarD 1) (tConsD (tRaw (.ty "list")) tNilD))) (tBin (gIn (fun i j => decide (i ≤ j)) fun i j => !decide (j.cps.toList < i.cps.toList)) (tCallD cLen (tConsD (tVarD 1) tNilD)) (tCD (.int 1000)))))
            (tSetD 3 (tAnV (tVarD 3) (tBin gEqN (tLcD (itLst (tVarD 1)) (gnD 4) (tNotD (tTru (tUse sp__law_is_pair (tConsD (tVarD 4) tNilD)))) (tVarD 4) [4]) (tLstD tNilD))))) (tSetD 3 (tUse sp__law_is_stretch (tConsD (tVarD 1) tNilD)))))
    (tSeqD (tIfD (tNotD (tTru (tVarD 3))) (tRetD (tTupD (tConsD (tCD (.str "refused")) (tConsD (tCD (.int 0)) tNilD)))) (fun d env => d.nx env))
    (tSeqD (tIfD (tOrD (tAndD (tTst (tBin (gEqv id) (tVarD 0) (tCD (.str "widened")))) (tNotD (tTru (tUse sp__law_amount (tConsD (tVarD 2) tNilD))))) (tAndD (tTst (tBin (gEqv id) (tVarD 0) (tCD (.str "holds")))) (tNotD (tTru (tUse sp__law_is_fraction (tConsD (tVarD 2) tNilD)))))) (tRetD (tTupD (tConsD (tCD (.str "refused")) (tConsD (tCD (.int 1)) tNilD)))) (fun d env => d.nx env))
    (tRetD (tTupD (tConsD (tCD (.str "told")) tNilD))))))
def gB (door : Str) (x : PyData) : Bool := if door = "meeting" ∨ door = "apart" then rowB x else if door = "mixed" then mixB x else isSt x
theorem filter_all {f : PyData → Bool} : ∀ {xs : List PyData}, (xs.filter fun z => !f z).isEmpty = xs.all f
  | [] => rfl
  | x :: xs => by
    rw [List.filter_cons, List.all_cons]
    cases f x with
    | true => simpa using filter_all
    | false => rfl
theorem due_eq {door : Str} {x y : PyData} (hd : door ∈ doorL) : dueB door x y = if gB door x = true then (if door = "widened" ∧ isWd y = false ∨ door = "holds" ∧ isFr y = false then some 1 else none) else some 0 := by
  unfold dueB gB
  by_cases hm : door = "meeting" ∨ door = "apart"
  · have no : ¬ (door = "widened" ∧ isWd y = false ∨ door = "holds" ∧ isFr y = false) := by
      rcases hm with rfl | rfl <;> (intro h; rcases h with h | h <;> exact absurd h.1 (by decide +kernel))
    rw [if_pos hm, if_pos hm, if_neg no]
  · rw [if_neg hm, if_neg hm]
    by_cases hx : door = "mixed"
    · have no : ¬ (door = "widened" ∧ isWd y = false ∨ door = "holds" ∧ isFr y = false) := by
        subst hx
        intro h
        rcases h with h | h <;> exact absurd h.1 (by decide +kernel)
      rw [if_pos hx, if_pos hx, if_neg no]
    · rw [if_neg hx, if_neg hx]
def sp__law_due : DSp := fun us P => ∃ (door : Str) (x y : PyData), us = [.d (.str door), .d x, .d y] ∧ Rdy door x y ∧ P (.d (dueT (dueB door x y)))
theorem vc__law_due : ∀ dvs Q, sp__law_due dvs Q → dvs.length = 3 ∧ rd__law_due { nx := fun _ => Q (.d .none), rt := Q } (startD N__law_due dvs) := by
  rintro dvs Q ⟨door, x, y, rfl, rdy, h⟩
  refine ⟨rfl, ?_⟩
  unfold rd__law_due
  refine seqG fun R hR => ?_
  refine ifG fun A B hA hB => ?_
  walk_at "dl"
  refine ⟨by decide, ?_⟩
  have hd := rdy.dr
  simp only [doorL, List.mem_cons, List.not_mem_nil, or_false] at hd
  have iv : inV (toV (.str door)) (List.map toV [.str "meeting", .str "apart"]) = decide (door = "meeting" ∨ door = "apart") := by
    rcases hd with rfl | rfl | rfl | rfl | rfl | rfl <;> decide +kernel
  have fin : ∀ s4, R [.d (.str door), .d x, .d y, .d (.bool (gB door x)), s4] := fun s4 => by
    rw [due_eq rdy.dr] at h
    refine hR _ (seqG fun R hR => ?_)
    walk_at "dl"
    cases hg : gB door x with
    | false =>
      rw [hg] at h
      simp only [Bool.not_false, if_true]
      exact ⟨by decide, h⟩
    | true =>
      rw [hg] at h
      simp only [Bool.not_true, Bool.false_eq_true, if_false]
      refine hR _ (seqG fun R hR => ?_)
      walk_at "dl"
      have tl : ¬ (door = "widened" ∧ isWd y = false ∨ door = "holds" ∧ isFr y = false) → R [.d (.str door), .d x, .d y, .d (.bool true), s4] := fun nc => by
        refine hR _ ?_
        walk_at "dl"
        rw [if_pos rfl, if_neg nc] at h
        first | exact h | exact ⟨by decide, h⟩
      have tr : (door = "widened" ∧ isWd y = false ∨ door = "holds" ∧ isFr y = false) → Q (.d (.tuple [.str "refused", .int 1])) := fun c => by
        rw [if_pos rfl, if_pos c] at h
        exact h
      by_cases hw : door = "widened"
      · have nh : door ≠ "holds" := by rw [hw]; decide +kernel
        rw [if_pos (decide_eq_true hw)]
        refine ⟨y, rfl, rdy.bes.2, ?_⟩
        cases wy : isWd y with
        | false =>
          walk_at "dl"
          exact ⟨by decide, tr (.inl ⟨hw, wy⟩)⟩
        | true =>
          walk_at "dl"
          rw [if_neg (by rw [decide_eq_false nh]; decide)]
          exact tl (by rintro (⟨_, z⟩ | ⟨z, _⟩); rw [wy] at z; cases z; exact nh z)
      · rw [if_neg (by rw [decide_eq_false hw]; decide)]
        by_cases nh : door = "holds"
        · rw [if_pos (decide_eq_true nh)]
          refine ⟨y, rfl, rdy.bes.2, ?_⟩
          cases wy : isFr y with
          | false =>
            walk_at "dl"
            exact ⟨by decide, tr (.inr ⟨nh, wy⟩)⟩
          | true =>
            walk_at "dl"
            exact tl (by rintro (⟨z, _⟩ | ⟨_, z⟩); exact hw z; rw [wy] at z; cases z)
        · rw [if_neg (by rw [decide_eq_false nh]; decide)]
          exact tl (by rintro (⟨z, _⟩ | ⟨z, _⟩); exact hw z; exact nh z)
  refine ⟨rfl, rfl, ?_⟩
  show (if id (inV _ _) = true then A else B)
  rw [id, iv]
  by_cases hm : door = "meeting" ∨ door = "apart"
  · rw [if_pos (decide_eq_true hm)]
    refine hA (seqG fun R2 hR2 => ?_)
    have g0 : gB door x = rowB x := if_pos hm
    rw [g0] at fin
    cases x with
    | list xs =>
      obtain ⟨hl, ht⟩ := rdy.row hm xs rfl
      walk_at "dl"
      by_cases c1 : 1 ≤ xs.length
      · have c1' : (1 : Int) ≤ (xs.length : Nat) := by omega
        rw [if_pos (decide_eq_true c1')]
        refine hR2 _ ?_
        by_cases c2 : xs.length ≤ 60
        · have c2' : ((xs.length : Nat) : Int) ≤ 60 := by omega
          rw [decide_eq_true c2']
          have e : rowB (.list xs) = xs.all isSt := by simp only [rowB, c1, c2, decide_true, Bool.true_and]
          rw [e, ← filter_all] at fin
          walk_at "dl"
          unfold tLcD
          walk_at "dl"
          refine lc_filter (fun z => !isSt z) (by omega) ?_ fun z hz acc R3 ha r1 r2 => ?_
          · walk_at "dl"
            exact ⟨by decide, fin _⟩
          · walk_at "dl"
            refine ⟨z, rfl, (ht z hz).2, ?_⟩
            cases b : isSt z with
            | false =>
              walk_at "dl"
              exact ⟨ha, r1 (by rw [b]; rfl)⟩
            | true =>
              walk_at "dl"
              exact r2 (by rw [b]; rfl)
        · have c2' : ¬ ((xs.length : Nat) : Int) ≤ 60 := by omega
          rw [decide_eq_false c2']
          have e : rowB (.list xs) = false := by simp only [rowB, c2, decide_false, Bool.false_and, Bool.and_false]
          rw [e] at fin
          walk_at "dl"
          exact fin _
      · have c1' : ¬ (1 : Int) ≤ (xs.length : Nat) := by omega
        rw [if_neg (by rw [decide_eq_false c1']; decide)]
        refine hR2 _ ?_
        have e : rowB (.list xs) = false := by simp only [rowB, c1, decide_false, Bool.false_and]
        rw [e] at fin
        walk_at "dl"
        exact fin _
    | _ =>
      walk_at "dl"
      refine hR2 _ ?_
      walk_at "dl"
      exact fin _
  · rw [if_neg (by rw [decide_eq_false hm]; decide)]
    refine hB ?_
    refine ifG fun A B hA hB => ?_
    walk_at "dl"
    by_cases hx : door = "mixed"
    · rw [if_pos (decide_eq_true hx)]
      refine hA (seqG fun R2 hR2 => ?_)
      have g0 : gB door x = mixB x := (if_neg hm).trans (if_pos hx)
      rw [g0] at fin
      cases x with
      | list xs =>
        obtain ⟨hl, ht, _⟩ := rdy.mix hx xs rfl
        walk_at "dl"
        refine hR2 _ ?_
        by_cases c2 : xs.length ≤ 1000
        · have c2' : ((xs.length : Nat) : Int) ≤ 1000 := by omega
          rw [decide_eq_true c2']
          have e : mixB (.list xs) = xs.all isPr := by simp only [mixB, c2, decide_true, Bool.true_and]
          rw [e, ← filter_all] at fin
          walk_at "dl"
          unfold tLcD
          walk_at "dl"
          refine lc_filter (fun z => !isPr z) (by omega) ?_ fun z hz acc R3 ha r1 r2 => ?_
          · walk_at "dl"
            exact ⟨by decide, fin _⟩
          · walk_at "dl"
            refine ⟨z, rfl, ht z hz, ?_⟩
            cases b : isPr z with
            | false =>
              walk_at "dl"
              exact ⟨ha, r1 (by rw [b]; rfl)⟩
            | true =>
              walk_at "dl"
              exact r2 (by rw [b]; rfl)
        · have c2' : ¬ ((xs.length : Nat) : Int) ≤ 1000 := by omega
          rw [decide_eq_false c2']
          have e : mixB (.list xs) = false := by simp only [mixB, c2, decide_false, Bool.false_and]
          rw [e] at fin
          walk_at "dl"
          exact fin _
      | _ =>
        walk_at "dl"
        refine hR2 _ ?_
        walk_at "dl"
        exact fin _
    · rw [if_neg (by rw [decide_eq_false hx]; decide)]
      refine hB ?_
      have g0 : gB door x = isSt x := (if_neg hm).trans (if_neg hx)
      rw [g0] at fin
      walk_at "dl"
      have d3 : door = "widened" ∨ door = "holds" ∨ door = "width" := by
        rcases hd with e | e | e | e | e | e
        · exact .inl e
        · exact .inr (.inl e)
        · exact .inr (.inr e)
        · exact absurd (.inl e) hm
        · exact absurd (.inr e) hm
        · exact absurd e hx
      refine ⟨x, rfl, (rdy.one d3).2, ?_⟩
      walk_at "dl"
      exact fin _
section
variable {ts : List Addr} {P : Program} {w : World} {K : PySem.W.Frag} {mg : Str → Option Value} {base : Heap}
theorem ok__law_due {f : Addr} {fd : FuncData} (Fn : L2.Fun K "_law_due" "_law_due" s__law_due f fd) {f__law_is_stretch : Addr} (g__law_is_stretch : Fg P w K mg base (L2.CX P w) 2 f__law_is_stretch (Pm K ts sp__law_is_stretch)) (m__law_is_stretch : mg "_law_is_stretch" = some (.ref f__law_is_stretch)) (p__law_is_stretch : PySem.W.keepIn K (.ref f__law_is_stretch) = true) {f__law_is_pair : Addr} (g__law_is_pair : Fg P w K mg base (L2.CX P w) 3 f__law_is_pair (Pm K ts sp__law_is_pair)) (m__law_is_pair : mg "_law_is_pair" = some (.ref f__law_is_pair)) (p__law_is_pair : PySem.W.keepIn K (.ref f__law_is_pair) = true) {f__law_amount : Addr} (g__law_amount : Fg P w K mg base (L2.CX P w) 2 f__law_amount (Pm K ts sp__law_amount)) (m__law_amount : mg "_law_amount" = some (.ref f__law_amount)) (p__law_amount : PySem.W.keepIn K (.ref f__law_amount) = true) {f__law_is_fraction : Addr} (g__law_is_fraction : Fg P w K mg base (L2.CX P w) 1 f__law_is_fraction (Pm K ts sp__law_is_fraction)) (m__law_is_fraction : mg "_law_is_fraction" = some (.ref f__law_is_fraction)) (p__law_is_fraction : PySem.W.keepIn K (.ref f__law_is_fraction) = true) (z_isinstance : mg "isinstance" = none) (z_list : mg "list" = none) (z_len : mg "len" = none) : Fg P w K mg base (L2.CX P w) 4 f (Pm K ts sp__law_due) := d_def Fn sc__law_due (fun _ _ _ _ _ _ us hl => match us, hl with | [_, _, _], _ => rfl) sp__law_due rd__law_due (fun cdv A outer s H E wn hcd ht ag hr => by
  have S := sc__law_due
  have hu := hr.units
  exact (dss_cons (ds_if (dt_cmp o_in (d_var 0) (d_tup (da_cons d_str (da_cons d_str da_nil)))) (dss_cons (ds_set (i := 3) S.nd rfl (by first | exact Or.inl rfl | exact Or.inr rfl) (d_and (d_callB (k_isi (n := "list") (by simp)) (by rfl) z_isinstance (by decide +kernel) (da_cons (d_var 1) (da_cons (d_ty (by rfl) z_list (by decide +kernel)) da_nil))) (d_one (d_chain o_le o_le d_int (d_callB k_len (by rfl) z_len (by decide +kernel) (da_cons (d_var 1) da_nil)) d_int))))
        (dss_one (ds_set (i := 3) S.nd rfl (by first | exact Or.inl rfl | exact Or.inr rfl) (d_and (d_var 3) (d_one (d_cmp (o_eqN (Nat.lt_of_le_of_lt (Nat.le_add_right _ 64) hu)) (d_lc (own := [("_law_some", 4)]) rfl S.nd (di_list (d_var 1)) (blkOk_by (N := N__law_due) (sc := defScope s__law_due) (by decide +kernel)) (tgt1 4) (fun _ _ _ _ _ => pg_name (i := 4) S.nd rfl (Or.inl rfl)) (fun _ _ _ _ _ => pts_oneD (dt_not (dt_e (d_use g__law_is_stretch ht ag (hr.mono (by decide)) passZ (by rfl) m__law_is_stretch p__law_is_stretch (da_cons (d_var 4) da_nil))))) (fun _ _ _ _ _ => (d_var 4))) (d_lst da_nil))))))) (dss_one (ds_if (dt_cmp (o_eq hu) (d_var 0) d_str) (dss_cons (ds_set (i := 3) S.nd rfl (by first | exact Or.inl rfl | exact Or.inr rfl) (d_and (d_callB (k_isi (n := "list") (by simp)) (by rfl) z_isinstance (by decide +kernel) (da_cons (d_var 1) (da_cons (d_ty (by rfl) z_list (by decide +kernel)) da_nil))) (d_one (d_cmp o_le (d_callB k_len (by rfl) z_len (by decide +kernel) (da_cons (d_var 1) da_nil)) d_int))))
            (dss_one (ds_set (i := 3) S.nd rfl (by first | exact Or.inl rfl | exact Or.inr rfl) (d_and (d_var 3) (d_one (d_cmp (o_eqN (Nat.lt_of_le_of_lt (Nat.le_add_right _ 64) hu)) (d_lc (own := [("_law_some", 4)]) rfl S.nd (di_list (d_var 1)) (blkOk_by (N := N__law_due) (sc := defScope s__law_due) (by decide +kernel)) (tgt1 4) (fun _ _ _ _ _ => pg_name (i := 4) S.nd rfl (Or.inl rfl)) (fun _ _ _ _ _ => pts_oneD (dt_not (dt_e (d_use g__law_is_pair ht ag (hr.mono (by decide)) passZ (by rfl) m__law_is_pair p__law_is_pair (da_cons (d_var 4) da_nil))))) (fun _ _ _ _ _ => (d_var 4))) (d_lst da_nil))))))) (dss_one (ds_set (i := 3) S.nd rfl (by first | exact Or.inl rfl | exact Or.inr rfl) (d_use g__law_is_stretch ht ag (hr.mono (by decide)) passZ (by rfl) m__law_is_stretch p__law_is_stretch (da_cons (d_var 1) da_nil)))))))
    (dss_cons (ds_if (dt_not (dt_e (d_var 3))) (dss_one (ds_ret (d_tup (da_cons d_str (da_cons d_int da_nil))))) dss_nil)
    (dss_cons (ds_if (dt_w (dw_or (dt_w (dw_and (dt_cmp (o_eq hu) (d_var 0) d_str) (dw_and1 (dt_not (dt_e (d_use g__law_amount ht ag (hr.mono (by decide)) passZ (by rfl) m__law_amount p__law_amount (da_cons (d_var 2) da_nil))))))) (dw_or1 (dt_w (dw_and (dt_cmp (o_eq hu) (d_var 0) d_str) (dw_and1 (dt_not (dt_e (d_use g__law_is_fraction ht ag (hr.mono (by decide)) passZ (by rfl) m__law_is_fraction p__law_is_fraction (da_cons (d_var 2) da_nil)))))))))) (dss_one (ds_ret (d_tup (da_cons d_str (da_cons d_int da_nil))))) dss_nil)
    (dss_one (ds_ret (d_tup (da_cons d_str da_nil)))))))) vc__law_due
end
/-! _law_asked -/
abbrev s__law_asked : Stmt := topS 54
abbrev N__law_asked : List Str := ["_law_door", "_law_one", "_law_other", "_law_handed", "_law_beside_here", "_law_told"]
theorem sc__law_asked : FnScope N__law_asked ["_law_door", "_law_one", "_law_other"] (defScope s__law_asked) := ⟨rfl, rfl, rfl, by decide +kernel, rfl, by decide +kernel, by decide +kernel⟩
def rd__law_asked : DS := (tSeqD (tSetD 3 (tUse (sp__law_copy 8) (tConsD (tVarD 1) tNilD)))
    (tSeqD (tSetD 4 (tUse (sp__law_copy 8) (tConsD (tVarD 2) tNilD)))
    (tSeqD (fun d env => (fun d env => (tSetD 5 (tUse sp__law_refused (tConsD (tVarD 0) (tConsD (tVarD 3) (tConsD (tVarD 4) tNilD))))) d (frzS 3 env)) d (frzS 4 env))
    (tSeqD (tIfD (tNotD (tTru (tUse sp__law_alike (tConsD (tVarD 5) (tConsD (tUse sp__law_due (tConsD (tVarD 0) (tConsD (tVarD 1) (tConsD (tVarD 2) tNilD)))) tNilD))))) (tRetD (tCD (.bool false))) (fun d env => d.nx env))
    (tRetD (tAnV (tBin (gEqv id) (tCallD cRepr (tConsD (tVarD 3) tNilD)) (tCallD cRepr (tConsD (tVarD 1) tNilD))) (tBin (gEqv id) (tCallD cRepr (tConsD (tVarD 4) tNilD)) (tCallD cRepr (tConsD (tVarD 2) tNilD)))))))))
/-- what can be copied and shown -/
structure Cp (x : PyData) : Prop where
  dp : x.depth ≤ 7
  cp : okC x = true
  sh : Sh x
theorem Sd.cp7 {n k : Nat} {x : PyData} (h : Sd n k x) (hn : n ≤ 7 := by decide) (hk : k ≤ 100000 := by decide) : Cp x := ⟨Nat.le_trans h.sn.deep hn, h.cp, h.sn.sh (Nat.le_trans hn (by decide)) hk⟩
theorem cpR_or (x : PyData) : (∃ xs, x = .list xs) ∨ cpR x = .d x := by
  cases x <;> first | exact .inl ⟨_, rfl⟩ | exact .inr rfl
theorem sh_due {door : Str} {x y : PyData} : Ly 1 (dueT (dueB door x y)) ∧ Sh (dueT (dueB door x y)) := by
  have go : ∀ o : Option Int, (o = none ∨ o = some 0 ∨ o = some 1) → Ly 1 (dueT o) ∧ Sh (dueT o) := by
    rintro o (rfl | rfl | rfl)
    · exact ⟨⟨by decide +kernel, by decide +kernel⟩, ⟨by decide +kernel, by decide +kernel, by decide +kernel, by decide +kernel⟩⟩
    · exact ⟨⟨by decide +kernel, by decide +kernel⟩, ⟨by decide +kernel, by decide +kernel, by decide +kernel, by decide +kernel⟩⟩
    · exact ⟨⟨by decide +kernel, by decide +kernel⟩, ⟨by decide +kernel, by decide +kernel, by decide +kernel, by decide +kernel⟩⟩
  refine go _ ?_
  unfold dueB
  split
  · split
    · exact .inl rfl
    · exact .inr (.inl rfl)
  · split
    · split
      · exact .inl rfl
      · exact .inr (.inl rfl)
    · split
      · split
        · exact .inr (.inr rfl)
        · exact .inl rfl
      · exact .inr (.inl rfl)
def sp__law_asked : DSp := fun us P => ∃ (door : Str) (x y : PyData), us = [.d (.str door), .d x, .d y] ∧ Rdy door x y ∧ Cp x ∧ Cp y ∧ P (.d (.bool true))
theorem vc__law_asked : ∀ dvs Q, sp__law_asked dvs Q → dvs.length = 3 ∧ rd__law_asked { nx := fun _ => Q (.d .none), rt := Q } (startD N__law_asked dvs) := by
  rintro dvs Q ⟨door, x, y, rfl, rdy, cx, cy, h⟩
  refine ⟨rfl, ?_⟩
  unfold rd__law_asked
  refine seqG fun R hR => ?_
  have s3 : ∀ s3, (s3 = .d x ∨ ∃ l xs, x = .list xs ∧ s3 = .ow l xs) → R [.d (.str door), .d x, .d y, s3, .un, .un] := by
    intro s3 h3
    refine hR _ (seqG fun R hR => ?_)
    have s4 : ∀ s4, (s4 = .d y ∨ ∃ l xs, y = .list xs ∧ s4 = .ow l xs) → R [.d (.str door), .d x, .d y, s3, s4, .un] := by
      intro s4 h4
      refine hR _ (seqG fun R hR => ?_)
      have f : frzS 4 (frzS 3 [.d (.str door), .d x, .d y, s3, s4, .un]) = [.d (.str door), .d x, .d y, .d x, .d y, .un] ∧ frzS 3 (frzS 4 [.d (.str door), .d x, .d y, s3, s4, .un]) = [.d (.str door), .d x, .d y, .d x, .d y, .un] := by
        rcases h3 with rfl | ⟨l, xs, rfl, rfl⟩ <;> rcases h4 with rfl | ⟨l2, ys, rfl, rfl⟩ <;> exact ⟨rfl, rfl⟩
      simp only [f.1, f.2]
      walk_at "dl"
      refine ⟨door, x, y, rfl, rdy, ?_⟩
      walk_at "dl"
      refine hR _ (seqG fun R hR => ?_)
      walk_at "dl"
      refine ⟨door, x, y, rfl, rdy, ?_⟩
      walk_at "dl"
      refine ⟨_, rfl, sh_due.1.selfEq (by decide), sh_due.2, ?_⟩
      walk_at "dl"
      refine hR _ ?_
      walk_at "dl"
      simp only [decide_true, if_true]
      exact ⟨cx.sh, cx.sh, cy.sh, cy.sh, h⟩
    walk_at "dl"
    refine ⟨y, rfl, cy.dp, cy.cp, ?_⟩
    rcases cpR_or y with ⟨xs, rfl⟩ | e
    · exact fun l => s4 _ (.inr ⟨l, xs, rfl, rfl⟩)
    · rw [e]
      exact s4 _ (.inl rfl)
  walk_at "dl"
  refine ⟨x, rfl, cx.dp, cx.cp, ?_⟩
  rcases cpR_or x with ⟨xs, rfl⟩ | e
  · exact fun l => s3 _ (.inr ⟨l, xs, rfl, rfl⟩)
  · rw [e]
    exact s3 _ (.inl rfl)
section
variable {ts : List Addr} {P : Program} {w : World} {K : PySem.W.Frag} {mg : Str → Option Value} {base : Heap}
theorem ok__law_asked {f : Addr} {fd : FuncData} (Fn : L2.Fun K "_law_asked" "_law_asked" s__law_asked f fd) {f__law_copy : Addr} (g__law_copy : Fg P w K mg base (L2.CX P w) 9 f__law_copy (Pm K ts (sp__law_copy 8))) (m__law_copy : mg "_law_copy" = some (.ref f__law_copy)) (p__law_copy : PySem.W.keepIn K (.ref f__law_copy) = true) {f__law_refused : Addr} (g__law_refused : Fg P w K mg base (L2.CX P w) 9 f__law_refused (Pm K ts sp__law_refused)) (m__law_refused : mg "_law_refused" = some (.ref f__law_refused)) (p__law_refused : PySem.W.keepIn K (.ref f__law_refused) = true) {f__law_alike : Addr} (g__law_alike : Fg P w K mg base (L2.CX P w) 1 f__law_alike (Pm K ts sp__law_alike)) (m__law_alike : mg "_law_alike" = some (.ref f__law_alike)) (p__law_alike : PySem.W.keepIn K (.ref f__law_alike) = true) {f__law_due : Addr} (g__law_due : Fg P w K mg base (L2.CX P w) 4 f__law_due (Pm K ts sp__law_due)) (m__law_due : mg "_law_due" = some (.ref f__law_due)) (p__law_due : PySem.W.keepIn K (.ref f__law_due) = true) (z_repr : mg "repr" = none) : Fg P w K mg base (L2.CX P w) 10 f (Pm K ts sp__law_asked) := d_def Fn sc__law_asked (fun _ _ _ _ _ _ us hl => match us, hl with | [_, _, _], _ => rfl) sp__law_asked rd__law_asked (fun cdv A outer s H E wn hcd ht ag hr => by
  have S := sc__law_asked
  have hu := hr.units
  exact (dss_cons (ds_set (i := 3) S.nd rfl (by first | exact Or.inl rfl | exact Or.inr rfl) (d_use g__law_copy ht ag (hr.mono (by decide)) passZ (by rfl) m__law_copy p__law_copy (da_cons (d_var 1) da_nil)))
    (dss_cons (ds_set (i := 4) S.nd rfl (by first | exact Or.inl rfl | exact Or.inr rfl) (d_use g__law_copy ht ag (hr.mono (by decide)) passZ (by rfl) m__law_copy p__law_copy (da_cons (d_var 2) da_nil)))
    (dss_cons (ds_frz 4 (ds_frz 3 (ds_set (i := 5) S.nd rfl (by first | exact Or.inl rfl | exact Or.inr rfl) (d_use g__law_refused ht ag (hr.mono (by decide)) passZ (by rfl) m__law_refused p__law_refused (da_cons (d_var 0) (da_cons (d_var 3) (da_cons (d_var 4) da_nil)))))))
    (dss_cons (ds_if (dt_not (dt_e (d_use g__law_alike ht ag (hr.mono (by decide)) passZ (by rfl) m__law_alike p__law_alike (da_cons (d_var 5) (da_cons (d_use g__law_due ht ag (hr.mono (by decide)) passZ (by rfl) m__law_due p__law_due (da_cons (d_var 0) (da_cons (d_var 1) (da_cons (d_var 2) da_nil)))) da_nil))))) (dss_one (ds_ret d_bl)) dss_nil)
    (dss_one (ds_ret (d_and (d_cmp (o_eq hu) (d_callB (k_repr ag hu) (by rfl) z_repr (by decide +kernel) (da_cons (d_var 3) da_nil)) (d_callB (k_repr ag hu) (by rfl) z_repr (by decide +kernel) (da_cons (d_var 1) da_nil))) (d_one (d_cmp (o_eq hu) (d_callB (k_repr ag hu) (by rfl) z_repr (by decide +kernel) (da_cons (d_var 4) da_nil)) (d_callB (k_repr ag hu) (by rfl) z_repr (by decide +kernel) (da_cons (d_var 2) da_nil)))))))))))) vc__law_asked
end
/-! _law_pair -/
abbrev s__law_pair : Stmt := topS 55
abbrev N__law_pair : List Str := ["_law_bag_here", "_law_way", "_law_stretch_here", "_law_other", "_law_weight"]
theorem sc__law_pair : FnScope N__law_pair ["_law_bag_here", "_law_way", "_law_stretch_here", "_law_other"] (defScope s__law_pair) := ⟨rfl, rfl, rfl, by decide +kernel, rfl, by decide +kernel, by decide +kernel⟩
def rd__law_pair : DS := (tSeqD (tSetD 4 (tBin gIx (tLstD (tConsD (tTupD (tConsD (tCD (.int 1)) (tConsD (tCD (.int 1)) tNilD))) (tConsD (tTupD (tConsD (tCD (.int 0)) (tConsD (tCD (.int 1)) tNilD))) (tConsD (tVarD 3) (tConsD (tTupD (tConsD (tUnD gNeg (tCD (.int 1))) (tConsD (tCD (.int 3)) tNilD))) tNilD))))) (tVarD 1)))
    (tRetD (tBin gIx (tLstD (tConsD (tTupD (tConsD (tVarD 4) (tConsD (tVarD 2) tNilD))) (tConsD (tLstD (tConsD (tVarD 4) (tConsD (tVarD 2) tNilD))) (tConsD (tTupD (tConsD (tVarD 4) (tConsD (tVarD 2) (tConsD (tVarD 2) tNilD)))) (tConsD (tTupD (tConsD (tVarD 4) tNilD)) tNilD))))) (tCallD (cMin max) (tConsD (tCD (.int 0)) (tConsD (tBin gMinus (tUse sp__law_take (tConsD (tVarD 0) (tConsD (tCD (.int 9)) tNilD))) (tCD (.int 5))) tNilD))))))
structure PairZ (z : PyData) : Prop where
  ps : PS z
  pr : isPr z = true → ∃ D : Int, 0 < D ∧ D.natAbs < 2 ^ 320 ∧ Pr D z
  sd : Sd 5 8169 z
def sp__law_pair : DSp := fun us P => ∃ (way : Int) (x y : PyData), us = [.bag, .d (.int way), .d x, .d y] ∧ 0 ≤ way ∧ way < 4 ∧ Th x ∧ Bes y ∧ ∀ z, PairZ z → P (.d z)
theorem vc__law_pair : ∀ dvs Q, sp__law_pair dvs Q → dvs.length = 4 ∧ rd__law_pair { nx := fun _ => Q (.d .none), rt := Q } (startD N__law_pair dvs) := by
  rintro dvs Q ⟨way, x, y, rfl, w0, w1, th, bs, h⟩
  refine ⟨rfl, ?_⟩
  unfold rd__law_pair
  refine seqG fun R hR => ?_
  walk_at "dl"
  refine ⟨by decide, by decide, by decide, by decide, ?_⟩
  refine pick w0 w1 fun we hw => ?_
  have bw : Bes we := by
    have bes : ∀ {a b : Int}, Fb 204 102 a b → Bes (.tuple [.int a, .int b]) := fun k => ⟨fun _ => ⟨_, _, rfl, k⟩, fb_szf k, fb_sd k⟩
    simp only [List.mem_cons, List.not_mem_nil, or_false] at hw
    rcases hw with rfl | rfl | rfl | rfl
    · exact bes ⟨⟨by decide, by decide⟩, by decide, by decide⟩
    · exact bes ⟨⟨by decide, by decide⟩, by decide, by decide⟩
    · exact bs
    · exact bes ⟨⟨by decide, by decide⟩, by decide, by decide⟩
  walk_at "dl"
  refine hR _ ?_
  walk_at "dl"
  refine ⟨by decide, by decide, by decide, by decide, by decide, 9, rfl, by decide, by decide, fun n n0 n1 => ?_⟩
  walk_at "dl"
  refine pick (show 0 ≤ max 0 (n - 5) by omega) (show max 0 (n - 5) < ((4 : Nat) : Int) by omega) fun z hz => ?_
  have s2 : Sd 4 2720 we := bw.sd.up
  simp only [List.mem_cons, List.not_mem_nil, or_false] at hz
  refine h z ?_
  rcases hz with rfl | rfl | rfl | rfl
  · refine ⟨fun a b e => by cases e; exact ⟨bw.sz, th.ok⟩, fun e => ?_, (sd_tup (n := 4) (k := 2720) (m := 2) fun z hz => ?_).up⟩
    · simp only [isPr, Bool.and_eq_true] at e
      obtain ⟨a, b, rfl, fw⟩ := bw.fb (isWd_fr e.1)
      obtain ⟨p, q, u, v, rfl, f, g, l⟩ := th.ok.1.2 e.2
      have a0 : 0 ≤ a := by
        have z := e.1
        simp only [isWd, Bool.and_eq_true, decide_eq_true_eq] at z
        exact z.2
      have l1 : (b * q).natAbs < 2 ^ (102 + 102) := natAbs_mul_lt fw.b f.b
      have l2 : (b * q * v).natAbs < 2 ^ (102 + 102 + 102) := natAbs_mul_lt l1 g.b
      have l3 : (16 * (b * q * v)).natAbs < 2 ^ (5 + (102 + 102 + 102)) := natAbs_mul_lt (by decide) l2
      exact ⟨16 * (b * q * v), Int.mul_pos (by decide) (Int.mul_pos (Int.mul_pos fw.f.pos f.f.pos) g.f.pos), two_le l3 (by decide), a, b, p, q, u, v, 1, rfl, fw, a0, f, g, l, (Int.mul_one _).symm, by decide⟩
    · simp only [List.mem_cons, List.not_mem_nil, or_false] at hz
      rcases hz with rfl | rfl
      · exact s2
      · exact th.sd
  · refine ⟨fun a b e => (by cases e), fun e => (by cases e), (sd_lst (n := 4) (k := 2720) (m := 2) fun z hz => ?_).up⟩
    simp only [List.mem_cons, List.not_mem_nil, or_false] at hz
    rcases hz with rfl | rfl
    · exact s2
    · exact th.sd
  · refine ⟨fun a b e => (by cases e), fun e => (by cases e), (sd_tup (n := 4) (k := 2720) (m := 3) fun z hz => ?_).up⟩
    simp only [List.mem_cons, List.not_mem_nil, or_false] at hz
    rcases hz with rfl | rfl | rfl
    · exact s2
    · exact th.sd
    · exact th.sd
  · refine ⟨fun a b e => (by cases e), fun e => (by cases e), (sd_tup (n := 4) (k := 2720) (m := 1) fun z hz => ?_).up⟩
    cases List.mem_singleton.mp hz
    exact s2
section
variable {ts : List Addr} {P : Program} {w : World} {K : PySem.W.Frag} {mg : Str → Option Value} {base : Heap}
theorem ok__law_pair {f : Addr} {fd : FuncData} (Fn : L2.Fun K "_law_pair" "_law_pair" s__law_pair f fd) {f__law_take : Addr} (g__law_take : Fg P w K mg base (L2.CX P w) 1 f__law_take (Pm K ts sp__law_take)) (m__law_take : mg "_law_take" = some (.ref f__law_take)) (p__law_take : PySem.W.keepIn K (.ref f__law_take) = true) (z_max : mg "max" = none) : Fg P w K mg base (L2.CX P w) 2 f (Pm K ts sp__law_pair) := d_def Fn sc__law_pair (fun _ _ _ _ _ _ us hl => match us, hl with | [_, _, _, _], _ => rfl) sp__law_pair rd__law_pair (fun cdv A outer s H E wn hcd ht ag hr => by
  have S := sc__law_pair
  have hu := hr.units
  exact (dss_cons (ds_set (i := 4) S.nd rfl (by first | exact Or.inl rfl | exact Or.inr rfl) (d_ix (d_lst (da_cons (d_tup (da_cons d_int (da_cons d_int da_nil))) (da_cons (d_tup (da_cons d_int (da_cons d_int da_nil))) (da_cons (d_var 3) (da_cons (d_tup (da_cons (d_neg d_int) (da_cons d_int da_nil))) da_nil))))) (d_var 1)))
    (dss_one (ds_ret (d_ix (d_lst (da_cons (d_tup (da_cons (d_var 4) (da_cons (d_var 2) da_nil))) (da_cons (d_lst (da_cons (d_var 4) (da_cons (d_var 2) da_nil))) (da_cons (d_tup (da_cons (d_var 4) (da_cons (d_var 2) (da_cons (d_var 2) da_nil)))) (da_cons (d_tup (da_cons (d_var 4) da_nil)) da_nil))))) (d_callB (k_max rfl) (by rfl) z_max (by decide +kernel) (da_cons d_int (da_cons (d_bin o_sub (d_use g__law_take ht ag (hr.mono (by decide)) passZ (by rfl) m__law_take p__law_take (da_cons (d_var 0) (da_cons d_int da_nil))) d_int) da_nil)))))))) vc__law_pair
end
/-! law -/
abbrev s_law : Stmt := topS 56
abbrev N_law : List Str := ["_law_script", "_law_bag_here", "_law_way", "_law_size", "_law_weight", "_law_thing", "_law_other", "_law_told", "_law_door", "_law_many", "_law_some", "_law_k", "_law_at", "_law_pair_here", "_law_row", "_law_pairs", "_law_more", "_law_one", "_law_turn"]
theorem sc_law : FnScope N_law ["_law_script"] (defScope s_law) := ⟨rfl, rfl, rfl, by decide +kernel, rfl, by decide +kernel, by decide +kernel⟩
def rd_law : DS := (tSeqD (tPar3D 2 3 4 (tConsD (tUse sp__law_take (tConsD (tVarD 1) (tConsD (tCD (.int 16)) tNilD))) (tConsD (tUse sp__law_take (tConsD (tVarD 1) (tConsD (tCD (.int 16)) tNilD))) (tConsD (tUse sp__law_take (tConsD (tVarD 1) (tConsD (tCD (.int 4)) tNilD))) tNilD))))
    (tSeqD (tSetD 5 (tUse sp__law_spoilt (tConsD (tVarD 1) (tConsD (tVarD 2) (tConsD (tUse sp__law_stretch (tConsD (tVarD 1) tNilD)) tNilD)))))
    (tSeqD (tSetD 6 (tUse sp__law_beside (tConsD (tVarD 1) tNilD)))
    (tSeqD (tSetD 7 (tUse sp_is_stretch (tConsD (tUse (sp__law_copy 8) (tConsD (tVarD 5) tNilD)) tNilD)))
    (tSeqD (tIfD (tNotD (tTru (tUse sp__law_alike (tConsD (tVarD 7) (tConsD (tUse sp__law_is_stretch (tConsD (tVarD 5) tNilD)) tNilD))))) (tRetD (tCD (.bool false))) (fun d env => d.nx env))
    (tSeqD (tForD (gnD 8) (itLst (tLstD (tConsD (tCD (.str "widened")) (tConsD (tCD (.str "holds")) (tConsD (tCD (.str "width")) tNilD))))) (tIfD (tNotD (tTru (tUse sp__law_asked (tConsD (tVarD 8) (tConsD (tVarD 5) (tConsD (tVarD 6) tNilD)))))) (tRetD (tCD (.bool false))) (fun d env => d.nx env)))
    (tSeqD (tSetD 9 (tBin gIx (tLstD (tConsD (tCD (.int 1)) (tConsD (tCD (.int 2)) (tConsD (tCD (.int 3)) (tConsD (tCD (.int 5)) tNilD))))) (tBin gMod (tVarD 3) (tCD (.int 4)))))
    (tSeqD (tSetD 10 (tLcD (itR1 (tConsD (tVarD 9) tNilD)) (gnD 11) (fun _ P => P true) (tUse sp__law_stretch (tConsD (tVarD 1) tNilD)) [11]))
    (tSeqD (tSetD 12 (tUse sp__law_take (tConsD (tVarD 1) (tConsD (tVarD 9) tNilD))))
    (tSeqD (tSetD 13 (tUse sp__law_pair (tConsD (tVarD 1) (tConsD (tVarD 4) (tConsD (tVarD 5) (tConsD (tVarD 6) tNilD))))))
    (tSeqD (tSetD 14 (tBin gAdd (tBin gAdd (tSlL (tVarD 10) oNone (oSome (tVarD 12))) (tLstD (tConsD (tVarD 5) tNilD))) (tSlL (tVarD 10) (oSome (tBin gAdd (tVarD 12) (tCD (.int 1)))) oNone)))
    (tSeqD (tSetD 15 (tLcD (itR1 (tConsD (tVarD 9) tNilD)) (gnD 11) (fun _ P => P true) (tTupD (tConsD (tTupD (tConsD (tVarD 11) (tConsD (tCD (.int 1)) tNilD))) (tConsD (tBin gIx (tVarD 10) (tVarD 11)) tNilD))) [11]))
    (tSeqD (tSetD 15 (tBin gAdd (tBin gAdd (tSlL (tVarD 15) oNone (oSome (tVarD 12))) (tLstD (tConsD (tVarD 13) tNilD))) (tSlL (tVarD 15) (oSome (tBin gAdd (tVarD 12) (tCD (.int 1)))) oNone)))
    (tSeqD (fun d env => (fun d env => (tIfD (tTst (tBin (gEqv id) (tVarD 3) (tCD (.int 0)))) (tParD 14 15 (tConsD (tLstD tNilD) (tConsD (tLstD tNilD) tNilD))) (fun d env => d.nx env)) d (frzS 14 env)) d (frzS 15 env))
    (tSeqD (tSetD 16 (tLcD (itR1 (tConsD (tBin gMinus (tCD (.int 1001)) (tVarD 9)) tNilD)) (gnD 11) (fun _ P => P true) (tTupD (tConsD (tTupD (tConsD (tVarD 11) (tConsD (tCD (.int 1)) tNilD))) (tConsD (tTupD (tConsD (tBin gAdd (tVarD 11) (tCD (.int 2))) (tConsD (tCD (.int 1)) tNilD))) tNilD))) [11]))
    (tSeqD (tIfD (tTst (tBin gMem (tVarD 3) (tTupD (tConsD (tCD (.int 1)) (tConsD (tCD (.int 2)) tNilD))))) (tSeqD (tSetD 14 (tBin gAdd (tVarD 14) (tSlL (tVarD 16) oNone (oSome (tBin gMinus (tBin gAdd (tCD (.int 59)) (tVarD 3)) (tVarD 9))))))
        (tSeqD (tSetD 15 (tBin gAdd (tVarD 15) (tLcD (itEnum (tConsD (tSlL (tVarD 16) oNone (oSome (tBin gMinus (tBin gAdd (tCD (.int 999)) (tVarD 3)) (tVarD 9)))) tNilD)) (gtD 2 (gconsD (gnD 11) (gconsD (gnD 17) gnilD))) (fun _ P => P true) (tTupD (tConsD (tTupD (tConsD (tBin gMod (tVarD 11) (tCD (.int 5))) (tConsD (tCD (.int 1)) tNilD))) (tConsD (tVarD 17) tNilD))) [11, 17])))
        (tSeqD (tSetD 18 (tUse sp__law_take (tConsD (tVarD 1) (tConsD (tCD (.int 1000)) tNilD))))
        (tSeqD (tSetD 14 (tBin gAdd (tSlL (tVarD 14) (oSome (tBin gMod (tVarD 18) (tCallD cLen (tConsD (tVarD 14) tNilD)))) oNone) (tSlL (tVarD 14) oNone (oSome (tBin gMod (tVarD 18) (tCallD cLen (tConsD (tVarD 14) tNilD)))))))
        (tSetD 15 (tBin gAdd (tSlL (tVarD 15) (oSome (tVarD 18)) oNone) (tSlL (tVarD 15) oNone (oSome (tVarD 18))))))))) (fun d env => d.nx env))
    (tSeqD (fun d env => (fun d env => (tIfD (tTst (tBin (gEqv id) (tVarD 3) (tCD (.int 3)))) (tParD 14 15 (tConsD (tCallD cTuple (tConsD (tVarD 14) tNilD)) (tConsD (tCallD cTuple (tConsD (tVarD 15) tNilD)) tNilD))) (fun d env => d.nx env)) d (frzS 14 env)) d (frzS 15 env))
    (tSeqD (tIfD (tTst (tBin (gEqv id) (tVarD 3) (tCD (.int 4)))) (tParD 14 15 (tConsD (tUse sp__law_odd (tConsD (tVarD 1) tNilD)) (tConsD (tUse sp__law_odd (tConsD (tVarD 1) tNilD)) tNilD))) (fun d env => d.nx env))
    (tSeqD (tIfD (tTst (tBin (gEqv id) (tVarD 3) (tCD (.int 5)))) (tSetD 15 (tBin gAdd (tBin gAdd (tSlL (tVarD 15) oNone (oSome (tVarD 12))) (tLstD (tConsD (tUse sp__law_odd (tConsD (tVarD 1) tNilD)) tNilD))) (tSlL (tVarD 15) (oSome (tBin gAdd (tVarD 12) (tCD (.int 1)))) oNone))) (fun d env => d.nx env))
    (tRetD (tAnV (tUse sp__law_asked (tConsD (tCD (.str "meeting")) (tConsD (tVarD 14) (tConsD (tCD .none) tNilD)))) (tAnV (tUse sp__law_asked (tConsD (tCD (.str "apart")) (tConsD (tVarD 14) (tConsD (tCD .none) tNilD)))) (tUse sp__law_asked (tConsD (tCD (.str "mixed")) (tConsD (tVarD 15) (tConsD (tCD .none) tNilD))))))))))))))))))))))))))
theorem sn_small {i : Int} (h0 : 0 ≤ i) (h1 : i < 1100) : Sn 0 4 (.int i) := by
  have z : ∀ i : Fin 1100, (PyData.shown (.int (i.val : Int))).length ≤ 4 := by decide +kernel
  have z2 := z ⟨i.toNat, by omega⟩
  rw [show ((i.toNat : Nat) : Int) = i by omega] at z2
  have big := sn_int (i := i) (j := 11) (by omega)
  exact ⟨big.real, big.show_, big.deep, z2⟩
theorem sd_small {i : Int} (h0 : 0 ≤ i) (h1 : i < 1100) : Sd 0 4 (.int i) := ⟨sn_small h0 h1, by simp [okC]⟩
theorem sd_pair {n k : Nat} {a b : PyData} (ha : Sd n k a) (hb : Sd n k b) : Sd (n + 1) (2 * (k + 2) + 3) (.tuple [a, b]) := sd_tup (m := 2) fun z hz => by
  simp only [List.mem_cons, List.not_mem_nil, or_false] at hz
  rcases hz with rfl | rfl
  · exact ha
  · exact hb
theorem sd_frs {x y : Int} (hx : 0 ≤ x) (hx1 : x < 1100) (hy : 0 ≤ y) (hy1 : y < 1100) : Sd 1 15 (.tuple [.int x, .int y]) := sd_pair (sd_small hx hx1) (sd_small hy hy1)
/-- the text that a list's items have -/
def W (xs : List PyData) : Nat := (xs.map fun z => z.shown.length + 2).sum
theorem W_app (xs ys : List PyData) : W (xs ++ ys) = W xs + W ys := by
  unfold W
  rw [List.map_append, List.sum_append]
theorem W_sub {xs ys : List PyData} (h : xs.Sublist ys) : W xs ≤ W ys := by
  induction h with
  | slnil => exact Nat.le_refl _
  | cons a _ ih => unfold W at ih ⊢; rw [List.map_cons, List.sum_cons]; omega
  | cons_cons a _ ih => unfold W at ih ⊢; rw [List.map_cons, List.sum_cons, List.map_cons, List.sum_cons]; omega
theorem W_le {n k : Nat} : ∀ {xs : List PyData}, (∀ z ∈ xs, Sd n k z) → W xs ≤ xs.length * (k + 2)
  | [], _ => Nat.zero_le _
  | x :: xs, h => by
    have a := W_le fun z hz => h z (List.mem_cons_of_mem _ hz)
    have b := (h x (List.mem_cons_self ..)).sn.len
    unfold W at a ⊢
    rw [List.map_cons, List.sum_cons, List.length_cons, Nat.succ_mul]
    omega
theorem sdW {n : Nat} : ∀ {xs : List PyData}, (∀ z ∈ xs, ∃ k, Sd n k z) → realA xs = true ∧ PyData.showableAll xs = true ∧ PyData.depthAll xs ≤ n ∧ ((PyData.shownAll xs).map (·.length)).sum + 2 * xs.length = W xs ∧ (PyData.shownAll xs).length = xs.length ∧ okCs xs = true
  | [], _ => by simp [realA, PyData.showableAll, PyData.depthAll, PyData.shownAll, W, okCs]
  | x :: xs, h => by
    obtain ⟨a, b, c, d, e, f⟩ := sdW (xs := xs) fun y hy => h y (List.mem_cons_of_mem _ hy)
    obtain ⟨k, z⟩ := h x (List.mem_cons_self ..)
    refine ⟨by rw [realA, z.sn.real, a]; rfl, by rw [PyData.showableAll, z.sn.show_, b]; rfl, ?_, ?_, ?_, by rw [okCs, z.cp, f]; rfl⟩
    · have := z.sn.deep
      simp only [PyData.depthAll]; omega
    · unfold W at d ⊢
      simp only [PyData.shownAll, List.map_cons, List.sum_cons, List.length_cons]; omega
    · simp only [PyData.shownAll, List.length_cons, e]
theorem cp_lst {n : Nat} {xs : List PyData} (h : ∀ z ∈ xs, ∃ k, Sd n k z) (hn : n ≤ 6) (hw : W xs ≤ 99990) (hl : xs.length ≤ 5000) : Cp (.list xs) := by
  obtain ⟨a, b, c, d, e, f⟩ := sdW h
  have q := listText_len_le (PyData.shownAll xs)
  refine ⟨by simp only [PyData.depth]; omega, by rw [okC, f, decide_eq_true hl]; rfl, ⟨by rw [realD, a], by rw [PyData.showable, b], by simp only [PyData.depth]; omega, ?_⟩⟩
  show (listText (PyData.shownAll xs)).length ≤ _
  omega
theorem cp_tup {n : Nat} {xs : List PyData} (h : ∀ z ∈ xs, ∃ k, Sd n k z) (hn : n ≤ 6) (hw : W xs ≤ 99990) (hl : xs.length ≤ 5000) : Cp (.tuple xs) := by
  obtain ⟨a, b, c, d, e, f⟩ := sdW h
  have q := tupleText_len_le (PyData.shownAll xs)
  refine ⟨by simp only [PyData.depth]; omega, by rw [okC, f, decide_eq_true hl]; rfl, ⟨by rw [realD, a], by rw [PyData.showable, b], by simp only [PyData.depth]; omega, ?_⟩⟩
  show (tupleText (PyData.shownAll xs)).length ≤ _
  omega
theorem cut_to {xs : List PyData} {k : Int} (h : 0 ≤ k) : Dl.cutD xs none (some k) = xs.take k.toNat := by
  obtain ⟨k, rfl⟩ : ∃ j : Nat, k = (j : Int) := ⟨k.toNat, by omega⟩
  unfold Dl.cutD
  rw [HT.sIx_nat, show HT.sIx xs.length 0 none = 0 from rfl, List.drop_zero, Nat.sub_zero, Int.toNat_natCast]
  rcases Nat.le_total k xs.length with c | c
  · rw [Nat.min_eq_left c]
  · rw [Nat.min_eq_right c, List.take_of_length_le c, List.take_of_length_le (Nat.le_refl _)]
theorem cut_from {xs : List PyData} {k : Int} (h : 0 ≤ k) : Dl.cutD xs (some k) none = xs.drop k.toNat := by
  obtain ⟨k, rfl⟩ : ∃ j : Nat, k = (j : Int) := ⟨k.toNat, by omega⟩
  unfold Dl.cutD
  rw [HT.sIx_nat, show HT.sIx xs.length xs.length none = xs.length from rfl, Int.toNat_natCast]
  rcases Nat.le_total k xs.length with c | c
  · rw [Nat.min_eq_left c, List.take_of_length_le (by rw [List.length_drop]; omega)]
  · rw [Nat.min_eq_right c, List.drop_of_length_le (Nat.le_refl _), List.drop_of_length_le c, List.take_nil]
theorem swap_sub (xs : List PyData) (i : Nat) : (xs.take i ++ xs.drop (i + 1)).Sublist xs := by
  have e : xs.take i ++ xs.drop i = xs := List.take_append_drop i xs
  have h : (xs.drop (i + 1)).Sublist (xs.drop i) := by
    rw [← List.drop_drop]
    exact List.drop_sublist _ _
  have z := List.Sublist.append (List.Sublist.refl (xs.take i)) h
  rwa [e] at z
theorem rot_W (xs : List PyData) (i : Nat) : W (xs.drop i ++ xs.take i) = W xs := by
  rw [W_app, Nat.add_comm, ← W_app, List.take_append_drop]
theorem rot_len (xs : List PyData) (i : Nat) : (xs.drop i ++ xs.take i).length = xs.length := by
  rw [List.length_append, Nat.add_comm, ← List.length_append, List.take_append_drop]
theorem rot_mem {xs : List PyData} {i : Nat} {z : PyData} (h : z ∈ xs.drop i ++ xs.take i) : z ∈ xs := by
  rcases List.mem_append.mp h with h | h
  · exact List.mem_of_mem_drop h
  · exact List.mem_of_mem_take h
theorem Pr.mul {D : Int} {z : PyData} (h : Pr D z) {c : Int} (hc : 0 < c) : Pr (D * c) z := by
  obtain ⟨a, b, p, q, u, v, E, e, h1, h2, h3, h4, h5, h6, h7⟩ := h
  exact ⟨a, b, p, q, u, v, E * c, e, h1, h2, h3, h4, h5, by rw [h6, Int.mul_assoc], Int.mul_pos h7 hc⟩
theorem MixOk.sub {m : Nat} {xs ys : List PyData} (h : MixOk m xs) (hs : ∀ z ∈ ys, z ∈ xs) : MixOk m ys := by
  obtain ⟨D, h0, h1, h2⟩ := h
  exact ⟨D, h0, h1, fun z hz => h2 z (hs z hz)⟩
theorem MixOk.app {m n : Nat} {xs ys : List PyData} (h : MixOk m xs) (g : MixOk n ys) : MixOk (m + n) (xs ++ ys) := by
  obtain ⟨D, h0, h1, h2⟩ := h
  obtain ⟨C, g0, g1, g2⟩ := g
  refine ⟨D * C, Int.mul_pos h0 g0, natAbs_mul_lt h1 g1, fun z hz p => ?_⟩
  rcases List.mem_append.mp hz with hz | hz
  · exact (h2 z hz p).mul g0
  · rw [Int.mul_comm]
    exact (g2 z hz p).mul h0
theorem MixOk.up {m n : Nat} {xs : List PyData} (h : MixOk m xs) (hn : m ≤ n) : MixOk n xs := by
  obtain ⟨D, h0, h1, h2⟩ := h
  exact ⟨D, h0, two_le h1 hn, h2⟩
theorem MixOk.one {z : PyData} (h : PairZ z) : MixOk 320 [z] := by
  cases e : isPr z with
  | true =>
    obtain ⟨D, h0, h1, h2⟩ := h.pr e
    exact ⟨D, h0, h1, fun y hy _ => by cases List.mem_singleton.mp hy; exact h2⟩
  | false => exact ⟨1, by decide, by decide, fun y hy k => by cases List.mem_singleton.mp hy; rw [e] at k; cases k⟩
/-- a row of things -/
structure RL (n b : Nat) (xs : List PyData) : Prop where
  len : xs.length ≤ n
  th : ∀ z ∈ xs, ThS z ∧ ∃ k, Sd 4 k z
  w : W xs ≤ b
/-- a list of pairs -/
structure PL (n b m : Nat) (xs : List PyData) : Prop where
  len : xs.length ≤ n
  ps : ∀ z ∈ xs, PS z ∧ ∃ k, Sd 5 k z
  w : W xs ≤ b
  mx : MixOk m xs
theorem RL.app {n b m c : Nat} {xs ys : List PyData} (h : RL n b xs) (g : RL m c ys) : RL (n + m) (b + c) (xs ++ ys) := ⟨by rw [List.length_append]; exact Nat.add_le_add h.len g.len, fun z hz => (List.mem_append.mp hz).elim (h.th z) (g.th z), by rw [W_app]; exact Nat.add_le_add h.w g.w⟩
theorem PL.app {n b m c k l : Nat} {xs ys : List PyData} (h : PL n b k xs) (g : PL m c l ys) : PL (n + m) (b + c) (k + l) (xs ++ ys) := ⟨by rw [List.length_append]; exact Nat.add_le_add h.len g.len, fun z hz => (List.mem_append.mp hz).elim (h.ps z) (g.ps z), by rw [W_app]; exact Nat.add_le_add h.w g.w, h.mx.app g.mx⟩
theorem RL.sub {n b : Nat} {xs ys : List PyData} (h : RL n b xs) (s : ys.Sublist xs) : RL n b ys := ⟨Nat.le_trans s.length_le h.len, fun z hz => h.th z (s.subset hz), Nat.le_trans (W_sub s) h.w⟩
theorem PL.sub {n b k : Nat} {xs ys : List PyData} (h : PL n b k xs) (s : ys.Sublist xs) : PL n b k ys := ⟨Nat.le_trans s.length_le h.len, fun z hz => h.ps z (s.subset hz), Nat.le_trans (W_sub s) h.w, h.mx.sub fun z hz => s.subset hz⟩
theorem RL.rot {n b : Nat} {xs : List PyData} (h : RL n b xs) (i : Nat) : RL n b (xs.drop i ++ xs.take i) := ⟨by rw [rot_len]; exact h.len, fun z hz => h.th z (rot_mem hz), by rw [rot_W]; exact h.w⟩
theorem PL.rot {n b k : Nat} {xs : List PyData} (h : PL n b k xs) (i : Nat) : PL n b k (xs.drop i ++ xs.take i) := ⟨by rw [rot_len]; exact h.len, fun z hz => h.ps z (rot_mem hz), by rw [rot_W]; exact h.w, h.mx.sub fun z hz => rot_mem hz⟩
theorem RL.up {n b m c : Nat} {xs : List PyData} (h : RL n b xs) (h1 : n ≤ m := by decide) (h2 : b ≤ c := by decide) : RL m c xs := ⟨Nat.le_trans h.len h1, h.th, Nat.le_trans h.w h2⟩
theorem PL.up {n b m c k l : Nat} {xs : List PyData} (h : PL n b k xs) (h1 : n ≤ m := by decide) (h2 : b ≤ c := by decide) (h3 : k ≤ l := by decide) : PL m c l xs := ⟨Nat.le_trans h.len h1, h.ps, Nat.le_trans h.w h2, h.mx.up h3⟩
/-- an item is put in another one's place -/
theorem RL.swap {n b m c : Nat} {xs : List PyData} {z : PyData} (h : RL n b xs) (g : RL m c [z]) (i : Nat) : RL (n + m) (b + c) (xs.take i ++ [z] ++ xs.drop (i + 1)) := by
  have a := (h.sub (swap_sub xs i)).app g
  have e : W (xs.take i ++ [z] ++ xs.drop (i + 1)) = W (xs.take i ++ xs.drop (i + 1) ++ [z]) := by simp only [W_app]; omega
  refine ⟨?_, fun y hy => a.th y ?_, by rw [e]; exact a.w⟩
  · have := a.len
    simp only [List.length_append] at this ⊢
    omega
  · simp only [List.mem_append] at hy ⊢
    rcases hy with (hy | hy) | hy
    · exact .inl (.inl hy)
    · exact .inr hy
    · exact .inl (.inr hy)
theorem PL.swap {n b k m c l : Nat} {xs : List PyData} {z : PyData} (h : PL n b k xs) (g : PL m c l [z]) (i : Nat) : PL (n + m) (b + c) (k + l) (xs.take i ++ [z] ++ xs.drop (i + 1)) := by
  have a := (h.sub (swap_sub xs i)).app g
  have e : W (xs.take i ++ [z] ++ xs.drop (i + 1)) = W (xs.take i ++ xs.drop (i + 1) ++ [z]) := by simp only [W_app]; omega
  have mem : ∀ y ∈ xs.take i ++ [z] ++ xs.drop (i + 1), y ∈ xs.take i ++ xs.drop (i + 1) ++ [z] := fun y hy => by
    simp only [List.mem_append] at hy ⊢
    rcases hy with (hy | hy) | hy
    · exact .inl (.inl hy)
    · exact .inr hy
    · exact .inl (.inr hy)
  refine ⟨?_, fun y hy => a.ps y (mem y hy), by rw [e]; exact a.w, a.mx.sub mem⟩
  have := a.len
  simp only [List.length_append] at this ⊢
  omega
theorem rl_one {x : PyData} (h : Th x) : RL 1 2722 [x] := ⟨by simp, fun z hz => by cases List.mem_singleton.mp hz; exact ⟨h.ok, _, h.sd⟩, by have := h.sd.sn.len; simp only [W, List.map_cons, List.map_nil, List.sum_cons, List.sum_nil]; omega⟩
theorem pl_one {x : PyData} (h : PairZ x) : PL 1 8171 320 [x] := ⟨by simp, fun z hz => by cases List.mem_singleton.mp hz; exact ⟨h.ps, _, h.sd⟩, by have := h.sd.sn.len; simp only [W, List.map_cons, List.map_nil, List.sum_cons, List.sum_nil]; omega, .one h⟩
theorem pl_odd {x : PyData} (h : x ∈ oddL) : PL 1 62 320 [x] := by
  have e : isPr x = false := by
    unfold isPr
    split
    · exact absurd rfl (odd_no h)
    · rfl
  refine ⟨by simp, fun z hz => by cases List.mem_singleton.mp hz; exact ⟨odd_ps h, 60, (odd_sd h).up⟩, by have := (odd_sd h).sn.len; simp only [W, List.map_cons, List.map_nil, List.sum_cons, List.sum_nil]; omega, ⟨1, by decide, by decide, fun y hy k => by cases List.mem_singleton.mp hy; rw [e] at k; cases k⟩⟩
/-- a short stretch -/
def SmS (z : PyData) : Prop := ∃ k : Int, z = .tuple [.tuple [.int k, .int 1], .tuple [.int (k + 2), .int 1]] ∧ 0 ≤ k ∧ k < 1001
theorem fb_small {k : Int} (h0 : 0 ≤ k) (h1 : k < 1100) : Fb 204 102 k 1 := ⟨⟨by decide, by simp [Int.gcd]⟩, two_le (show k.natAbs < 2 ^ 11 by omega) (by decide), by decide⟩
theorem SmS.rl {xs : List PyData} {n : Nat} (h : ∀ z ∈ xs, SmS z) (hl : xs.length ≤ n) : RL n (n * 39) xs := by
  have sd : ∀ z ∈ xs, Sd 2 37 z := fun z hz => by
    obtain ⟨k, rfl, h0, h1⟩ := h z hz
    exact sd_pair (sd_frs h0 (by omega) (by decide) (by decide)) (sd_frs (by omega) (by omega) (by decide) (by decide))
  refine ⟨hl, fun z hz => ⟨?_, 37, (sd z hz).up⟩, Nat.le_trans (W_le sd) (Nat.mul_le_mul_right _ hl)⟩
  obtain ⟨k, rfl, h0, h1⟩ := h z hz
  exact ths_two (fb_small h0 (by omega)) (fb_small (by omega) (by omega))
def SmP (z : PyData) : Prop := ∃ (j : Int) (y : PyData), z = .tuple [.tuple [.int j, .int 1], y] ∧ 0 ≤ j ∧ j < 5 ∧ SmS y
theorem SmP.pl {xs : List PyData} {n : Nat} (h : ∀ z ∈ xs, SmP z) (hl : xs.length ≤ n) : PL n (n * 83) 5 xs := by
  have sd : ∀ z ∈ xs, Sd 3 81 z := fun z hz => by
    obtain ⟨j, y, rfl, j0, j1, k, rfl, h0, h1⟩ := h z hz
    exact sd_pair (sd_frs j0 (by omega) (by decide) (by decide)).up (sd_pair (sd_frs h0 (by omega) (by decide) (by decide)) (sd_frs (by omega) (by omega) (by decide) (by decide)))
  refine ⟨hl, fun z hz => ⟨?_, 81, (sd z hz).up⟩, Nat.le_trans (W_le sd) (Nat.mul_le_mul_right _ hl), 16, by decide, by decide, fun z hz _ => ?_⟩
  · obtain ⟨j, y, rfl, j0, j1, k, rfl, h0, h1⟩ := h z hz
    intro a b e
    cases e
    exact ⟨fb_szf (fb_small j0 (by omega)), ths_two (fb_small h0 (by omega)) (fb_small (by omega) (by omega))⟩
  · obtain ⟨j, y, rfl, j0, j1, k, rfl, h0, h1⟩ := h z hz
    exact ⟨j, 1, k, 1, k + 2, 1, 1, rfl, fb_small j0 (by omega), j0, fb_small h0 (by omega), fb_small (by omega) (by omega), by omega, rfl, by decide⟩
theorem st_sd {z : PyData} (h : St z) : Sd 2 841 z := by
  obtain ⟨p, q, u, v, rfl, f, g, l⟩ := h
  exact sd_pair (sd_frc (j := 204) f.t (two_le f.b (by decide))) (sd_frc (j := 204) g.t (two_le g.b (by decide)))
theorem st_ths {z : PyData} (h : St z) : ThS z := by
  obtain ⟨p, q, u, v, rfl, f, g, l⟩ := h
  exact ths_two f g
theorem st_rl {xs : List PyData} {n : Nat} (h : ∀ z ∈ xs, St z) (hl : xs.length ≤ n) : RL n (n * 843) xs := ⟨hl, fun z hz => ⟨st_ths (h z hz), 841, (st_sd (h z hz)).up⟩, Nat.le_trans (W_le fun z hz => st_sd (h z hz)) (Nat.mul_le_mul_right _ hl)⟩
/-- a pair of a short weight and a stretch -/
def StP (z : PyData) : Prop := ∃ (j : Int) (y : PyData), z = .tuple [.tuple [.int j, .int 1], y] ∧ 0 ≤ j ∧ j < 5 ∧ St y
theorem StP.sd {z : PyData} (h : StP z) : Sd 3 1689 z := by
  obtain ⟨j, y, rfl, j0, j1, s⟩ := h
  exact sd_pair (sd_frs j0 (by omega) (by decide) (by decide)).up (st_sd s)
theorem StP.mx : ∀ {xs : List PyData}, (∀ z ∈ xs, StP z) → MixOk (320 * xs.length + 1) xs
  | [], _ => ⟨1, by decide, by decide, fun z hz => absurd hz List.not_mem_nil⟩
  | x :: xs, h => by
    have a := StP.mx fun z hz => h z (List.mem_cons_of_mem _ hz)
    obtain ⟨j, y, rfl, j0, j1, p, q, u, v, rfl, f, g, l⟩ := h x (List.mem_cons_self ..)
    have l1 : (1 * q).natAbs < 2 ^ (1 + 102) := natAbs_mul_lt (by decide) f.b
    have l2 : (1 * q * v).natAbs < 2 ^ (1 + 102 + 102) := natAbs_mul_lt l1 g.b
    have l3 : (16 * (1 * q * v)).natAbs < 2 ^ (5 + (1 + 102 + 102)) := natAbs_mul_lt (by decide) l2
    have b : MixOk 320 [(.tuple [.tuple [.int j, .int 1], .tuple [.tuple [.int p, .int q], .tuple [.int u, .int v]]] : PyData)] := ⟨16 * (1 * q * v), Int.mul_pos (by decide) (Int.mul_pos (Int.mul_pos (by decide) f.f.pos) g.f.pos), two_le l3 (by decide), fun z hz _ => by
      cases List.mem_singleton.mp hz
      exact ⟨j, 1, p, q, u, v, 1, rfl, fb_small j0 (by omega), j0, f, g, l, (Int.mul_one _).symm, by decide⟩⟩
    have c := b.app a
    rw [List.length_cons, show 320 * (xs.length + 1) + 1 = 320 + (320 * xs.length + 1) by omega]
    exact c
theorem StP.pl {xs : List PyData} (h : ∀ z ∈ xs, StP z) (hl : xs.length ≤ 5) : PL 5 8455 1601 xs := by
  refine ⟨hl, fun z hz => ⟨?_, 1689, (h z hz).sd.up⟩, Nat.le_trans (W_le fun z hz => (h z hz).sd) (Nat.mul_le_mul_right 1691 hl), (StP.mx h).up (by omega)⟩
  obtain ⟨j, y, rfl, j0, j1, s⟩ := h z hz
  intro a b e
  cases e
  exact ⟨fb_szf (fb_small j0 (by omega)), st_ths s⟩
structure RowX (x : PyData) : Prop where
  ok : ∀ xs, x = .list xs → xs.length ≤ 2000 ∧ ∀ z ∈ xs, ThS z
  cp : Cp x
structure PairX (x : PyData) : Prop where
  ok : ∀ xs, x = .list xs → xs.length ≤ 2000 ∧ (∀ z ∈ xs, PS z) ∧ MixOk 2700 xs
  cp : Cp x
theorem RL.x {xs : List PyData} (h : RL 2000 99990 xs) : RowX (.list xs) ∧ RowX (.tuple xs) := by
  have l := h.len
  exact ⟨⟨fun ys e => by cases e; exact ⟨h.len, fun z hz => (h.th z hz).1⟩, cp_lst (fun z hz => (h.th z hz).2) (by decide) h.w (by omega)⟩, ⟨fun ys e => (by cases e), cp_tup (fun z hz => (h.th z hz).2) (by decide) h.w (by omega)⟩⟩
theorem PL.x {xs : List PyData} (h : PL 2000 99990 2700 xs) : PairX (.list xs) ∧ PairX (.tuple xs) := by
  have l := h.len
  exact ⟨⟨fun ys e => by cases e; exact ⟨h.len, fun z hz => (h.ps z hz).1, h.mx⟩, cp_lst (fun z hz => (h.ps z hz).2) (by decide) h.w (by omega)⟩, ⟨fun ys e => (by cases e), cp_tup (fun z hz => (h.ps z hz).2) (by decide) h.w (by omega)⟩⟩
theorem odd_x {x : PyData} (h : x ∈ oddL) : RowX x ∧ PairX x := by
  have cp := (odd_sd h).cp7
  have two : ∀ xs, x = .list xs → xs = [] ∨ xs = [.tuple [.int 0, .int 1], .tuple [.int 1, .int 1]] := fun xs e => by
    subst e
    simpa [oddL] using h
  have it : ∀ z ∈ [(.tuple [.int 0, .int 1] : PyData), .tuple [.int 1, .int 1]], ThS z ∧ PS z ∧ isPr z = false := fun z hz => by
    simp only [List.mem_cons, List.not_mem_nil, or_false] at hz
    have go : ∀ i j : Int, ThS (.tuple [.int i, .int j]) ∧ PS (.tuple [.int i, .int j]) ∧ isPr (.tuple [.int i, .int j]) = false := fun i j => by
      have t : ∀ k : Int, ThS (.int k) := fun k => ⟨⟨fun a b e => (by cases e), fun e => (by cases e)⟩, fun a b e => (by cases e)⟩
      have f : ∀ k : Int, Szf (.int k) := fun k p q e => (by cases e)
      exact ⟨⟨⟨fun a b e fa => (by cases e; cases fa), fun e => (by cases e)⟩, fun a b e => (by cases e; exact ⟨f _, f _⟩)⟩, fun a b e => (by cases e; exact ⟨f _, t _⟩), rfl⟩
    rcases hz with rfl | rfl <;> exact go _ _
  refine ⟨⟨fun xs e => ?_, cp⟩, ⟨fun xs e => ?_, cp⟩⟩
  · rcases two xs e with rfl | rfl
    · exact ⟨by decide, fun z hz => absurd hz List.not_mem_nil⟩
    · exact ⟨by decide, fun z hz => (it z hz).1⟩
  · rcases two xs e with rfl | rfl
    · exact ⟨by decide, fun z hz => absurd hz List.not_mem_nil, 1, by decide, by decide, fun z hz => absurd hz List.not_mem_nil⟩
    · exact ⟨by decide, fun z hz => (it z hz).2.1, 1, by decide, by decide, fun z hz k => by rw [(it z hz).2.2] at k; cases k⟩
theorem rdy_one {d : Str} {x y : PyData} (h : d = "widened" ∨ d = "holds" ∨ d = "width") (th : ThS x) (b1 : isFr y = true → FrM y) (b2 : Szf y) : Rdy d x y := by
  have n : d ∈ doorL ∧ d ≠ "meeting" ∧ d ≠ "apart" ∧ d ≠ "mixed" := by
    rcases h with rfl | rfl | rfl <;> decide +kernel
  exact ⟨n.1, fun e => (e.elim n.2.1 n.2.2.1).elim, fun e => (n.2.2.2 e).elim, fun _ => th, b1, b2⟩
theorem rdy_row {d : Str} {x : PyData} (h : d = "meeting" ∨ d = "apart") (r : RowX x) : Rdy d x .none := by
  have n : d ∈ doorL ∧ d ≠ "widened" ∧ d ≠ "holds" ∧ d ≠ "width" ∧ d ≠ "mixed" := by
    rcases h with rfl | rfl <;> decide +kernel
  exact ⟨n.1, fun _ => r.ok, fun e => (n.2.2.2.2 e).elim, fun e => by rcases e with e | e | e; exact (n.2.1 e).elim; exact (n.2.2.1 e).elim; exact (n.2.2.2.1 e).elim, fun e => (by cases e), fun p q e => (by cases e)⟩
theorem rdy_mix {x : PyData} (r : PairX x) : Rdy "mixed" x .none := by
  have n : ("mixed" : Str) ∈ doorL ∧ ("mixed" : Str) ≠ "widened" ∧ ("mixed" : Str) ≠ "holds" ∧ ("mixed" : Str) ≠ "width" ∧ ("mixed" : Str) ≠ "meeting" ∧ ("mixed" : Str) ≠ "apart" := by decide +kernel
  exact ⟨n.1, fun e => (e.elim n.2.2.2.2.1 n.2.2.2.2.2).elim, fun _ => r.ok, fun e => by rcases e with e | e | e; exact (n.2.1 e).elim; exact (n.2.2.1 e).elim; exact (n.2.2.2.1 e).elim, fun e => (by cases e), fun p q e => (by cases e)⟩
theorem vc_law : rd_law { nx := fun _ => False, rt := fun dv => dv = .d (.bool true) } (.un :: .bag :: List.replicate 17 .un) := by
  unfold rd_law
  refine seqG fun R hR => ?_
  walk_at "dl"
  refine ⟨16, rfl, by decide, by decide, fun way w0 w1 => ?_⟩
  walk_at "dl"
  refine ⟨16, rfl, by decide, by decide, fun size z0 z1 => ?_⟩
  walk_at "dl"
  refine ⟨4, rfl, by decide, by decide, fun weight g0 g1 => ?_⟩
  walk_at "dl"
  refine hR _ (seqG fun R hR => ?_)
  walk_at "dl"
  refine ⟨rfl, fun p q u v f g l => ?_⟩
  walk_at "dl"
  refine ⟨way, p, q, u, v, rfl, w0, by omega, f, g, fun x th => ?_⟩
  walk_at "dl"
  refine hR _ (seqG fun R hR => ?_)
  walk_at "dl"
  refine ⟨rfl, fun y bs => ?_⟩
  walk_at "dl"
  refine hR _ (seqG fun R hR => ?_)
  walk_at "dl"
  refine ⟨x, rfl, Nat.le_trans th.sd.sn.deep (by decide), th.sd.cp, ?_⟩
  refine (fun (nxt : R [.un, .bag, .d (.int way), .d (.int size), .d (.int weight), .d x, .d y, .d (.bool (isSt x)), .un, .un, .un, .un, .un, .un, .un, .un, .un, .un, .un]) => ?_) ?_
  · rcases cpR_or x with ⟨xs, rfl⟩ | e
    · simp only [cpR]
      walk_at "dl"
      exact ⟨_, rfl, th.ok.1, nxt⟩
    · rw [e]
      walk_at "dl"
      exact ⟨_, rfl, th.ok.1, nxt⟩
  refine hR _ (seqG fun R hR => ?_)
  walk_at "dl"
  refine ⟨x, rfl, th.ok.2, ?_⟩
  walk_at "dl"
  refine ⟨_, rfl, True.intro, (sn_bool _).sh, ?_⟩
  walk_at "dl"
  refine hR _ (seqG fun R hR => ?_)
  walk_at "dl"
  refine ⟨by decide, ?_⟩
  have bm : isFr y = true → FrM y := fun e => by
    obtain ⟨a, b, rfl, k⟩ := bs.fb e
    exact ⟨a, b, rfl, k.fk⟩
  refine forD_ind (fun zs env => (∃ s8, env = [.un, .bag, .d (.int way), .d (.int size), .d (.int weight), .d x, .d y, .d (.bool (isSt x)), s8, .un, .un, .un, .un, .un, .un, .un, .un, .un, .un]) ∧ ∀ z ∈ zs, ∃ d : Str, z = .str d ∧ (d = "widened" ∨ d = "holds" ∨ d = "width")) (fun env hI => ?_) (fun z zs env R2 hI hR2 => ?_) _ _ ⟨⟨_, rfl⟩, fun z hz => ?_⟩
  rotate_left
  · obtain ⟨⟨s8, rfl⟩, hz⟩ := hI
    obtain ⟨d, rfl, hd⟩ := hz z (List.mem_cons_self ..)
    have hR2 := fun e h => hR2 e ⟨h, fun y h => hz y (List.mem_cons_of_mem _ h)⟩
    walk_at "dl"
    refine ⟨d, x, y, rfl, rdy_one hd th.ok bm bs.sz, th.sd.cp7, bs.sd.cp7, ?_⟩
    walk_at "dl"
    exact hR2 _ ⟨_, rfl⟩
  · simp only [List.mem_cons, List.not_mem_nil, or_false] at hz
    rcases hz with rfl | rfl | rfl
    · exact ⟨_, rfl, .inl rfl⟩
    · exact ⟨_, rfl, .inr (.inl rfl)⟩
    · exact ⟨_, rfl, .inr (.inr rfl)⟩
  obtain ⟨⟨s8, rfl⟩, -⟩ := hI
  refine hR _ (seqG fun R hR => ?_)
  walk_at "dl"
  refine ⟨by decide, by decide, ?_⟩
  have m0 := Int.fmod_nonneg_of_pos size (show (0 : Int) < 4 by decide)
  have m1 := Int.fmod_lt_of_pos size (show (0 : Int) < 4 by decide)
  refine pick m0 m1 fun mn hmn => ?_
  obtain ⟨many, rfl, n1, n5⟩ : ∃ m : Int, mn = .int m ∧ 1 ≤ m ∧ m ≤ 5 := by
    simp only [List.mem_cons, List.not_mem_nil, or_false] at hmn
    rcases hmn with rfl | rfl | rfl | rfl <;> exact ⟨_, rfl, by decide, by decide⟩
  walk_at "dl"
  refine hR _ (seqG fun R hR => ?_)
  walk_at "dl"
  unfold tLcD
  walk_at "dl"
  refine ⟨⟨by omega, by omega⟩, ?_⟩
  refine lc_all St (by rw [rngD_len]; omega) (fun some hl hs => ?_) fun z hz R4 hR4 => ?_
  rotate_left
  · walk_at "dl"
    refine ⟨rfl, fun p q u v f g l => ?_⟩
    walk_at "dl"
    exact hR4 _ ⟨p, q, u, v, rfl, f, g, l⟩
  rw [rngD_len] at hl
  walk_at "dl"
  refine fun l10 => hR _ (seqG fun R hR => ?_)
  walk_at "dl"
  refine ⟨many, rfl, by omega, log_le (show many.natAbs < 2 ^ 20 by omega) (by decide) (by decide), fun at_ a0 a1 => ?_⟩
  walk_at "dl"
  refine hR _ (seqG fun R hR => ?_)
  walk_at "dl"
  refine ⟨weight, x, y, rfl, g0, g1, th, bs, fun pz hpz => ?_⟩
  walk_at "dl"
  refine hR _ (seqG fun R hR => ?_)
  walk_at "dl"
  have rl0 : RL 5 4215 some := st_rl (n := 5) hs (by omega)
  rw [cut_to a0, cut_from (show 0 ≤ at_ + 1 by omega), show (at_ + 1).toNat = at_.toNat + 1 by omega]
  have rl1 := rl0.swap (rl_one th) at_.toNat
  have ne1 : 1 ≤ (some.take at_.toNat ++ [x] ++ some.drop (at_.toNat + 1)).length := by simp only [List.length_append, List.length_singleton]; omega
  have len1 := rl1.len
  refine ⟨by decide, ?_, ?_, fun l14 => ?_⟩
  · simp only [List.length_append, List.length_singleton] at len1 ⊢
    omega
  · simp only [List.length_append, List.length_singleton] at len1 ⊢
    omega
  generalize some.take at_.toNat ++ [x] ++ some.drop (at_.toNat + 1) = rows at rl1 ne1 len1 ⊢
  refine hR _ (seqG fun R hR => ?_)
  walk_at "dl"
  unfold tLcD
  walk_at "dl"
  refine ⟨⟨by omega, by omega⟩, ?_⟩
  refine lc_all StP (by rw [rngD_len]; omega) (fun prs hl2 hs2 => ?_) fun z hz R4 hR4 => ?_
  rotate_left
  · unfold rngD at hz
    obtain ⟨j, hj, rfl⟩ := List.mem_map.mp hz
    have hj := List.mem_range.mp hj
    walk_at "dl"
    refine ⟨by decide, ?_⟩
    refine pick (by omega) (by omega) fun z2 hz2 => ?_
    walk_at "dl"
    refine ⟨by decide, ?_⟩
    exact hR4 _ ⟨_, _, rfl, by omega, by omega, hs z2 hz2⟩
  rw [rngD_len] at hl2
  walk_at "dl"
  refine fun l15 => hR _ (seqG fun R hR => ?_)
  walk_at "dl"
  have pl0 : PL 5 8455 1601 prs := StP.pl hs2 (by omega)
  rw [cut_to a0, cut_from (show 0 ≤ at_ + 1 by omega), show (at_ + 1).toNat = at_.toNat + 1 by omega]
  have pl1 := pl0.swap (pl_one hpz) at_.toNat
  have len2 := pl1.len
  refine ⟨by decide, ?_, ?_, fun l15 => ?_⟩
  · simp only [List.length_append, List.length_singleton] at len2 ⊢
    omega
  · simp only [List.length_append, List.length_singleton] at len2 ⊢
    omega
  generalize prs.take at_.toNat ++ [pz] ++ prs.drop (at_.toNat + 1) = prs2 at pl1 len2 ⊢
  refine hR _ (seqG fun R hR => ?_)
  refine (fun (st : ∀ rows prs, RL 6 6937 rows → (size ≠ 0 → 1 ≤ rows.length) → PL 6 16626 1921 prs → R [.un, .bag, .d (.int way), .d (.int size), .d (.int weight), .d x, .d y, .d (.bool (isSt x)), s8, .d (.int many), .ow l10 some, .un, .d (.int at_), .d pz, .d (.list rows), .d (.list prs), .un, .un, .un]) => ?_) ?_
  · walk_at "dl"
    by_cases c : size = 0
    · simp only [c, decide_true, if_true]
      have st0 := st [] [] ⟨by simp, fun z hz => absurd hz List.not_mem_nil, by simp [W]⟩ (fun h => absurd c h) ⟨by simp, fun z hz => absurd hz List.not_mem_nil, by simp [W], 1, by decide, by decide, fun z hz => absurd hz List.not_mem_nil⟩
      rw [c] at st0
      exact ⟨by decide, by decide, st0⟩
    · simp only [c, decide_false, Bool.false_eq_true, if_false]
      exact st rows prs2 rl1 (fun _ => ne1) pl1
  clear rl1 ne1 len1 pl1 len2 pl0 hs2 hl2
  intro rows prs rl1 ne1 pl1
  refine hR _ (seqG fun R hR => ?_)
  walk_at "dl"
  unfold tLcD
  walk_at "dl"
  refine ⟨⟨by omega, by omega⟩, ?_⟩
  refine lc_all SmS (by rw [rngD_len]; omega) (fun sm hl3 hs3 => ?_) fun z hz R4 hR4 => ?_
  rotate_left
  · unfold rngD at hz
    obtain ⟨j, hj, rfl⟩ := List.mem_map.mp hz
    have hj := List.mem_range.mp hj
    walk_at "dl"
    refine ⟨by decide, by decide, by decide, ?_⟩
    exact hR4 _ ⟨_, rfl, by omega, by omega⟩
  rw [rngD_len] at hl3
  walk_at "dl"
  refine fun l16 => hR _ (seqG fun R hR => ?_)
  refine (fun (st : ∀ s14 s15 s17 s18 rows prs, (s14 = .d (.list rows) ∨ ∃ l, s14 = .ow l rows) → (s15 = .d (.list prs) ∨ ∃ l, s15 = .ow l prs) → RL 1990 99900 rows → PL 1990 99900 2300 prs → R [.un, .bag, .d (.int way), .d (.int size), .d (.int weight), .d x, .d y, .d (.bool (isSt x)), s8, .d (.int many), .ow l10 some, .un, .d (.int at_), .d pz, s14, s15, .ow l16 sm, s17, s18]) => ?_) ?_
  · refine ifG fun A B hA hB => ?_
    walk_at "dl"
    have iv : inV (toV (.int size)) (List.map toV [.int 1, .int 2]) = decide (size = 1 ∨ size = 2) := by
      have z : ∀ s : Fin 16, inV (toV (.int (s.val : Int))) (List.map toV [.int 1, .int 2]) = decide ((s.val : Int) = 1 ∨ (s.val : Int) = 2) := by decide +kernel
      have z := z ⟨size.toNat, by omega⟩
      rwa [show ((size.toNat : Nat) : Int) = size by omega] at z
    refine ⟨by decide, rfl, rfl, ?_⟩
    show (if id (inV _ _) = true then A else B)
    rw [id, iv]
    by_cases hm : size = 1 ∨ size = 2
    · rw [if_pos (decide_eq_true hm)]
      refine hA (seqG fun R2 hR2 => ?_)
      walk_at "dl"
      rw [cut_to (show (0 : Int) ≤ 59 + size - many by omega)]
      have r1 : RL 62 2418 (sm.take (59 + size - many).toNat) := SmS.rl (n := 62) (fun z hz => hs3 z (List.mem_of_mem_take hz)) (by rw [List.length_take]; omega)
      have r2 := rl1.app r1
      have ne2 : 1 ≤ (rows ++ sm.take (59 + size - many).toNat).length := by
        have := ne1 (by omega)
        rw [List.length_append]
        omega
      have lr := r2.len
      refine ⟨by rw [← List.length_append]; omega, fun l14 => ?_⟩
      generalize rows ++ sm.take (59 + size - many).toNat = rows2 at r2 ne2 lr ⊢
      refine hR2 _ (seqG fun R3 hR3 => ?_)
      walk_at "dl"
      unfold tLcD
      walk_at "dl"
      rw [cut_to (show (0 : Int) ≤ 999 + size - many by omega)]
      refine lc_all SmP (by rw [enumD_len, List.length_take]; omega) (fun ps hlp hsp => ?_) fun z hz R4 hR4 => ?_
      rotate_left
      · unfold enumD at hz
        obtain ⟨⟨y, i⟩, hi, rfl⟩ := List.mem_map.mp hz
        have hy : y ∈ sm.take (999 + size - many).toNat := List.fst_mem_of_mem_zipIdx hi
        walk_at "dl"
        have f0 := Int.fmod_nonneg_of_pos ((i : Nat) : Int) (show (0 : Int) < 5 by decide)
        have f1 := Int.fmod_lt_of_pos ((i : Nat) : Int) (show (0 : Int) < 5 by decide)
        refine ⟨by decide, by decide, by decide, ?_⟩
        exact hR4 _ ⟨_, y, rfl, f0, f1, hs3 y (List.mem_of_mem_take hy)⟩
      rw [enumD_len, List.length_take] at hlp
      walk_at "dl"
      have p1 : PL 1001 83083 5 ps := SmP.pl (n := 1001) hsp (by omega)
      have p2 := pl1.app p1
      have lp := p2.len
      refine ⟨by rw [← List.length_append]; omega, fun l15 => ?_⟩
      generalize prs ++ ps = prs3 at p2 lp ⊢
      refine hR3 _ (seqG fun R4 hR4 => ?_)
      walk_at "dl"
      refine ⟨1000, rfl, by decide, by decide, fun t t0 t1 => ?_⟩
      walk_at "dl"
      refine hR4 _ (seqG fun R5 hR5 => ?_)
      walk_at "dl"
      have f0 := Int.fmod_nonneg_of_pos t (show (0 : Int) < (rows2.length : Nat) by omega)
      rw [cut_from f0, cut_to f0]
      have r3 := r2.rot (t.fmod (rows2.length : Nat)).toNat
      have l3 := r3.len
      refine ⟨by omega, by omega, by rw [← List.length_append]; omega, fun l14 => hR5 _ ?_⟩
      walk_at "dl"
      have p3 := p2.rot t.toNat
      have lp3 := p3.len
      rw [cut_from t0, cut_to t0]
      refine ⟨by rw [← List.length_append]; omega, fun l15 => ?_⟩
      exact st _ _ _ _ _ _ (.inr ⟨_, rfl⟩) (.inr ⟨_, rfl⟩) r3.up p3.up
    · rw [if_neg (by rw [decide_eq_false hm]; decide)]
      exact hB (st _ _ _ _ rows prs (.inl rfl) (.inl rfl) rl1.up pl1.up)
  intro s14 s15 s17 s18 rows prs h14 h15 rl pl
  refine hR _ (seqG fun R hR => ?_)
  have fz : frzS 14 (frzS 15 [.un, .bag, .d (.int way), .d (.int size), .d (.int weight), .d x, .d y, .d (.bool (isSt x)), s8, .d (.int many), .ow l10 some, .un, .d (.int at_), .d pz, s14, s15, .ow l16 sm, s17, s18]) = [.un, .bag, .d (.int way), .d (.int size), .d (.int weight), .d x, .d y, .d (.bool (isSt x)), s8, .d (.int many), .ow l10 some, .un, .d (.int at_), .d pz, .d (.list rows), .d (.list prs), .ow l16 sm, s17, s18] := by
    rcases h14 with rfl | ⟨l1, rfl⟩ <;> rcases h15 with rfl | ⟨l2, rfl⟩ <;> rfl
  show tIfD _ _ _ _ (frzS 14 (frzS 15 _))
  rw [fz]
  clear fz h14 h15
  have rx := (rl.up (m := 2000) (c := 99990)).x
  have px := (pl.up (m := 2000) (c := 99990) (l := 2700)).x
  have cpn : Cp .none := ⟨by simp [PyData.depth], by simp [okC], sn_none.sh⟩
  have lp := pl.len
  walk_at "dl"
  by_cases c3 : size = 3
  · simp only [c3, decide_true, if_true]
    refine hR _ (seqG fun R hR => ?_)
    walk_at "dl"
    refine hR _ (seqG fun R hR => ?_)
    walk_at "dl"
    refine hR _ ?_
    walk_at "dl"
    refine ⟨"meeting", _, _, rfl, rdy_row (.inl rfl) rx.2, rx.2.cp, cpn, ?_⟩
    walk_at "dl"
    refine ⟨"apart", _, _, rfl, rdy_row (.inr rfl) rx.2, rx.2.cp, cpn, ?_⟩
    walk_at "dl"
    refine ⟨"mixed", _, _, rfl, rdy_mix px.2, px.2.cp, cpn, ?_⟩
    exact rfl
  simp only [c3, decide_false, Bool.false_eq_true, if_false]
  refine hR _ (seqG fun R hR => ?_)
  walk_at "dl"
  by_cases c4 : size = 4
  · simp only [c4, decide_true, if_true]
    refine ⟨rfl, fun o1 ho1 => ?_⟩
    walk_at "dl"
    refine ⟨rfl, fun o2 ho2 => ?_⟩
    walk_at "dl"
    refine hR _ (seqG fun R hR => ?_)
    walk_at "dl"
    refine hR _ ?_
    have ox := (odd_x ho1).1
    have oy := (odd_x ho2).2
    walk_at "dl"
    refine ⟨"meeting", _, _, rfl, rdy_row (.inl rfl) ox, ox.cp, cpn, ?_⟩
    walk_at "dl"
    refine ⟨"apart", _, _, rfl, rdy_row (.inr rfl) ox, ox.cp, cpn, ?_⟩
    walk_at "dl"
    refine ⟨"mixed", _, _, rfl, rdy_mix oy, oy.cp, cpn, ?_⟩
    exact rfl
  simp only [c4, decide_false, Bool.false_eq_true, if_false]
  refine hR _ (seqG fun R hR => ?_)
  walk_at "dl"
  by_cases c5 : size = 5
  · simp only [c5, decide_true, if_true]
    refine ⟨rfl, fun o ho => ?_⟩
    walk_at "dl"
    rw [cut_to a0, cut_from (show 0 ≤ at_ + 1 by omega), show (at_ + 1).toNat = at_.toNat + 1 by omega]
    have ps := pl.swap (pl_odd ho) at_.toNat
    have py := (ps.up (m := 2000) (c := 99990) (l := 2700)).x
    have ls := ps.len
    simp only [List.length_append, List.length_singleton] at ls
    refine ⟨by decide, by rw [List.length_take]; omega, by simp only [List.length_append, List.length_singleton]; omega, fun l15 => hR _ ?_⟩
    walk_at "dl"
    refine ⟨"meeting", _, _, rfl, rdy_row (.inl rfl) rx.1, rx.1.cp, cpn, ?_⟩
    walk_at "dl"
    refine ⟨"apart", _, _, rfl, rdy_row (.inr rfl) rx.1, rx.1.cp, cpn, ?_⟩
    walk_at "dl"
    refine ⟨"mixed", _, _, rfl, rdy_mix py.1, py.1.cp, cpn, ?_⟩
    walk_at "dl"
    exact .inr (by simp [noL])
  simp only [c5, decide_false, Bool.false_eq_true, if_false]
  refine hR _ ?_
  walk_at "dl"
  refine ⟨"meeting", _, _, rfl, rdy_row (.inl rfl) rx.1, rx.1.cp, cpn, ?_⟩
  walk_at "dl"
  refine ⟨"apart", _, _, rfl, rdy_row (.inr rfl) rx.1, rx.1.cp, cpn, ?_⟩
  walk_at "dl"
  refine ⟨"mixed", _, _, rfl, rdy_mix px.1, px.1.cp, cpn, ?_⟩
  exact rfl
section
variable {ts : List Addr} {P : Program} {w : World} {K : PySem.W.Frag} {mg : Str → Option Value} {base : Heap}
theorem ok_law {f : Addr} {fd : FuncData} (Fn : L2.Fun K "law" "law" s_law f fd) {f__law_bag : Addr} (g__law_bag : Fg P w K mg base (L2.CX P w) 1 f__law_bag (spBag K)) (m__law_bag : mg "_law_bag" = some (.ref f__law_bag)) (p__law_bag : PySem.W.keepIn K (.ref f__law_bag) = true) {f__law_take : Addr} (g__law_take : Fg P w K mg base (L2.CX P w) 1 f__law_take (Pm K ts sp__law_take)) (m__law_take : mg "_law_take" = some (.ref f__law_take)) (p__law_take : PySem.W.keepIn K (.ref f__law_take) = true) {f__law_spoilt : Addr} (g__law_spoilt : Fg P w K mg base (L2.CX P w) 4 f__law_spoilt (Pm K ts sp__law_spoilt)) (m__law_spoilt : mg "_law_spoilt" = some (.ref f__law_spoilt)) (p__law_spoilt : PySem.W.keepIn K (.ref f__law_spoilt) = true) {f__law_stretch : Addr} (g__law_stretch : Fg P w K mg base (L2.CX P w) 3 f__law_stretch (Pm K ts sp__law_stretch)) (m__law_stretch : mg "_law_stretch" = some (.ref f__law_stretch)) (p__law_stretch : PySem.W.keepIn K (.ref f__law_stretch) = true) {f__law_beside : Addr} (g__law_beside : Fg P w K mg base (L2.CX P w) 4 f__law_beside (Pm K ts sp__law_beside)) (m__law_beside : mg "_law_beside" = some (.ref f__law_beside)) (p__law_beside : PySem.W.keepIn K (.ref f__law_beside) = true) {f_is_stretch : Addr} (g_is_stretch : Fg P w K mg base (L2.CX P w) 3 f_is_stretch (Pm K ts sp_is_stretch)) (m_is_stretch : mg "is_stretch" = some (.ref f_is_stretch)) (p_is_stretch : PySem.W.keepIn K (.ref f_is_stretch) = true) {f__law_copy : Addr} (g__law_copy : Fg P w K mg base (L2.CX P w) 9 f__law_copy (Pm K ts (sp__law_copy 8))) (m__law_copy : mg "_law_copy" = some (.ref f__law_copy)) (p__law_copy : PySem.W.keepIn K (.ref f__law_copy) = true) {f__law_alike : Addr} (g__law_alike : Fg P w K mg base (L2.CX P w) 1 f__law_alike (Pm K ts sp__law_alike)) (m__law_alike : mg "_law_alike" = some (.ref f__law_alike)) (p__law_alike : PySem.W.keepIn K (.ref f__law_alike) = true) {f__law_is_stretch : Addr} (g__law_is_stretch : Fg P w K mg base (L2.CX P w) 2 f__law_is_stretch (Pm K ts sp__law_is_stretch)) (m__law_is_stretch : mg "_law_is_stretch" = some (.ref f__law_is_stretch)) (p__law_is_stretch : PySem.W.keepIn K (.ref f__law_is_stretch) = true) {f__law_asked : Addr} (g__law_asked : Fg P w K mg base (L2.CX P w) 10 f__law_asked (Pm K ts sp__law_asked)) (m__law_asked : mg "_law_asked" = some (.ref f__law_asked)) (p__law_asked : PySem.W.keepIn K (.ref f__law_asked) = true) {f__law_pair : Addr} (g__law_pair : Fg P w K mg base (L2.CX P w) 2 f__law_pair (Pm K ts sp__law_pair)) (m__law_pair : mg "_law_pair" = some (.ref f__law_pair)) (p__law_pair : PySem.W.keepIn K (.ref f__law_pair) = true) {f__law_odd : Addr} (g__law_odd : Fg P w K mg base (L2.CX P w) 2 f__law_odd (Pm K ts sp__law_odd)) (m__law_odd : mg "_law_odd" = some (.ref f__law_odd)) (p__law_odd : PySem.W.keepIn K (.ref f__law_odd) = true) (z_range : mg "range" = none) (z_enumerate : mg "enumerate" = none) (z_len : mg "len" = none) (z_tuple : mg "tuple" = none) : Fg P w K mg base (L2.CX P w) 11 f (spLaw K ts) := law_ok (z1 := "_law_bag_here") (n := 17) Fn sc_law rfl (fun _ _ _ _ _ _ us hl => match us, hl with | [_], _ => rfl) rd_law (fun cdv A outer s H E ag hr => by
  have S := sc_law
  have hu := hr.units
  exact pss_cons (ps_set (i := 1) S.nd rfl (by first | exact Or.inl rfl | exact Or.inr rfl) (g_call g__law_bag ag (hr.mono (by decide)) passZ (by rfl) m__law_bag p__law_bag (pa_cons (pv 0) pa_nil)))
    (pss_any fun wn ht => (dss_cons (ds_par3 (i := 2) (j := 3) (l := 4) (ps_par3 (i := 2) (j := 3) (l := 4) rfl S.nd rfl rfl rfl (by decide) (by decide) (by decide) rfl rfl rfl (da_cons (d_use g__law_take ht ag (hr.mono (by decide)) passZ (by rfl) m__law_take p__law_take (da_cons (d_var 1) (da_cons d_int da_nil))) (da_cons (d_use g__law_take ht ag (hr.mono (by decide)) passZ (by rfl) m__law_take p__law_take (da_cons (d_var 1) (da_cons d_int da_nil))) (da_cons (d_use g__law_take ht ag (hr.mono (by decide)) passZ (by rfl) m__law_take p__law_take (da_cons (d_var 1) (da_cons d_int da_nil))) da_nil))) (by rfl)))
    (dss_cons (ds_set (i := 5) S.nd rfl (by first | exact Or.inl rfl | exact Or.inr rfl) (d_use g__law_spoilt ht ag (hr.mono (by decide)) passZ (by rfl) m__law_spoilt p__law_spoilt (da_cons (d_var 1) (da_cons (d_var 2) (da_cons (d_use g__law_stretch ht ag (hr.mono (by decide)) passZ (by rfl) m__law_stretch p__law_stretch (da_cons (d_var 1) da_nil)) da_nil)))))
    (dss_cons (ds_set (i := 6) S.nd rfl (by first | exact Or.inl rfl | exact Or.inr rfl) (d_use g__law_beside ht ag (hr.mono (by decide)) passZ (by rfl) m__law_beside p__law_beside (da_cons (d_var 1) da_nil)))
    (dss_cons (ds_set (i := 7) S.nd rfl (by first | exact Or.inl rfl | exact Or.inr rfl) (d_use g_is_stretch ht ag (hr.mono (by decide)) passZ (by rfl) m_is_stretch p_is_stretch (da_cons (d_use g__law_copy ht ag (hr.mono (by decide)) passZ (by rfl) m__law_copy p__law_copy (da_cons (d_var 5) da_nil)) da_nil)))
    (dss_cons (ds_if (dt_not (dt_e (d_use g__law_alike ht ag (hr.mono (by decide)) passZ (by rfl) m__law_alike p__law_alike (da_cons (d_var 7) (da_cons (d_use g__law_is_stretch ht ag (hr.mono (by decide)) passZ (by rfl) m__law_is_stretch p__law_is_stretch (da_cons (d_var 5) da_nil)) da_nil))))) (dss_one (ds_ret d_bl)) dss_nil)
    (dss_cons (ds_for PassesOwn.never rfl (di_list (d_lst (da_cons d_str (da_cons d_str (da_cons d_str da_nil))))) (dg_name (i := 8) S.nd rfl (by first | exact Or.inl rfl | exact Or.inr rfl)) (dss_one (ds_if (dt_not (dt_e (d_use g__law_asked ht ag (hr.mono (by decide)) passZ (by rfl) m__law_asked p__law_asked (da_cons (d_var 8) (da_cons (d_var 5) (da_cons (d_var 6) da_nil)))))) (dss_one (ds_ret d_bl)) dss_nil)))
    (dss_cons (ds_set (i := 9) S.nd rfl (by first | exact Or.inl rfl | exact Or.inr rfl) (d_ix (d_lst (da_cons d_int (da_cons d_int (da_cons d_int (da_cons d_int da_nil))))) (d_bin o_mod (d_var 3) d_int)))
    (dss_cons (ds_set (i := 10) S.nd rfl (by first | exact Or.inl rfl | exact Or.inr rfl) (d_lc (own := [("_law_k", 11)]) rfl S.nd (di_r1 (by rfl) z_range (da_cons (d_var 9) da_nil)) (blkOk_by (N := N_law) (sc := defScope s_law) (by decide +kernel)) (tgt1 11) (fun _ _ _ _ _ => pg_name (i := 11) S.nd rfl (Or.inl rfl)) (fun _ _ _ _ _ => pts_nilD) (fun _ _ _ _ _ => (d_use g__law_stretch ht ag (hr.mono (by decide)) passZ (by rfl) m__law_stretch p__law_stretch (da_cons (d_var 1) da_nil)))))
    (dss_cons (ds_set (i := 12) S.nd rfl (by first | exact Or.inl rfl | exact Or.inr rfl) (d_use g__law_take ht ag (hr.mono (by decide)) passZ (by rfl) m__law_take p__law_take (da_cons (d_var 1) (da_cons (d_var 9) da_nil))))
    (dss_cons (ds_set (i := 13) S.nd rfl (by first | exact Or.inl rfl | exact Or.inr rfl) (d_use g__law_pair ht ag (hr.mono (by decide)) passZ (by rfl) m__law_pair p__law_pair (da_cons (d_var 1) (da_cons (d_var 4) (da_cons (d_var 5) (da_cons (d_var 6) da_nil))))))
    (dss_cons (ds_set (i := 14) S.nd rfl (by first | exact Or.inl rfl | exact Or.inr rfl) (d_bin o_add (d_bin o_add (d_slL (d_var 10) do_none (do_some (d_var 12))) (d_lst (da_cons (d_var 5) da_nil))) (d_slL (d_var 10) (do_some (d_bin o_add (d_var 12) d_int)) do_none)))
    (dss_cons (ds_setLc (i := 15) (vs := [11]) (tgt1 11) (ps_setLc (i := 15) (own := [("_law_k", 11)]) rfl S.nd rfl rfl (sw_true rfl rfl rfl (by decide +kernel)) (di_r1 (by rfl) z_range (da_cons (d_var 9) da_nil)) (blkOk_by (N := N_law) (sc := defScope s_law) (by decide +kernel)) (fun _ _ _ _ _ => pg_name (i := 11) S.nd rfl (Or.inl rfl)) (fun _ _ _ _ _ => pts_nilD) (fun _ _ _ _ _ => (d_tup (da_cons (d_tup (da_cons (d_var 11) (da_cons d_int da_nil))) (da_cons (d_ix (d_var 10) (d_var 11)) da_nil))))))
    (dss_cons (ds_set (i := 15) S.nd rfl (by first | exact Or.inl rfl | exact Or.inr rfl) (d_bin o_add (d_bin o_add (d_slL (d_var 15) do_none (do_some (d_var 12))) (d_lst (da_cons (d_var 13) da_nil))) (d_slL (d_var 15) (do_some (d_bin o_add (d_var 12) d_int)) do_none)))
    (dss_cons (ds_frz 15 (ds_frz 14 (ds_if (dt_cmp (o_eq hu) (d_var 3) d_int) (dss_one (ds_par (i := 14) (j := 15) rfl S.nd rfl rfl (by decide) rfl rfl (da_cons (d_lst da_nil) (da_cons (d_lst da_nil) da_nil)) (ps_par (i := 14) (j := 15) rfl S.nd rfl rfl (by decide) rfl rfl (da_cons (d_lst da_nil) (da_cons (d_lst da_nil) da_nil)) (by rfl)))) dss_nil)))
    (dss_cons (ds_setLc (i := 16) (vs := [11]) (tgt1 11) (ps_setLc (i := 16) (own := [("_law_k", 11)]) rfl S.nd rfl rfl (sw_true rfl rfl rfl (by decide +kernel)) (di_r1 (by rfl) z_range (da_cons (d_bin o_sub d_int (d_var 9)) da_nil)) (blkOk_by (N := N_law) (sc := defScope s_law) (by decide +kernel)) (fun _ _ _ _ _ => pg_name (i := 11) S.nd rfl (Or.inl rfl)) (fun _ _ _ _ _ => pts_nilD) (fun _ _ _ _ _ => (d_tup (da_cons (d_tup (da_cons (d_var 11) (da_cons d_int da_nil))) (da_cons (d_tup (da_cons (d_bin o_add (d_var 11) d_int) (da_cons d_int da_nil))) da_nil))))))
    (dss_cons (ds_if (dt_cmp o_in (d_var 3) (d_tup (da_cons d_int (da_cons d_int da_nil)))) (dss_cons (ds_set (i := 14) S.nd rfl (by first | exact Or.inl rfl | exact Or.inr rfl) (d_bin o_add (d_var 14) (d_slL (d_var 16) do_none (do_some (d_bin o_sub (d_bin o_add d_int (d_var 3)) (d_var 9))))))
        (dss_cons (ds_set (i := 15) S.nd rfl (by first | exact Or.inl rfl | exact Or.inr rfl) (d_bin o_add (d_var 15) (d_lc (own := [("_law_k", 11), ("_law_one", 17)]) rfl S.nd (di_enum (by rfl) z_enumerate (da_cons (d_slL (d_var 16) do_none (do_some (d_bin o_sub (d_bin o_add d_int (d_var 3)) (d_var 9)))) da_nil)) (blkOk_by (N := N_law) (sc := defScope s_law) (by decide +kernel)) (tgt2 11 17 (by decide)) (fun _ _ _ _ _ => pg_tup rfl (pgs_cons (pg_name (i := 11) S.nd rfl (Or.inl rfl)) (pgs_cons (pg_name (i := 17) S.nd rfl (Or.inl rfl)) pgs_nil))) (fun _ _ _ _ _ => pts_nilD) (fun _ _ _ _ _ => (d_tup (da_cons (d_tup (da_cons (d_bin o_mod (d_var 11) d_int) (da_cons d_int da_nil))) (da_cons (d_var 17) da_nil)))))))
        (dss_cons (ds_set (i := 18) S.nd rfl (by first | exact Or.inl rfl | exact Or.inr rfl) (d_use g__law_take ht ag (hr.mono (by decide)) passZ (by rfl) m__law_take p__law_take (da_cons (d_var 1) (da_cons d_int da_nil))))
        (dss_cons (ds_set (i := 14) S.nd rfl (by first | exact Or.inl rfl | exact Or.inr rfl) (d_bin o_add (d_slL (d_var 14) (do_some (d_bin o_mod (d_var 18) (d_callB k_len (by rfl) z_len (by decide +kernel) (da_cons (d_var 14) da_nil)))) do_none) (d_slL (d_var 14) do_none (do_some (d_bin o_mod (d_var 18) (d_callB k_len (by rfl) z_len (by decide +kernel) (da_cons (d_var 14) da_nil)))))))
        (dss_one (ds_set (i := 15) S.nd rfl (by first | exact Or.inl rfl | exact Or.inr rfl) (d_bin o_add (d_slL (d_var 15) (do_some (d_var 18)) do_none) (d_slL (d_var 15) do_none (do_some (d_var 18)))))))))) dss_nil)
    (dss_cons (ds_frz 15 (ds_frz 14 (ds_if (dt_cmp (o_eq hu) (d_var 3) d_int) (dss_one (ds_par (i := 14) (j := 15) rfl S.nd rfl rfl (by decide) rfl rfl (da_cons (d_callTy k_tuple (by rfl) z_tuple (by decide +kernel) (da_cons (d_var 14) da_nil)) (da_cons (d_callTy k_tuple (by rfl) z_tuple (by decide +kernel) (da_cons (d_var 15) da_nil)) da_nil)) (ps_par (i := 14) (j := 15) rfl S.nd rfl rfl (by decide) rfl rfl (da_cons (d_callTy k_tuple (by rfl) z_tuple (by decide +kernel) (da_cons (d_var 14) da_nil)) (da_cons (d_callTy k_tuple (by rfl) z_tuple (by decide +kernel) (da_cons (d_var 15) da_nil)) da_nil)) (by rfl)))) dss_nil)))
    (dss_cons (ds_if (dt_cmp (o_eq hu) (d_var 3) d_int) (dss_one (ds_par (i := 14) (j := 15) rfl S.nd rfl rfl (by decide) rfl rfl (da_cons (d_use g__law_odd ht ag (hr.mono (by decide)) passZ (by rfl) m__law_odd p__law_odd (da_cons (d_var 1) da_nil)) (da_cons (d_use g__law_odd ht ag (hr.mono (by decide)) passZ (by rfl) m__law_odd p__law_odd (da_cons (d_var 1) da_nil)) da_nil)) (ps_par (i := 14) (j := 15) rfl S.nd rfl rfl (by decide) rfl rfl (da_cons (d_use g__law_odd ht ag (hr.mono (by decide)) passZ (by rfl) m__law_odd p__law_odd (da_cons (d_var 1) da_nil)) (da_cons (d_use g__law_odd ht ag (hr.mono (by decide)) passZ (by rfl) m__law_odd p__law_odd (da_cons (d_var 1) da_nil)) da_nil)) (by rfl)))) dss_nil)
    (dss_cons (ds_if (dt_cmp (o_eq hu) (d_var 3) d_int) (dss_one (ds_set (i := 15) S.nd rfl (by first | exact Or.inl rfl | exact Or.inr rfl) (d_bin o_add (d_bin o_add (d_slL (d_var 15) do_none (do_some (d_var 12))) (d_lst (da_cons (d_use g__law_odd ht ag (hr.mono (by decide)) passZ (by rfl) m__law_odd p__law_odd (da_cons (d_var 1) da_nil)) da_nil))) (d_slL (d_var 15) (do_some (d_bin o_add (d_var 12) d_int)) do_none)))) dss_nil)
    (dss_one (ds_ret (d_and (d_use g__law_asked ht ag (hr.mono (by decide)) passZ (by rfl) m__law_asked p__law_asked (da_cons d_str (da_cons (d_var 14) (da_cons d_non da_nil)))) (d_and (d_use g__law_asked ht ag (hr.mono (by decide)) passZ (by rfl) m__law_asked p__law_asked (da_cons d_str (da_cons (d_var 14) (da_cons d_non da_nil)))) (d_one (d_use g__law_asked ht ag (hr.mono (by decide)) passZ (by rfl) m__law_asked p__law_asked (da_cons d_str (da_cons (d_var 15) (da_cons d_non da_nil)))))))))))))))))))))))))))))) vc_law
end
abbrev sI_Wrong : Stmt := inS (topS 3) 0
theorem scI_Wrong : FnScope ["self", "at"] ["self", "at"] (defScope sI_Wrong) := ⟨rfl, rfl, rfl, by decide +kernel, rfl, by decide +kernel, by decide +kernel⟩
/-! what the top has left -/
def d__law_bag : He.DefD := ⟨("_law_bag", none), "_law_bag", "_law_bag", defArgs s__law_bag, defBody s__law_bag, defScope s__law_bag, [], []⟩
def d__law_take : He.DefD := ⟨("_law_take", none), "_law_take", "_law_take", defArgs s__law_take, defBody s__law_take, defScope s__law_take, [], []⟩
def d__law_odd : He.DefD := ⟨("_law_odd", none), "_law_odd", "_law_odd", defArgs s__law_odd, defBody s__law_odd, defScope s__law_odd, [], []⟩
def d__law_other_fraction : He.DefD := ⟨("_law_other_fraction", none), "_law_other_fraction", "_law_other_fraction", defArgs s__law_other_fraction, defBody s__law_other_fraction, defScope s__law_other_fraction, [], []⟩
def d__law_low : He.DefD := ⟨("_law_low", none), "_law_low", "_law_low", defArgs s__law_low, defBody s__law_low, defScope s__law_low, [], []⟩
def d__law_plus : He.DefD := ⟨("_law_plus", none), "_law_plus", "_law_plus", defArgs s__law_plus, defBody s__law_plus, defScope s__law_plus, [], []⟩
def d__law_spoilt : He.DefD := ⟨("_law_spoilt", none), "_law_spoilt", "_law_spoilt", defArgs s__law_spoilt, defBody s__law_spoilt, defScope s__law_spoilt, [], []⟩
def d__law_any : He.DefD := ⟨("_law_any", none), "_law_any", "_law_any", defArgs s__law_any, defBody s__law_any, defScope s__law_any, [], []⟩
def d__law_under : He.DefD := ⟨("_law_under", none), "_law_under", "_law_under", defArgs s__law_under, defBody s__law_under, defScope s__law_under, [], []⟩
def d__law_stretch : He.DefD := ⟨("_law_stretch", none), "_law_stretch", "_law_stretch", defArgs s__law_stretch, defBody s__law_stretch, defScope s__law_stretch, [], []⟩
def d__law_beside : He.DefD := ⟨("_law_beside", none), "_law_beside", "_law_beside", defArgs s__law_beside, defBody s__law_beside, defScope s__law_beside, [], []⟩
def d_is_whole : He.DefD := ⟨("is_whole", none), "is_whole", "is_whole", defArgs s_is_whole, defBody s_is_whole, defScope s_is_whole, [], []⟩
def d_is_fraction : He.DefD := ⟨("is_fraction", none), "is_fraction", "is_fraction", defArgs s_is_fraction, defBody s_is_fraction, defScope s_is_fraction, [], []⟩
def d_compared : He.DefD := ⟨("compared", none), "compared", "compared", defArgs s_compared, defBody s_compared, defScope s_compared, [], []⟩
def d_is_stretch : He.DefD := ⟨("is_stretch", none), "is_stretch", "is_stretch", defArgs s_is_stretch, defBody s_is_stretch, defScope s_is_stretch, [], []⟩
def d__law_copy : He.DefD := ⟨("_law_copy", none), "_law_copy", "_law_copy", defArgs s__law_copy, defBody s__law_copy, defScope s__law_copy, [], []⟩
def d__law_alike : He.DefD := ⟨("_law_alike", none), "_law_alike", "_law_alike", defArgs s__law_alike, defBody s__law_alike, defScope s__law_alike, [], []⟩
def d__law_is_fraction : He.DefD := ⟨("_law_is_fraction", none), "_law_is_fraction", "_law_is_fraction", defArgs s__law_is_fraction, defBody s__law_is_fraction, defScope s__law_is_fraction, [], []⟩
def d__law_is_stretch : He.DefD := ⟨("_law_is_stretch", none), "_law_is_stretch", "_law_is_stretch", defArgs s__law_is_stretch, defBody s__law_is_stretch, defScope s__law_is_stretch, [], []⟩
def d_require : He.DefD := ⟨("require", none), "require", "require", defArgs s_require, defBody s_require, defScope s_require, [], []⟩
def d_is_width : He.DefD := ⟨("is_width", none), "is_width", "is_width", defArgs s_is_width, defBody s_is_width, defScope s_is_width, [], []⟩
def d_added : He.DefD := ⟨("added", none), "added", "added", defArgs s_added, defBody s_added, defScope s_added, [], []⟩
def d_negative : He.DefD := ⟨("negative", none), "negative", "negative", defArgs s_negative, defBody s_negative, defScope s_negative, [], []⟩
def d_stretched : He.DefD := ⟨("stretched", none), "stretched", "stretched", defArgs s_stretched, defBody s_stretched, defScope s_stretched, [], []⟩
def d_widened : He.DefD := ⟨("widened", none), "widened", "widened", defArgs s_widened, defBody s_widened, defScope s_widened, [], []⟩
def d_holds : He.DefD := ⟨("holds", none), "holds", "holds", defArgs s_holds, defBody s_holds, defScope s_holds, [], []⟩
def d_width : He.DefD := ⟨("width", none), "width", "width", defArgs s_width, defBody s_width, defScope s_width, [], []⟩
def d_is_list_of_stretches : He.DefD := ⟨("is_list_of_stretches", none), "is_list_of_stretches", "is_list_of_stretches", defArgs s_is_list_of_stretches, defBody s_is_list_of_stretches, defScope s_is_list_of_stretches, [], []⟩
def d_outermost : He.DefD := ⟨("outermost", none), "outermost", "outermost", defArgs s_outermost, defBody s_outermost, defScope s_outermost, [], []⟩
def d_innermost : He.DefD := ⟨("innermost", none), "innermost", "innermost", defArgs s_innermost, defBody s_innermost, defScope s_innermost, [], []⟩
def d_meeting : He.DefD := ⟨("meeting", none), "meeting", "meeting", defArgs s_meeting, defBody s_meeting, defScope s_meeting, [], []⟩
def d_apart : He.DefD := ⟨("apart", none), "apart", "apart", defArgs s_apart, defBody s_apart, defScope s_apart, [], []⟩
def d_is_weighted : He.DefD := ⟨("is_weighted", none), "is_weighted", "is_weighted", defArgs s_is_weighted, defBody s_is_weighted, defScope s_is_weighted, [], []⟩
def d_is_mixture : He.DefD := ⟨("is_mixture", none), "is_mixture", "is_mixture", defArgs s_is_mixture, defBody s_is_mixture, defScope s_is_mixture, [], []⟩
def d_summed : He.DefD := ⟨("summed", none), "summed", "summed", defArgs s_summed, defBody s_summed, defScope s_summed, [], []⟩
def d_in_lowest_terms : He.DefD := ⟨("in_lowest_terms", none), "in_lowest_terms", "in_lowest_terms", defArgs s_in_lowest_terms, defBody s_in_lowest_terms, defScope s_in_lowest_terms, [], []⟩
def d_multiplied : He.DefD := ⟨("multiplied", none), "multiplied", "multiplied", defArgs s_multiplied, defBody s_multiplied, defScope s_multiplied, [], []⟩
def d_mixed : He.DefD := ⟨("mixed", none), "mixed", "mixed", defArgs s_mixed, defBody s_mixed, defScope s_mixed, [], []⟩
def d__law_call : He.DefD := ⟨("_law_call", none), "_law_call", "_law_call", defArgs s__law_call, defBody s__law_call, defScope s__law_call, [], []⟩
def d__law_refused : He.DefD := ⟨("_law_refused", none), "_law_refused", "_law_refused", defArgs s__law_refused, defBody s__law_refused, defScope s__law_refused, [], []⟩
def d__law_amount : He.DefD := ⟨("_law_amount", none), "_law_amount", "_law_amount", defArgs s__law_amount, defBody s__law_amount, defScope s__law_amount, [], []⟩
def d__law_is_pair : He.DefD := ⟨("_law_is_pair", none), "_law_is_pair", "_law_is_pair", defArgs s__law_is_pair, defBody s__law_is_pair, defScope s__law_is_pair, [], []⟩
def d__law_due : He.DefD := ⟨("_law_due", none), "_law_due", "_law_due", defArgs s__law_due, defBody s__law_due, defScope s__law_due, [], []⟩
def d__law_asked : He.DefD := ⟨("_law_asked", none), "_law_asked", "_law_asked", defArgs s__law_asked, defBody s__law_asked, defScope s__law_asked, [], []⟩
def d__law_pair : He.DefD := ⟨("_law_pair", none), "_law_pair", "_law_pair", defArgs s__law_pair, defBody s__law_pair, defScope s__law_pair, [], []⟩
def d_law : He.DefD := ⟨("law", none), "law", "law", defArgs s_law, defBody s_law, defScope s_law, [], []⟩
def dI_Wrong : He.DefD := ⟨("Wrong", some "__init__"), "__init__", "Wrong.__init__", defArgs sI_Wrong, defBody sI_Wrong, defScope sI_Wrong, [], []⟩
def fn : List He.DefD := [d__law_bag, d__law_take, d__law_odd, d__law_other_fraction, d__law_low, d__law_plus, d__law_spoilt, d__law_any, d__law_under, d__law_stretch, d__law_beside, d_is_whole, d_is_fraction, d_compared, d_is_stretch, d__law_copy, d__law_alike, d__law_is_fraction, d__law_is_stretch, d_require, d_is_width, d_added, d_negative, d_stretched, d_widened, d_holds, d_width, d_is_list_of_stretches, d_outermost, d_innermost, d_meeting, d_apart, d_is_weighted, d_is_mixture, d_summed, d_in_lowest_terms, d_multiplied, d_mixed, d__law_call, d__law_refused, d__law_amount, d__law_is_pair, d__law_due, d__law_asked, d__law_pair, d_law, dI_Wrong]
def fa : List He.Fa := [.glo "_law_bag", .glo "_law_take", .glo "_law_odd", .glo "_law_other_fraction", .glo "_law_low", .glo "_law_plus", .glo "_law_spoilt", .glo "_law_any", .glo "_law_under", .glo "_law_stretch", .glo "_law_beside", .glo "is_whole", .glo "is_fraction", .glo "compared", .glo "is_stretch", .glo "_law_copy", .glo "_law_alike", .glo "_law_is_fraction", .glo "_law_is_stretch", .glo "require", .glo "is_width", .glo "added", .glo "negative", .glo "stretched", .glo "widened", .glo "holds", .glo "width", .glo "is_list_of_stretches", .glo "outermost", .glo "innermost", .glo "meeting", .glo "apart", .glo "is_weighted", .glo "is_mixture", .glo "summed", .glo "in_lowest_terms", .glo "multiplied", .glo "mixed", .glo "_law_call", .glo "_law_refused", .glo "_law_amount", .glo "_law_is_pair", .glo "_law_due", .glo "_law_asked", .glo "_law_pair", .glo "law", .free "abs", .free "len", .free "list", .free "isinstance", .free "int", .free "bool", .free "tuple", .free "repr", .free "enumerate", .glo "Wrong", .free "all", .int "MOST_STRETCHES" 60, .int "LONGEST_LIST" 1000, .free "zip", .glo "NOUGHT", .exm "Wrong" "Wrong" true, .free "max", .free "range"]
def tb : List He.Tab := []
def tf : List He.Defn := [("is_list_of_stretches", none), ("is_mixture", none)]
def exs : List (PySem.W.Frag → Bool) := [fun K => He.eqO (PySem.W.nsIn K mainGlobals "gcd") (some (some (.builtin "math.gcd"))),
  fun K => He.tupB K "NOUGHT" [(.int 0), (.int 1)],
  fun K => He.eqO (PySem.W.findIn K (.ref (He.ga K "Wrong")) "__getattribute__") (some (some (.builtin "BaseException.__getattribute__"))),
  fun K => He.eqO (PySem.W.findIn K (.ref (He.ga K "Wrong")) "__getattr__") (some none),
  fun K => decide (PySem.W.subIn K (.ref (He.ga K "Wrong")) (.type "BaseException") = some true),
  fun K => decide (PySem.W.hasDictIn K (He.ga K "Wrong") = true),
  fun K => He.eqO (PySem.W.findIn K (.ref (He.ga K "Wrong")) "__class__") (some (some (.builtin "object.__class__"))),
  fun K => He.eqO (PySem.W.specialIn K (.builtin "object.__class__") "__get__") (some (some (.builtin "getset_descriptor.__get__"))),
  fun K => decide (PySem.W.takesIn K (.builtin "object.__class__") = some true),
  fun K => decide (PySem.W.mroIn K (He.ga K "Wrong") (.type "object") = some true),
  fun K => He.eqO (PySem.W.findIn K (.ref (He.ga K "Wrong")) "at") (some none),
  fun K => oexB K (He.ga K "Wrong"),
  fun K => He.eqO (PySem.W.findIn K (.ref (He.ga K "Wrong")) "__setattr__") (some (some (.builtin "object.__setattr__"))),
  fun K => decide (PySem.W.typeIn K (.ref (He.ga K "Wrong")) = some (.type "type")),
  fun K => PySem.W.keepIn K (.ref (He.ga K "Wrong")),
  fun K => He.eqO (PySem.W.findIn K (.ref (He.ga K "Wrong")) "__init__") (some (some (.ref (He.ma K (He.ga K "Wrong") "__init__")))),
  fun K => decide (PySem.W.typeIn K (.ref (He.ma K (He.ga K "Wrong") "__init__")) = some (.type "function"))]
def ex (K : PySem.W.Frag) : Bool := exs.all fun b => b K
abbrev hk : PySem.W.Hook := He.hookX 6 fa fn tb tf ex
theorem all_mk {q : Program} {lo : List Str} {mean : ExcName → Option Value} {mb : Str → Option Value} {w : World} {K : PySem.W.Frag} {h : Heap} {mg : Str → Option Value} {fa0 : Addr} (X : K.In h) (T : PyProof.Rows.Top q lo mean mg mb h) (hfa : mg "law" = some (.ref fa0)) (c : He.SaysX fa fn tb tf ex w h K) :
  ∃ cs : List (Addr × Addr), K.In h ∧ Tabs K h cs ∧ ∀ base : Heap, K.In base → base.Ns mainGlobals mg → (∀ p ∈ cs, GxR.TabB base mg p.1 p.2) → Fg PySem.Challenge.rw_truechain_k21_stretches_known.prog w K mg base (L2.CX PySem.Challenge.rw_truechain_k21_stretches_known.prog w) 11 fa0 (spLaw K (cs.map Prod.snd)) := by
  have G := T.g
  refine ⟨tf.map (He.cT K), X, tabsX X c, fun base _ _ tb => ?_⟩
  obtain ⟨fd__law_bag, F__law_bag⟩ := c.t.d.def_ 0 (d := d__law_bag) rfl
  have m__law_bag := He.glo_ok X G (c.t.d.fact 0 (f := .glo "_law_bag") rfl)
  have p__law_bag := F__law_bag.kp
  obtain ⟨fd__law_take, F__law_take⟩ := c.t.d.def_ 1 (d := d__law_take) rfl
  have m__law_take := He.glo_ok X G (c.t.d.fact 1 (f := .glo "_law_take") rfl)
  have p__law_take := F__law_take.kp
  obtain ⟨fd__law_odd, F__law_odd⟩ := c.t.d.def_ 2 (d := d__law_odd) rfl
  have m__law_odd := He.glo_ok X G (c.t.d.fact 2 (f := .glo "_law_odd") rfl)
  have p__law_odd := F__law_odd.kp
  obtain ⟨fd__law_other_fraction, F__law_other_fraction⟩ := c.t.d.def_ 3 (d := d__law_other_fraction) rfl
  have m__law_other_fraction := He.glo_ok X G (c.t.d.fact 3 (f := .glo "_law_other_fraction") rfl)
  have p__law_other_fraction := F__law_other_fraction.kp
  obtain ⟨fd__law_low, F__law_low⟩ := c.t.d.def_ 4 (d := d__law_low) rfl
  have m__law_low := He.glo_ok X G (c.t.d.fact 4 (f := .glo "_law_low") rfl)
  have p__law_low := F__law_low.kp
  obtain ⟨fd__law_plus, F__law_plus⟩ := c.t.d.def_ 5 (d := d__law_plus) rfl
  have m__law_plus := He.glo_ok X G (c.t.d.fact 5 (f := .glo "_law_plus") rfl)
  have p__law_plus := F__law_plus.kp
  obtain ⟨fd__law_spoilt, F__law_spoilt⟩ := c.t.d.def_ 6 (d := d__law_spoilt) rfl
  have m__law_spoilt := He.glo_ok X G (c.t.d.fact 6 (f := .glo "_law_spoilt") rfl)
  have p__law_spoilt := F__law_spoilt.kp
  obtain ⟨fd__law_any, F__law_any⟩ := c.t.d.def_ 7 (d := d__law_any) rfl
  have m__law_any := He.glo_ok X G (c.t.d.fact 7 (f := .glo "_law_any") rfl)
  have p__law_any := F__law_any.kp
  obtain ⟨fd__law_under, F__law_under⟩ := c.t.d.def_ 8 (d := d__law_under) rfl
  have m__law_under := He.glo_ok X G (c.t.d.fact 8 (f := .glo "_law_under") rfl)
  have p__law_under := F__law_under.kp
  obtain ⟨fd__law_stretch, F__law_stretch⟩ := c.t.d.def_ 9 (d := d__law_stretch) rfl
  have m__law_stretch := He.glo_ok X G (c.t.d.fact 9 (f := .glo "_law_stretch") rfl)
  have p__law_stretch := F__law_stretch.kp
  obtain ⟨fd__law_beside, F__law_beside⟩ := c.t.d.def_ 10 (d := d__law_beside) rfl
  have m__law_beside := He.glo_ok X G (c.t.d.fact 10 (f := .glo "_law_beside") rfl)
  have p__law_beside := F__law_beside.kp
  obtain ⟨fd_is_whole, F_is_whole⟩ := c.t.d.def_ 11 (d := d_is_whole) rfl
  have m_is_whole := He.glo_ok X G (c.t.d.fact 11 (f := .glo "is_whole") rfl)
  have p_is_whole := F_is_whole.kp
  obtain ⟨fd_is_fraction, F_is_fraction⟩ := c.t.d.def_ 12 (d := d_is_fraction) rfl
  have m_is_fraction := He.glo_ok X G (c.t.d.fact 12 (f := .glo "is_fraction") rfl)
  have p_is_fraction := F_is_fraction.kp
  obtain ⟨fd_compared, F_compared⟩ := c.t.d.def_ 13 (d := d_compared) rfl
  have m_compared := He.glo_ok X G (c.t.d.fact 13 (f := .glo "compared") rfl)
  have p_compared := F_compared.kp
  obtain ⟨fd_is_stretch, F_is_stretch⟩ := c.t.d.def_ 14 (d := d_is_stretch) rfl
  have m_is_stretch := He.glo_ok X G (c.t.d.fact 14 (f := .glo "is_stretch") rfl)
  have p_is_stretch := F_is_stretch.kp
  obtain ⟨fd__law_copy, F__law_copy⟩ := c.t.d.def_ 15 (d := d__law_copy) rfl
  have m__law_copy := He.glo_ok X G (c.t.d.fact 15 (f := .glo "_law_copy") rfl)
  have p__law_copy := F__law_copy.kp
  obtain ⟨fd__law_alike, F__law_alike⟩ := c.t.d.def_ 16 (d := d__law_alike) rfl
  have m__law_alike := He.glo_ok X G (c.t.d.fact 16 (f := .glo "_law_alike") rfl)
  have p__law_alike := F__law_alike.kp
  obtain ⟨fd__law_is_fraction, F__law_is_fraction⟩ := c.t.d.def_ 17 (d := d__law_is_fraction) rfl
  have m__law_is_fraction := He.glo_ok X G (c.t.d.fact 17 (f := .glo "_law_is_fraction") rfl)
  have p__law_is_fraction := F__law_is_fraction.kp
  obtain ⟨fd__law_is_stretch, F__law_is_stretch⟩ := c.t.d.def_ 18 (d := d__law_is_stretch) rfl
  have m__law_is_stretch := He.glo_ok X G (c.t.d.fact 18 (f := .glo "_law_is_stretch") rfl)
  have p__law_is_stretch := F__law_is_stretch.kp
  obtain ⟨fd_require, F_require⟩ := c.t.d.def_ 19 (d := d_require) rfl
  have m_require := He.glo_ok X G (c.t.d.fact 19 (f := .glo "require") rfl)
  have p_require := F_require.kp
  obtain ⟨fd_is_width, F_is_width⟩ := c.t.d.def_ 20 (d := d_is_width) rfl
  have m_is_width := He.glo_ok X G (c.t.d.fact 20 (f := .glo "is_width") rfl)
  have p_is_width := F_is_width.kp
  obtain ⟨fd_added, F_added⟩ := c.t.d.def_ 21 (d := d_added) rfl
  have m_added := He.glo_ok X G (c.t.d.fact 21 (f := .glo "added") rfl)
  have p_added := F_added.kp
  obtain ⟨fd_negative, F_negative⟩ := c.t.d.def_ 22 (d := d_negative) rfl
  have m_negative := He.glo_ok X G (c.t.d.fact 22 (f := .glo "negative") rfl)
  have p_negative := F_negative.kp
  obtain ⟨fd_stretched, F_stretched⟩ := c.t.d.def_ 23 (d := d_stretched) rfl
  have m_stretched := He.glo_ok X G (c.t.d.fact 23 (f := .glo "stretched") rfl)
  have p_stretched := F_stretched.kp
  obtain ⟨fd_widened, F_widened⟩ := c.t.d.def_ 24 (d := d_widened) rfl
  have m_widened := He.glo_ok X G (c.t.d.fact 24 (f := .glo "widened") rfl)
  have p_widened := F_widened.kp
  obtain ⟨fd_holds, F_holds⟩ := c.t.d.def_ 25 (d := d_holds) rfl
  have m_holds := He.glo_ok X G (c.t.d.fact 25 (f := .glo "holds") rfl)
  have p_holds := F_holds.kp
  obtain ⟨fd_width, F_width⟩ := c.t.d.def_ 26 (d := d_width) rfl
  have m_width := He.glo_ok X G (c.t.d.fact 26 (f := .glo "width") rfl)
  have p_width := F_width.kp
  obtain ⟨fd_is_list_of_stretches, F_is_list_of_stretches⟩ := c.t.d.def_ 27 (d := d_is_list_of_stretches) rfl
  have m_is_list_of_stretches := He.glo_ok X G (c.t.d.fact 27 (f := .glo "is_list_of_stretches") rfl)
  have p_is_list_of_stretches := F_is_list_of_stretches.kp
  have tb_is_list_of_stretches := tb (He.cT K ("is_list_of_stretches", none)) (List.mem_map_of_mem (by simp [tf]))
  have fc_is_list_of_stretches := code_ofD (p := ("is_list_of_stretches", none)) (st := s_is_list_of_stretches) F_is_list_of_stretches
  have ti_is_list_of_stretches : (He.cT K ("is_list_of_stretches", none)).2 ∈ (tf.map (He.cT K)).map Prod.snd := List.mem_map_of_mem (List.mem_map_of_mem (by simp [tf]))
  obtain ⟨fd_outermost, F_outermost⟩ := c.t.d.def_ 28 (d := d_outermost) rfl
  have m_outermost := He.glo_ok X G (c.t.d.fact 28 (f := .glo "outermost") rfl)
  have p_outermost := F_outermost.kp
  obtain ⟨fd_innermost, F_innermost⟩ := c.t.d.def_ 29 (d := d_innermost) rfl
  have m_innermost := He.glo_ok X G (c.t.d.fact 29 (f := .glo "innermost") rfl)
  have p_innermost := F_innermost.kp
  obtain ⟨fd_meeting, F_meeting⟩ := c.t.d.def_ 30 (d := d_meeting) rfl
  have m_meeting := He.glo_ok X G (c.t.d.fact 30 (f := .glo "meeting") rfl)
  have p_meeting := F_meeting.kp
  obtain ⟨fd_apart, F_apart⟩ := c.t.d.def_ 31 (d := d_apart) rfl
  have m_apart := He.glo_ok X G (c.t.d.fact 31 (f := .glo "apart") rfl)
  have p_apart := F_apart.kp
  obtain ⟨fd_is_weighted, F_is_weighted⟩ := c.t.d.def_ 32 (d := d_is_weighted) rfl
  have m_is_weighted := He.glo_ok X G (c.t.d.fact 32 (f := .glo "is_weighted") rfl)
  have p_is_weighted := F_is_weighted.kp
  obtain ⟨fd_is_mixture, F_is_mixture⟩ := c.t.d.def_ 33 (d := d_is_mixture) rfl
  have m_is_mixture := He.glo_ok X G (c.t.d.fact 33 (f := .glo "is_mixture") rfl)
  have p_is_mixture := F_is_mixture.kp
  have tb_is_mixture := tb (He.cT K ("is_mixture", none)) (List.mem_map_of_mem (by simp [tf]))
  have fc_is_mixture := code_ofD (p := ("is_mixture", none)) (st := s_is_mixture) F_is_mixture
  have ti_is_mixture : (He.cT K ("is_mixture", none)).2 ∈ (tf.map (He.cT K)).map Prod.snd := List.mem_map_of_mem (List.mem_map_of_mem (by simp [tf]))
  obtain ⟨fd_summed, F_summed⟩ := c.t.d.def_ 34 (d := d_summed) rfl
  have m_summed := He.glo_ok X G (c.t.d.fact 34 (f := .glo "summed") rfl)
  have p_summed := F_summed.kp
  obtain ⟨fd_in_lowest_terms, F_in_lowest_terms⟩ := c.t.d.def_ 35 (d := d_in_lowest_terms) rfl
  have m_in_lowest_terms := He.glo_ok X G (c.t.d.fact 35 (f := .glo "in_lowest_terms") rfl)
  have p_in_lowest_terms := F_in_lowest_terms.kp
  obtain ⟨fd_multiplied, F_multiplied⟩ := c.t.d.def_ 36 (d := d_multiplied) rfl
  have m_multiplied := He.glo_ok X G (c.t.d.fact 36 (f := .glo "multiplied") rfl)
  have p_multiplied := F_multiplied.kp
  obtain ⟨fd_mixed, F_mixed⟩ := c.t.d.def_ 37 (d := d_mixed) rfl
  have m_mixed := He.glo_ok X G (c.t.d.fact 37 (f := .glo "mixed") rfl)
  have p_mixed := F_mixed.kp
  obtain ⟨fd__law_call, F__law_call⟩ := c.t.d.def_ 38 (d := d__law_call) rfl
  have m__law_call := He.glo_ok X G (c.t.d.fact 38 (f := .glo "_law_call") rfl)
  have p__law_call := F__law_call.kp
  obtain ⟨fd__law_refused, F__law_refused⟩ := c.t.d.def_ 39 (d := d__law_refused) rfl
  have m__law_refused := He.glo_ok X G (c.t.d.fact 39 (f := .glo "_law_refused") rfl)
  have p__law_refused := F__law_refused.kp
  obtain ⟨fd__law_amount, F__law_amount⟩ := c.t.d.def_ 40 (d := d__law_amount) rfl
  have m__law_amount := He.glo_ok X G (c.t.d.fact 40 (f := .glo "_law_amount") rfl)
  have p__law_amount := F__law_amount.kp
  obtain ⟨fd__law_is_pair, F__law_is_pair⟩ := c.t.d.def_ 41 (d := d__law_is_pair) rfl
  have m__law_is_pair := He.glo_ok X G (c.t.d.fact 41 (f := .glo "_law_is_pair") rfl)
  have p__law_is_pair := F__law_is_pair.kp
  obtain ⟨fd__law_due, F__law_due⟩ := c.t.d.def_ 42 (d := d__law_due) rfl
  have m__law_due := He.glo_ok X G (c.t.d.fact 42 (f := .glo "_law_due") rfl)
  have p__law_due := F__law_due.kp
  obtain ⟨fd__law_asked, F__law_asked⟩ := c.t.d.def_ 43 (d := d__law_asked) rfl
  have m__law_asked := He.glo_ok X G (c.t.d.fact 43 (f := .glo "_law_asked") rfl)
  have p__law_asked := F__law_asked.kp
  obtain ⟨fd__law_pair, F__law_pair⟩ := c.t.d.def_ 44 (d := d__law_pair) rfl
  have m__law_pair := He.glo_ok X G (c.t.d.fact 44 (f := .glo "_law_pair") rfl)
  have p__law_pair := F__law_pair.kp
  obtain ⟨fd_law, F_law⟩ := c.t.d.def_ 45 (d := d_law) rfl
  have m_law := He.glo_ok X G (c.t.d.fact 45 (f := .glo "law") rfl)
  have p_law := F_law.kp
  have e := hfa.symm.trans m_law
  cases e
  have z_abs := He.free_ok X G (c.t.d.fact 46 (f := .free "abs") rfl)
  have z_len := He.free_ok X G (c.t.d.fact 47 (f := .free "len") rfl)
  have z_list := He.free_ok X G (c.t.d.fact 48 (f := .free "list") rfl)
  have z_isinstance := He.free_ok X G (c.t.d.fact 49 (f := .free "isinstance") rfl)
  have z_int := He.free_ok X G (c.t.d.fact 50 (f := .free "int") rfl)
  have z_bool := He.free_ok X G (c.t.d.fact 51 (f := .free "bool") rfl)
  have z_tuple := He.free_ok X G (c.t.d.fact 52 (f := .free "tuple") rfl)
  have i_gcd := PySem.W.mg_of X G (He.eqO_ok (exsAt (K := K) c.more 0 (b := fun K => He.eqO (PySem.W.nsIn K mainGlobals "gcd") (some (some (.builtin "math.gcd")))) rfl))
  have z_repr := He.free_ok X G (c.t.d.fact 53 (f := .free "repr") rfl)
  have z_enumerate := He.free_ok X G (c.t.d.fact 54 (f := .free "enumerate") rfl)
  have m_Wrong := He.glo_ok X G (c.t.d.fact 55 (f := .glo "Wrong") rfl)
  have z_all := He.free_ok X G (c.t.d.fact 56 (f := .free "all") rfl)
  obtain ⟨t_MOST_STRETCHES, c_MOST_STRETCHES⟩ := He.int_ok X G (c.t.d.fact 57 (f := .int "MOST_STRETCHES" 60) rfl)
  obtain ⟨t_LONGEST_LIST, c_LONGEST_LIST⟩ := He.int_ok X G (c.t.d.fact 58 (f := .int "LONGEST_LIST" 1000) rfl)
  have z_zip := He.free_ok X G (c.t.d.fact 59 (f := .free "zip") rfl)
  have c_NOUGHT := He.glo_ok X G (c.t.d.fact 60 (f := .glo "NOUGHT") rfl)
  have r_NOUGHT : RelV (.ref (He.ga K "NOUGHT")) (.ref (He.ga K "NOUGHT")) := rfl
  have e_NOUGHT := tup_ofB (xs := [(.int 0), (.int 1)]) (exsAt (K := K) c.more 1 (b := fun K => He.tupB K "NOUGHT" [(.int 0), (.int 1)]) rfl) fun F => .cons (Rp.int _) (.cons (Rp.int _) (.nil))
  have em_Wrong_Wrong := He.exm_ok (c.t.d.fact 61 (f := .exm "Wrong" "Wrong" true) rfl)
  have ex_Wrong : ExcC K (He.ga K "Wrong") := ⟨(He.eqO_ok (exsAt (K := K) c.more 2 (b := fun K => He.eqO (PySem.W.findIn K (.ref (He.ga K "Wrong")) "__getattribute__") (some (some (.builtin "BaseException.__getattribute__")))) rfl)), (He.eqO_ok (exsAt (K := K) c.more 3 (b := fun K => He.eqO (PySem.W.findIn K (.ref (He.ga K "Wrong")) "__getattr__") (some none)) rfl)), (of_decide_eq_true (exsAt (K := K) c.more 4 (b := fun K => decide (PySem.W.subIn K (.ref (He.ga K "Wrong")) (.type "BaseException") = some true)) rfl)), (of_decide_eq_true (exsAt (K := K) c.more 5 (b := fun K => decide (PySem.W.hasDictIn K (He.ga K "Wrong") = true)) rfl)), (He.eqO_ok (exsAt (K := K) c.more 6 (b := fun K => He.eqO (PySem.W.findIn K (.ref (He.ga K "Wrong")) "__class__") (some (some (.builtin "object.__class__")))) rfl)), (He.eqO_ok (exsAt (K := K) c.more 7 (b := fun K => He.eqO (PySem.W.specialIn K (.builtin "object.__class__") "__get__") (some (some (.builtin "getset_descriptor.__get__")))) rfl)), (of_decide_eq_true (exsAt (K := K) c.more 8 (b := fun K => decide (PySem.W.takesIn K (.builtin "object.__class__") = some true)) rfl)), (of_decide_eq_true (exsAt (K := K) c.more 9 (b := fun K => decide (PySem.W.mroIn K (He.ga K "Wrong") (.type "object") = some true)) rfl))⟩
  have xf_Wrong : XfC K (He.ga K "Wrong") := ⟨(He.eqO_ok (exsAt (K := K) c.more 2 (b := fun K => He.eqO (PySem.W.findIn K (.ref (He.ga K "Wrong")) "__getattribute__") (some (some (.builtin "BaseException.__getattribute__")))) rfl)), (He.eqO_ok (exsAt (K := K) c.more 3 (b := fun K => He.eqO (PySem.W.findIn K (.ref (He.ga K "Wrong")) "__getattr__") (some none)) rfl)), (of_decide_eq_true (exsAt (K := K) c.more 4 (b := fun K => decide (PySem.W.subIn K (.ref (He.ga K "Wrong")) (.type "BaseException") = some true)) rfl)), (of_decide_eq_true (exsAt (K := K) c.more 5 (b := fun K => decide (PySem.W.hasDictIn K (He.ga K "Wrong") = true)) rfl))⟩
  have nf_Wrong := (He.eqO_ok (exsAt (K := K) c.more 10 (b := fun K => He.eqO (PySem.W.findIn K (.ref (He.ga K "Wrong")) "at") (some none)) rfl))
  have z_max := He.free_ok X G (c.t.d.fact 62 (f := .free "max") rfl)
  have z_range := He.free_ok X G (c.t.d.fact 63 (f := .free "range") rfl)
  have T_Wrong := oexB_ok (exsAt (K := K) c.more 11 (b := fun K => oexB K (He.ga K "Wrong")) rfl) (He.eqO_ok (exsAt (K := K) c.more 12 (b := fun K => He.eqO (PySem.W.findIn K (.ref (He.ga K "Wrong")) "__setattr__") (some (some (.builtin "object.__setattr__")))) rfl)) (of_decide_eq_true (exsAt (K := K) c.more 4 (b := fun K => decide (PySem.W.subIn K (.ref (He.ga K "Wrong")) (.type "BaseException") = some true)) rfl)) (of_decide_eq_true (exsAt (K := K) c.more 13 (b := fun K => decide (PySem.W.typeIn K (.ref (He.ga K "Wrong")) = some (.type "type"))) rfl)) (exsAt (K := K) c.more 14 (b := fun K => PySem.W.keepIn K (.ref (He.ga K "Wrong"))) rfl)
  have ic_Wrong := (He.eqO_ok (exsAt (K := K) c.more 15 (b := fun K => He.eqO (PySem.W.findIn K (.ref (He.ga K "Wrong")) "__init__") (some (some (.ref (He.ma K (He.ga K "Wrong") "__init__"))))) rfl))
  have ti_Wrong := (of_decide_eq_true (exsAt (K := K) c.more 16 (b := fun K => decide (PySem.W.typeIn K (.ref (He.ma K (He.ga K "Wrong") "__init__")) = some (.type "function"))) rfl))
  obtain ⟨fdI_Wrong, FI_Wrong⟩ := c.t.d.def_ 46 (d := dI_Wrong) rfl
  have F1_Wrong := fun_ofD (st := sI_Wrong) FI_Wrong
  have i1_Wrong := ini_ok (P := PySem.Challenge.rw_truechain_k21_stretches_known.prog) (w := w) (mg := mg) (base := base) (n := "at") F1_Wrong scI_Wrong T_Wrong (He.eqO_ok (exsAt (K := K) c.more 10 (b := fun K => He.eqO (PySem.W.findIn K (.ref (He.ga K "Wrong")) "at") (some none)) rfl)) (by decide) (by decide) (by decide) (by first | exact Or.inl rfl | exact Or.inr (Or.inl rfl)) (by first | exact Or.inl rfl | exact Or.inr (Or.inl rfl)) rfl
  have hb_Wrong := F1_Wrong.binds (ps := ["self", "at"]) fun _ _ _ _ _ _ us hl => match us, hl with | [_, _], _ => rfl
  have g__law_bag := ok__law_bag (P := PySem.Challenge.rw_truechain_k21_stretches_known.prog) (w := w) (mg := mg) (base := base) (fun_ofD (st := s__law_bag) F__law_bag) (z_abs := z_abs)
  have g__law_take := ok__law_take (ts := (tf.map (He.cT K)).map Prod.snd) (P := PySem.Challenge.rw_truechain_k21_stretches_known.prog) (w := w) (mg := mg) (base := base) (fun_ofD (st := s__law_take) F__law_take) (z_len := z_len)
  have g__law_odd := ok__law_odd (ts := (tf.map (He.cT K)).map Prod.snd) (P := PySem.Challenge.rw_truechain_k21_stretches_known.prog) (w := w) (mg := mg) (base := base) (fun_ofD (st := s__law_odd) F__law_odd) (g__law_take := g__law_take) (m__law_take := m__law_take) (p__law_take := p__law_take)
  have g__law_other_fraction := ok__law_other_fraction (ts := (tf.map (He.cT K)).map Prod.snd) (P := PySem.Challenge.rw_truechain_k21_stretches_known.prog) (w := w) (mg := mg) (base := base) (fun_ofD (st := s__law_other_fraction) F__law_other_fraction) (g__law_take := g__law_take) (m__law_take := m__law_take) (p__law_take := p__law_take) (g__law_odd := g__law_odd) (m__law_odd := m__law_odd) (p__law_odd := p__law_odd)
  have g__law_low := ok__law_low (ts := (tf.map (He.cT K)).map Prod.snd) (P := PySem.Challenge.rw_truechain_k21_stretches_known.prog) (w := w) (mg := mg) (base := base) (fun_ofD (st := s__law_low) F__law_low) (z_abs := z_abs)
  have g__law_plus := ok__law_plus (ts := (tf.map (He.cT K)).map Prod.snd) (P := PySem.Challenge.rw_truechain_k21_stretches_known.prog) (w := w) (mg := mg) (base := base) (fun_ofD (st := s__law_plus) F__law_plus) (g__law_low := g__law_low) (m__law_low := m__law_low) (p__law_low := p__law_low)
  have g__law_spoilt := ok__law_spoilt (ts := (tf.map (He.cT K)).map Prod.snd) (P := PySem.Challenge.rw_truechain_k21_stretches_known.prog) (w := w) (mg := mg) (base := base) (fun_ofD (st := s__law_spoilt) F__law_spoilt) (g__law_other_fraction := g__law_other_fraction) (m__law_other_fraction := m__law_other_fraction) (p__law_other_fraction := p__law_other_fraction) (g__law_plus := g__law_plus) (m__law_plus := m__law_plus) (p__law_plus := p__law_plus) (g__law_odd := g__law_odd) (m__law_odd := m__law_odd) (p__law_odd := p__law_odd) (z_list := z_list)
  have g__law_any := ok__law_any (ts := (tf.map (He.cT K)).map Prod.snd) (P := PySem.Challenge.rw_truechain_k21_stretches_known.prog) (w := w) (mg := mg) (base := base) (fun_ofD (st := s__law_any) F__law_any) (g__law_take := g__law_take) (m__law_take := m__law_take) (p__law_take := p__law_take) (g__law_low := g__law_low) (m__law_low := m__law_low) (p__law_low := p__law_low)
  have g__law_under := ok__law_under (ts := (tf.map (He.cT K)).map Prod.snd) (P := PySem.Challenge.rw_truechain_k21_stretches_known.prog) (w := w) (mg := mg) (base := base) (fun_ofD (st := s__law_under) F__law_under) 
  have g__law_stretch := ok__law_stretch (ts := (tf.map (He.cT K)).map Prod.snd) (P := PySem.Challenge.rw_truechain_k21_stretches_known.prog) (w := w) (mg := mg) (base := base) (fun_ofD (st := s__law_stretch) F__law_stretch) (g__law_take := g__law_take) (m__law_take := m__law_take) (p__law_take := p__law_take) (g__law_any := g__law_any) (m__law_any := m__law_any) (p__law_any := p__law_any) (g__law_plus := g__law_plus) (m__law_plus := m__law_plus) (p__law_plus := p__law_plus) (g__law_under := g__law_under) (m__law_under := m__law_under) (p__law_under := p__law_under)
  have g__law_beside := ok__law_beside (ts := (tf.map (He.cT K)).map Prod.snd) (P := PySem.Challenge.rw_truechain_k21_stretches_known.prog) (w := w) (mg := mg) (base := base) (fun_ofD (st := s__law_beside) F__law_beside) (g__law_take := g__law_take) (m__law_take := m__law_take) (p__law_take := p__law_take) (g__law_any := g__law_any) (m__law_any := m__law_any) (p__law_any := p__law_any) (g__law_other_fraction := g__law_other_fraction) (m__law_other_fraction := m__law_other_fraction) (p__law_other_fraction := p__law_other_fraction) (z_abs := z_abs)
  have g_is_whole := ok_is_whole (ts := (tf.map (He.cT K)).map Prod.snd) (P := PySem.Challenge.rw_truechain_k21_stretches_known.prog) (w := w) (mg := mg) (base := base) (fun_ofD (st := s_is_whole) F_is_whole) (z_isinstance := z_isinstance) (z_int := z_int) (z_bool := z_bool)
  have g_is_fraction := ok_is_fraction (ts := (tf.map (He.cT K)).map Prod.snd) (P := PySem.Challenge.rw_truechain_k21_stretches_known.prog) (w := w) (mg := mg) (base := base) (fun_ofD (st := s_is_fraction) F_is_fraction) (g_is_whole := g_is_whole) (m_is_whole := m_is_whole) (p_is_whole := p_is_whole) (z_isinstance := z_isinstance) (z_tuple := z_tuple) (z_len := z_len) (i_gcd := i_gcd)
  have g_compared := ok_compared (ts := (tf.map (He.cT K)).map Prod.snd) (P := PySem.Challenge.rw_truechain_k21_stretches_known.prog) (w := w) (mg := mg) (base := base) (fun_ofD (st := s_compared) F_compared) 
  have g_is_stretch := ok_is_stretch (ts := (tf.map (He.cT K)).map Prod.snd) (P := PySem.Challenge.rw_truechain_k21_stretches_known.prog) (w := w) (mg := mg) (base := base) (fun_ofD (st := s_is_stretch) F_is_stretch) (g_is_fraction := g_is_fraction) (m_is_fraction := m_is_fraction) (p_is_fraction := p_is_fraction) (g_compared := g_compared) (m_compared := m_compared) (p_compared := p_compared) (z_isinstance := z_isinstance) (z_tuple := z_tuple) (z_len := z_len)
  have g__law_copy := ok__law_copy (ts := (tf.map (He.cT K)).map Prod.snd) (P := PySem.Challenge.rw_truechain_k21_stretches_known.prog) (w := w) (mg := mg) (base := base) (fun_ofD (st := s__law_copy) F__law_copy) (m__law_copy := m__law_copy) (p__law_copy := p__law_copy) (z_isinstance := z_isinstance) (z_list := z_list) (z_tuple := z_tuple) 8
  have g__law_alike := ok__law_alike (ts := (tf.map (He.cT K)).map Prod.snd) (P := PySem.Challenge.rw_truechain_k21_stretches_known.prog) (w := w) (mg := mg) (base := base) (fun_ofD (st := s__law_alike) F__law_alike) (z_repr := z_repr)
  have g__law_is_fraction := ok__law_is_fraction (ts := (tf.map (He.cT K)).map Prod.snd) (P := PySem.Challenge.rw_truechain_k21_stretches_known.prog) (w := w) (mg := mg) (base := base) (fun_ofD (st := s__law_is_fraction) F__law_is_fraction) (z_isinstance := z_isinstance) (z_tuple := z_tuple) (z_len := z_len) (z_int := z_int) (z_bool := z_bool) (z_abs := z_abs)
  have g__law_is_stretch := ok__law_is_stretch (ts := (tf.map (He.cT K)).map Prod.snd) (P := PySem.Challenge.rw_truechain_k21_stretches_known.prog) (w := w) (mg := mg) (base := base) (fun_ofD (st := s__law_is_stretch) F__law_is_stretch) (g__law_is_fraction := g__law_is_fraction) (m__law_is_fraction := m__law_is_fraction) (p__law_is_fraction := p__law_is_fraction) (g__law_under := g__law_under) (m__law_under := m__law_under) (p__law_under := p__law_under) (z_isinstance := z_isinstance) (z_tuple := z_tuple) (z_len := z_len)
  have g_require := ok_require (ts := (tf.map (He.cT K)).map Prod.snd) (P := PySem.Challenge.rw_truechain_k21_stretches_known.prog) (w := w) (mg := mg) (base := base) (fun_ofD (st := s_require) F_require) (z_enumerate := z_enumerate) (T_Wrong := T_Wrong) (ic_Wrong := ic_Wrong) (ti_Wrong := ti_Wrong) (i1_Wrong := i1_Wrong) (hb_Wrong := hb_Wrong) (m_Wrong := m_Wrong)
  have g_is_width := ok_is_width (ts := (tf.map (He.cT K)).map Prod.snd) (P := PySem.Challenge.rw_truechain_k21_stretches_known.prog) (w := w) (mg := mg) (base := base) (fun_ofD (st := s_is_width) F_is_width) (g_is_fraction := g_is_fraction) (m_is_fraction := m_is_fraction) (p_is_fraction := p_is_fraction)
  have g_added := ok_added (ts := (tf.map (He.cT K)).map Prod.snd) (P := PySem.Challenge.rw_truechain_k21_stretches_known.prog) (w := w) (mg := mg) (base := base) (fun_ofD (st := s_added) F_added) (i_gcd := i_gcd)
  have g_negative := ok_negative (ts := (tf.map (He.cT K)).map Prod.snd) (P := PySem.Challenge.rw_truechain_k21_stretches_known.prog) (w := w) (mg := mg) (base := base) (fun_ofD (st := s_negative) F_negative) 
  have g_stretched := ok_stretched (ts := (tf.map (He.cT K)).map Prod.snd) (P := PySem.Challenge.rw_truechain_k21_stretches_known.prog) (w := w) (mg := mg) (base := base) (fun_ofD (st := s_stretched) F_stretched) (g_added := g_added) (m_added := m_added) (p_added := p_added) (g_negative := g_negative) (m_negative := m_negative) (p_negative := p_negative)
  have g_widened := ok_widened (ts := (tf.map (He.cT K)).map Prod.snd) (P := PySem.Challenge.rw_truechain_k21_stretches_known.prog) (w := w) (mg := mg) (base := base) (fun_ofD (st := s_widened) F_widened) (g_require := g_require) (m_require := m_require) (p_require := p_require) (g_is_width := g_is_width) (m_is_width := m_is_width) (p_is_width := p_is_width) (g_is_stretch := g_is_stretch) (m_is_stretch := m_is_stretch) (p_is_stretch := p_is_stretch) (g_stretched := g_stretched) (m_stretched := m_stretched) (p_stretched := p_stretched)
  have g_holds := ok_holds (ts := (tf.map (He.cT K)).map Prod.snd) (P := PySem.Challenge.rw_truechain_k21_stretches_known.prog) (w := w) (mg := mg) (base := base) (fun_ofD (st := s_holds) F_holds) (g_require := g_require) (m_require := m_require) (p_require := p_require) (g_is_fraction := g_is_fraction) (m_is_fraction := m_is_fraction) (p_is_fraction := p_is_fraction) (g_is_stretch := g_is_stretch) (m_is_stretch := m_is_stretch) (p_is_stretch := p_is_stretch) (g_compared := g_compared) (m_compared := m_compared) (p_compared := p_compared)
  have g_width := ok_width (ts := (tf.map (He.cT K)).map Prod.snd) (P := PySem.Challenge.rw_truechain_k21_stretches_known.prog) (w := w) (mg := mg) (base := base) (fun_ofD (st := s_width) F_width) (g_require := g_require) (m_require := m_require) (p_require := p_require) (g_is_stretch := g_is_stretch) (m_is_stretch := m_is_stretch) (p_is_stretch := p_is_stretch) (g_added := g_added) (m_added := m_added) (p_added := p_added) (g_negative := g_negative) (m_negative := m_negative) (p_negative := p_negative)
  have g_is_list_of_stretches := ok_is_list_of_stretches (ts := (tf.map (He.cT K)).map Prod.snd) (P := PySem.Challenge.rw_truechain_k21_stretches_known.prog) (w := w) (mg := mg) (base := base) (fun_ofD (st := s_is_list_of_stretches) F_is_list_of_stretches) (g_is_stretch := g_is_stretch) (m_is_stretch := m_is_stretch) (p_is_stretch := p_is_stretch) (z_isinstance := z_isinstance) (z_list := z_list) (z_len := z_len) (z_all := z_all) (c_MOST_STRETCHES := c_MOST_STRETCHES) (tb_is_list_of_stretches := tb_is_list_of_stretches) (fc_is_list_of_stretches := fc_is_list_of_stretches) (ti_is_list_of_stretches := ti_is_list_of_stretches)
  have g_outermost := ok_outermost (ts := (tf.map (He.cT K)).map Prod.snd) (P := PySem.Challenge.rw_truechain_k21_stretches_known.prog) (w := w) (mg := mg) (base := base) (fun_ofD (st := s_outermost) F_outermost) (g_compared := g_compared) (m_compared := m_compared) (p_compared := p_compared)
  have g_innermost := ok_innermost (ts := (tf.map (He.cT K)).map Prod.snd) (P := PySem.Challenge.rw_truechain_k21_stretches_known.prog) (w := w) (mg := mg) (base := base) (fun_ofD (st := s_innermost) F_innermost) (g_outermost := g_outermost) (m_outermost := m_outermost) (p_outermost := p_outermost)
  have g_meeting := ok_meeting (ts := (tf.map (He.cT K)).map Prod.snd) (P := PySem.Challenge.rw_truechain_k21_stretches_known.prog) (w := w) (mg := mg) (base := base) (fun_ofD (st := s_meeting) F_meeting) (g_require := g_require) (m_require := m_require) (p_require := p_require) (g_is_list_of_stretches := g_is_list_of_stretches) (m_is_list_of_stretches := m_is_list_of_stretches) (p_is_list_of_stretches := p_is_list_of_stretches) (g_innermost := g_innermost) (m_innermost := m_innermost) (p_innermost := p_innermost) (g_compared := g_compared) (m_compared := m_compared) (p_compared := p_compared)
  have g_apart := ok_apart (ts := (tf.map (He.cT K)).map Prod.snd) (P := PySem.Challenge.rw_truechain_k21_stretches_known.prog) (w := w) (mg := mg) (base := base) (fun_ofD (st := s_apart) F_apart) (g_require := g_require) (m_require := m_require) (p_require := p_require) (g_is_list_of_stretches := g_is_list_of_stretches) (m_is_list_of_stretches := m_is_list_of_stretches) (p_is_list_of_stretches := p_is_list_of_stretches) (g_innermost := g_innermost) (m_innermost := m_innermost) (p_innermost := p_innermost) (g_compared := g_compared) (m_compared := m_compared) (p_compared := p_compared)
  have g_is_weighted := ok_is_weighted (ts := (tf.map (He.cT K)).map Prod.snd) (P := PySem.Challenge.rw_truechain_k21_stretches_known.prog) (w := w) (mg := mg) (base := base) (fun_ofD (st := s_is_weighted) F_is_weighted) (g_is_width := g_is_width) (m_is_width := m_is_width) (p_is_width := p_is_width) (g_is_stretch := g_is_stretch) (m_is_stretch := m_is_stretch) (p_is_stretch := p_is_stretch) (z_isinstance := z_isinstance) (z_tuple := z_tuple) (z_len := z_len)
  have g_is_mixture := ok_is_mixture (ts := (tf.map (He.cT K)).map Prod.snd) (P := PySem.Challenge.rw_truechain_k21_stretches_known.prog) (w := w) (mg := mg) (base := base) (fun_ofD (st := s_is_mixture) F_is_mixture) (g_is_weighted := g_is_weighted) (m_is_weighted := m_is_weighted) (p_is_weighted := p_is_weighted) (z_isinstance := z_isinstance) (z_list := z_list) (z_len := z_len) (z_all := z_all) (c_LONGEST_LIST := c_LONGEST_LIST) (tb_is_mixture := tb_is_mixture) (fc_is_mixture := fc_is_mixture) (ti_is_mixture := ti_is_mixture)
  have g_summed := ok_summed (ts := (tf.map (He.cT K)).map Prod.snd) (P := PySem.Challenge.rw_truechain_k21_stretches_known.prog) (w := w) (mg := mg) (base := base) (fun_ofD (st := s_summed) F_summed) (g_added := g_added) (m_added := m_added) (p_added := p_added) (z_len := z_len) (z_zip := z_zip) (c_NOUGHT := c_NOUGHT) (r_NOUGHT := r_NOUGHT) (e_NOUGHT := e_NOUGHT)
  have g_in_lowest_terms := ok_in_lowest_terms (ts := (tf.map (He.cT K)).map Prod.snd) (P := PySem.Challenge.rw_truechain_k21_stretches_known.prog) (w := w) (mg := mg) (base := base) (fun_ofD (st := s_in_lowest_terms) F_in_lowest_terms) (i_gcd := i_gcd)
  have g_multiplied := ok_multiplied (ts := (tf.map (He.cT K)).map Prod.snd) (P := PySem.Challenge.rw_truechain_k21_stretches_known.prog) (w := w) (mg := mg) (base := base) (fun_ofD (st := s_multiplied) F_multiplied) (g_in_lowest_terms := g_in_lowest_terms) (m_in_lowest_terms := m_in_lowest_terms) (p_in_lowest_terms := p_in_lowest_terms)
  have g_mixed := ok_mixed (ts := (tf.map (He.cT K)).map Prod.snd) (P := PySem.Challenge.rw_truechain_k21_stretches_known.prog) (w := w) (mg := mg) (base := base) (fun_ofD (st := s_mixed) F_mixed) (g_require := g_require) (m_require := m_require) (p_require := p_require) (g_is_mixture := g_is_mixture) (m_is_mixture := m_is_mixture) (p_is_mixture := p_is_mixture) (g_summed := g_summed) (m_summed := m_summed) (p_summed := p_summed) (g_multiplied := g_multiplied) (m_multiplied := m_multiplied) (p_multiplied := p_multiplied)
  have g__law_call := ok__law_call (ts := (tf.map (He.cT K)).map Prod.snd) (P := PySem.Challenge.rw_truechain_k21_stretches_known.prog) (w := w) (mg := mg) (base := base) (fun_ofD (st := s__law_call) F__law_call) (g_widened := g_widened) (m_widened := m_widened) (p_widened := p_widened) (g_holds := g_holds) (m_holds := m_holds) (p_holds := p_holds) (g_width := g_width) (m_width := m_width) (p_width := p_width) (g_meeting := g_meeting) (m_meeting := m_meeting) (p_meeting := p_meeting) (g_apart := g_apart) (m_apart := m_apart) (p_apart := p_apart) (g_mixed := g_mixed) (m_mixed := m_mixed) (p_mixed := p_mixed)
  have g__law_refused := ok__law_refused (ts := (tf.map (He.cT K)).map Prod.snd) (P := PySem.Challenge.rw_truechain_k21_stretches_known.prog) (w := w) (mg := mg) (base := base) (fun_ofD (st := s__law_refused) F__law_refused) (m_Wrong := m_Wrong) (em_Wrong_Wrong := em_Wrong_Wrong) (ex_Wrong := ex_Wrong) (xf_Wrong := xf_Wrong) (nf_Wrong := nf_Wrong) (g__law_call := g__law_call) (m__law_call := m__law_call) (p__law_call := p__law_call)
  have g__law_amount := ok__law_amount (ts := (tf.map (He.cT K)).map Prod.snd) (P := PySem.Challenge.rw_truechain_k21_stretches_known.prog) (w := w) (mg := mg) (base := base) (fun_ofD (st := s__law_amount) F__law_amount) (g__law_is_fraction := g__law_is_fraction) (m__law_is_fraction := m__law_is_fraction) (p__law_is_fraction := p__law_is_fraction)
  have g__law_is_pair := ok__law_is_pair (ts := (tf.map (He.cT K)).map Prod.snd) (P := PySem.Challenge.rw_truechain_k21_stretches_known.prog) (w := w) (mg := mg) (base := base) (fun_ofD (st := s__law_is_pair) F__law_is_pair) (g__law_amount := g__law_amount) (m__law_amount := m__law_amount) (p__law_amount := p__law_amount) (g__law_is_stretch := g__law_is_stretch) (m__law_is_stretch := m__law_is_stretch) (p__law_is_stretch := p__law_is_stretch) (z_isinstance := z_isinstance) (z_tuple := z_tuple) (z_len := z_len)
  have g__law_due := ok__law_due (ts := (tf.map (He.cT K)).map Prod.snd) (P := PySem.Challenge.rw_truechain_k21_stretches_known.prog) (w := w) (mg := mg) (base := base) (fun_ofD (st := s__law_due) F__law_due) (g__law_is_stretch := g__law_is_stretch) (m__law_is_stretch := m__law_is_stretch) (p__law_is_stretch := p__law_is_stretch) (g__law_is_pair := g__law_is_pair) (m__law_is_pair := m__law_is_pair) (p__law_is_pair := p__law_is_pair) (g__law_amount := g__law_amount) (m__law_amount := m__law_amount) (p__law_amount := p__law_amount) (g__law_is_fraction := g__law_is_fraction) (m__law_is_fraction := m__law_is_fraction) (p__law_is_fraction := p__law_is_fraction) (z_isinstance := z_isinstance) (z_list := z_list) (z_len := z_len)
  have g__law_asked := ok__law_asked (ts := (tf.map (He.cT K)).map Prod.snd) (P := PySem.Challenge.rw_truechain_k21_stretches_known.prog) (w := w) (mg := mg) (base := base) (fun_ofD (st := s__law_asked) F__law_asked) (g__law_copy := g__law_copy) (m__law_copy := m__law_copy) (p__law_copy := p__law_copy) (g__law_refused := g__law_refused) (m__law_refused := m__law_refused) (p__law_refused := p__law_refused) (g__law_alike := g__law_alike) (m__law_alike := m__law_alike) (p__law_alike := p__law_alike) (g__law_due := g__law_due) (m__law_due := m__law_due) (p__law_due := p__law_due) (z_repr := z_repr)
  have g__law_pair := ok__law_pair (ts := (tf.map (He.cT K)).map Prod.snd) (P := PySem.Challenge.rw_truechain_k21_stretches_known.prog) (w := w) (mg := mg) (base := base) (fun_ofD (st := s__law_pair) F__law_pair) (g__law_take := g__law_take) (m__law_take := m__law_take) (p__law_take := p__law_take) (z_max := z_max)
  have g_law := ok_law (ts := (tf.map (He.cT K)).map Prod.snd) (P := PySem.Challenge.rw_truechain_k21_stretches_known.prog) (w := w) (mg := mg) (base := base) (fun_ofD (st := s_law) F_law) (g__law_bag := g__law_bag) (m__law_bag := m__law_bag) (p__law_bag := p__law_bag) (g__law_take := g__law_take) (m__law_take := m__law_take) (p__law_take := p__law_take) (g__law_spoilt := g__law_spoilt) (m__law_spoilt := m__law_spoilt) (p__law_spoilt := p__law_spoilt) (g__law_stretch := g__law_stretch) (m__law_stretch := m__law_stretch) (p__law_stretch := p__law_stretch) (g__law_beside := g__law_beside) (m__law_beside := m__law_beside) (p__law_beside := p__law_beside) (g_is_stretch := g_is_stretch) (m_is_stretch := m_is_stretch) (p_is_stretch := p_is_stretch) (g__law_copy := g__law_copy) (m__law_copy := m__law_copy) (p__law_copy := p__law_copy) (g__law_alike := g__law_alike) (m__law_alike := m__law_alike) (p__law_alike := p__law_alike) (g__law_is_stretch := g__law_is_stretch) (m__law_is_stretch := m__law_is_stretch) (p__law_is_stretch := p__law_is_stretch) (g__law_asked := g__law_asked) (m__law_asked := m__law_asked) (p__law_asked := p__law_asked) (g__law_pair := g__law_pair) (m__law_pair := m__law_pair) (p__law_pair := p__law_pair) (g__law_odd := g__law_odd) (m__law_odd := m__law_odd) (p__law_odd := p__law_odd) (z_range := z_range) (z_enumerate := z_enumerate) (z_len := z_len) (z_tuple := z_tuple)
  exact g_law
end Lk
open PySem PySem.W PyProof.Rows
set_option maxHeartbeats 0 in
theorem PySem.Challenge.cw_truechain_k21_stretches_known_holds : PySem.Challenge.rw_truechain_k21_stretches_known.Holds := by
  w_on; o_law; o_head Lk.hk
  case hw => w_witness2
  case hc =>
    refine Dl.law_endX (l := PySem.Challenge.rw_truechain_k21_stretches_known) (k := 11) (sp := fun K ts => Dl.spLaw K ts) rfl rfl ⟨rfl, by decide, by decide⟩ rfl (fun w mg mb lo mean fa h Y T hmg => ?F) (fun K H a ns ts hl ht hS => ⟨ht, a, ns, rfl, hS, hl, fun _ => rfl⟩)
    obtain ⟨K, KX, c⟩ := Y
    exact ⟨K, Lk.all_mk KX T hmg c⟩
