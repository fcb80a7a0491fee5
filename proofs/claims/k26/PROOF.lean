import PyProof.Rows.All
import Wide.All
import OpenK.AllK
import Wide.FinOn
import HandS.ForMost
import HandS.Zip
import HandS.IsInst
import HandS.SetKeys
import HandS.TupAny
import HandS.SortInts
import HandS.TupMul
import KE.KeyNested
import HandS.Deep
import HandS.Style
import KE.GoesEnum
import KE.KDictWalk
import PyProof.ReprRoads
import HandS.Conv
import PyProof.DictMoreH
import HandS.Words
import HandS.SetFor
import HandS.Strs
import HandS.WideBits
import HandS.SortOrd
import KE.KMathGC
import HandS.TryOnly
import HandS.ExcOwn
import HandS.WordsExc
import KE.KExcIs
import KE.DataMinMax
import KE.DatumOrd
import HandS.ExcInit
import HandS.ExcField
import HandS.FStr
import KE.KExcSuper
import KE.KSuper
import HandS.SortKw
import HandS.Star
import KE.SortData
import HandS.Text
import PyProof.StrBlock2
import HandS.DictComp
import KE.GoesEnumKw
import PyProof.SumAny
import PyProof.Rows.SumAny
import HandS.TryMany
import KE.KUnpackStar
import HandS.RaiseMore
import KE.KDictZip
import PyProof.TupleOfGen
import HandS.TupLe
import HandS.More
import PyProof.ReprLen
import PySem.Challenge.RW_firstbreak_k26_fewest_by_all_tests
set_option Elab.async false
set_option linter.all false
set_option maxRecDepth 100000
set_option autoImplicit false
/-! Mn: programs by a store of mutable objects and pure data: the relation to the hand layer. -/
namespace Mn
open PySem PySem.Spec PyProof.Rows L2

/-- data: what a value is, tuples all through; obj k: the k-th mutable object; scr: the law's script, never written; pt: a tuple known to be a bare object; fn: a def or a class of the program, by its name -/
inductive Dv where
  | non | bl (b : Bool) | int (i : Int) | str (x : Str) | tup (ds : List Dv) | obj (k : Nat) | rf (a : Addr) | scr (ns : List Int) | pt (ds : List Dv) | fn (x : Str) | st (ds : List Dv)

/-! nested keys: tuples of ints and of such tuples, as the tracked tuples have them -/
mutual
inductive NkH (H : Hp) : NestedKey → V → Prop
  | int (i : Int) : NkH H (.num i) (.int i)
  | tup {b : Addr} {us : List V} {ks : List NestedKey} : H b = some (.tup us) → NkHs H ks us → NkH H (.tup ks) (.ref b)
inductive NkHs (H : Hp) : List NestedKey → List V → Prop
  | nil : NkHs H [] []
  | cons {k : NestedKey} {v : V} {ks : List NestedKey} {vs : List V} : NkH H k v → NkHs H ks vs → NkHs H (k :: ks) (v :: vs)
end
mutual
theorem NkH.mono {H H' : Hp} (t : ∀ p vs, H p = some (.tup vs) → H' p = some (.tup vs)) : ∀ (k : NestedKey) (v : V), NkH H k v → NkH H' k v
  | .none, _, h => by cases h
  | .num i, _, h => by cases h; exact .int i
  | .text x, _, h => by cases h
  | .tup ks, _, h => by
    cases h with
    | tup h1 h2 => exact .tup (t _ _ h1) (NkHs.mono t ks _ h2)
theorem NkHs.mono {H H' : Hp} (t : ∀ p vs, H p = some (.tup vs) → H' p = some (.tup vs)) : ∀ (ks : List NestedKey) (vs : List V), NkHs H ks vs → NkHs H' ks vs
  | [], _, h => by cases h; exact .nil
  | k :: ks, _, h => by
    cases h with
    | cons h1 h2 => exact .cons (NkH.mono t k _ h1) (NkHs.mono t ks _ h2)
end
mutual
/-- the hash of a key without texts -/
def nkHash : NestedKey → Int
  | .num i => hashInt i
  | .tup ks => reduceHash (Builtin.Tuple.tupleHashOf (nkHashes ks))
  | _ => 0
def nkHashes : List NestedKey → List Int
  | [] => []
  | k :: ks => nkHash k :: nkHashes ks
end
/-- the dict at p, by its object alone: keys, values; bs: where the keys' tuples stand -/
def NdOk (p : Addr) (kvs : List (NestedKey × V)) (bs : List Addr) (h : Heap) : Prop := kvs.length ≤ sizeLine ∧ (p == sysModules) = false ∧ ∃ xs : List (NestedKey × Addr × Value),
  Paired (fun (a : NestedKey × V) (b : NestedKey × Addr × Value) => a.1 = b.1 ∧ RelV a.2 b.2.2) kvs xs ∧ xs.map (·.2.1) = bs ∧
  ∃ o es ep, h.get? p = some o ∧ o.ExactDict ∧ o.data = .dict es ep ∧ es.toList = xs.map (fun x => (⟨nkHash x.1, .ref x.2.1, x.2.2⟩ : DictEntry)) ∧ (xs.map (·.1)).Nodup
/-- the keys stand there -/
def NdKs (H : Hp) (kvs : List (NestedKey × V)) (bs : List Addr) : Prop := Paired (fun (a : NestedKey × V) (b : Addr) => NkH H a.1 (.ref b) ∧ a.1.depth ≤ 8) kvs bs
theorem NdKs.mono {H H' : Hp} (t : ∀ p vs, H p = some (.tup vs) → H' p = some (.tup vs)) {kvs : List (NestedKey × V)} {bs : List Addr} (h : NdKs H kvs bs) : NdKs H' kvs bs := Paired.mapP h fun _ _ z => ⟨NkH.mono t _ _ z.1, z.2⟩
/-- a mutable object: a list; dicts by flat keys, by tuples of flat keys; an instance -/
inductive Ob where
  | lst (xs : List Dv) | dK (kvs : List (Key × Dv)) | dT (kvs : List (List Key × Dv)) | dKf (kvs : List (Key × Dv)) | dTf (kvs : List (List Key × Dv)) | ins (C : Str) (fs : List (Str × Dv))
  | dN (kvs : List (NestedKey × Dv))

abbrev Th := List Ob
abbrev DEnv := List (Option Dv)

/-- where a def or a class stands -/
def clsAt (K : PySem.W.Frag) (x : Str) : Addr := match PySem.W.nsIn K mainGlobals x with
  | some (some (.ref a)) => a
  | _ => 0
/-- a list that is never written: locked, or of the written part -/
def Scr (K : PySem.W.Frag) (H : Hp) (p : Addr) (xs : List V) : Prop := (∃ o, H p = some (.frz o (.lst xs))) ∨ SqL K (fun _ => none) p xs
/-- a tuple of the module, never written -/
def StT (K : PySem.W.Frag) (p : Addr) (xs : List V) : Prop := ∃ (o : Obj) (its : Array Value) (n : Nat), K.lookup p = some o ∧ o.cls = .type "tuple" ∧ o.data = .seq its n ∧ its.size ≤ sizeLine ∧ Vals xs its.toList
theorem StT.sq {K : PySem.W.Frag} {H : Hp} {p : Addr} {xs : List V} (h : StT K p xs) : SqT K H p xs := .inr h
mutual
def Rp (K : PySem.W.Frag) (H : Hp) (α : List Addr) : Dv → V → Prop
  | .non, v => v = .non
  | .bl b, v => v = .bl b
  | .int i, v => v = .int i
  | .str x, v => v = .str x
  | .tup ds, v => ∃ p vs, v = .ref p ∧ H p = some (.tup vs) ∧ Rps K H α ds vs
  | .obj k, v => ∃ p, α[k]? = some p ∧ v = .ref p
  | .rf a, v => v = .ref a
  | .scr ns, v => ∃ p, v = .ref p ∧ Scr K H p (ns.map V.int)
  | .fn x, v => v = .ref (clsAt K x)
  | .st ds, v => ∃ p vs, v = .ref p ∧ StT K p vs ∧ Rps K H α ds vs
  | .pt ds, v => ∃ p vs o, v = .ref p ∧ H p = some (.frz o (.tup vs)) ∧ (o.cls = .type "tuple" ∧ o.dict = none) ∧ Rps K H α ds vs
def Rps (K : PySem.W.Frag) (H : Hp) (α : List Addr) : List Dv → List V → Prop
  | [], vs => vs = []
  | d :: ds, vs => ∃ v r, vs = v :: r ∧ Rp K H α d v ∧ Rps K H α ds r
end
/-- pairs of a key and a datum -/
def RpK {κ : Type} (K : PySem.W.Frag) (H : Hp) (α : List Addr) : List (κ × Dv) → List (κ × V) → Prop
  | [], vs => vs = []
  | (k, d) :: ds, vs => ∃ v r, vs = (k, v) :: r ∧ Rp K H α d v ∧ RpK K H α ds r
/-- not locked -/
def Ob.live : Ob → Bool
  | .dKf _ => false
  | .dTf _ => false
  | _ => true
def ObR (K : PySem.W.Frag) (H : Hp) (α : List Addr) (p : Addr) : Ob → Prop
  | .lst ds => ∃ vs, H p = some (.lst vs) ∧ Rps K H α ds vs
  | .dK kvs => ∃ vs, H p = some (.dK vs) ∧ RpK K H α kvs vs
  | .dT kvs => ∃ vs, H p = some (.dT vs) ∧ RpK K H α kvs vs
  | .dKf kvs => ∃ vs o, H p = some (.frz o (.dK vs)) ∧ RpK K H α kvs vs
  | .dTf kvs => ∃ vs o, H p = some (.frz o (.dT vs)) ∧ RpK K H α kvs vs
  | .ins C fs => ∃ dx vs, H p = some (.ins (clsAt K C) dx vs) ∧ RpK K H α fs vs
  | .dN kvs => ∃ vs bs, H p = some (.ext (NdOk p vs bs)) ∧ NdKs H vs bs ∧ RpK K H α kvs vs
structure Okk (K : PySem.W.Frag) (H : Hp) (α : List Addr) (θ : Th) : Prop where
  len : α.length = θ.length
  nd : α.Nodup
  ob : ∀ (k : Nat) (p : Addr) (o : Ob), α[k]? = some p → θ[k]? = some o → ObR K H α p o

/-- from (H, α) to (H', α'): tuples stay, objects come -/
structure Nx (K : PySem.W.Frag) (H : Hp) (α : List Addr) (H' : Hp) (α' : List Addr) : Prop where
  ext : ∃ β, α' = α ++ β
  tup : ∀ p vs, H p = some (.tup vs) → H' p = some (.tup vs)
  xd : ∀ p fs, H p = some (.xd fs) → H' p = some (.xd fs)
  fz : ∀ p o u, H p = some (.frz o u) → H' p = some (.frz o u)

/-- as far as data lean on it -/
structure Nw (H : Hp) (α : List Addr) (H' : Hp) (α' : List Addr) : Prop where
  ext : ∃ β, α' = α ++ β
  tup : ∀ p vs, H p = some (.tup vs) → H' p = some (.tup vs)
  fl : ∀ p o xs, H p = some (.frz o (.lst xs)) → H' p = some (.frz o (.lst xs))
  ft : ∀ p o xs, H p = some (.frz o (.tup xs)) → H' p = some (.frz o (.tup xs))
theorem Nx.w {K : PySem.W.Frag} {H H' : Hp} {α α' : List Addr} (n : Nx K H α H' α') : Nw H α H' α' := ⟨n.ext, n.tup, fun p o xs => n.fz p o _, fun p o xs => n.fz p o _⟩
section
variable {K : PySem.W.Frag} {H H' H2 : Hp} {α α' α2 : List Addr} {θ θ' : Th}
theorem Nx.refl : Nx K H α H α := ⟨⟨[], by simp⟩, fun _ _ h => h, fun _ _ h => h, fun _ _ _ h => h⟩
theorem Nx.trans (a : Nx K H α H' α') (b : Nx K H' α' H2 α2) : Nx K H α H2 α2 := by
  obtain ⟨β, e⟩ := a.ext
  obtain ⟨γ, e2⟩ := b.ext
  exact ⟨⟨β ++ γ, by rw [e2, e, List.append_assoc]⟩, fun p vs h => b.tup p vs (a.tup p vs h), fun p fs h => b.xd p fs (a.xd p fs h), fun p o xs h => b.fz p o xs (a.fz p o xs h)⟩
theorem Nx.at (a : Nx K H α H' α') {k : Nat} {p : Addr} (h : α[k]? = some p) : α'[k]? = some p := by
  obtain ⟨β, e⟩ := a.ext
  rw [e, List.getElem?_append_left (by have := (List.getElem?_eq_some_iff.mp h).1; exact this)]
  exact h
theorem Nw.at (a : Nw H α H' α') {k : Nat} {p : Addr} (h : α[k]? = some p) : α'[k]? = some p := by
  obtain ⟨β, e⟩ := a.ext
  rw [e, List.getElem?_append_left (by have := (List.getElem?_eq_some_iff.mp h).1; exact this)]
  exact h
mutual
theorem Rp.monoW (a : Nw H α H' α') : ∀ {d : Dv} {v : V}, Rp K H α d v → Rp K H' α' d v
  | .non, _, h => by simpa [Rp] using h
  | .bl _, _, h => by simpa [Rp] using h
  | .int _, _, h => by simpa [Rp] using h
  | .str _, _, h => by simpa [Rp] using h
  | .rf _, _, h => by simpa [Rp] using h
  | .fn _, _, h => by simpa [Rp] using h
  | .scr ns, v, h => by
    unfold Rp at h ⊢
    obtain ⟨p, e, q⟩ := h
    exact ⟨p, e, q.imp (fun ⟨o, z⟩ => ⟨o, a.fl p o _ z⟩) id⟩
  | .tup ds, v, h => by
    unfold Rp at h ⊢
    obtain ⟨p, vs, e, t, r⟩ := h
    exact ⟨p, vs, e, a.tup p vs t, Rps.monoW a r⟩
  | .st ds, v, h => by
    unfold Rp at h ⊢
    obtain ⟨p, vs, e, t, r⟩ := h
    exact ⟨p, vs, e, t, Rps.monoW a r⟩
  | .pt ds, v, h => by
    unfold Rp at h ⊢
    obtain ⟨p, vs, o, e, t, d, r⟩ := h
    exact ⟨p, vs, o, e, a.ft p o vs t, d, Rps.monoW a r⟩
  | .obj k, v, h => by
    unfold Rp at h ⊢
    obtain ⟨p, e, r⟩ := h
    exact ⟨p, a.at e, r⟩
theorem Rps.monoW (a : Nw H α H' α') : ∀ {ds : List Dv} {vs : List V}, Rps K H α ds vs → Rps K H' α' ds vs
  | [], _, h => by unfold Rps at h ⊢; exact h
  | d :: ds, _, h => by
    unfold Rps at h ⊢
    obtain ⟨v, r, e, h1, h2⟩ := h
    exact ⟨v, r, e, Rp.monoW a h1, Rps.monoW a h2⟩
end
theorem RpK.monoW {κ : Type} (a : Nw H α H' α') : ∀ {ds : List (κ × Dv)} {vs : List (κ × V)}, RpK K H α ds vs → RpK K H' α' ds vs
  | [], _, h => by unfold RpK at h ⊢; exact h
  | (k, d) :: ds, _, h => by
    unfold RpK at h ⊢
    obtain ⟨v, r, e, h1, h2⟩ := h
    exact ⟨v, r, e, Rp.monoW a h1, RpK.monoW a h2⟩
theorem Rp.mono (a : Nx K H α H' α') {d : Dv} {v : V} (h : Rp K H α d v) : Rp K H' α' d v := h.monoW a.w
theorem Rps.mono (a : Nx K H α H' α') {ds : List Dv} {vs : List V} (h : Rps K H α ds vs) : Rps K H' α' ds vs := h.monoW a.w
theorem RpK.mono {κ : Type} (a : Nx K H α H' α') {ds : List (κ × Dv)} {vs : List (κ × V)} (h : RpK K H α ds vs) : RpK K H' α' ds vs := h.monoW a.w
theorem Rps.length : ∀ {ds : List Dv} {vs : List V}, Rps K H α ds vs → vs.length = ds.length
  | [], _, h => by unfold Rps at h; subst h; rfl
  | d :: ds, _, h => by
    unfold Rps at h
    obtain ⟨v, r, rfl, _, h2⟩ := h
    simp [Rps.length h2]
theorem Rps.get : ∀ {ds : List Dv} {vs : List V} {i : Nat} {d : Dv}, Rps K H α ds vs → ds[i]? = some d → ∃ v, vs[i]? = some v ∧ Rp K H α d v
  | [], _, _, _, _, e => by simp at e
  | d :: ds, _, 0, d', h, e => by
    unfold Rps at h
    obtain ⟨v, r, rfl, h1, h2⟩ := h
    simp at e
    subst e
    exact ⟨v, by simp, h1⟩
  | d :: ds, _, i + 1, d', h, e => by
    unfold Rps at h
    obtain ⟨v, r, rfl, h1, h2⟩ := h
    obtain ⟨v', e', h'⟩ := Rps.get (i := i) h2 (by simpa using e)
    exact ⟨v', by simpa using e', h'⟩
theorem Rps.get' : ∀ {ds : List Dv} {vs : List V} {i : Nat} {v : V}, Rps K H α ds vs → vs[i]? = some v → ∃ d, ds[i]? = some d ∧ Rp K H α d v
  | [], _, _, _, h, e => by unfold Rps at h; subst h; simp at e
  | d :: ds, _, 0, v', h, e => by
    unfold Rps at h
    obtain ⟨v, r, rfl, h1, h2⟩ := h
    simp at e
    subst e
    exact ⟨d, by simp, h1⟩
  | d :: ds, _, i + 1, v', h, e => by
    unfold Rps at h
    obtain ⟨v, r, rfl, h1, h2⟩ := h
    obtain ⟨v', e', h'⟩ := Rps.get' (i := i) h2 (by simpa using e)
    exact ⟨v', by simpa using e', h'⟩
theorem Rps.nil : Rps K H α [] [] := by unfold Rps; rfl
theorem Rps.cons {d : Dv} {v : V} {ds : List Dv} {vs : List V} (h : Rp K H α d v) (r : Rps K H α ds vs) : Rps K H α (d :: ds) (v :: vs) := by unfold Rps; exact ⟨v, vs, rfl, h, r⟩
theorem Rps.append : ∀ {ds es : List Dv} {vs us : List V}, Rps K H α ds vs → Rps K H α es us → Rps K H α (ds ++ es) (vs ++ us)
  | [], _, _, _, h, r => by unfold Rps at h; subst h; exact r
  | d :: ds, _, _, _, h, r => by
    unfold Rps at h
    obtain ⟨v, q, rfl, h1, h2⟩ := h
    exact Rps.cons h1 (Rps.append h2 r)
theorem Rps.set {d : Dv} {v : V} (q : Rp K H α d v) : ∀ {ds : List Dv} {vs : List V} {i : Nat}, Rps K H α ds vs → Rps K H α (ds.set i d) (vs.set i v)
  | [], _, _, h => by unfold Rps at h; subst h; exact Rps.nil
  | e :: ds, _, 0, h => by
    unfold Rps at h
    obtain ⟨u, r, rfl, h1, h2⟩ := h
    exact Rps.cons q h2
  | e :: ds, _, i + 1, h => by
    unfold Rps at h
    obtain ⟨u, r, rfl, h1, h2⟩ := h
    exact Rps.cons h1 (Rps.set q h2)
theorem Rps.drop : ∀ {ds : List Dv} {vs : List V} (i : Nat), Rps K H α ds vs → Rps K H α (ds.drop i) (vs.drop i)
  | _, _, 0, h => by simpa using h
  | [], _, _ + 1, h => by unfold Rps at h; subst h; exact Rps.nil
  | e :: ds, _, i + 1, h => by
    unfold Rps at h
    obtain ⟨u, r, rfl, h1, h2⟩ := h
    simpa using Rps.drop i h2
theorem Rps.take : ∀ {ds : List Dv} {vs : List V} (i : Nat), Rps K H α ds vs → Rps K H α (ds.take i) (vs.take i)
  | _, _, 0, h => by simpa using Rps.nil
  | [], _, _ + 1, h => by unfold Rps at h; subst h; exact Rps.nil
  | e :: ds, _, i + 1, h => by
    unfold Rps at h
    obtain ⟨u, r, rfl, h1, h2⟩ := h
    exact Rps.cons h1 (Rps.take i h2)
theorem Rps.split : ∀ {ds es : List Dv} {vs : List V}, Rps K H α (ds ++ es) vs → ∃ us ws, vs = us ++ ws ∧ Rps K H α ds us ∧ Rps K H α es ws
  | [], _, vs, h => ⟨[], vs, rfl, Rps.nil, h⟩
  | d :: ds, _, _, h => by
    rw [List.cons_append] at h
    unfold Rps at h
    obtain ⟨v, r, rfl, h1, h2⟩ := h
    obtain ⟨us, ws, rfl, h3, h4⟩ := Rps.split h2
    exact ⟨v :: us, ws, rfl, Rps.cons h1 h3, h4⟩
/-! what is stored is of kinds that no tuple is -/
theorem tup_upd {p q : Addr} {o : HO} {vs : List V} (h : H p = some (.tup vs)) (hq : ∀ us, H q ≠ some (.tup us)) : upd H q o p = some (.tup vs) := by
  rw [upd_ne (fun e => by subst e; exact hq vs h)]
  exact h
theorem notup_none {q : Addr} (h : H q = none) : ∀ us, H q ≠ some (.tup us) := fun us r => by rw [h] at r; cases r
theorem notup_of {q : Addr} {o : HO} (h : H q = some o) (n : ∀ us, o ≠ .tup us) : ∀ us, H q ≠ some (.tup us) := fun us r => by
  rw [h] at r
  exact n us (Option.some.inj r)
/-- an object that comes, or one that changes -/
theorem Nx.new {q : Addr} {o : HO} (h : H q = none) (β : List Addr) : Nx K H α (upd H q o) (α ++ β) :=
  ⟨⟨β, rfl⟩, fun _ _ t => tup_upd t (notup_none h), fun p fs e => by rw [upd_ne (ne_of_none e h)]; exact e, fun p o xs e => by rw [upd_ne (ne_of_none e h)]; exact e⟩
theorem Nx.new0 {q : Addr} {o : HO} (h : H q = none) : Nx K H α (upd H q o) α := by
  have := Nx.new (K := K) (α := α) (o := o) h []
  simpa using this
theorem ObR.notup {p : Addr} {o : Ob} (h : ObR K H α p o) : ∀ us, H p ≠ some (.tup us) := by
  cases o with
  | lst ds => obtain ⟨vs, e, _⟩ := h; exact notup_of e (fun _ z => nomatch z)
  | dK ds => obtain ⟨vs, e, _⟩ := h; exact notup_of e (fun _ z => nomatch z)
  | dT ds => obtain ⟨vs, e, _⟩ := h; exact notup_of e (fun _ z => nomatch z)
  | dKf ds => obtain ⟨vs, b, e, _⟩ := h; exact notup_of e (fun _ z => nomatch z)
  | dTf ds => obtain ⟨vs, b, e, _⟩ := h; exact notup_of e (fun _ z => nomatch z)
  | ins C fs => obtain ⟨dx, vs, e, _⟩ := h; exact notup_of e (fun _ z => nomatch z)
  | dN ds => obtain ⟨vs, bs, e, _⟩ := h; exact notup_of e (fun _ z => nomatch z)
theorem ObR.noxd {p : Addr} {o : Ob} (h : ObR K H α p o) : ∀ fs, H p ≠ some (.xd fs) := by
  intro fs x
  cases o with
  | lst ds => obtain ⟨vs, e, _⟩ := h; rw [x] at e; cases e
  | dK ds => obtain ⟨vs, e, _⟩ := h; rw [x] at e; cases e
  | dT ds => obtain ⟨vs, e, _⟩ := h; rw [x] at e; cases e
  | dKf ds => obtain ⟨vs, b, e, _⟩ := h; rw [x] at e; cases e
  | dTf ds => obtain ⟨vs, b, e, _⟩ := h; rw [x] at e; cases e
  | ins C fs => obtain ⟨dx, vs, e, _⟩ := h; rw [x] at e; cases e
  | dN ds => obtain ⟨vs, bs, e, _⟩ := h; rw [x] at e; cases e
theorem ObR.nofz {p : Addr} {o : Ob} (h : ObR K H α p o) (lv : o.live = true) : ∀ b u, H p ≠ some (.frz b u) := by
  intro b₀ u₀ x
  cases o with
  | lst ds => obtain ⟨vs, e, _⟩ := h; rw [x] at e; cases e
  | dK ds => obtain ⟨vs, e, _⟩ := h; rw [x] at e; cases e
  | dT ds => obtain ⟨vs, e, _⟩ := h; rw [x] at e; cases e
  | dKf ds => cases lv
  | dTf ds => cases lv
  | ins C fs => obtain ⟨dx, vs, e, _⟩ := h; rw [x] at e; cases e
  | dN ds => obtain ⟨vs, bs, e, _⟩ := h; rw [x] at e; cases e
theorem ObR.some {p : Addr} {o : Ob} (h : ObR K H α p o) : ∃ u, H p = some u := by
  cases o with
  | lst ds => obtain ⟨vs, e, _⟩ := h; exact ⟨_, e⟩
  | dK ds => obtain ⟨vs, e, _⟩ := h; exact ⟨_, e⟩
  | dT ds => obtain ⟨vs, e, _⟩ := h; exact ⟨_, e⟩
  | dKf ds => obtain ⟨vs, b, e, _⟩ := h; exact ⟨_, e⟩
  | dTf ds => obtain ⟨vs, b, e, _⟩ := h; exact ⟨_, e⟩
  | ins C fs => obtain ⟨dx, vs, e, _⟩ := h; exact ⟨_, e⟩
  | dN ds => obtain ⟨vs, bs, e, _⟩ := h; exact ⟨_, e⟩
theorem Nx.chg {q : Addr} {o : HO} {u : Ob} (h : ObR K H α q u) (lv : u.live = true := by rfl) : Nx K H α (upd H q o) α :=
  ⟨⟨[], by simp⟩, fun _ _ t => tup_upd t h.notup, fun p fs e => by rw [upd_ne (fun z => by subst z; exact h.noxd fs e)]; exact e, fun p o xs e => by rw [upd_ne (fun z => by subst z; exact h.nofz lv o xs e)]; exact e⟩
/-- an object's word leans on its own address alone -/
theorem ObR.monoW {p : Addr} {o : Ob} (a : Nw H α H' α') (e : H' p = H p) (h : ObR K H α p o) : ObR K H' α' p o := by
  cases o with
  | lst ds => obtain ⟨vs, h1, h2⟩ := h; exact ⟨vs, e.trans h1, h2.monoW a⟩
  | dK ds => obtain ⟨vs, h1, h2⟩ := h; exact ⟨vs, e.trans h1, h2.monoW a⟩
  | dT ds => obtain ⟨vs, h1, h2⟩ := h; exact ⟨vs, e.trans h1, h2.monoW a⟩
  | dKf ds => obtain ⟨vs, b, h1, h2⟩ := h; exact ⟨vs, b, e.trans h1, h2.monoW a⟩
  | dTf ds => obtain ⟨vs, b, h1, h2⟩ := h; exact ⟨vs, b, e.trans h1, h2.monoW a⟩
  | ins C fs => obtain ⟨dx, vs, h1, h2⟩ := h; exact ⟨dx, vs, e.trans h1, h2.monoW a⟩
  | dN ds => obtain ⟨vs, bs, h1, h2, h3⟩ := h; exact ⟨vs, bs, e.trans h1, h2.mono a.tup, h3.monoW a⟩
theorem ObR.mono {p : Addr} {o : Ob} (a : Nx K H α H' α') (e : H' p = H p) (h : ObR K H α p o) : ObR K H' α' p o := h.monoW a.w e
theorem Okk.fresh (h : Okk K H α θ) {q : Addr} (n : H q = none) : q ∉ α := fun m => by
  obtain ⟨k, hk, e⟩ := List.mem_iff_getElem.mp m
  have e1 : α[k]? = some q := by rw [List.getElem?_eq_getElem hk, e]
  obtain ⟨u, hu⟩ := (h.ob k q (θ[k]'(by rw [← h.len]; exact hk)) e1 (by rw [List.getElem?_eq_getElem])).some
  rw [n] at hu; cases hu
/-- an untracked thing comes (a tuple): the store stays -/
theorem Okk.new0 (h : Okk K H α θ) {q : Addr} {o : HO} (n : H q = none) : Okk K (upd H q o) α θ :=
  ⟨h.len, h.nd, fun k p ob e1 e2 => (h.ob k p ob e1 e2).mono (Nx.new0 n) (upd_ne fun z => h.fresh n (z ▸ List.mem_of_getElem? e1))⟩
/-- a mutable object comes -/
theorem Okk.new (h : Okk K H α θ) {q : Addr} {o : HO} {ob : Ob} (n : H q = none) (r : ObR K (upd H q o) (α ++ [q]) q ob) : Okk K (upd H q o) (α ++ [q]) (θ ++ [ob]) := by
  refine ⟨by simp [h.len], ?_, fun k p u e1 e2 => ?_⟩
  · rw [List.nodup_append]
    exact ⟨h.nd, by simp, fun a ha b hb e => by simp at hb; subst hb; subst e; exact h.fresh n ha⟩
  · by_cases hk : k < α.length
    · rw [List.getElem?_append_left hk] at e1
      rw [List.getElem?_append_left (by rw [← h.len]; exact hk)] at e2
      exact (h.ob k p u e1 e2).mono (Nx.new n _) (upd_ne fun z => h.fresh n (z ▸ List.mem_of_getElem? e1))
    · have hk2 : k = α.length := by
        have := (List.getElem?_eq_some_iff.mp e1).1
        simp at this
        omega
      subst hk2
      simp at e1
      rw [h.len] at e2
      simp at e2
      subst e1 e2
      exact r
/-- a mutable object changes -/
theorem Okk.chg (h : Okk K H α θ) {k : Nat} {q : Addr} {o : HO} {ob u : Ob} (e1 : α[k]? = some q) (e2 : θ[k]? = some u) (r : ObR K (upd H q o) α q ob) (lv : u.live = true := by rfl) : Okk K (upd H q o) α (θ.set k ob) := by
  refine ⟨by simp [h.len], h.nd, fun j p w f1 f2 => ?_⟩
  by_cases hj : k = j
  · subst hj
    rw [List.getElem?_set_self (List.getElem?_eq_some_iff.mp e2).1] at f2
    rw [e1] at f1
    cases f1
    cases f2
    exact r
  · rw [List.getElem?_set_ne hj] at f2
    refine (h.ob j p w f1 f2).mono (Nx.chg (h.ob k q u e1 e2) lv) (upd_ne fun z => ?_)
    subst z
    obtain ⟨a1, b1⟩ := List.getElem?_eq_some_iff.mp e1
    obtain ⟨a2, b2⟩ := List.getElem?_eq_some_iff.mp f1
    exact hj ((List.getElem_inj h.nd).mp (b1.trans b2.symm))
theorem Okk.addr (h : Okk K H α θ) {k : Nat} {o : Ob} (e : θ[k]? = some o) : ∃ p, α[k]? = some p := by
  have := (List.getElem?_eq_some_iff.mp e).1
  exact ⟨α[k]'(by rw [h.len]; exact this), List.getElem?_eq_getElem _⟩
end

/-- slots -/
def RS (K : PySem.W.Frag) (H : Hp) (α : List Addr) (σ : L2.St) (ρ : DEnv) : Prop :=
  σ.length = ρ.length ∧ ∀ (i : Nat) (d : Dv), ρ[i]? = some (some d) → ∃ v, σ[i]? = some (some v) ∧ Rp K H α d v
section
variable {K : PySem.W.Frag} {H H' : Hp} {α α' : List Addr} {θ θ' : Th} {σ : L2.St} {ρ : DEnv}
theorem RS.mono (h : RS K H α σ ρ) (a : Nx K H α H' α') : RS K H' α' σ ρ := ⟨h.1, fun i d e => let ⟨v, e1, r⟩ := h.2 i d e; ⟨v, e1, r.mono a⟩⟩
theorem RS.set (h : RS K H α σ ρ) {d : Dv} {v : V} (r : Rp K H α d v) (i : Nat) : RS K H α (σ.set i (some v)) (ρ.set i (some d)) := by
  refine ⟨by simp [h.1], fun j d' e => ?_⟩
  by_cases hj : i = j
  · subst hj
    by_cases hi : i < ρ.length
    · rw [List.getElem?_set_self hi] at e
      cases e
      exact ⟨v, List.getElem?_set_self (by rw [h.1]; exact hi), r⟩
    · rw [List.getElem?_eq_none (by simpa using hi)] at e
      cases e
  · rw [List.getElem?_set_ne hj] at e
    obtain ⟨u, e1, r1⟩ := h.2 j d' e
    exact ⟨u, by rw [List.getElem?_set_ne hj]; exact e1, r1⟩
theorem RS.set_none (h : RS K H α σ ρ) (x : Option V) (i : Nat) : RS K H α (σ.set i x) (ρ.set i none) := by
  refine ⟨by simp [h.1], fun j d' e => ?_⟩
  by_cases hj : i = j
  · subst hj
    by_cases hi : i < ρ.length
    · rw [List.getElem?_set_self hi] at e
      cases e
    · rw [List.getElem?_eq_none (by simpa using hi)] at e
      cases e
  · rw [List.getElem?_set_ne hj] at e
    obtain ⟨u, e1, r1⟩ := h.2 j d' e
    exact ⟨u, by rw [List.getElem?_set_ne hj]; exact e1, r1⟩
def wipeE (ρ : DEnv) : List Nat → DEnv
  | [] => ρ
  | v :: vs => (wipeE ρ vs).set v none
theorem RS.wipe (h : RS K H α σ ρ) : ∀ vs : List Nat, RS K H α (wipe σ vs) (wipeE ρ vs)
  | [] => h
  | v :: vs => (RS.wipe h vs).set_none none v
end

/-! ### programs by two wishes: of an exception, of a value -/
/-- an exception: its class, its fields -/
structure Exn where
  cls : Str
  fs : List (Str × Dv)
def MX (β : Type) : Type := (Exn → Th → Prop) → Th → (β → Th → Prop) → Prop
instance : Monad MX where
  pure a := fun _ θ Q => Q a θ
  bind m f := fun E θ Q => m E θ fun a θ' => f a E θ' Q
def MX.stuck {β : Type} : MX β := fun _ _ _ => False
def MX.get : MX Th := fun _ θ Q => Q θ θ
def MX.put (θ' : Th) : MX Unit := fun _ _ Q => Q () θ'
def MX.opt {β : Type} : Option β → MX β
  | some a => pure a
  | none => MX.stuck
abbrev ME := DEnv → MX Dv

/-- where a body stands: the entry's heap and objects, what is wished of an exception on both sides -/
structure Wd (K : PySem.W.Frag) (mg : Str → Option Value) where
  H0 : Hp
  α0 : List Addr
  En : Exn → Th → Prop
  E : XK
/-- an exception's object: its class's address, its dict -/
def ExR (K : PySem.W.Frag) (mg : Str → Option Value) (H : Hp) (α : List Addr) (x : Exn) (cls : Value) (d : Option Addr) : Prop :=
  ∃ C, mg x.cls = some (.ref C) ∧ cls = .ref C ∧ match d with
    | none => x.fs = []
    | some p => ∃ vs, H p = some (.xd vs) ∧ RpK K H α x.fs vs
structure Wd.Ok {K : PySem.W.Frag} {mg : Str → Option Value} (W : Wd K mg) : Prop where
  link : ∀ x θ α H cls d, W.En x θ → Okk K H α θ → Nx K W.H0 W.α0 H α → ExR K mg H α x cls d → W.E cls d H
/-- nothing is raised -/
def Wd.calm {K : PySem.W.Frag} {mg : Str → Option Value} (W : Wd K mg) : Wd K mg := { W with En := fun _ _ => False, E := fun _ _ _ => False }
section
variable {K : PySem.W.Frag} {mg : Str → Option Value}
/-- the state: the store is told, it came from the entry -/
structure At (W : Wd K mg) (H : Hp) (α : List Addr) (θ : Th) : Prop where
  ok : Okk K H α θ
  nx : Nx K W.H0 W.α0 H α
/-- what is wanted of data is enough for what is wanted of values -/
def Up (K : PySem.W.Frag) (H : Hp) (α : List Addr) (Qm : Dv → Th → Prop) (Q : VK) : Prop :=
  ∀ d θ' α' H' v, Qm d θ' → Okk K H' α' θ' → Nx K H α H' α' → Rp K H' α' d v → Q v H'
theorem Up.mono {H H' : Hp} {α α' : List Addr} {Qm : Dv → Th → Prop} {Q : VK} (u : Up K H α Qm Q) (a : Nx K H α H' α') : Up K H' α' Qm Q :=
  fun d θ2 α2 H2 v q o n r => u d θ2 α2 H2 v q o (a.trans n) r
/-- an expression's reading by data -/
def tM (W : Wd K mg) (m : ME) : TE := fun σ H Q => ∃ ρ α θ Qm, At W H α θ ∧ RS K H α σ ρ ∧ m ρ W.En θ Qm ∧ Up K H α Qm Q
def tMs (W : Wd K mg) (m : DEnv → MX (List Dv)) : TA := fun σ H Q => ∃ ρ α θ Qm, At W H α θ ∧ RS K H α σ ρ ∧ m ρ W.En θ Qm ∧
  ∀ ds θ' α' H' vs, Qm ds θ' → Okk K H' α' θ' → Nx K H α H' α' → Rps K H' α' ds vs → Q vs H'
def tMb (W : Wd K mg) (m : DEnv → MX Bool) : TT := fun σ H Q => ∃ ρ α θ Qm, At W H α θ ∧ RS K H α σ ρ ∧ m ρ W.En θ Qm ∧
  ∀ b θ' α' H', Qm b θ' → Okk K H' α' θ' → Nx K H α H' α' → Q b H'
inductive Out where
  | nx (ρ : DEnv) | rt (d : Dv) | bk (ρ : DEnv) | ct (ρ : DEnv)
abbrev MS := DEnv → MX Out
def UpS (K : PySem.W.Frag) (H : Hp) (α : List Addr) (Qm : Out → Th → Prop) (D : Ends) : Prop :=
  ∀ o θ' α' H', Qm o θ' → Okk K H' α' θ' → Nx K H α H' α' → match o with
    | .nx ρ' => ∀ σ', RS K H' α' σ' ρ' → D.nx σ' H'
    | .bk ρ' => ∀ σ', RS K H' α' σ' ρ' → D.bk σ' H'
    | .ct ρ' => ∀ σ', RS K H' α' σ' ρ' → D.ct σ' H'
    | .rt d => ∀ v, Rp K H' α' d v → D.rt v H'
theorem UpS.mono {H H' : Hp} {α α' : List Addr} {Qm : Out → Th → Prop} {D : Ends} (u : UpS K H α Qm D) (a : Nx K H α H' α') : UpS K H' α' Qm D :=
  fun o θ2 α2 H2 q ok n => u o θ2 α2 H2 q ok (a.trans n)
def tS (W : Wd K mg) (m : MS) : TS := fun D σ H => ∃ ρ α θ Qm, At W H α θ ∧ RS K H α σ ρ ∧ m ρ W.En θ Qm ∧ UpS K H α Qm D
end
/-! weakening of the hand layer's judgements -/
section
variable {X : Cx}
theorem pe_w {e : Expr} {t t' : TE} (h : PE X e t) (w : ∀ σ H Q, t' σ H Q → t σ H Q) : PE X e t' := ⟨fun pins s σ H Q I q => h.run pins s σ H Q I (w σ H Q q)⟩
theorem pt_w {e : Expr} {t t' : TT} (h : PT X e t) (w : ∀ σ H Q, t' σ H Q → t σ H Q) : PT X e t' := ⟨fun pins s σ H Q I q => h.run pins s σ H Q I (w σ H Q q)⟩
theorem pw_w {e : Expr} {t t' : TT} (h : PW X e t) (w : ∀ σ H Q, t' σ H Q → t σ H Q) : PW X e t' := ⟨fun wh pins s σ H Q I q => h.run wh pins s σ H Q I (w σ H Q q)⟩
theorem pa_w {e : List Expr} {t t' : TA} (h : PA X e t) (w : ∀ σ H Q, t' σ H Q → t σ H Q) : PA X e t' := ⟨fun p pins s σ H Q I q => h.run p pins s σ H Q I (w σ H Q q)⟩
theorem ps_w {e : Stmt} {t t' : TS} (h : PS X e t) (w : ∀ D σ H, t' D σ H → t D σ H) : PS X e t' := ⟨fun pins s σ H D I q => h.run pins s σ H D I (w D σ H q)⟩
theorem pss_w {e : List Stmt} {t t' : TS} (h : PSs X e t) (w : ∀ D σ H, t' D σ H → t D σ H) : PSs X e t' := ⟨fun pins s σ H D I q => h.run pins s σ H D I (w D σ H q)⟩
end
end Mn

/-! Mn2: what a def promises where no repr is under way; its call; its body; the law's end. -/
namespace Mn
open PySem PySem.Spec PyProof.Rows L2

structure FnG (P : Program) (w : World) (K : PySem.W.Frag) (mg : Str → Option Value) (base : Heap) (CX : CXT) (k : Nat) (f : Addr) (fd : FuncData) (ps : List Str) (sp : Sp) : Prop where
  arity : ∀ vs H Q E, sp vs H Q E → vs.length = ps.length
  go : ∀ (A : Around) (outer : List Env) (s : Shared) (H : Hp) (args : Args) (us : List Value) (vs : List V) (Q : VK) (E : XK),
    A.guards = some [] → Room k A → Env0 P w K mg base A outer s H → BindsTo s fd args (ps.zip us) → Vals vs us → sp vs H Q E →
    codeAny (model P w) A (.call (.ref f) args) (CR CX outer P w H s Q E) s
section
variable {P : Program} {w : World} {K : PySem.W.Frag} {mg : Str → Option Value} {base : Heap} {CX : CXT} {j k : Nat} {f : Addr} {fd : FuncData} {ps : List Str} {sp sp' : Sp}
theorem FnG.mono (F : FnG P w K mg base CX j f fd ps sp) (h : j ≤ k) : FnG P w K mg base CX k f fd ps sp :=
  ⟨F.arity, fun A outer s H args us vs Q E hg hr => F.go A outer s H args us vs Q E hg (hr.mono h)⟩
theorem FnG.imp (F : FnG P w K mg base CX k f fd ps sp) (h : ∀ vs H Q E, sp' vs H Q E → sp vs H Q E) : FnG P w K mg base CX k f fd ps sp' :=
  ⟨fun vs H Q E q => F.arity vs H Q E (h _ _ _ _ q), fun A outer s H args us vs Q E hg hr he hb hv hs => F.go A outer s H args us vs Q E hg hr he hb hv (h _ _ _ _ hs)⟩
end

section
variable {X : Cx} {CX : CXT} {k : Nat} {f : Addr} {fd : FuncData} {ps : List Str} {sp : Sp} {dvs : List V} {ds : List Value} {E : XK} {x : Str} {p pos : Pos} {e : Expr} {es : List Expr} {t : TA}
theorem runG {pins : List (Addr × Obj)} {σ : L2.St} {H : Hp} {s : Shared} {Q : VK} {us : List Value} {vs : List V} (F : FnG X.prog X.w X.K X.mg X.base CX k f fd ps sp)
    (gd : X.A.guards = some []) (hr : Room k X.A) (hb : Binds X.K fd ps ds) (hd : Vals dvs ds) (hx : Passes CX X E)
    (I : Inv X pins σ H s) (r : Vals vs us) (h : sp (vs ++ dvs) H Q E) : wpAny (model X.prog X.w) X.A (call (.ref f) us) (EP X pins σ Q) X.xe s := by
  have r2 := Vals.append r hd
  have hl : (us ++ ds).length = ps.length := by
    rw [← r2.length]
    exact F.arity _ _ _ _ h
  have main := F.go X.A X.stack s H ⟨us, []⟩ (us ++ ds) (vs ++ dvs) Q E gd hr I.env0 (hb s us I.kIn hl) r2 h
  refine wpAny_call (codeAny_mono main ?_)
  intro r s' hq
  cases r with
  | error z => exact hx pins σ H s z s' I hq
  | ok fl =>
    cases fl <;> first
      | exact I.after hq
      | exact False.elim hq
theorem pe_callG (F : FnG X.prog X.w X.K X.mg X.base CX k f fd ps sp) (gd : X.A.guards = some []) (hr : Room k X.A) (hg : Gl X x) (hm : X.mg x = some (.ref f)) (hk : PySem.W.keepIn X.K (.ref f) = true)
    (hb : Binds X.K fd ps ds) (hd : Vals dvs ds) (hx : Passes CX X E) (ha : PA X (e :: es) t)
    (hdb : (x == ("__debug__" : Str)) = false := by decide) (he : starEach (e :: es) X.env = (false, eval e X.env) :: starEach es X.env := by rfl)
    (hpl : (backTo pos (starEach es X.env)).any (·.1) = false := by rfl) :
    PE X (.Call (.Name x p) (e :: es) [] pos) (tCall sp dvs E t) := by
  constructor
  intro pins s σ H Q I h
  apply wpAny_Call_Name_kw (ld_glob I hg hm ?_ hdb)
  have step := fun us s1 (z : AP X pins σ (fun vs H1 => sp (vs ++ dvs) H1 Q E) us s1) => (show X.K.In s1.heap ∧ wpAny (model X.prog X.w) X.A (call (.ref f) us) (EP X pins σ Q) X.xe s1 from by
    obtain ⟨vs, H1, I1, r, q⟩ := z
    exact ⟨I1.kIn, runG F gd hr hb hd hx I1 r q⟩)
  exact PySem.W.callWith_K (h₀ := X.base) I.ok.mod.kin hk (thn (ha.run pos pins s σ H _ I h) step) he hpl
end

/-- a def by its body -/
theorem fnG_of {CX : CXT} {P : Program} {w : World} {K : PySem.W.Frag} {mg : Str → Option Value} {base : Heap} {k : Nat} {f : Addr} {name qual : Str} {params : Arguments} {body : List Stmt} {scope : Scope} {dV kV doc pm cdv ct oc : Value} {an od : Option Addr}
    {osl : Array (Option Value)} {N ps : List Str} {sp : Sp} (lk : K.lookup f = some ⟨oc, od, .func (PySem.W.fnOf name qual params body scope dV kV doc pm an cdv ct), osl⟩)
    (hcd : PySem.W.codeIn K cdv qual = true) (S : FnScope N ps scope) (arity : ∀ vs H Q E, sp vs H Q E → vs.length = ps.length)
    (hbody : ∀ (A : Around) (outer : List Env) (s : Shared) (H : Hp) (vs : List V) (Q : VK) (E : XK), A.guards = some [] → Room k (A.deeper (envOfC qual scope s.heap.objs.size f cdv)) → sp vs H Q E →
      ∃ t, PSs (cxOf CX P w K mg base N qual scope f cdv A outer s H E) body t ∧ t { nx := fun _ H' => Q .non H', rt := Q } (start N vs) H) :
    FnG P w K mg base CX (k + 1) f (PySem.W.fnOf name qual params body scope dV kV doc pm an cdv ct) ps sp := by
  constructor
  · exact arity
  intro A outer s H args us vs Q E gd hr e0 hb r hsp
  have hl := arity _ _ _ _ hsp
  have old : ∀ (b : Addr) (o : Obj), base.get? b = some o → s.heap.get? b = some o := fun b o e => (e0.bs b o e).1
  have KX : K.In s.heap := e0.mod.kin.keeps old
  have lim : s.heap.NoLimit := e0.mod.nolimit.keeps old
  have hkind : ∀ y ∈ ps.zip us, scope.names.lookup y.1 = some .local ∨
      (scope.names.lookup y.1 = some .cell ∧ ((cellsFrom (s.heap.objs.size + 1) scope.names []).lookup y.1).isSome = true) := by
    rintro ⟨n, v⟩ hy
    have q := S.par n (List.of_mem_zip hy).1
    cases q with
    | inl q => exact Or.inl q
    | inr q => exact Or.inr ⟨q, PySem.W.cellsFrom_some _ _ _ (Or.inl q)⟩
  apply codeAny_call_function hr.depth (KX _ _ lk) rfl S.co S.gen rfl (PySem.W.codeRec_of KX hcd)
  apply hb
  refine wpAny_newFunctionEnv_cells S.kind hkind ?_
  intro env he s1 x
  subst he
  constructor
  · exact lim.keeps x.toInCall.keep
  apply codeAny_func
  obtain ⟨t, ht, hq⟩ := hbody A outer s H vs Q E gd (hr.deeper _) hsp
  have I := inv_start (CX := CX) (P := P) (w := w) (K := K) (mg := mg) (base := base) (qual := qual) (f := f) (cd := cdv) (outer := outer) (E := E) S hr.hd e0 hl r x
  refine wpAny_mono (ht.run [] s1 (start N vs) H _ I hq) ?_ (fun _ _ hs => hs)
  intro fl s' hs
  cases fl with
  | ret u =>
    obtain ⟨v, σ', H', J, rv, q⟩ := hs
    exact ⟨v, H', J.os, J.bare, J.base, J.hok, rv, q⟩
  | next =>
    obtain ⟨σ', H', J, q⟩ := hs
    exact ⟨V.non, H', J.os, J.bare, J.base, J.hok, rfl, q⟩
  | brk => exact hs.elim fun _ h => h.elim fun _ h => False.elim h.2
  | cont => exact hs.elim fun _ h => h.elim fun _ h => False.elim h.2

/-- the law's call at the heap behind the top -/
theorem law_callG {P : Program} {w : World} {K : PySem.W.Frag} {mg mb : Str → Option Value} {CX : CXT} {k : Nat} {fa a : Addr} {fd : FuncData} {x : Str} {sp : Sp} {s₁ : Shared} {vs : List Value} {ns : List Int}
    (KX : K.In s₁.heap) (hns : s₁.heap.Ns mainGlobals mg) (hb : s₁.heap.Ns builtinsNs mb) (hbb : ∀ x : Str, x ≠ "__name__" → mb x = bootBuiltins x) (hlim : s₁.heap.NoLimit) (hg : s₁.gens = #[])
    (ha : s₁.heap.get? a = some { cls := .type "list", data := .seq vs.toArray }) (hi : IntsAre vs ns) (hl : ns.length ≤ sizeLine) (hr : Room k callerA)
    (F : ∀ base : Heap, K.In base → base.Ns mainGlobals mg → FnG P w K mg base CX k fa fd [x] sp) (hbind : ∀ (s : Shared) (u : Value), BindsTo s fd ⟨[u], []⟩ [(x, u)])
    (hsp : ∀ H : Hp, (∃ o, H a = some (.frz o (.lst (ns.map V.int)))) → sp [.ref a] H (fun v _ => v = .bl true) fun _ _ _ => False)
    (hspK : ∀ H : Hp, (∀ b, H b = none) → SqL K H a (ns.map V.int) → sp [.ref a] H (fun v _ => v = .bl true) fun _ _ _ => False)
    (hCX : ∀ H e s', CX [] H s₁ (fun _ _ _ => False) e s' → False) :
    codeAny (model P w) callerA (.call (.ref fa) ⟨[.ref a], []⟩) (fun r s' => r = .ok (.ret (.bool true)) ∧ OldK s₁.heap s'.heap ∧ s'.os = s₁.os ∧ AllBare s'.gens) s₁ := by
  have rv := vals_ints hi
  have lenV := hi.length
  have core : ∀ H : Hp, (∀ b, H b = none ∨ ∃ o xs, H b = some (.frz o (.lst xs))) → sp [.ref a] H (fun v _ => v = .bl true) (fun _ _ _ => False) → HOk P w H s₁.heap →
      (∀ b, H b ≠ none → b = a) → (H a ≠ none → K.lookup a = none) →
      codeAny (model P w) callerA (.call (.ref fa) ⟨[.ref a], []⟩) (fun r s' => r = .ok (.ret (.bool true)) ∧ OldK s₁.heap s'.heap ∧ s'.os = s₁.os ∧ AllBare s'.gens) s₁ := by
    intro H hO hS hok hA hK
    have noA : ∀ {b : Addr} {o : Obj} {es : Array DictEntry} {ep : Nat}, s₁.heap.get? b = some o → o.data = .dict es ep → H b = none := by
      intro b o es ep e d
      refine Option.eq_none_iff_forall_ne_some.mpr fun u q => ?_
      have e' : b = a := hA b (by rw [q]; exact fun z => nomatch z)
      subst e'
      rw [ha] at e
      cases e
      cases (show Data.seq vs.toArray _ = Data.dict es ep from d)
    have nsK : ∀ {b : Addr} {m : Str → Option Value}, s₁.heap.Ns b m → (hidT s₁.heap H).Ns b m := by
      intro b m z
      obtain ⟨o, es, ep, e, d, r⟩ := z
      exact ⟨o, es, ep, hidT_get e (noA e d), d, r⟩
    have hKb : K.In (hidT s₁.heap H) := by
      intro b o e
      refine hidT_get (KX b o e) (Option.eq_none_iff_forall_ne_some.mpr fun u q => ?_)
      have ne : H b ≠ none := by rw [q]; exact fun z => nomatch z
      have e' := hA b ne
      subst e'
      rw [hK ne] at e
      cases e
    have hM : Mod K mg (hidT s₁.heap H) := by
      obtain ⟨mc, h1, h2⟩ := hlim
      exact ⟨hKb, nsK hns, ⟨mb, nsK hb, hbb⟩, ⟨mc, nsK h1, h2⟩⟩
    have e0 : Env0 P w K mg (hidT s₁.heap H) callerA [] s₁ H :=
      ⟨rfl, hM, fun b o e => of_hidT e, Nat.le_of_eq (hidT_size _ _), trivial, fun b hb => (List.not_mem_nil (show b ∈ ([] : List Addr) from hb)).elim, hok, .of_eq hg⟩
    have run := (F _ hKb (nsK hns)).go callerA [] s₁ H ⟨[.ref a], []⟩ [.ref a] [.ref a] _ _ rfl hr e0 (hbind s₁ (.ref a)) (.cons rfl .nil) hS
    refine codeAny_mono run ?_
    intro r s' h
    cases r with
    | error e => exact (hCX H e s' h).elim
    | ok fl =>
      cases fl with
      | ret u =>
        obtain ⟨v, H', os, bare, un, hok', r', q⟩ := h
        have q' : v = .bl true := q
        subst q'
        obtain rfl : u = Value.bool true := r'
        refine ⟨rfl, OldK.of_keep ?_, os, bare⟩
        intro b o e
        have nf : b ∉ frs ([] : List Env) := fun z => (List.not_mem_nil (show b ∈ ([] : List Addr) from z)).elim
        rcases hO b with q | ⟨ob, xs, q⟩
        · exact un.keep b o e q nf (fun z => nomatch z)
        · have z2 := un.frzs b ob _ q
          have e1 := (hok b _ q).1
          have e2 := (hok' b _ z2).1
          rw [e] at e1
          cases e1
          exact e2
      | next => exact False.elim h
      | brk => exact False.elim h
      | cont => exact False.elim h
  cases hk : K.lookup a with
  | some o =>
    have e := KX a o hk
    rw [ha] at e
    cases e
    have sq : SqL K (fun _ => none) a (ns.map V.int) := Or.inr ⟨_, vs.toArray, _, hk, rfl, rfl, rfl, by rw [List.size_toArray, lenV]; exact hl, by simpa using rv⟩
    exact core (fun _ => none) (fun _ => Or.inl rfl) (hspK _ (fun _ => rfl) sq) (fun b u z => nomatch z) (fun b z => absurd rfl z) (fun z => absurd rfl z)
  | none =>
    let o₀ : Obj := { cls := .type "list", data := .seq vs.toArray }
    refine core (upd (fun _ => none) a (.frz o₀ (.lst (ns.map V.int)))) (fun b => ?_) (hsp _ ⟨o₀, upd_same⟩) (fun b u z => ?_) (fun b z => ?_) (fun _ => hk)
    · by_cases hb : b = a
      · subst hb
        exact Or.inr ⟨_, _, upd_same⟩
      · exact Or.inl (upd_ne hb)
    · by_cases hb : b = a
      · subst hb
        rw [upd_same] at z
        cases z
        exact ⟨ha, by rw [List.length_map]; exact hl, vs, _, rv, ha⟩
      · rw [upd_ne hb] at z
        cases z
    · by_cases hb : b = a
      · exact hb
      · exact absurd (upd_ne hb) z
theorem walk_ofG {l : PySem.W.OpenLaw} {n k : Nat} {q : Program} {loose : List Str} {XP : (Str → Option Value) → Heap → Prop} {YP : World → Heap → Prop} {d : DefRec} {K : Params → PySem.W.Frag} {CX : World → CXT} {sp : World → Sp} {x : Str}
    (hn : l.most = some n) (hn2 : n ≤ sizeLine) (hdf : d.params.defaults = []) (hr : Room k callerA) (hY : ∀ (w : World) (h : Heap), YP w h → (K w.params).In h)
    (F : ∀ (w : World) (mg : Str → Option Value) (fa : Addr) (h : Heap), (K w.params).In h → h.Ns mainGlobals mg → mg d.name = some (.ref fa) →
      ∃ fd : FuncData, (∀ (s : Shared) (u : Value), BindsTo s fd ⟨[u], []⟩ [(x, u)]) ∧ ∀ base : Heap, (K w.params).In base → base.Ns mainGlobals mg → FnG l.prog w (K w.params) mg base (CX w) k fa fd [x] (sp w))
    (hsp : ∀ (w : World) (H : Hp) (a : Addr) (ns : List Int), ns.length ≤ n → (∃ o, H a = some (.frz o (.lst (ns.map V.int)))) → sp w [.ref a] H (fun v _ => v = .bl true) fun _ _ _ => False)
    (hspK : ∀ (w : World) (H : Hp) (a : Addr) (ns : List Int), ns.length ≤ n → (∀ b, H b = none) → SqL (K w.params) H a (ns.map V.int) → sp w [.ref a] H (fun v _ => v = .bl true) fun _ _ _ => False)
    (hCX : ∀ (w : World) (H : Hp) (s : Shared) (e : Value) (s' : Shared), CX w [] H s (fun _ _ _ => False) e s' → False) :
    PySem.W.WalkO q loose XP YP l.row.toRowW d [] (fun f vs => PySem.call f vs) := by
  refine Att.attach_call hn hdf ?_
  intro w s₀ s₁ mg mb fa o pm cd doc a vs ns G Y ho hd hcd hmg hobj hints hlen hg
  have KX := hY w _ Y
  obtain ⟨fd, hb, hF⟩ := F w mg fa _ KX G.T.g hmg
  exact law_callG KX G.T.g G.T.b G.T.builtins G.T.nolimit hg hobj hints (Nat.le_trans hlen hn2) hr hF hb (fun H h => hsp w H a ns hlen h) (fun H h1 h2 => hspK w H a ns hlen h1 h2) (fun H e s' => hCX w H s₁ e s')
end Mn

/-! Mn3: expressions. -/
namespace Mn
open PySem PySem.Spec PyProof.Rows L2

/-- what a body's context always has -/
structure Cf (X : Cx) : Prop where
  calm : X.calm = true
  gd : X.A.guards = some []
  un : X.A.units + 100 < cLine
  nd : X.N.Nodup

/-! ### the ops by data -/
def mVar (i : Nat) : ME := fun ρ => MX.opt (ρ.getD i none)
def mC (d : Dv) : ME := fun _ => pure d
def mBin (o : Dv → Dv → MX Dv) (a b : ME) : ME := fun ρ => do
  let x ← a ρ
  let y ← b ρ
  o x y
def mUn (o : Dv → MX Dv) (a : ME) : ME := fun ρ => do
  let x ← a ρ
  o x
def mAnd (a b : ME) : ME := fun ρ => do
  let x ← a ρ
  match x with
  | .bl true => b ρ
  | .bl false => pure (.bl false)
  | _ => MX.stuck
def mOr (a b : ME) : ME := fun ρ => do
  let x ← a ρ
  match x with
  | .bl false => b ρ
  | .bl true => pure (.bl true)
  | _ => MX.stuck
def oNot : Dv → MX Dv
  | .bl b => pure (.bl !b)
  | _ => MX.stuck
def mIf (c : DEnv → MX Bool) (a b : ME) : ME := fun ρ => do
  let k ← c ρ
  if k then a ρ else b ρ
def msNil : DEnv → MX (List Dv) := fun _ => pure []
def msCons (a : ME) (r : DEnv → MX (List Dv)) : DEnv → MX (List Dv) := fun ρ => do
  let x ← a ρ
  let xs ← r ρ
  pure (x :: xs)
def mkTup (ds : List Dv) : MX Dv := fun _ θ Q => ds.length ≤ sizeLine ∧ Q (.tup ds) θ
def mkLst (ds : List Dv) : MX Dv := fun _ θ Q => ds.length ≤ sizeLine ∧ Q (.obj θ.length) (θ ++ [.lst ds])
def mTup (r : DEnv → MX (List Dv)) : ME := fun ρ => do mkTup (← r ρ)
def mLst (r : DEnv → MX (List Dv)) : ME := fun ρ => do mkLst (← r ρ)
/-- tests -/
def asBool : Dv → MX Bool
  | .bl b => pure b
  | _ => MX.stuck
def bB (a : ME) : DEnv → MX Bool := fun ρ => do asBool (← a ρ)
def bAnd (a b : DEnv → MX Bool) : DEnv → MX Bool := fun ρ => do
  let x ← a ρ
  if x then b ρ else pure false
def bOr (a b : DEnv → MX Bool) : DEnv → MX Bool := fun ρ => do
  let x ← a ρ
  if x then pure true else b ρ
def bNot (a : DEnv → MX Bool) : DEnv → MX Bool := fun ρ => do
  let x ← a ρ
  pure !x
/-- a value's truth -/
def truth : Dv → MX Bool
  | .bl b => pure b
  | .non => pure false
  | .int i => pure (i != 0)
  | .str z => fun _ θ Q => z.length ≤ sizeLine ∧ Q ((z.length : Int) != 0) θ
  | .tup ds => pure (!ds.isEmpty)
  | .obj k => fun _ θ Q => match θ[k]? with
    | some (.lst ds) => Q (!ds.isEmpty) θ
    | some (.dK kvs) => Q (!kvs.isEmpty) θ
    | _ => False
  | _ => MX.stuck
def bTru (a : ME) : DEnv → MX Bool := fun ρ => do truth (← a ρ)

/-! ### going up -/
section
variable {K : PySem.W.Frag} {mg : Str → Option Value} {W : Wd K mg} {H : Hp} {α : List Addr} {θ : Th} {Qm : Dv → Th → Prop} {Q : VK}
theorem up_same {d : Dv} {v : V} (u : Up K H α Qm Q) (a : At W H α θ) (q : Qm d θ) (r : Rp K H α d v) : Q v H := u d θ α H v q a.ok Nx.refl r
theorem up_tup {ds : List Dv} {vs : List V} (u : Up K H α Qm Q) (a : At W H α θ) (q : Qm (.tup ds) θ) (r : Rps K H α ds vs) : ∀ p, H p = none → Q (.ref p) (upd H p (.tup vs)) := fun p hp =>
  u (.tup ds) θ α _ (.ref p) q (a.ok.new0 hp) (Nx.new0 hp) (by
    unfold Rp
    exact ⟨p, vs, rfl, upd_same, r.mono (Nx.new0 hp)⟩)
theorem up_lst {ds : List Dv} {vs : List V} (u : Up K H α Qm Q) (a : At W H α θ) (q : Qm (.obj θ.length) (θ ++ [.lst ds])) (r : Rps K H α ds vs) : ∀ p, H p = none → Q (.ref p) (upd H p (.lst vs)) := fun p hp =>
  u (.obj θ.length) _ (α ++ [p]) _ (.ref p) q (a.ok.new hp ⟨vs, upd_same, r.mono (Nx.new hp _)⟩) (Nx.new hp _) (by
    unfold Rp
    refine ⟨p, ?_, rfl⟩
    rw [← a.ok.len]
    simp)
theorem At.lst (a : At W H α θ) {k : Nat} {ds : List Dv} {x : V} (e : θ[k]? = some (.lst ds)) (r : Rp K H α (.obj k) x) : ∃ p vs, x = .ref p ∧ α[k]? = some p ∧ H p = some (.lst vs) ∧ Rps K H α ds vs := by
  unfold Rp at r
  obtain ⟨p, e1, rfl⟩ := r
  obtain ⟨vs, h1, h2⟩ := a.ok.ob k p _ e1 e
  exact ⟨p, vs, rfl, e1, h1, h2⟩
theorem up_chg {k : Nat} {p : Addr} {o : HO} {ob u₀ : Ob} {d : Dv} {v : V} (u : Up K H α Qm Q) (a : At W H α θ) (e1 : α[k]? = some p) (e2 : θ[k]? = some u₀) (ro : ObR K (upd H p o) α p ob) (q : Qm d (θ.set k ob)) (r : Rp K (upd H p o) α d v) (lv : u₀.live = true := by rfl) : Q v (upd H p o) :=
  u d _ α _ v q (a.ok.chg e1 e2 ro lv) (Nx.chg (a.ok.ob k p u₀ e1 e2) lv) r
theorem rp_tup {ds : List Dv} {x : V} (r : Rp K H α (.tup ds) x) : ∃ p vs, x = .ref p ∧ H p = some (.tup vs) ∧ Rps K H α ds vs := by
  unfold Rp at r
  exact r
theorem rp_int {i : Int} : Rp K H α (.int i) (.int i) := by unfold Rp; rfl
theorem rp_bl {i : Bool} : Rp K H α (.bl i) (.bl i) := by unfold Rp; rfl
theorem rp_str {i : Str} : Rp K H α (.str i) (.str i) := by unfold Rp; rfl
theorem rp_non : Rp K H α .non .non := by unfold Rp; rfl
theorem rp_obj {k : Nat} {p : Addr} (e : α[k]? = some p) : Rp K H α (.obj k) (.ref p) := by unfold Rp; exact ⟨p, e, rfl⟩
theorem of_int {i : Int} {x : V} (r : Rp K H α (.int i) x) : x = .int i := by unfold Rp at r; exact r
theorem of_bl {i : Bool} {x : V} (r : Rp K H α (.bl i) x) : x = .bl i := by unfold Rp at r; exact r
theorem of_str {i : Str} {x : V} (r : Rp K H α (.str i) x) : x = .str i := by unfold Rp at r; exact r
theorem of_non {x : V} (r : Rp K H α .non x) : x = .non := by unfold Rp at r; exact r
end

section
variable {X : Cx} {W : Wd X.K X.mg} {a b c : Expr} {ma mb mc : ME} {ba bb : DEnv → MX Bool} {pos : Pos}
theorem pm_var {i : Nat} {x : Str} (h : PE X (.Name x pos) (tVar i)) : PE X (.Name x pos) (tM W (mVar i)) := pe_w h fun σ H Q ⟨ρ, α, θ, Qm, at', rs, q, u⟩ => by
  have q' : (MX.opt (ρ.getD i none) : MX Dv) W.En θ Qm := q
  cases e : ρ.getD i none with
  | none => rw [e] at q'; exact False.elim q'
  | some d =>
    rw [e] at q'
    have e' : ρ[i]? = some (some d) := by
      rw [List.getD_eq_getElem?_getD] at e
      cases z : ρ[i]? with
      | none => rw [z] at e; cases e
      | some o => rw [z] at e; rw [show o = some d from e]
    obtain ⟨v, h1, h2⟩ := rs.2 i d e'
    exact ⟨v, h1, up_same u at' q' h2⟩
theorem pm_const {e : Expr} {d : Dv} {v : V} (h : PE X e (tC v)) (r : ∀ H α, Rp X.K H α d v) : PE X e (tM W (mC d)) := pe_w h fun σ H Q ⟨ρ, α, θ, Qm, at', rs, q, u⟩ => up_same (Q := Q) u at' q (r H α)
theorem pm_int {i : Int} {j : Nat} : PE X (.Constant (.int i) j pos) (tM W (mC (.int i))) := pm_const pe_int fun _ _ => rp_int
theorem pm_bl {i : Bool} {j : Nat} : PE X (.Constant (.bool i) j pos) (tM W (mC (.bl i))) := pm_const pe_bl fun _ _ => rp_bl
theorem pm_str {i : Str} {j : Nat} : PE X (.Constant (.str i) j pos) (tM W (mC (.str i))) := pm_const pe_str fun _ _ => rp_str
/-- a constant of the module -/
theorem pm_glob {x : Str} {d : Dv} {v : V} {u : Value} (hg : Gl X x) (hm : X.mg x = some u) (r : RelV v u) (r2 : ∀ H α, Rp X.K H α d v) (hd : (x == ("__debug__" : Str)) = false := by decide) : PE X (.Name x pos) (tM W (mC d)) := pm_const (pe_glob hg hm r hd) r2

def rM2 (W : Wd X.K X.mg) (o : Dv → Dv → MX Dv) : R2 := fun x y H Q => ∃ α θ dx dy Qm, At W H α θ ∧ Rp X.K H α dx x ∧ Rp X.K H α dy y ∧ o dx dy W.En θ Qm ∧ Up X.K H α Qm Q
def OpM (W : Wd X.K X.mg) (f : Value → Value → Sem Value) (o : Dv → Dv → MX Dv) : Prop := OpR X f (rM2 W o)
theorem OpR.w {f : Value → Value → Sem Value} {r r' : R2} (h : OpR X f r) (w : ∀ x y H Q, r' x y H Q → r x y H Q) : OpR X f r' := fun pins s σ H x y v u Q I rx ry q => h pins s σ H x y v u Q I rx ry (w x y H Q q)
theorem OpR.or {f : Value → Value → Sem Value} {r r' : R2} (h : OpR X f r) (h' : OpR X f r') : OpR X f (fun x y H Q => r x y H Q ∨ r' x y H Q) := fun pins s σ H x y v u Q I rx ry q => q.elim (fun q => h pins s σ H x y v u Q I rx ry q) (fun q => h' pins s σ H x y v u Q I rx ry q)
theorem opm_of {f : Value → Value → Sem Value} {r : R2} {o : Dv → Dv → MX Dv} (h : OpR X f r) (w : ∀ {H : Hp} {α : List Addr} {θ : Th} {dx dy : Dv} {x y : V} {Qm : Dv → Th → Prop} {Q : VK}, At W H α θ → Rp X.K H α dx x → Rp X.K H α dy y → o dx dy W.En θ Qm → Up X.K H α Qm Q → r x y H Q) : OpM W f o :=
  OpR.w h fun x y H Q ⟨_, _, _, _, _, h1, h2, h3, h4, h5⟩ => w h1 h2 h3 h4 h5
theorem tm_bin {o : Dv → Dv → MX Dv} (σ : L2.St) (H : Hp) (Q : VK) : tM W (mBin o ma mb) σ H Q → tOp (rM2 W o) (tM W ma) (tM W mb) σ H Q := fun ⟨ρ, α, θ, Qm, at', rs, q, u⟩ =>
  ⟨ρ, α, θ, _, at', rs, q, fun d θ1 α1 H1 v q1 ok1 nx1 r1 => ⟨ρ, α1, θ1, _, ⟨ok1, at'.nx.trans nx1⟩, rs.mono nx1, q1, fun d2 θ2 α2 H2 v2 q2 ok2 nx2 r2 =>
    ⟨α2, θ2, d, d2, Qm, ⟨ok2, (at'.nx.trans nx1).trans nx2⟩, r1.mono nx2, r2, q2, u.mono (nx1.trans nx2)⟩⟩⟩
theorem pm_bin {op : Operator} {o : Dv → Dv → MX Dv} (ho : OpM W (binaryOp op) o) (ha : PE X a (tM W ma)) (hb : PE X b (tM W mb)) : PE X (.BinOp a op b pos) (tM W (mBin o ma mb)) := pe_w (pe_op ho ha hb) tm_bin
theorem pm_cmp {op : CmpOp} {o : Dv → Dv → MX Dv} (ho : OpM W (compareOp op) o) (ha : PE X a (tM W ma)) (hb : PE X b (tM W mb)) (hm : behindInMarks op b = false) : PE X (.Compare a [op] [b] pos) (tM W (mBin o ma mb)) := pe_w (pe_cmpR ho ha hb hm) tm_bin
/-- a < b < c -/
def mChain (o o' : Dv → Dv → MX Dv) (a b c : ME) : ME := fun ρ => do
  let x ← a ρ
  let y ← b ρ
  let k ← o x y
  match k with
  | .bl true => do
    let z ← c ρ
    o' y z
  | .bl false => pure (.bl false)
  | _ => MX.stuck
/-! one place -/
def rM1 (W : Wd X.K X.mg) (o : Dv → MX Dv) : V → Hp → VK → Prop := fun x H Q => ∃ α θ dx Qm, At W H α θ ∧ Rp X.K H α dx x ∧ o dx W.En θ Qm ∧ Up X.K H α Qm Q
def UnM (W : Wd X.K X.mg) (f : Value → Sem Value) (o : Dv → MX Dv) : Prop := UnR X f (rM1 W o)
theorem unm_of {f : Value → Sem Value} {r : V → Hp → VK → Prop} {o : Dv → MX Dv} (h : UnR X f r) (w : ∀ {H : Hp} {α : List Addr} {θ : Th} {dx : Dv} {x : V} {Qm : Dv → Th → Prop} {Q : VK}, At W H α θ → Rp X.K H α dx x → o dx W.En θ Qm → Up X.K H α Qm Q → r x H Q) : UnM W f o :=
  fun pins s σ H x v Q I rx ⟨_, _, _, _, h1, h2, h3, h4⟩ => h pins s σ H x v Q I rx (w h1 h2 h3 h4)
theorem tm_un {o : Dv → MX Dv} (σ : L2.St) (H : Hp) (Q : VK) : tM W (mUn o ma) σ H Q → tUn (rM1 W o) (tM W ma) σ H Q := fun ⟨ρ, α, θ, Qm, at', rs, q, u⟩ =>
  ⟨ρ, α, θ, _, at', rs, q, fun d θ1 α1 H1 v q1 ok1 nx1 r1 => ⟨α1, θ1, d, Qm, ⟨ok1, at'.nx.trans nx1⟩, r1, q1, u.mono nx1⟩⟩
theorem pm_un {op : UnaryOp} {o : Dv → MX Dv} (ho : UnM W (unaryOp op) o) (ha : PE X a (tM W ma)) : PE X (.UnaryOp op a pos) (tM W (mUn o ma)) := pe_w (pe_un ho ha) tm_un
/-! and, or, not -/
theorem pm_one {op : BoolOp} (h : PE X a (tM W ma)) : PE X (.BoolOp op [a] pos) (tM W ma) := pe_one h
theorem pm_and {rest : List Expr} (ha : PE X a (tM W ma)) (hb : PE X (.BoolOp .And (b :: rest) pos) (tM W mb)) : PE X (.BoolOp .And (a :: b :: rest) pos) (tM W (mAnd ma mb)) :=
  pe_w (pe_and ha hb) fun σ H Q ⟨ρ, α, θ, Qm, at', rs, q, u⟩ => ⟨ρ, α, θ, _, at', rs, q, fun d θ1 α1 H1 v q1 ok1 nx1 r1 => by
    have a1 : At W H1 α1 θ1 := ⟨ok1, at'.nx.trans nx1⟩
    cases d with
    | bl k =>
      cases of_bl r1
      cases k with
      | true => exact ⟨true, rfl, iteT ⟨ρ, α1, θ1, _, a1, rs.mono nx1, q1, u.mono nx1⟩⟩
      | false => exact ⟨false, rfl, iteF (up_same (u.mono nx1) a1 q1 rp_bl)⟩
    | _ => exact False.elim q1⟩
/-! tests -/
theorem tb_of (σ : L2.St) (H : Hp) (Q : Bool → Hp → Prop) : tMb W (bB ma) σ H Q → tB (tM W ma) σ H Q := fun ⟨ρ, α, θ, Qm, at', rs, q, u⟩ =>
  ⟨ρ, α, θ, _, at', rs, q, fun d θ1 α1 H1 v q1 ok1 nx1 r1 => by
    cases d with
    | bl k =>
      cases of_bl r1
      exact ⟨k, rfl, u k θ1 α1 H1 q1 ok1 nx1⟩
    | _ => exact False.elim q1⟩
theorem bm_val (h : PE X a (tM W ma)) (he : ∀ whole, isTrue a X.env whole = (do let v ← whole; standAt a.pos; holding [v] (truthy v)) := by intro _; rfl) : PT X a (tMb W (bB ma)) := pt_w (pt_val h he) tb_of
theorem bm_cmp {op : CmpOp} {o : Dv → Dv → MX Dv} (ho : OpM W (compareOp op) o) (ha : PE X a (tM W ma)) (hb : PE X b (tM W mb)) (hm : behindInMarks op b = false) : PT X (.Compare a [op] [b] pos) (tMb W (bB (mBin o ma mb))) :=
  pt_w (pt_cmpR ho ha hb hm) fun σ H Q ⟨ρ, α, θ, Qm, at', rs, q, u⟩ => tm_bin σ H _ ⟨ρ, α, θ, _, at', rs, q, fun d θ1 α1 H1 v q1 ok1 nx1 r1 => by
    cases d with
    | bl k =>
      cases of_bl r1
      exact ⟨k, rfl, u k θ1 α1 H1 q1 ok1 nx1⟩
    | _ => exact False.elim q1⟩
theorem bm_tru (h : PE X a (tM W ma)) (he : ∀ whole, isTrue a X.env whole = (do let v ← whole; standAt a.pos; holding [v] (truthy v)) := by intro _; rfl) : PT X a (tMb W (bTru ma)) :=
  pt_w (pt_truth h he) fun σ H Q ⟨ρ, α, θ, Qm, at', rs, q, u⟩ => ⟨ρ, α, θ, _, at', rs, q, fun d θ1 α1 H1 v q1 ok1 nx1 r1 => by
    cases d with
    | bl k => cases of_bl r1; exact ⟨k, rfl, u _ θ1 α1 H1 q1 ok1 nx1⟩
    | non => cases of_non r1; exact ⟨false, rfl, u _ θ1 α1 H1 q1 ok1 nx1⟩
    | int i => cases of_int r1; exact ⟨_, rfl, u _ θ1 α1 H1 q1 ok1 nx1⟩
    | str z => cases of_str r1; exact ⟨_, ⟨q1.1, rfl⟩, u _ θ1 α1 H1 q1.2 ok1 nx1⟩
    | tup ds =>
      obtain ⟨p, vs, rfl, h1, h2⟩ := rp_tup r1
      refine ⟨!vs.isEmpty, Or.inr (Or.inl ⟨vs, Or.inl (Or.inl h1), rfl⟩), u _ θ1 α1 H1 ?_ ok1 nx1⟩
      have e : vs.isEmpty = ds.isEmpty := by
        have := h2.length
        cases vs <;> cases ds <;> simp_all
      rw [e]
      exact q1
    | obj k =>
      have q2 : (match θ1[k]? with
        | some (.lst ds) => Qm (!ds.isEmpty) θ1
        | some (.dK kvs) => Qm (!kvs.isEmpty) θ1
        | _ => False) := q1
      split at q2
      · rename_i ds e
        obtain ⟨p, vs, rfl, _, h1, h2⟩ := At.lst (W := W) ⟨ok1, at'.nx.trans nx1⟩ e r1
        refine ⟨!vs.isEmpty, Or.inl ⟨vs, Or.inl (Or.inl h1), rfl⟩, u _ θ1 α1 H1 ?_ ok1 nx1⟩
        have e : vs.isEmpty = ds.isEmpty := by
          have := h2.length
          cases vs <;> cases ds <;> simp_all
        rw [e]
        exact q2
      · rename_i kvs e
        unfold Rp at r1
        obtain ⟨p, e1, rfl⟩ := r1
        obtain ⟨vs, h1, h2⟩ := ok1.ob k p _ e1 e
        refine ⟨!vs.isEmpty, Or.inr (Or.inr ⟨vs, h1, rfl⟩), u _ θ1 α1 H1 ?_ ok1 nx1⟩
        have e : vs.isEmpty = kvs.isEmpty := by
          cases kvs with
          | nil => unfold RpK at h2; subst h2; rfl
          | cons kv r => obtain ⟨k, d⟩ := kv; unfold RpK at h2; obtain ⟨v, r, rfl, _⟩ := h2; rfl
        rw [e]
        exact q2
      · exact q2.elim
    | _ => exact False.elim q1⟩
theorem bm_and1 (h : PT X a (tMb W ba)) : PW X (.BoolOp .And [a] pos) (tMb W ba) := pw_and1 h
theorem bm_or1 (h : PT X a (tMb W ba)) : PW X (.BoolOp .Or [a] pos) (tMb W ba) := pw_or1 h
theorem bm_and {rest : List Expr} (ha : PT X a (tMb W ba)) (hb : PW X (.BoolOp .And (b :: rest) pos) (tMb W bb)) : PW X (.BoolOp .And (a :: b :: rest) pos) (tMb W (bAnd ba bb)) :=
  pw_w (pw_and ha hb) fun σ H Q ⟨ρ, α, θ, Qm, at', rs, q, u⟩ => ⟨ρ, α, θ, _, at', rs, q, fun k θ1 α1 H1 q1 ok1 nx1 => by
    cases k with
    | true => exact iteT ⟨ρ, α1, θ1, Qm, ⟨ok1, at'.nx.trans nx1⟩, rs.mono nx1, q1, fun b2 θ2 α2 H2 q2 ok2 nx2 => u b2 θ2 α2 H2 q2 ok2 (nx1.trans nx2)⟩
    | false => exact iteF (u false θ1 α1 H1 q1 ok1 nx1)⟩
theorem bm_or {rest : List Expr} (ha : PT X a (tMb W ba)) (hb : PW X (.BoolOp .Or (b :: rest) pos) (tMb W bb)) : PW X (.BoolOp .Or (a :: b :: rest) pos) (tMb W (bOr ba bb)) :=
  pw_w (pw_or ha hb) fun σ H Q ⟨ρ, α, θ, Qm, at', rs, q, u⟩ => ⟨ρ, α, θ, _, at', rs, q, fun k θ1 α1 H1 q1 ok1 nx1 => by
    cases k with
    | false => exact iteF ⟨ρ, α1, θ1, Qm, ⟨ok1, at'.nx.trans nx1⟩, rs.mono nx1, q1, fun b2 θ2 α2 H2 q2 ok2 nx2 => u b2 θ2 α2 H2 q2 ok2 (nx1.trans nx2)⟩
    | true => exact iteT (u true θ1 α1 H1 q1 ok1 nx1)⟩
theorem bm_not (ha : PT X a (tMb W ba)) : PT X (.UnaryOp .Not a pos) (tMb W (bNot ba)) := pt_w (pt_not ha) fun σ H Q ⟨ρ, α, θ, Qm, at', rs, q, u⟩ => ⟨ρ, α, θ, _, at', rs, q, fun k θ1 α1 H1 q1 ok1 nx1 => u (!k) θ1 α1 H1 q1 ok1 nx1⟩
theorem pm_if (hc : PT X c (tMb W ba)) (ha : PE X a (tM W ma)) (hb : PE X b (tM W mb)) : PE X (.IfExp c a b pos) (tM W (mIf ba ma mb)) :=
  pe_w (pe_ifExp hc ha hb) fun σ H Q ⟨ρ, α, θ, Qm, at', rs, q, u⟩ => ⟨ρ, α, θ, _, at', rs, q, fun k θ1 α1 H1 q1 ok1 nx1 => by
    cases k with
    | true => exact iteT ⟨ρ, α1, θ1, Qm, ⟨ok1, at'.nx.trans nx1⟩, rs.mono nx1, q1, u.mono nx1⟩
    | false => exact iteF ⟨ρ, α1, θ1, Qm, ⟨ok1, at'.nx.trans nx1⟩, rs.mono nx1, q1, u.mono nx1⟩⟩
/-! arguments, displays -/
theorem am_nil : PA X [] (tMs W msNil) := pa_w pa_nil fun σ H Q ⟨ρ, α, θ, Qm, at', rs, q, u⟩ => u [] θ α H [] q at'.ok Nx.refl Rps.nil
theorem am_cons {es : List Expr} {ms : DEnv → MX (List Dv)} (ha : PE X a (tM W ma)) (hr : PA X es (tMs W ms)) (hs : starEach (a :: es) X.env = (false, eval a X.env) :: starEach es X.env := by rfl) : PA X (a :: es) (tMs W (msCons ma ms)) :=
  pa_w (pa_cons ha hr hs) fun σ H Q ⟨ρ, α, θ, Qm, at', rs, q, u⟩ => ⟨ρ, α, θ, _, at', rs, q, fun d θ1 α1 H1 v q1 ok1 nx1 r1 => ⟨ρ, α1, θ1, _, ⟨ok1, at'.nx.trans nx1⟩, rs.mono nx1, q1, fun ds θ2 α2 H2 vs q2 ok2 nx2 r2 =>
    u _ θ2 α2 H2 _ q2 ok2 (nx1.trans nx2) (Rps.cons (r1.mono nx2) r2)⟩⟩
theorem pm_tup {es : List Expr} {ms : DEnv → MX (List Dv)} {k : Nat} (h : PA X es (tMs W ms)) : PE X (.Tuple es k pos) (tM W (mTup ms)) :=
  pe_w (pe_tup h) fun σ H Q ⟨ρ, α, θ, Qm, at', rs, q, u⟩ => ⟨ρ, α, θ, _, at', rs, q, fun ds θ1 α1 H1 vs q1 ok1 nx1 r1 =>
    ⟨by rw [r1.length]; exact q1.1, up_tup (W := W) (u.mono nx1) ⟨ok1, at'.nx.trans nx1⟩ q1.2 r1⟩⟩
theorem pm_lst {es : List Expr} {ms : DEnv → MX (List Dv)} (h : PA X es (tMs W ms)) : PE X (.List es pos) (tM W (mLst ms)) :=
  pe_w (pe_lst h) fun σ H Q ⟨ρ, α, θ, Qm, at', rs, q, u⟩ => ⟨ρ, α, θ, _, at', rs, q, fun ds θ1 α1 H1 vs q1 ok1 nx1 r1 =>
    ⟨by rw [r1.length]; exact q1.1, up_lst (W := W) (u.mono nx1) ⟨ok1, at'.nx.trans nx1⟩ q1.2 r1⟩⟩
end
end Mn

/-! Mn4: operations on data. -/
namespace Mn
open PySem PySem.Spec PyProof.Rows L2

def allSome {β γ : Type} (f : β → Option γ) : List β → Option (List γ)
  | [] => some []
  | d :: r => match f d, allSome f r with
    | some x, some xs => some (x :: xs)
    | _, _ => none
/-- a datum as data all through, lists read in the store -/
def toPy (θ : Th) : Nat → Dv → Option PyData
  | _, .non => some .none
  | _, .bl b => some (.bool b)
  | _, .int i => some (.int i)
  | _, .str s => some (.str s)
  | n + 1, .tup ds => (allSome (toPy θ n) ds).map .tuple
  | n + 1, .st ds => (allSome (toPy θ n) ds).map .tuple
  | n + 1, .obj k => match θ[k]? with
    | some (.lst ds) => (allSome (toPy θ n) ds).map .list
    | _ => none
  | _, _ => none
section
variable {K : PySem.W.Frag} {H : Hp} {α : List Addr} {θ : Th}
theorem dpAll_of {f : Dv → Option PyData} (h : ∀ d v e, f d = some e → Rp K H α d v → Dp K H v e) : ∀ {ds : List Dv} {vs : List V} {es : List PyData}, allSome f ds = some es → Rps K H α ds vs → DpAll K H vs es
  | [], _, _, e, r => by
    unfold Rps at r
    subst r
    cases e
    exact .nil
  | d :: ds, _, es, e, r => by
    unfold Rps at r
    obtain ⟨v, us, rfl, h1, h2⟩ := r
    unfold allSome at e
    split at e
    · rename_i x xs e1 e2
      cases e
      exact .cons (h d v x e1 h1) (dpAll_of h e2 h2)
    · cases e
theorem toPy_dp (ok : Okk K H α θ) : ∀ (n : Nat) (d : Dv) (v : V) (e : PyData), toPy θ n d = some e → Rp K H α d v → Dp K H v e := by
  intro n
  induction n with
  | zero =>
    intro d v e h r
    cases d with
    | non => cases of_non r; simp [toPy] at h; subst h; exact .non
    | bl b => cases of_bl r; simp [toPy] at h; subst h; exact .bl b
    | int b => cases of_int r; simp [toPy] at h; subst h; exact .int b
    | str b => cases of_str r; simp [toPy] at h; subst h; exact .str b
    | _ => simp [toPy] at h
  | succ n ih =>
    intro d v e h r
    cases d with
    | non => cases of_non r; simp [toPy] at h; subst h; exact .non
    | bl b => cases of_bl r; simp [toPy] at h; subst h; exact .bl b
    | int b => cases of_int r; simp [toPy] at h; subst h; exact .int b
    | str b => cases of_str r; simp [toPy] at h; subst h; exact .str b
    | tup ds =>
      obtain ⟨p, vs, rfl, h1, h2⟩ := rp_tup r
      unfold toPy at h
      obtain ⟨es, h3, rfl⟩ := Option.map_eq_some_iff.mp h
      exact .tup (SqT.of h1) (dpAll_of (fun d v e => ih d v e) h3 h2)
    | st ds =>
      unfold Rp at r
      obtain ⟨p, vs, rfl, h1, h2⟩ := r
      unfold toPy at h
      obtain ⟨es, h3, rfl⟩ := Option.map_eq_some_iff.mp h
      exact .tup h1.sq (dpAll_of (fun d v e => ih d v e) h3 h2)
    | obj k =>
      unfold toPy at h
      unfold Rp at r
      obtain ⟨p, e1, rfl⟩ := r
      split at h
      · rename_i ds e2
        obtain ⟨es, h3, rfl⟩ := Option.map_eq_some_iff.mp h
        obtain ⟨vs, h1, h2⟩ := ok.ob k p _ e1 e2
        exact .lst (SqL.of h1) (dpAll_of (fun d v e => ih d v e) h3 h2)
      · cases h
    | _ => simp [toPy] at h
end

def isFlat : Dv → Bool
  | .non | .bl _ | .int _ | .str _ => true
  | _ => false
/-- keys -/
def fKey : Dv → Option Key
  | .int i => some (.inl i)
  | .str s => some (.inr s)
  | _ => none
def tKey : Dv → Option (List Key)
  | .tup ds => allSome fKey ds
  | _ => none
section
variable {κ : Type} [DecidableEq κ]
def lookD (kvs : List (κ × Dv)) (k : κ) : Option Dv := (kvs.find? fun kv => decide (kv.1 = k)).map (·.2)
def putD (kvs : List (κ × Dv)) (k : κ) (v : Dv) : List (κ × Dv) :=
  if (kvs.any fun kv => decide (kv.1 = k)) = true then kvs.map (fun kv => if kv.1 = k then (kv.1, v) else kv) else kvs ++ [(k, v)]
variable {K : PySem.W.Frag} {H : Hp} {α : List Addr} {θ : Th}
theorem RpK.look : ∀ {ds : List (κ × Dv)} {vs : List (κ × V)} (k : κ), RpK K H α ds vs →
    match lookD ds k with
    | none => valV vs k = none
    | some d => ∃ v, valV vs k = some v ∧ Rp K H α d v
  | [], _, k, h => by unfold RpK at h; subst h; rfl
  | (j, d) :: ds, _, k, h => by
    unfold RpK at h
    obtain ⟨v, r, rfl, h1, h2⟩ := h
    by_cases e : j = k
    · have e1 : lookD ((j, d) :: ds) k = some d := by simp [lookD, List.find?_cons, e]
      rw [e1]
      exact ⟨v, by simp [valV, List.find?_cons, e], h1⟩
    · have e1 : lookD ((j, d) :: ds) k = lookD ds k := by simp [lookD, List.find?_cons, e]
      have e2 : valV ((j, v) :: r) k = valV r k := by simp [valV, List.find?_cons, e]
      rw [e1, e2]
      exact RpK.look k h2
theorem RpK.any : ∀ {ds : List (κ × Dv)} {vs : List (κ × V)} (k : κ), RpK K H α ds vs → (vs.any fun kv => decide (kv.1 = k)) = (ds.any fun kv => decide (kv.1 = k))
  | [], _, k, h => by unfold RpK at h; subst h; rfl
  | (j, d) :: ds, _, k, h => by
    unfold RpK at h
    obtain ⟨v, r, rfl, h1, h2⟩ := h
    simp only [List.any_cons, RpK.any k h2]
theorem RpK.repl {d : Dv} {v : V} (q : Rp K H α d v) (k : κ) : ∀ {ds : List (κ × Dv)} {vs : List (κ × V)}, RpK K H α ds vs → RpK K H α (ds.map fun kv => if kv.1 = k then (kv.1, d) else kv) (vs.map fun kv => if kv.1 = k then (kv.1, v) else kv)
  | [], _, h => by unfold RpK at h; subst h; unfold RpK; rfl
  | (j, e) :: ds, _, h => by
    unfold RpK at h
    obtain ⟨u, r, rfl, h1, h2⟩ := h
    simp only [List.map_cons]
    by_cases z : j = k
    · rw [if_pos z, if_pos z]
      unfold RpK
      exact ⟨v, _, rfl, q, RpK.repl q k h2⟩
    · rw [if_neg z, if_neg z]
      unfold RpK
      exact ⟨u, _, rfl, h1, RpK.repl q k h2⟩
theorem RpK.app : ∀ {ds es : List (κ × Dv)} {vs us : List (κ × V)}, RpK K H α ds vs → RpK K H α es us → RpK K H α (ds ++ es) (vs ++ us)
  | [], _, _, _, h, r => by unfold RpK at h; subst h; exact r
  | (j, e) :: ds, _, _, _, h, r => by
    unfold RpK at h
    obtain ⟨u, q, rfl, h1, h2⟩ := h
    rw [List.cons_append, List.cons_append]
    unfold RpK
    exact ⟨u, _, rfl, h1, RpK.app h2 r⟩
theorem RpK.put {ds : List (κ × Dv)} {vs : List (κ × V)} {d : Dv} {v : V} (k : κ) (q : Rp K H α d v) (h : RpK K H α ds vs) : RpK K H α (putD ds k d) (putK vs k v) := by
  unfold putD putK
  rw [RpK.any k h]
  split
  · exact RpK.repl q k h
  · refine RpK.app h ?_
    unfold RpK
    exact ⟨v, [], rfl, q, by unfold RpK; rfl⟩
theorem RpK.length : ∀ {ds : List (κ × Dv)} {vs : List (κ × V)}, RpK K H α ds vs → vs.length = ds.length
  | [], _, h => by unfold RpK at h; subst h; rfl
  | (j, e) :: ds, _, h => by
    unfold RpK at h
    obtain ⟨u, q, rfl, h1, h2⟩ := h
    simp [RpK.length h2]
end
theorem fKey_v {K : PySem.W.Frag} {H : Hp} {α : List Addr} {d : Dv} {k : Key} {v : V} (e : fKey d = some k) (r : Rp K H α d v) : v = kV k := by
  cases d with
  | int i => cases of_int r; cases e; rfl
  | str i => cases of_str r; cases e; rfl
  | _ => cases e
theorem fKeys_v {K : PySem.W.Frag} {H : Hp} {α : List Addr} : ∀ {ds : List Dv} {ks : List Key} {vs : List V}, allSome fKey ds = some ks → Rps K H α ds vs → vs = ks.map kV
  | [], _, _, e, r => by unfold Rps at r; subst r; cases e; rfl
  | d :: ds, ks, vs, e, r => by
    unfold Rps at r
    obtain ⟨v, us, rfl, h1, h2⟩ := r
    unfold allSome at e
    split at e
    · rename_i x xs e1 e2
      cases e
      rw [List.map_cons, fKey_v e1 h1, fKeys_v e2 h2]
    · cases e
theorem tKey_v {K : PySem.W.Frag} {H : Hp} {α : List Addr} {d : Dv} {k : List Key} {v : V} (e : tKey d = some k) (r : Rp K H α d v) : ∃ b, v = .ref b ∧ H b = some (.tup (k.map kV)) := by
  cases d with
  | tup ds =>
    obtain ⟨p, vs, rfl, h1, h2⟩ := rp_tup r
    have e2 := fKeys_v (show allSome fKey ds = some k from e) h2
    subst e2
    exact ⟨p, rfl, h1⟩
  | _ => cases e

/-! ### arithmetic -/
def ret (d : Dv) : MX Dv := fun _ θ Q => Q d θ
def when' (p : Prop) (d : Dv) : MX Dv := fun _ θ Q => p ∧ Q d θ
def oAdd : Dv → Dv → MX Dv
  | .int i, .int j => ret (.int (i + j))
  | .str a, .str b => when' (a.length + b.length ≤ sizeLine) (.str (a ++ b))
  | .tup a, .tup b => when' (a.length + b.length ≤ sizeLine) (.tup (a ++ b))
  | .st a, .tup b => when' (a = [] ∧ b.length ≤ sizeLine) (.tup b)
  | .obj j, .obj k => fun _ θ Q => match θ[j]?, θ[k]? with
    | some (.lst a), some (.lst b) => a.length + b.length ≤ sizeLine ∧ Q (.obj θ.length) (θ ++ [.lst (a ++ b)])
    | _, _ => False
  | _, _ => MX.stuck
def oAddI : Dv → Dv → MX Dv
  | .int i, .int j => ret (.int (i + j))
  | _, _ => MX.stuck
def oMulI : Dv → Dv → MX Dv
  | .int i, .int j => when' (CMul i j) (.int (i * j))
  | _, _ => MX.stuck
def oSub : Dv → Dv → MX Dv
  | .int i, .int j => ret (.int (i - j))
  | _, _ => MX.stuck
def oMul : Dv → Dv → MX Dv
  | .int i, .int j => when' (CMul i j) (.int (i * j))
  | .obj j, .int k => fun _ θ Q => match θ[j]? with
    | some (.lst a) => -(2 ^ 63) ≤ k ∧ k < 2 ^ 63 ∧ a.length * k.toNat ≤ sizeLine ∧ Q (.obj θ.length) (θ ++ [.lst (List.replicate k.toNat a).flatten])
    | _ => False
  | _, _ => MX.stuck
def oFdiv : Dv → Dv → MX Dv
  | .int i, .int j => when' (CDiv i j) (.int (i / j))
  | _, _ => MX.stuck
def oMod : Dv → Dv → MX Dv
  | .int i, .int j => when' (0 < j) (.int (i % j))
  | _, _ => MX.stuck
def oPow : Dv → Dv → MX Dv
  | .int i, .int j => when' (CPow i j) (.int (i ^ j.toNat))
  | _, _ => MX.stuck
def oShl : Dv → Dv → MX Dv
  | .int i, .int j => when' (CPow i j) (.int (i * 2 ^ j.toNat))
  | _, _ => MX.stuck
def oLt : Dv → Dv → MX Dv
  | .int i, .int j => ret (.bl (decide (i < j)))
  | _, _ => MX.stuck
def oLe : Dv → Dv → MX Dv
  | .int i, .int j => ret (.bl (decide (i ≤ j)))
  | _, _ => MX.stuck
def oGt : Dv → Dv → MX Dv
  | .int i, .int j => ret (.bl (decide (j < i)))
  | _, _ => MX.stuck
def oGe : Dv → Dv → MX Dv
  | .int i, .int j => ret (.bl (decide (j ≤ i)))
  | _, _ => MX.stuck
def eqPy (x y : Dv) (f : Bool → Bool) : MX Dv := fun _ θ Q => match toPy θ 66 x, toPy θ 66 y with
  | some d, some e => SeqAt.shaped d = true ∧ SeqAt.shaped e = true ∧ Q (.bl (f (PyData.eqv d e))) θ
  | _, _ => False
def oEq : Dv → Dv → MX Dv
  | .int i, .int j => ret (.bl (decide (i = j)))
  | .bl i, .bl j => ret (.bl (decide (i = j)))
  | .str i, .str j => ret (.bl (decide (i = j)))
  | x, y => eqPy x y id
def oNe : Dv → Dv → MX Dv
  | .int i, .int j => ret (.bl (!decide (i = j)))
  | .bl i, .bl j => ret (.bl (!decide (i = j)))
  | .str i, .str j => ret (.bl (!decide (i = j)))
  | x, y => eqPy x y not
def isNn : Dv → Bool
  | .non => true
  | _ => false
def oIs : Dv → Dv → MX Dv
  | .bl a, .bl b => ret (.bl (decide (a = b)))
  | x, .non => ret (.bl (isNn x))
  | _, _ => MX.stuck
def oIsNot : Dv → Dv → MX Dv
  | .bl a, .bl b => ret (.bl (!decide (a = b)))
  | x, .non => ret (.bl (!(isNn x)))
  | _, _ => MX.stuck
def oNeg : Dv → MX Dv
  | .int i => ret (.int (-i))
  | _ => MX.stuck
/-- == of flat data -/
def eqF : Dv → Dv → Bool
  | .non, .non => true
  | .bl a, .bl b => a == b
  | .bl a, .int b => (if a then 1 else 0) == b
  | .int a, .bl b => a == (if b then 1 else 0)
  | .int a, .int b => a == b
  | .str a, .str b => a == b
  | _, _ => false
def inF (x : Dv) (ds : List Dv) : Bool := ds.any fun y => eqF y x
def inO (f : Bool → Bool) (x y : Dv) : MX Dv := fun _ θ Q => match y with
  | .tup ds => (isFlat x = true ∧ ds.all isFlat = true) ∧ Q (.bl (f (inF x ds))) θ
  | .st ds => (isFlat x = true ∧ ds.all isFlat = true) ∧ Q (.bl (f (inF x ds))) θ
  | .obj k => (match θ[k]? with
    | some (.lst ds) => (ds.all isFlat = true ∧ isFlat x = true ∧ Q (.bl (f (inF x ds))) θ) ∨ (match toPy θ 66 x, toPy θ 66 (.obj k) with
      | some d, some (.list es) => SeqAt.shaped d = true ∧ SeqAt.shaped (.list es) = true ∧ Q (.bl (f (es.any fun z => PyData.eqv z d))) θ
      | _, _ => False)
    | some (.dK kvs) => (match fKey x with
      | some q => Q (.bl (f (lookD kvs q).isSome)) θ
      | none => False)
    | some (.dT kvs) => (match tKey x with
      | some q => Q (.bl (f (lookD kvs q).isSome)) θ
      | none => False)
    | _ => False)
  | .str z => (match x with
    | .str w => ∃ c, w = ⟨#[c]⟩ ∧ Q (.bl (f (decide (c ∈ z.cps.toList)))) θ
    | _ => False)
  | _ => False
def oIn := inO id
def oNotIn := inO not
/-- a subscript -/
def optW (o : Option Dv) (θ : Th) (Q : Dv → Th → Prop) : Prop := match o with
  | some d => Q d θ
  | none => False
def oIx (x y : Dv) : MX Dv := fun _ θ Q => match x with
  | .tup ds => (match y with
    | .int i => optW (atI ds i) θ Q
    | _ => False)
  | .st ds => (match y with
    | .int i => optW (atI ds i) θ Q
    | _ => False)
  | .scr ns => (match y with
    | .int i => optW ((atI ns i).map Dv.int) θ Q
    | _ => False)
  | .str z => (match y with
    | .int i => z.length ≤ sizeLine ∧ ∃ c, atI z.cps.toList i = some c ∧ Q (.str ⟨#[c]⟩) θ
    | _ => False)
  | .obj k => (match θ[k]? with
    | some (.lst ds) => (match y with
      | .int i => optW (atI ds i) θ Q
      | _ => False)
    | some (.dK kvs) => (match fKey y with
      | some q => optW (lookD kvs q) θ Q
      | none => False)
    | some (.dT kvs) => (match tKey y with
      | some q => optW (lookD kvs q) θ Q
      | none => False)
    | _ => False)
  | _ => False
theorem atI_rps {K : PySem.W.Frag} {H : Hp} {α : List Addr} {ds : List Dv} {vs : List V} {i : Int} {d : Dv} (r : Rps K H α ds vs) (h : atI ds i = some d) : ∃ v, atI vs i = some v ∧ Rp K H α d v := by
  unfold atI at h ⊢
  rw [r.length]
  cases e : ixN ds.length i with
  | none => rw [e] at h; cases h
  | some j =>
    rw [e] at h
    exact r.get h

section
variable {X : Cx} {W : Wd X.K X.mg}
theorem om_add : OpM W (binaryOp .Add) oAdd := opm_of (OpR.or op_add (OpR.or op_add_str (OpR.or op_catA op_cat))) fun {H α θ dx dy x y Qm Q} a r1 r2 q u => by
  cases dx with
  | int i =>
    cases dy with
    | int j => cases of_int r1; cases of_int r2; exact .inl ⟨i, j, rfl, rfl, up_same u a q rp_int⟩
    | _ => exact False.elim q
  | str i =>
    cases dy with
    | str j => cases of_str r1; cases of_str r2; exact .inr (.inl ⟨i, j, rfl, rfl, q.1, up_same u a q.2 rp_str⟩)
    | _ => exact False.elim q
  | tup i =>
    cases dy with
    | tup j =>
      obtain ⟨p, vs, rfl, h1, h2⟩ := rp_tup r1
      obtain ⟨p2, vs2, rfl, h3, h4⟩ := rp_tup r2
      obtain ⟨q1, q2⟩ := q
      refine .inr (.inr (.inl ⟨p, p2, vs, vs2, rfl, rfl, SqT.of h1, SqT.of h3, by rw [h2.length, h4.length]; exact q1, ?_, ?_, ?_⟩))
      · intro e
        subst e
        have : i = [] := by have := h2.length; cases i <;> simp_all
        subst this
        exact up_same u a q2 r2
      · intro _ e
        subst e
        have : j = [] := by have := h4.length; cases j <;> simp_all
        subst this
        rw [List.append_nil] at q2
        exact up_same u a q2 r1
      · intro _ _
        exact up_tup u a q2 (h2.append h4)
    | _ => exact False.elim q
  | st i =>
    cases dy with
    | tup j =>
      unfold Rp at r1
      obtain ⟨p, vs, rfl, h1, h2⟩ := r1
      obtain ⟨p2, vs2, rfl, h3, h4⟩ := rp_tup r2
      obtain ⟨⟨q1, q1'⟩, q2⟩ := q
      subst q1
      unfold Rps at h2
      subst h2
      exact .inr (.inr (.inl ⟨p, p2, [], vs2, rfl, rfl, h1.sq, SqT.of h3, by rw [h4.length]; simpa using q1', fun _ => up_same u a q2 r2, fun e => absurd rfl e, fun e => absurd rfl e⟩))
    | _ => exact False.elim q
  | obj i =>
    cases dy with
    | obj j =>
      have q' : (match θ[i]?, θ[j]? with
        | some (.lst a), some (.lst b) => a.length + b.length ≤ sizeLine ∧ Qm (.obj θ.length) (θ ++ [.lst (a ++ b)])
        | _, _ => False) := q
      split at q'
      · rename_i l1 l2 e1 e2
        obtain ⟨p, vs, rfl, _, h1, h2⟩ := a.lst e1 r1
        obtain ⟨p2, vs2, rfl, _, h3, h4⟩ := a.lst e2 r2
        exact .inr (.inr (.inr ⟨p, p2, vs, vs2, rfl, rfl, h1, h3, by rw [h2.length, h4.length]; exact q'.1, up_lst u a q'.2 (h2.append h4)⟩))
      · exact q'.elim
    | _ => exact False.elim q
  | _ => cases dy <;> exact False.elim q
theorem om_sub : OpM W (binaryOp .Sub) oSub := opm_of op_sub fun {H α θ dx dy x y Qm Q} a r1 r2 q u => by
  cases dx <;> cases dy <;> first | exact False.elim q | skip
  cases of_int r1; cases of_int r2; exact ⟨_, _, rfl, rfl, up_same u a q rp_int⟩
theorem rep_rps {K : PySem.W.Frag} {H : Hp} {α : List Addr} {ds : List Dv} {vs : List V} (r : Rps K H α ds vs) : ∀ n, Rps K H α (List.replicate n ds).flatten (List.replicate n vs).flatten
  | 0 => by simpa using Rps.nil
  | n + 1 => by
    rw [List.replicate_succ, List.replicate_succ, List.flatten_cons, List.flatten_cons]
    exact r.append (rep_rps r n)
theorem om_mul : OpM W (binaryOp .Mult) oMul := opm_of (OpR.or op_mul op_rep) fun {H α θ dx dy x y Qm Q} a r1 r2 q u => by
  cases dx with
  | int i =>
    cases dy with
    | int j => cases of_int r1; cases of_int r2; exact .inl ⟨i, j, rfl, rfl, q.1, up_same u a q.2 rp_int⟩
    | _ => exact False.elim q
  | obj i =>
    cases dy with
    | int j =>
      cases of_int r2
      have q' : (match θ[i]? with
        | some (.lst a) => -(2 ^ 63) ≤ j ∧ j < 2 ^ 63 ∧ a.length * j.toNat ≤ sizeLine ∧ Qm (.obj θ.length) (θ ++ [.lst (List.replicate j.toNat a).flatten])
        | _ => False) := q
      split at q'
      · rename_i l1 e1
        obtain ⟨p, vs, rfl, _, h1, h2⟩ := a.lst e1 r1
        obtain ⟨q1, q2, q3, q4⟩ := q'
        exact .inr ⟨p, j, vs, rfl, rfl, h1, q1, q2, by rw [h2.length]; exact q3, up_lst u a q4 (rep_rps h2 _)⟩
      · exact q'.elim
    | _ => exact False.elim q
  | _ => cases dy <;> exact False.elim q
theorem om_fdiv : OpM W (binaryOp .FloorDiv) oFdiv := opm_of op_fdiv fun {H α θ dx dy x y Qm Q} a r1 r2 q u => by
  cases dx <;> cases dy <;> first | exact False.elim q | skip
  cases of_int r1; cases of_int r2; exact ⟨_, _, rfl, rfl, q.1, up_same u a q.2 rp_int⟩
theorem om_mod : OpM W (binaryOp .Mod) oMod := opm_of op_mod fun {H α θ dx dy x y Qm Q} a r1 r2 q u => by
  cases dx <;> cases dy <;> first | exact False.elim q | skip
  cases of_int r1; cases of_int r2; exact ⟨_, _, rfl, rfl, q.1, up_same u a q.2 rp_int⟩
theorem om_pow : OpM W (binaryOp .Pow) oPow := opm_of op_pow fun {H α θ dx dy x y Qm Q} a r1 r2 q u => by
  cases dx <;> cases dy <;> first | exact False.elim q | skip
  cases of_int r1; cases of_int r2; exact ⟨_, _, rfl, rfl, q.1, up_same u a q.2 rp_int⟩
theorem om_lt : OpM W (compareOp .Lt) oLt := opm_of op_lt fun {H α θ dx dy x y Qm Q} a r1 r2 q u => by
  cases dx <;> cases dy <;> first | exact False.elim q | skip
  cases of_int r1; cases of_int r2; exact ⟨_, _, rfl, rfl, up_same u a q rp_bl⟩
theorem om_le : OpM W (compareOp .LtE) oLe := opm_of op_le fun {H α θ dx dy x y Qm Q} a r1 r2 q u => by
  cases dx <;> cases dy <;> first | exact False.elim q | skip
  cases of_int r1; cases of_int r2; exact ⟨_, _, rfl, rfl, up_same u a q rp_bl⟩
theorem om_gt : OpM W (compareOp .Gt) oGt := opm_of op_gt fun {H α θ dx dy x y Qm Q} a r1 r2 q u => by
  cases dx <;> cases dy <;> first | exact False.elim q | skip
  cases of_int r1; cases of_int r2; exact ⟨_, _, rfl, rfl, up_same u a q rp_bl⟩
theorem om_ge : OpM W (compareOp .GtE) oGe := opm_of op_ge fun {H α θ dx dy x y Qm Q} a r1 r2 q u => by
  cases dx <;> cases dy <;> first | exact False.elim q | skip
  cases of_int r1; cases of_int r2; exact ⟨_, _, rfl, rfl, up_same u a q rp_bl⟩
theorem um_neg : UnM W (unaryOp .USub) oNeg := unm_of un_neg fun {H α θ dx x Qm Q} a r1 q u => by
  cases dx <;> first | exact False.elim q | skip
  cases of_int r1; exact ⟨_, rfl, up_same u a q rp_int⟩
theorem eqPy_up {H : Hp} {α : List Addr} {θ : Th} {dx dy : Dv} {x y : V} {Qm : Dv → Th → Prop} {Q : VK} {f : Bool → Bool} (a : At W H α θ) (r1 : Rp X.K H α dx x) (r2 : Rp X.K H α dy y) (q : eqPy dx dy f W.En θ Qm) (u : Up X.K H α Qm Q) :
    ∃ d e, Dp X.K H x d ∧ Dp X.K H y e ∧ SeqAt.shaped d = true ∧ SeqAt.shaped e = true ∧ Q (.bl (f (PyData.eqv d e))) H := by
  unfold eqPy at q
  split at q
  · rename_i d e h1 h2
    exact ⟨d, e, toPy_dp a.ok _ _ _ _ h1 r1, toPy_dp a.ok _ _ _ _ h2 r2, q.1, q.2.1, up_same u a q.2.2 rp_bl⟩
  · exact q.elim
theorem om_eq (c : Cf X) : OpM W (compareOp .Eq) oEq := opm_of (OpR.or op_eq (op_eqD (by have := c.un; omega))) fun {H α θ dx dy x y Qm Q} a r1 r2 q u => by
  unfold oEq at q
  split at q
  · cases of_int r1; cases of_int r2; exact .inl ⟨rfl, up_same u a q (by simpa using rp_bl)⟩
  · cases of_bl r1; cases of_bl r2; exact .inl ⟨rfl, up_same u a q (by simpa using rp_bl)⟩
  · cases of_str r1; cases of_str r2; exact .inl ⟨rfl, up_same u a q (by simpa using rp_bl)⟩
  · exact .inr (eqPy_up a r1 r2 q u)
theorem om_ne (c : Cf X) : OpM W (compareOp .NotEq) oNe := opm_of (OpR.or op_ne (op_neD (by have := c.un; omega))) fun {H α θ dx dy x y Qm Q} a r1 r2 q u => by
  unfold oNe at q
  split at q
  · cases of_int r1; cases of_int r2; exact .inl ⟨rfl, up_same u a q (by simpa using rp_bl)⟩
  · cases of_bl r1; cases of_bl r2; exact .inl ⟨rfl, up_same u a q (by simpa using rp_bl)⟩
  · cases of_str r1; cases of_str r2; exact .inl ⟨rfl, up_same u a q (by simpa using rp_bl)⟩
  · exact .inr (eqPy_up a r1 r2 q u)
/-! ### in -/
def rDIn (f : Bool → Bool) : R2 := fun y x H Q => ∃ a o, x = .ref a ∧ DGet H a y o ∧ Q (.bl (f o.isSome)) H
theorem op_dIn (c : Cf X) : OpR X (compareOp .In) (rDIn id) := fun pins s σ H x y v u Q I rx ry ⟨a, o, e, g, q⟩ => by
  subst e
  cases (show u = Value.ref a from ry)
  exact d_in (by have := c.un; omega) I g rx fun s' I' => ⟨.bl o.isSome, H, I', rfl, q⟩
theorem op_dNotIn (c : Cf X) : OpR X (compareOp .NotIn) (rDIn not) := fun pins s σ H x y v u Q I rx ry ⟨a, o, e, g, q⟩ => by
  subst e
  cases (show u = Value.ref a from ry)
  exact d_notIn (by have := c.un; omega) I g rx fun s' I' => ⟨.bl !o.isSome, H, I', rfl, q⟩
theorem flat_v {H : Hp} {α : List Addr} {d : Dv} {x : V} (r : Rp X.K H α d x) (h : isFlat d = true) : flatV x = true := by
  cases d with
  | non => cases of_non r; rfl
  | bl _ => cases of_bl r; rfl
  | int _ => cases of_int r; rfl
  | str _ => cases of_str r; rfl
  | _ => cases h
theorem flats_v {H : Hp} {α : List Addr} : ∀ {ds : List Dv} {vs : List V}, Rps X.K H α ds vs → ds.all isFlat = true → vs.all flatV = true
  | [], _, r, _ => by unfold Rps at r; subst r; rfl
  | d :: ds, _, r, h => by
    unfold Rps at r
    obtain ⟨v, us, rfl, h1, h2⟩ := r
    simp only [List.all_cons, Bool.and_eq_true] at h ⊢
    exact ⟨flat_v h1 h.1, flats_v h2 h.2⟩
theorem eqF_v {H : Hp} {α : List Addr} {d e : Dv} {x y : V} (r : Rp X.K H α d x) (r2 : Rp X.K H α e y) (h : isFlat d = true) (h2 : isFlat e = true) : eqV x y = eqF d e := by
  cases d with
  | non => cases of_non r; cases e with
    | non => cases of_non r2; rfl
    | bl _ => cases of_bl r2; rfl
    | int _ => cases of_int r2; rfl
    | str _ => cases of_str r2; rfl
    | _ => cases h2
  | bl _ => cases of_bl r; cases e with
    | non => cases of_non r2; rfl
    | bl _ => cases of_bl r2; rfl
    | int _ => cases of_int r2; rfl
    | str _ => cases of_str r2; rfl
    | _ => cases h2
  | int _ => cases of_int r; cases e with
    | non => cases of_non r2; rfl
    | bl _ => cases of_bl r2; rfl
    | int _ => cases of_int r2; rfl
    | str _ => cases of_str r2; rfl
    | _ => cases h2
  | str _ => cases of_str r; cases e with
    | non => cases of_non r2; rfl
    | bl _ => cases of_bl r2; rfl
    | int _ => cases of_int r2; rfl
    | str _ => cases of_str r2; rfl
    | _ => cases h2
  | _ => cases h
theorem inF_v {H : Hp} {α : List Addr} {d : Dv} {x : V} (r : Rp X.K H α d x) (h : isFlat d = true) : ∀ {ds : List Dv} {vs : List V}, Rps X.K H α ds vs → ds.all isFlat = true → inV x vs = inF d ds
  | [], _, q, _ => by unfold Rps at q; subst q; rfl
  | e :: ds, _, q, g => by
    unfold Rps at q
    obtain ⟨v, us, rfl, h1, h2⟩ := q
    simp only [List.all_cons, Bool.and_eq_true] at g
    have ih := inF_v r h h2 g.2
    unfold inV inF at ih ⊢
    simp only [List.any_cons, eqF_v h1 r g.1 h, ih]
/-- «in» by any of its roads -/
def rInA (K : PySem.W.Frag) (neg : Bool) : R2 := fun x y H Q => rIn K neg x y H Q ∨ (∃ d ds, Dp K H x d ∧ Dp K H y (.list ds) ∧ SeqAt.shaped d = true ∧ SeqAt.shaped (.list ds) = true ∧ Q (.bl (if neg then !(ds.any fun z => PyData.eqv z d) else ds.any fun z => PyData.eqv z d)) H) ∨
  (∃ a o, y = .ref a ∧ DGet H a x o ∧ Q (.bl (if neg then !o.isSome else o.isSome)) H) ∨ ∃ (c : Nat) (z : Str), x = .str ⟨#[c]⟩ ∧ y = .str z ∧ Q (.bl (if neg then !decide (c ∈ z.cps.toList) else decide (c ∈ z.cps.toList))) H
theorem op_inA (c : Cf X) : OpR X (compareOp .In) (rInA X.K false) :=
  OpR.w (OpR.or op_in_seq (OpR.or (op_inD (by have := c.un; omega)) (OpR.or (op_dIn c) op_in_sign))) fun x y H Q h => h
theorem op_ninA (c : Cf X) : OpR X (compareOp .NotIn) (rInA X.K true) :=
  OpR.w (OpR.or op_notIn_seq (OpR.or (op_notInD (by have := c.un; omega)) (OpR.or (op_dNotIn c) op_notIn_sign))) fun x y H Q h => h
theorem inO_up {neg : Bool} {f : Bool → Bool} (hf : ∀ b, f b = if neg then !b else b) {H : Hp} {α : List Addr} {θ : Th} {dx dy : Dv} {x y : V} {Qm : Dv → Th → Prop} {Q : VK} (a : At W H α θ) (r1 : Rp X.K H α dx x) (r2 : Rp X.K H α dy y) (q : inO f dx dy W.En θ Qm) (u : Up X.K H α Qm Q) : rInA X.K neg x y H Q := by
  unfold inO at q
  split at q
  · rename_i ds
    obtain ⟨p, vs, rfl, h1, h2⟩ := rp_tup r2
    obtain ⟨⟨q1, q2⟩, q3⟩ := q
    refine .inl ⟨p, vs, rfl, .inr (SqT.of h1), flat_v r1 q1, flats_v h2 q2, ?_⟩
    rw [inF_v r1 q1 h2 q2]
    refine up_same u a q3 ?_
    rw [hf]
    cases neg <;> exact rp_bl
  · rename_i ds
    unfold Rp at r2
    obtain ⟨p, vs, rfl, h1, h2⟩ := r2
    obtain ⟨⟨q1, q2⟩, q3⟩ := q
    refine .inl ⟨p, vs, rfl, .inr h1.sq, flat_v r1 q1, flats_v h2 q2, ?_⟩
    rw [inF_v r1 q1 h2 q2]
    refine up_same u a q3 ?_
    rw [hf]
    cases neg <;> exact rp_bl
  · rename_i k
    have r2' := r2
    unfold Rp at r2
    obtain ⟨p, e1, rfl⟩ := r2
    split at q
    · rename_i ds e2
      rcases q with ⟨q1, q2, q3⟩ | q
      · obtain ⟨vs, h1, h2⟩ := a.ok.ob k p _ e1 e2
        refine .inl ⟨p, vs, rfl, .inl (SqL.of h1), flat_v r1 q2, flats_v h2 q1, ?_⟩
        rw [inF_v r1 q2 h2 q1]
        refine up_same u a q3 ?_
        rw [hf]
        cases neg <;> exact rp_bl
      · split at q
        · rename_i d es h1 h2
          refine .inr (.inl ⟨d, es, toPy_dp a.ok _ _ _ _ h1 r1, toPy_dp a.ok _ _ _ _ h2 r2', q.1, q.2.1, up_same u a q.2.2 ?_⟩)
          rw [hf]
          cases neg <;> exact rp_bl
        · exact q.elim
    · rename_i kvs e2
      split at q
      · rename_i k' hk
        obtain ⟨vs, h1, h2⟩ := a.ok.ob k p _ e1 e2
        have ex := fKey_v hk r1
        subst ex
        have g : DGet H p (kV k') (valV vs k') := DGet.k h1
        have lk := h2.look k'
        refine .inr (.inr (.inl ⟨p, _, rfl, g, up_same u a q ?_⟩))
        have : (valV vs k').isSome = (lookD kvs k').isSome := by
          cases e : lookD kvs k' with
          | none => rw [e] at lk; rw [lk]; rfl
          | some d => rw [e] at lk; obtain ⟨v, lk, _⟩ := lk; rw [lk]; rfl
        rw [hf, this]
        cases neg <;> exact rp_bl
      · exact q.elim
    · rename_i kvs e2
      split at q
      · rename_i k' hk
        obtain ⟨vs, h1, h2⟩ := a.ok.ob k p _ e1 e2
        obtain ⟨b, rfl, hb⟩ := tKey_v hk r1
        have g : DGet H p (.ref b) (valV vs k') := DGet.t h1 hb
        have lk := h2.look k'
        refine .inr (.inr (.inl ⟨p, _, rfl, g, up_same u a q ?_⟩))
        have : (valV vs k').isSome = (lookD kvs k').isSome := by
          cases e : lookD kvs k' with
          | none => rw [e] at lk; rw [lk]; rfl
          | some d => rw [e] at lk; obtain ⟨v, lk, _⟩ := lk; rw [lk]; rfl
        rw [hf, this]
        cases neg <;> exact rp_bl
      · exact q.elim
    · exact q.elim
  · rename_i w
    cases of_str r2
    split at q
    · rename_i z
      cases of_str r1
      obtain ⟨c, q1, q2⟩ := q
      refine .inr (.inr (.inr ⟨c, w, by rw [q1], rfl, up_same u a q2 ?_⟩))
      rw [hf]
      cases neg <;> exact rp_bl
    · exact False.elim q
  · exact False.elim q
theorem om_in (c : Cf X) : OpM W (compareOp .In) oIn := opm_of (op_inA c) fun {H α θ dx dy x y Qm Q} a r1 r2 q u => inO_up (neg := false) (f := id) (fun b => rfl) a r1 r2 q u
theorem om_notin (c : Cf X) : OpM W (compareOp .NotIn) oNotIn := opm_of (op_ninA c) fun {H α θ dx dy x y Qm Q} a r1 r2 q u => inO_up (neg := true) (f := not) (fun b => rfl) a r1 r2 q u
/-! ### subscripts -/
theorem IxR.w {r r' : R2} (h : IxR X r) (w : ∀ x y H Q, r' x y H Q → r x y H Q) : IxR X r' := fun va sl pins s σ H x y v u Q I rx ry q hs => h va sl pins s σ H x y v u Q I rx ry (w x y H Q q) hs
def rIxDc : R2 := fun x y H Q => ∃ a v, x = .ref a ∧ DGet H a y (some v) ∧ Q v H
theorem ix_dct (c : Cf X) : IxR X rIxDc := fun va sl pins s σ H x y v u Q I rx ry ⟨a, w, e, g, q⟩ hs => by
  subst e
  cases (show v = Value.ref a from rx)
  exact tail_any (dict_typeIs I g) PySem.F.slot_dict_getitem.lookup (d_getItem (by have := c.un; omega) I g ry fun w' s' I' rw' => ⟨w, H, I', rw', q⟩) hs
theorem pm_ix {a b : Expr} {ma mb : ME} {pos : Pos} (c : Cf X) (ha : PE X a (tM W ma)) (hb : PE X b (tM W mb)) (hs : PlainIx b := by exact fun _ _ => rfl) : PE X (.Subscript a b pos) (tM W (mBin oIx ma mb)) := by
  refine pe_w (pe_ix (IxR.w (IxR.or ix_seq (ix_dct c)) ?_) ha hb hs) tm_bin
  rintro x y H Q ⟨α, θ, dx, dy, Qm, a, r1, r2, q, u⟩
  unfold oIx at q
  split at q
  · rename_i ds
    split at q
    · rename_i i
      cases of_int r2
      obtain ⟨p, vs, rfl, h1, h2⟩ := rp_tup r1
      cases e : atI ds i with
      | none => rw [e] at q; exact False.elim q
      | some d =>
        rw [e] at q
        obtain ⟨v, hv, rv⟩ := atI_rps h2 e
        exact .inl (.inr (.inl ⟨p, vs, i, v, rfl, rfl, SqT.of h1, hv, up_same u a q rv⟩))
    · exact q.elim
  · rename_i ds
    split at q
    · rename_i i
      cases of_int r2
      unfold Rp at r1
      obtain ⟨p, vs, rfl, h1, h2⟩ := r1
      cases e : atI ds i with
      | none => rw [e] at q; exact False.elim q
      | some d =>
        rw [e] at q
        obtain ⟨v, hv, rv⟩ := atI_rps h2 e
        exact .inl (.inr (.inl ⟨p, vs, i, v, rfl, rfl, h1.sq, hv, up_same u a q rv⟩))
    · exact q.elim
  · rename_i ns
    split at q
    · rename_i i
      cases of_int r2
      unfold Rp at r1
      obtain ⟨p, rfl, hq⟩ := r1
      cases e : atI ns i with
      | none => rw [e] at q; exact False.elim q
      | some d =>
        rw [e] at q
        have hv : atI (ns.map V.int) i = some (V.int d) := by
          unfold atI at e ⊢
          rw [List.length_map]
          cases z : ixN ns.length i with
          | none => rw [z] at e; cases e
          | some j =>
            rw [z] at e
            show (ns.map V.int)[j]? = _
            rw [List.getElem?_map, show ns[j]? = some d from e]
            rfl
        have sq : SqL X.K H p (ns.map V.int) := by
          rcases hq with ⟨o, hq⟩ | hq
          · exact .inl (.inr ⟨o, hq⟩)
          · rcases hq with (hq | ⟨o, hq⟩) | hq
            · cases hq
            · cases hq
            · exact .inr hq
        exact .inl (.inl ⟨p, _, i, _, rfl, rfl, sq, hv, up_same u a q rp_int⟩)
    · exact q.elim
  · rename_i z
    split at q
    · rename_i i
      cases of_str r1
      cases of_int r2
      obtain ⟨q1, d, q2, q3⟩ := q
      exact .inl (.inr (.inr ⟨z, i, d, rfl, rfl, q1, q2, up_same u a q3 rp_str⟩))
    · exact q.elim
  · rename_i k
    unfold Rp at r1
    obtain ⟨p, e1, rfl⟩ := r1
    split at q
    · rename_i ds e2
      split at q
      · rename_i i
        cases of_int r2
        obtain ⟨vs, h1, h2⟩ := a.ok.ob k p _ e1 e2
        cases e : atI ds i with
        | none => rw [e] at q; exact False.elim q
        | some d =>
          rw [e] at q
          obtain ⟨v, hv, rv⟩ := atI_rps h2 e
          exact .inl (.inl ⟨p, vs, i, v, rfl, rfl, SqL.of h1, hv, up_same u a q rv⟩)
      · exact q.elim
    · rename_i kvs e2
      split at q
      · rename_i k' hk
        obtain ⟨vs, h1, h2⟩ := a.ok.ob k p _ e1 e2
        have ex := fKey_v hk r2
        subst ex
        have lk := h2.look k'
        cases e : lookD kvs k' with
        | none => rw [e] at q; exact False.elim q
        | some d =>
          rw [e] at q lk
          obtain ⟨v, lk, rv⟩ := lk
          exact .inr ⟨p, v, rfl, by rw [← lk]; exact DGet.k h1, up_same u a q rv⟩
      · exact q.elim
    · rename_i kvs e2
      split at q
      · rename_i k' hk
        obtain ⟨vs, h1, h2⟩ := a.ok.ob k p _ e1 e2
        obtain ⟨b, rfl, hb⟩ := tKey_v hk r2
        have lk := h2.look k'
        cases e : lookD kvs k' with
        | none => rw [e] at q; exact False.elim q
        | some d =>
          rw [e] at q lk
          obtain ⟨v, lk, rv⟩ := lk
          exact .inr ⟨p, v, rfl, by rw [← lk]; exact DGet.t h1 hb, up_same u a q rv⟩
      · exact q.elim
    · exact q.elim
  · exact False.elim q
/-! ### slices -/
def cutD (ds : List Dv) (lo hi : Option Int) : List Dv := (ds.drop (HT.sIx ds.length 0 lo)).take (HT.sIx ds.length ds.length hi - HT.sIx ds.length 0 lo)
def oSl (x : Dv) (lo hi : Option Int) : MX Dv := fun _ θ Q => match x with
  | .tup ds => Q (.tup (cutD ds lo hi)) θ
  | .str z => z.length ≤ sizeLine ∧ Q (.str (cutS z lo hi)) θ
  | .obj k => (match θ[k]? with
    | some (.lst ds) => Q (.obj θ.length) (θ ++ [.lst (cutD ds lo hi)])
    | _ => False)
  | _ => False
def oPart : Dv → MX (Option Int)
  | .int i => pure (some i)
  | _ => MX.stuck
def pNo : DEnv → MX (Option Int) := fun _ => pure none
def pSo (a : ME) : DEnv → MX (Option Int) := fun ρ => do oPart (← a ρ)
def mSl (a : ME) (lo hi : DEnv → MX (Option Int)) : ME := fun ρ => do
  let x ← a ρ
  let l ← lo ρ
  let h ← hi ρ
  oSl x l h
def tMo (W : Wd X.K X.mg) (m : DEnv → MX (Option Int)) : TO := fun σ H Q => ∃ ρ α θ Qm, At W H α θ ∧ RS X.K H α σ ρ ∧ m ρ W.En θ Qm ∧ ∀ o θ' α' H', Qm o θ' → Okk X.K H' α' θ' → Nx X.K H α H' α' → Q o H'
theorem po_w {e : Option Expr} {t t' : TO} (h : PO X e t) (w : ∀ σ H Q, t' σ H Q → t σ H Q) : PO X e t' := ⟨fun pins s σ H Q I q => h.run pins s σ H Q I (w σ H Q q)⟩
theorem pom_some {e : Expr} {m : ME} (h : PE X e (tM W m)) : PO X (some e) (tMo W (pSo m)) := po_w (po_some h) fun σ H Q ⟨ρ, α, θ, Qm, at', rs, q, u⟩ => ⟨ρ, α, θ, _, at', rs, q, fun d θ1 α1 H1 v q1 ok1 nx1 r1 => by
  cases d with
  | int i => cases of_int r1; exact ⟨i, rfl, u _ θ1 α1 H1 q1 ok1 nx1⟩
  | _ => exact False.elim q1⟩
theorem cut_rps {K : PySem.W.Frag} {H : Hp} {α : List Addr} {ds : List Dv} {vs : List V} (r : Rps K H α ds vs) (lo hi : Option Int) : Rps K H α (cutD ds lo hi) (cutV vs lo hi) := by
  unfold cutD cutV
  rw [r.length]
  exact (r.drop _).take _
theorem SlR.w {r r' : V → Option Int → Option Int → Hp → VK → Prop} (h : SlR X r) (w : ∀ x l u H Q, r' x l u H Q → r x l u H Q) : SlR X r' := fun pins s σ H x v vl vu lo hi sl Q I rx hs pl pu q => h pins s σ H x v vl vu lo hi sl Q I rx hs pl pu (w x lo hi H Q q)
def rMs (W : Wd X.K X.mg) : V → Option Int → Option Int → Hp → VK → Prop := fun x lo hi H Q => ∃ α θ dx Qm, At W H α θ ∧ Rp X.K H α dx x ∧ oSl dx lo hi W.En θ Qm ∧ Up X.K H α Qm Q
theorem sl_any : SlR X (rMs W) := SlR.w (SlR.or sl_tupA (SlR.or sl_str sl_list)) fun x lo hi H Q ⟨α, θ, dx, Qm, a, r1, q, u⟩ => by
  unfold oSl at q
  split at q
  · rename_i ds
    obtain ⟨p, vs, rfl, h1, h2⟩ := rp_tup r1
    refine .inl ⟨p, vs, rfl, SqT.of h1, fun e => up_same u a q ?_, fun _ => up_tup u a q (cut_rps h2 lo hi)⟩
    have e' : cutD ds lo hi = ds := by
      unfold cutD
      rw [h2.length] at e
      rw [e.1, e.2]
      simp
    rw [e']
    exact r1
  · rename_i z
    cases of_str r1
    exact .inr (.inl ⟨z, rfl, q.1, up_same u a q.2 rp_str⟩)
  · rename_i k
    split at q
    · rename_i ds e2
      obtain ⟨p, vs, rfl, _, h1, h2⟩ := a.lst e2 r1
      exact .inr (.inr ⟨p, vs, rfl, SqL.of h1, up_lst u a q (cut_rps h2 lo hi)⟩)
    · exact False.elim q
  · exact False.elim q
theorem pm_sl {e : Expr} {m : ME} {lo hi : Option Expr} {ml mh : DEnv → MX (Option Int)} {p2 pos : Pos} (he : PE X e (tM W m)) (hl : PO X lo (tMo W ml)) (hu : PO X hi (tMo W mh)) : PE X (.Subscript e (.Slice lo hi none p2) pos) (tM W (mSl m ml mh)) :=
  pe_w (pe_slice sl_any he hl hu) fun σ H Q ⟨ρ, α, θ, Qm, at', rs, q, u⟩ => ⟨ρ, α, θ, _, at', rs, q, fun d θ1 α1 H1 v q1 ok1 nx1 r1 => ⟨ρ, α1, θ1, _, ⟨ok1, at'.nx.trans nx1⟩, rs.mono nx1, q1, fun o2 θ2 α2 H2 q2 ok2 nx2 =>
    ⟨ρ, α2, θ2, _, ⟨ok2, (at'.nx.trans nx1).trans nx2⟩, rs.mono (nx1.trans nx2), q2, fun o3 θ3 α3 H3 q3 ok3 nx3 => ⟨α3, θ3, d, Qm, ⟨ok3, ((at'.nx.trans nx1).trans nx2).trans nx3⟩, r1.mono (nx2.trans nx3), q3, u.mono ((nx1.trans nx2).trans nx3)⟩⟩⟩⟩
end
end Mn

/-! Mn5: enumerate and zip over lists and tuples in any mix. -/
namespace Mn
open PySem PySem.Spec PyProof.Rows L2

/-- a sequence that is tracked at a: a list (true) or a tuple -/
def Sq (kd : Bool) (H : Hp) (a : Addr) (xs : List V) : Prop := H a = some (if kd then HO.lst xs else HO.tup xs)
def itF (kd : Bool) (h : Heap) (it a : Addr) (i : Nat) : Prop := if kd then h.IsListIter it a i else h.IsTupleIter it a i
def hasF (kd : Bool) (h : Heap) (a : Addr) (items : Array Value) : Prop := if kd then h.IsList a items else h.IsTuple a items
def itO (kd : Bool) (a : Addr) : Obj := if kd then { cls := .type "list_iterator", data := .fields #[.ref a, .int 0 0] } else { cls := .type "tuple_iterator", data := .fields #[.ref a, .int 0 0] }
theorem Sq.inj {kd : Bool} {H : Hp} {a : Addr} {xs ys : List V} (h : Sq kd H a xs) (h' : Sq kd H a ys) : xs = ys := by
  unfold Sq at h h'
  rw [h] at h'
  cases kd <;> (cases h'; rfl)
theorem Sq.has {X : Cx} {pins : List (Addr × Obj)} {σ : L2.St} {H : Hp} {s : Shared} {kd : Bool} {a : Addr} {xs : List V} (I : Inv X pins σ H s) (h : Sq kd H a xs) : ∃ its : List Value, Vals xs its ∧ hasF kd s.heap a its.toArray := by
  cases kd with
  | true =>
    obtain ⟨its, rv, p, _⟩ := I.list (SqL.of (show H a = some (.lst xs) from h))
    exact ⟨its, rv, p.isList⟩
  | false =>
    obtain ⟨its, rv, p, _⟩ := I.tuple (SqT.of (show H a = some (.tup xs) from h))
    exact ⟨its, rv, p⟩
theorem Sq.ne {kd : Bool} {H : Hp} {a b : Addr} {xs : List V} (h : Sq kd H a xs) (n : H b = none) : a ≠ b := fun e => by
  subst e
  unfold Sq at h
  rw [n] at h
  cases h
theorem itF.stays {kd : Bool} {h h' : Heap} {it a : Addr} {i : Nat} (x : itF kd h it a i) (k : ∀ o, h.get? it = some o → h'.get? it = some o) : itF kd h' it a i := by
  cases kd
  · exact Heap.IsTupleIter.at (show h.IsTupleIter it a i from x) k
  · exact Heap.IsListIter.at (show h.IsListIter it a i from x) k
theorem itF.obj {kd : Bool} {h : Heap} {it a : Addr} {i : Nat} (x : itF kd h it a i) : ∃ o, h.get? it = some o ∧ ∀ v, o.data ≠ .cell v := by
  cases kd with
  | false =>
    obtain ⟨o, e, c, d⟩ := (show h.IsTupleIter it a i from x)
    exact ⟨o, e, fun v z => by rw [d] at z; cases z⟩
  | true =>
    obtain ⟨o, e, c, d⟩ := (show h.IsListIter it a i from x)
    exact ⟨o, e, fun v z => by rw [d] at z; cases z⟩
theorem itF.new {kd : Bool} {h : Heap} {it a : Addr} (e : h.get? it = some (itO kd a)) : itF kd h it a 0 := by
  cases kd
  · exact ⟨_, e, rfl, rfl⟩
  · exact ⟨_, e, rfl, rfl⟩
theorem draws {kd : Bool} {prog : Program} {w : World} {A : Around} (hh : A.handled = none) (it a : Addr) (ne : a ≠ it) (items : Array Value) :
    Draws prog w A it [it, a] items.size (fun i v => items[i]? = some v) (fun i h => itF kd h it a i ∧ hasF kd h a items) := by
  cases kd
  · exact Draws.tuple hh it a ne items
  · exact Draws.list hh it a ne items
theorem begins {kd : Bool} (a : Addr) (items : Array Value) : Begins (.ref a) (itO kd a) (fun h => hasF kd h a items) := by
  cases kd
  · exact begins_tuple a items
  · exact begins_list a items

/-! ### a turn that gives a new pair -/
theorem turn_pair {X : Cx} {pins : List (Addr × Obj)} {s : Shared} {σ : L2.St} {H : Hp} {E : Value → Shared → Prop} {e : Addr} {fpW wr fp : List Addr} {n i : Nat} {Pt : Nat → Array Value → Prop} {St : Nat → Heap → Prop} {Mid : Nat → Addr → Heap → Prop}
    {elts : List Expr} {kk : Nat} {tpos : Pos} {x y : V} {tn : Heap → Prop} {Y : V → Hp → Prop}
    (I : Inv X pins σ H s) (hf : ∀ b ∈ fp, FpOk X pins H b) (W : WalksT X.prog X.w X.A e fpW wr n Pt St Mid) (sub : ∀ b ∈ wr, b ∈ fp) (hi : i < n) (st : St i s.heap)
    (vals : ∀ vs, Pt i vs → Vals [x, y] vs.toList) (next : ∀ h', St (i + 1) h' → tn h') (old : ∀ b ∈ fp, b < s.heap.objs.size) (yld : ∀ T, H T = none → Y (.ref T) (upd H T (.tup [x, y]))) :
    wpAny (model X.prog X.w) X.A (pyNext (.ref e)) (fun r s1 => ∃ u, r = some u ∧
      wpAny (model X.prog X.w) X.A (letOwnedTupleGo (.Tuple elts kk tpos) (.ref e) u) (fun _ s2 => ∃ x H', Inv X pins σ H' s2 ∧ RelV x u ∧ Y x H' ∧ tn s2.heap ∧ ∀ b ∈ fp, H' b = none) E s1) E s := by
  refine W.item i s _ E hi st fun T vs h' tk hP hT hTup hmid hk => ⟨_, rfl, ?_⟩
  refine W.go elts kk tpos i T { s with heap := h', toks := tk } _ E hmid fun h2 st2 hk2 => ?_
  have hn : H T = none := I.hok.fresh hT
  have apart := W.apart i T h' hmid
  have k : ∀ b o, b ∉ wr → s.heap.get? b = some o → h2.get? b = some o := fun b o hb q => hk2 b o hb (hk b o hb q)
  obtain ⟨o, ho, hc, m, hd⟩ := hTup
  have new : ObjOk X.prog X.w (upd H T (.tup [x, y])) h2 T (.tup [x, y]) :=
    ⟨by show 2 ≤ sizeLine; decide, vs.toList, vals vs hP, o, hk2 T o apart ho, hc, m, by simp [hd]⟩
  have I1 : Inv X pins σ (upd H T (.tup [x, y])) { s with heap := h2, toks := tk } := I.turnedNew (t' := tk) k (fun b hb => hf b (sub b hb)) hT new
  refine ⟨.ref T, _, I1, rfl, yld T hn, next h2 st2, fun b hb => ?_⟩
  have hlt := old b hb
  rw [upd_ne (Nat.ne_of_lt (Nat.lt_of_lt_of_le hlt hT))]
  exact (hf b hb).1
theorem turn_end {X : Cx} {pins : List (Addr × Obj)} {s : Shared} {σ : L2.St} {H : Hp} {E : Value → Shared → Prop} {e : Addr} {fpW wr fp : List Addr} {n : Nat} {Pt : Nat → Array Value → Prop} {St : Nat → Heap → Prop} {Mid : Nat → Addr → Heap → Prop}
    (I : Inv X pins σ H s) (hf : ∀ b ∈ fp, FpOk X pins H b) (W : WalksT X.prog X.w X.A e fpW wr n Pt St Mid) (sub : ∀ b ∈ wr, b ∈ fp) (st : St n s.heap) :
    wpAny (model X.prog X.w) X.A (pyNext (.ref e)) (fun r s1 => r = none ∧ Inv X pins σ H s1) E s :=
  W.done s _ E st fun h' tk hk => ⟨rfl, I.turnedL (t' := tk) (ch := wr) hk fun b hb => hf b (sub b hb)⟩

/-! ### enumerate -/
def Jen (kd : Bool) (a : Addr) : It :=
  ⟨fun i H => ∃ xs : List V, Sq kd H a xs ∧ i < xs.length, fun i H v H' => ∃ T x xs, v = .ref T ∧ H T = none ∧ H' = upd H T (.tup [.int (i : Nat), x]) ∧ Sq kd H a xs ∧ xs[i]? = some x, fun i H => ∃ xs : List V, Sq kd H a xs ∧ xs.length = i⟩
theorem turn_en {P : Program} {w : World} {K : PySem.W.Frag} {elts : List Expr} {kk : Nat} {tpos : Pos} (kd : Bool) (a e it : Addr) (ne : e ≠ it) :
    Turn P w K (.Tuple elts kk tpos) (Jen kd a) [e, it] e (fun i h => (∃ old, IsEnum h e it (0 + (i : Int)) old) ∧ itF kd h it a i) where
  mem := by simp
  obj := fun i h st b hb => by
    obtain ⟨⟨old, he⟩, hi⟩ := st
    have e' : b = e ∨ b = it := by simpa using hb
    rcases e' with z | z
    · rw [z]
      exact ⟨_, he, fun v q => nomatch q⟩
    · rw [z]
      exact hi.obj
  keep := fun i h h' st k => by
    obtain ⟨⟨old, he⟩, hi⟩ := st
    exact ⟨⟨old, k e (by simp) _ he⟩, hi.stays fun o q => k it (by simp) o q⟩
  item := by
    intro X hP hw hK hc i pins s σ H E I hf st hg
    subst hP hw hK
    obtain ⟨⟨old, he⟩, hi⟩ := st
    obtain ⟨xs, hq, hlt⟩ := hg
    obtain ⟨its, rv, hh⟩ := hq.has I
    have na : a ≠ it := hq.ne (hf it (by simp)).1
    have ea : e ≠ a := fun z => hq.ne (hf e (by simp)).1 z.symm
    have D := draws (kd := kd) (prog := X.prog) (w := X.w) (A := X.A.in1) (I.ok.hd hc) it a na its.toArray
    have W := WalksT.enumFrom 0 D e ne (by simp [ne, ea]) (by simp)
    have hx : xs[i]? = some xs[i] := List.getElem?_eq_getElem hlt
    obtain ⟨o2, ho2, _⟩ := hi.obj
    refine turn_pair (x := .int (i : Nat)) (y := xs[i]) (tn := fun h => (∃ old, IsEnum h e it (0 + ((i + 1 : Nat) : Int)) old) ∧ itF kd h it a (i + 1)) (Y := (Jen kd a).yld i H) I hf W (fun b hb => hb) (by simp only [List.size_toArray, ← rv.length]; omega) ⟨⟨old, he⟩, hi, hh⟩ (fun vs hv => ?_) (fun h' st2 => ⟨st2.1, st2.2.1⟩) (fun b hb => ?_) (fun T hT => ⟨T, _, xs, rfl, hT, rfl, hq, hx⟩)
    · obtain ⟨t, u, hu, rfl⟩ := hv
      obtain ⟨u', hu', ru⟩ := rv.get hx
      have : u = u' := by
        rw [List.getElem?_toArray] at hu
        rw [hu] at hu'
        exact Option.some.inj hu'
      subst this
      exact .cons ⟨t, by rw [Int.zero_add]⟩ (.cons ru .nil)
    · have e' : b = e ∨ b = it := by simpa using hb
      rcases e' with z | z
      · rw [z]; exact Heap.lt_size he
      · rw [z]; exact Heap.lt_size ho2
  done := by
    intro X hP hw hK hc i pins s σ H E I hf st hg
    subst hP hw hK
    obtain ⟨⟨old, he⟩, hi⟩ := st
    obtain ⟨xs, hq, hlt⟩ := hg
    obtain ⟨its, rv, hh⟩ := hq.has I
    have na : a ≠ it := hq.ne (hf it (by simp)).1
    have ea : e ≠ a := fun z => hq.ne (hf e (by simp)).1 z.symm
    have D := draws (kd := kd) (prog := X.prog) (w := X.w) (A := X.A.in1) (I.ok.hd hc) it a na its.toArray
    have W := WalksT.enumFrom 0 D e ne (by simp [ne, ea]) (by simp)
    have hn : its.toArray.size = i := by simp [← rv.length, hlt]
    rw [← hn] at he hi
    exact turn_end I hf W (fun b hb => hb) ⟨⟨old, he⟩, hi, hh⟩
  self := fun A i s Q E st h => by
    obtain ⟨⟨old, he⟩, _⟩ := st
    exact wpAny_pyIter_enum he h
set_option maxHeartbeats 2000000 in
theorem meets_en1 {v : Value} {o : Obj} {H : Heap → Prop} (B : Begins v o H) :
    Meets (Builtin.«enumerate.__new__» ⟨[.type "enumerate", v], []⟩) (fun _ R s => H s.heap ∧
      R (.ok (.ret (.ref (s.heap.push o).objs.size))) { s with heap := (s.heap.push o).push { cls := .type "enumerate", data := .fields #[.none, .bool false, .ref s.heap.objs.size, rawInt 0, .none, .none] } }) := by
  refine .of_wp fun prog w A R s h => ?_
  obtain ⟨hp, g, d, tk, os⟩ := s
  obtain ⟨h1, h⟩ := h
  have hsub := sub_enumerate
  have q1 : ∀ {A' : Around} {E : Value → Shared → Prop} {Q : Value → Shared → Prop}, Q (.ref hp.objs.size) ⟨hp.push o, g, d, tk, os⟩ → wpAny (model prog w) A' (pyIter v) Q E ⟨hp, g, d, tk, os⟩ := fun q =>
    B.iter prog w _ _ ⟨hp, g, d, tk, os⟩ _ h1 q
  wp_walk using q1
  refine wpAny_stack_any fun st => wpAny_pure ?_
  split
  · rename_i c _ _ _ _ _
    cases (c == Value.type "enumerate") <;>
      (wp_walk using q1
       exact ⟨_, rfl, h⟩)
  · wp_walk using q1
    exact ⟨_, rfl, h⟩
theorem call_en {prog : Program} {w : World} {A : Around} {E : Value → Shared → Prop} {s : Shared} {v : Value} {o : Obj} {H : Heap → Prop} {Q : Value → Shared → Prop} (B : Begins v o H) (h1 : H s.heap)
    (h : ∀ h', IsEnum h' (s.heap.objs.size + 1) s.heap.objs.size 0 .none → h'.get? s.heap.objs.size = some o → (∀ b o, s.heap.get? b = some o → h'.get? b = some o) → Q (.ref (s.heap.objs.size + 1)) { s with heap := h' }) :
    wpAny (model prog w) A (call (.type "enumerate") [v]) Q E s := by
  have hz : (s.heap.push o).objs.size = s.heap.objs.size + 1 := Heap.size_push ..
  have he : IsEnum ((s.heap.push o).push { cls := .type "enumerate", data := .fields #[.none, .bool false, .ref s.heap.objs.size, rawInt 0, .none, .none] }) (s.heap.objs.size + 1) s.heap.objs.size 0 .none := by
    have := Heap.get?_push_size (s.heap.push o) (o := { cls := .type "enumerate", data := .fields #[.none, .bool false, .ref s.heap.objs.size, rawInt 0, .none, .none] }) rfl
    rw [hz] at this
    exact this
  refine callType_new F.called_enumerate (by decide) (F.typeCall_enumerate_1 _) (F.newCall_enumerate_1 _) (fun obj => F.args_object_init_2 obj _) F.entry_enumerate_new (meets_en1 B) ⟨h1, ?_⟩
  show _ ∧ _
  rw [hz]
  exact ⟨⟨_, he, rfl⟩, h _ he (Heap.get?_push_of_some _ (Heap.get?_push_size _ B.free)) fun b ob x => Heap.get?_push_of_some _ (Heap.get?_push_of_some _ x)⟩
def iEn (ta : TA) : TI := fun σ H R => ta σ H fun vs H1 => ∃ kd a xs, vs = [.ref a] ∧ Sq kd H1 a xs ∧ R (Jen kd a) H1
theorem pi_en {X : Cx} {e : Expr} {ta : TA} {p pos tpos : Pos} {elts : List Expr} {kk : Nat} (hg : Gl X "enumerate") (hm : X.mg "enumerate" = none) (ha : PA X [e] ta) (hs : starEach [e] X.env = [(false, eval e X.env)] := by rfl) :
    PI X (.Tuple elts kk tpos) (.Call (.Name "enumerate" p) [e] [] pos) (iEn ta) := by
  constructor
  intro pins s σ H R I h
  refine Call_ (ld_blt I hg hm boot_enumerate (PyProof.Rows.callWith_type1 (thn (ha.run pos pins s σ H _ I h) ?_) hs rfl))
  rintro us s1 ⟨vs, H1, I1, r1, kd, a, xs, ex, hq, q⟩
  subst ex
  cases r1 with
  | cons r rr =>
    cases rr
    cases r
    obtain ⟨its, rv, hh⟩ := hq.has I1
    refine call_en (begins (kd := kd) a its.toArray) hh fun h' he hit hk => wpAny_pyIter_enum he ?_
    have I2 : Inv X pins σ H1 { s1 with heap := h' } := I1.kept (t' := s1.toks) hk
    refine ⟨s1.heap.objs.size + 1, [s1.heap.objs.size + 1, s1.heap.objs.size], _, _, H1, rfl, I2, turn_en kd a _ _ (Nat.succ_ne_self _), ⟨⟨.none, he⟩, itF.new hit⟩, fun b hb => ?_, q⟩
    have hle : s1.heap.objs.size ≤ b := by
      have e' : b = s1.heap.objs.size + 1 ∨ b = s1.heap.objs.size := by simpa using hb
      rcases e' with z | z <;> rw [z]
      · exact Nat.le_add_right _ _
      · exact Nat.le_refl _
    exact I1.fpOk hle (I1.hok.fresh hle)

/-! ### zip of two -/
def Jzp (k1 k2 : Bool) (a b : Addr) : It :=
  ⟨fun i H => ∃ xs ys : List V, Sq k1 H a xs ∧ Sq k2 H b ys ∧ i < xs.length ∧ i < ys.length,
   fun i H v H' => ∃ T x y xs ys, v = .ref T ∧ H T = none ∧ H' = upd H T (.tup [x, y]) ∧ Sq k1 H a xs ∧ Sq k2 H b ys ∧ xs[i]? = some x ∧ ys[i]? = some y,
   fun i H => ∃ xs ys : List V, Sq k1 H a xs ∧ Sq k2 H b ys ∧ min xs.length ys.length = i⟩
theorem turn_zp {P : Program} {w : World} {K : PySem.W.Frag} {elts : List Expr} {kk : Nat} {tpos : Pos} (k1 k2 : Bool) (a b z TI TO i1 i2 : Addr)
    (d1 : TI ≠ z) (d2 : TO ≠ z) (d3 : TI ≠ TO) (d4 : TI ≠ i1) (d5 : TI ≠ i2) (d6 : z ≠ i1) (d7 : z ≠ i2) (d8 : TO ≠ i1) (d9 : TO ≠ i2) (d10 : i1 ≠ i2) :
    Turn P w K (.Tuple elts kk tpos) (Jzp k1 k2 a b) [z, TI, TO, i1, i2] z (fun i h => (IsZip h z TI TO .none ∧ IsTupOf2 h TI (.ref i1) (.ref i2) ∧ (∃ a1 a2, IsTupOf2 h TO a1 a2)) ∧ itF k1 h i1 a i ∧ itF k2 h i2 b i) where
  mem := by simp
  obj := fun i h st c hc => by
    obtain ⟨⟨hz, hI, a1, a2, hO⟩, h1, h2⟩ := st
    have e' : c = z ∨ c = TI ∨ c = TO ∨ c = i1 ∨ c = i2 := by simpa using hc
    rcases e' with q | q | q | q | q <;> rw [q]
    · exact ⟨_, hz, fun v q => nomatch q⟩
    · exact ⟨_, hI, fun v q => nomatch q⟩
    · exact ⟨_, hO, fun v q => nomatch q⟩
    · exact h1.obj
    · exact h2.obj
  keep := fun i h h' st k => by
    obtain ⟨⟨hz, hI, a1, a2, hO⟩, h1, h2⟩ := st
    exact ⟨⟨k z (by simp) _ hz, k TI (by simp) _ hI, a1, a2, k TO (by simp) _ hO⟩, h1.stays fun o q => k i1 (by simp) o q, h2.stays fun o q => k i2 (by simp) o q⟩
  item := by
    intro X hP hw hK hc i pins s σ H E I hf st hg
    subst hP hw hK
    obtain ⟨⟨hz, hI, hO⟩, h1, h2⟩ := st
    obtain ⟨xs, ys, hq1, hq2, hl1, hl2⟩ := hg
    obtain ⟨its1, rv1, hh1⟩ := hq1.has I
    obtain ⟨its2, rv2, hh2⟩ := hq2.has I
    have fr : ∀ c ∈ [z, TI, TO, i1, i2], a ≠ c ∧ b ≠ c := fun c hc => ⟨hq1.ne (hf c hc).1, hq2.ne (hf c hc).1⟩
    have nz := fr z (by simp)
    have nTO := fr TO (by simp)
    have n1 := fr i1 (by simp)
    have n2 := fr i2 (by simp)
    have D1 := draws (kd := k1) (prog := X.prog) (w := X.w) (A := X.A.in1) (I.ok.hd hc) i1 a n1.1 its1.toArray
    have D2 := draws (kd := k2) (prog := X.prog) (w := X.w) (A := X.A.in1) (I.ok.hd hc) i2 b n2.2 its2.toArray
    have S : ZipSep2 z TI TO i1 i2 [i1, a] [i2, b] :=
      { TIz := d1, TOz := d2, TITO := d3, TIi1 := d4, mem1 := by simp, zf1 := by simp [d6, nz.1.symm], Tf1 := by simp [d8, nTO.1.symm], TIi2 := d5, mem2 := by simp, zf2 := by simp [d7, nz.2.symm], Tf2 := by simp [d9, nTO.2.symm],
        sep1_2 := by simp [d10, n1.2.symm], sep2_1 := by simp [d10.symm, n2.1.symm] }
    have W := WalksT.zipD2 S D1 D2
    have hx : xs[i]? = some xs[i] := List.getElem?_eq_getElem hl1
    have hy : ys[i]? = some ys[i] := List.getElem?_eq_getElem hl2
    obtain ⟨o1, ho1, _⟩ := h1.obj
    obtain ⟨o2, ho2, _⟩ := h2.obj
    obtain ⟨a1, a2, hO'⟩ := hO
    refine turn_pair (x := xs[i]) (y := ys[i]) (tn := fun h => (IsZip h z TI TO .none ∧ IsTupOf2 h TI (.ref i1) (.ref i2) ∧ (∃ a1 a2, IsTupOf2 h TO a1 a2)) ∧ itF k1 h i1 a (i + 1) ∧ itF k2 h i2 b (i + 1)) (Y := (Jzp k1 k2 a b).yld i H) I hf W (fun c hc => ?_) (by simp only [List.size_toArray, ← rv1.length, ← rv2.length]; omega) ⟨hz, hI, ⟨a1, a2, hO'⟩, ⟨h1, hh1⟩, h2, hh2⟩ (fun vs hv => ?_)
      (fun h' st2 => ⟨⟨st2.1, st2.2.1, st2.2.2.1⟩, st2.2.2.2.1.1, st2.2.2.2.2.1⟩) (fun c hc => ?_) (fun T hT => ⟨T, _, _, xs, ys, rfl, hT, rfl, hq1, hq2, hx, hy⟩)
    · have : c = z ∨ c = TO ∨ c = i1 ∨ c = i2 := by simpa using hc
      rcases this with q | q | q | q <;> simp [q]
    · obtain ⟨u1, u2, e1, e2, rfl⟩ := hv
      obtain ⟨v1, hv1, ru1⟩ := rv1.get hx
      obtain ⟨v2, hv2, ru2⟩ := rv2.get hy
      rw [List.getElem?_toArray] at e1 e2
      rw [e1] at hv1
      rw [e2] at hv2
      cases hv1
      cases hv2
      exact .cons ru1 (.cons ru2 .nil)
    · have e' : c = z ∨ c = TI ∨ c = TO ∨ c = i1 ∨ c = i2 := by simpa using hc
      rcases e' with q | q | q | q | q <;> rw [q]
      · exact Heap.lt_size hz
      · exact Heap.lt_size hI
      · exact Heap.lt_size hO'
      · exact Heap.lt_size ho1
      · exact Heap.lt_size ho2
  done := by
    intro X hP hw hK hc i pins s σ H E I hf st hg
    subst hP hw hK
    obtain ⟨⟨hz, hI, hO⟩, h1, h2⟩ := st
    obtain ⟨xs, ys, hq1, hq2, hl⟩ := hg
    obtain ⟨its1, rv1, hh1⟩ := hq1.has I
    obtain ⟨its2, rv2, hh2⟩ := hq2.has I
    have fr : ∀ c ∈ [z, TI, TO, i1, i2], a ≠ c ∧ b ≠ c := fun c hc => ⟨hq1.ne (hf c hc).1, hq2.ne (hf c hc).1⟩
    have nz := fr z (by simp)
    have nTO := fr TO (by simp)
    have n1 := fr i1 (by simp)
    have n2 := fr i2 (by simp)
    have D1 := draws (kd := k1) (prog := X.prog) (w := X.w) (A := X.A.in1) (I.ok.hd hc) i1 a n1.1 its1.toArray
    have D2 := draws (kd := k2) (prog := X.prog) (w := X.w) (A := X.A.in1) (I.ok.hd hc) i2 b n2.2 its2.toArray
    have S : ZipSep2 z TI TO i1 i2 [i1, a] [i2, b] :=
      { TIz := d1, TOz := d2, TITO := d3, TIi1 := d4, mem1 := by simp, zf1 := by simp [d6, nz.1.symm], Tf1 := by simp [d8, nTO.1.symm], TIi2 := d5, mem2 := by simp, zf2 := by simp [d7, nz.2.symm], Tf2 := by simp [d9, nTO.2.symm],
        sep1_2 := by simp [d10, n1.2.symm], sep2_1 := by simp [d10.symm, n2.1.symm] }
    have W := WalksT.zipD2 S D1 D2
    have hn : min its1.toArray.size its2.toArray.size = i := by simp only [List.size_toArray, ← rv1.length, ← rv2.length]; omega
    rw [← hn] at h1 h2
    refine turn_end I hf W (fun c hc => ?_) ⟨hz, hI, hO, ⟨h1, hh1⟩, h2, hh2⟩
    have : c = z ∨ c = TO ∨ c = i1 ∨ c = i2 := by simpa using hc
    rcases this with q | q | q | q <;> simp [q]
  self := fun A i s Q E st h => by
    obtain ⟨⟨hz, _⟩, _⟩ := st
    exact wpAny_pyIter_zip hz h
def iZp (ta : TA) : TI := fun σ H R => ta σ H fun vs H1 => ∃ k1 k2 a b xs ys, vs = [.ref a, .ref b] ∧ Sq k1 H1 a xs ∧ Sq k2 H1 b ys ∧ R (Jzp k1 k2 a b) H1
theorem pi_zp {X : Cx} {e e2 : Expr} {ta : TA} {p pos tpos : Pos} {elts : List Expr} {kk : Nat} (hg : Gl X "zip") (hm : X.mg "zip" = none) (ha : PA X [e, e2] ta)
    (hs : starEach [e, e2] X.env = [(false, eval e X.env), (false, eval e2 X.env)] := by rfl) (hs2 : starEach [e2] X.env = [(false, eval e2 X.env)] := by rfl) :
    PI X (.Tuple elts kk tpos) (.Call (.Name "zip" p) [e, e2] [] pos) (iZp ta) := by
  constructor
  intro pins s σ H R I h
  refine Call_ (ld_blt I hg hm boot_zip (PyProof.Rows.callWith_type1 (thn (ha.run pos pins s σ H _ I h) ?_) (by rw [hs, hs2]) (by rw [hs2]; rfl)))
  rintro us s1 ⟨vs, H1, I1, r1, k1, k2, a, b, xs, ys, ex, hq1, hq2, q⟩
  subst ex
  cases r1 with
  | cons r rr =>
    cases rr with
    | cons r2 rr =>
      cases rr
      cases r
      cases r2
      obtain ⟨its1, rv1, hh1⟩ := hq1.has I1
      obtain ⟨its2, rv2, hh2⟩ := hq2.has I1
      refine zip_begins2 (begins (kd := k1) a its1.toArray) (begins (kd := k2) b its2.toArray) hh1 hh2 fun h' hz hI hO e1 e2 hsz hk => wpAny_pyIter_zip hz ?_
      have I2 : Inv X pins σ H1 { s1 with heap := h' } := I1.kept (t' := s1.toks) hk
      have o1 : ∀ j k : Nat, j ≠ k → s1.heap.objs.size + j ≠ s1.heap.objs.size + k := fun j k ne z => ne (Nat.add_left_cancel z)
      have o0 : ∀ j : Nat, j ≠ 0 → s1.heap.objs.size + j ≠ s1.heap.objs.size := fun j ne z => ne (by omega)
      refine ⟨_, [s1.heap.objs.size + 4, s1.heap.objs.size + 2, s1.heap.objs.size + 3, s1.heap.objs.size, s1.heap.objs.size + 1], _, _, H1, rfl, I2,
        turn_zp k1 k2 a b (s1.heap.objs.size + 4) (s1.heap.objs.size + 2) (s1.heap.objs.size + 3) s1.heap.objs.size (s1.heap.objs.size + 1)
          (o1 _ _ (by decide)) (o1 _ _ (by decide)) (o1 _ _ (by decide)) (o0 _ (by decide)) (o1 _ _ (by decide)) (o0 _ (by decide)) (o1 _ _ (by decide)) (o0 _ (by decide)) (o1 _ _ (by decide)) (o0 1 (by decide)).symm,
        ⟨⟨hz, hI, _, _, hO⟩, itF.new e1, itF.new e2⟩, fun c hc => ?_, q⟩
      have hle : s1.heap.objs.size ≤ c := by
        have e' : c = s1.heap.objs.size + 4 ∨ c = s1.heap.objs.size + 2 ∨ c = s1.heap.objs.size + 3 ∨ c = s1.heap.objs.size ∨ c = s1.heap.objs.size + 1 := by simpa using hc
        rcases e' with z | z | z | z | z <;> rw [z] <;> first | exact Nat.le_add_right _ _ | exact Nat.le_refl _
      exact I1.fpOk hle (I1.hok.fresh hle)
end Mn

/-! Mn6: targets, statements, what is walked, loops, comprehensions. -/
namespace Mn
open PySem PySem.Spec PyProof.Rows L2

/-! ### targets -/
inductive Tg where
  | nm (i : Nat) | tp (ts : List Tg)
mutual
def Tg.vars : Tg → List Nat
  | .nm i => [i]
  | .tp ts => Tg.varss ts
def Tg.varss : List Tg → List Nat
  | [] => []
  | t :: ts => t.vars ++ Tg.varss ts
end
mutual
def asgT : Tg → Dv → DEnv → Option DEnv
  | .nm i, d, ρ => some (ρ.set i (some d))
  | .tp ts, .tup ds, ρ => asgTs ts ds ρ
  | .tp ts, .st ds, ρ => asgTs ts ds ρ
  | .tp _, _, _ => none
def asgTs : List Tg → List Dv → DEnv → Option DEnv
  | [], [], ρ => some ρ
  | t :: ts, d :: ds, ρ => match asgT t d ρ with
    | some ρ' => asgTs ts ds ρ'
    | none => none
  | _, _, _ => none
end
mutual
def gT (K : PySem.W.Frag) : Tg → TG
  | .nm i => gName i
  | .tp ts => gTup K ts.length (gTs K ts)
def gTs (K : PySem.W.Frag) : List Tg → TGs
  | [] => gNil
  | t :: ts => gCons (gT K t) (gTs K ts)
end
/-- σ' is σ but at vs -/
structure But (vs : List Nat) (σ σ' : L2.St) : Prop where
  len : σ'.length = σ.length
  at' : ∀ (i : Nat), i ∉ vs → σ'[i]? = σ[i]?
theorem But.refl (vs : List Nat) (σ : L2.St) : But vs σ σ := ⟨rfl, fun _ _ => rfl⟩
theorem But.trans {vs : List Nat} {a b c : L2.St} (h : But vs a b) (g : But vs b c) : But vs a c := ⟨g.len.trans h.len, fun i hi => (g.at' i hi).trans (h.at' i hi)⟩
theorem But.mono {vs us : List Nat} {a b : L2.St} (h : But vs a b) (s : ∀ i ∈ vs, i ∈ us) : But us a b := ⟨h.len, fun i hi => h.at' i fun z => hi (s i z)⟩
theorem But.set (σ : L2.St) (i : Nat) (x : Option V) : But [i] σ (σ.set i x) := ⟨by simp, fun j hj => by rw [List.getElem?_set_ne (by simpa using fun e => hj (by simp [e]))]⟩
theorem wipe_get (σ : L2.St) : ∀ (vs : List Nat) (i : Nat), (wipe σ vs)[i]? = if i ∈ vs then (if i < σ.length then some none else none) else σ[i]?
  | [], i => by simp [wipe]
  | v :: vs, i => by
    unfold wipe
    by_cases h : v = i
    · subst h
      simp only [List.mem_cons_self, if_true]
      by_cases hl : v < σ.length
      · rw [if_pos hl, List.getElem?_set_self (by rw [wipe_length]; exact hl)]
      · rw [if_neg hl, List.getElem?_eq_none (by rw [List.length_set, wipe_length]; omega)]
    · rw [List.getElem?_set_ne h, wipe_get σ vs i]
      have : (i ∈ v :: vs) = (i ∈ vs) := by
        have h' : ¬ i = v := fun e => h e.symm
        simp [h']
      simp only [this]
theorem wipe_but {vs : List Nat} {σ σ' : L2.St} (h : But vs σ σ') : wipe σ' vs = wipe σ vs := by
  apply List.ext_getElem?
  intro i
  rw [wipe_get, wipe_get, h.len]
  split
  · rfl
  · exact h.at' i (by assumption)
theorem wipe_wipe (σ : L2.St) (vs : List Nat) : wipe (wipe σ vs) vs = wipe σ vs := wipe_but ⟨wipe_length σ vs, fun i hi => by rw [wipe_get, if_neg hi]⟩
section
variable {K : PySem.W.Frag} {H : Hp} {α : List Addr}
mutual
theorem gT_ok : ∀ {T : Tg} {d : Dv} {v : V} {σ : L2.St} {ρ ρ' : DEnv} {Q : L2.St → Hp → Prop}, Rp K H α d v → RS K H α σ ρ → asgT T d ρ = some ρ' → (∀ σ', RS K H α σ' ρ' → But T.vars σ σ' → Q σ' H) → gT K T v σ H Q
  | .nm i, d, v, σ, ρ, ρ', Q, r, rs, e, k => by
    simp only [asgT, Option.some.injEq] at e
    subst e
    exact k _ (rs.set r i) (But.set σ i _)
  | .tp ts, d, v, σ, ρ, ρ', Q, r, rs, e, k => by
    cases d with
    | tup ds =>
      obtain ⟨p, vs, rfl, h1, h2⟩ := rp_tup r
      unfold gT
      have e' : asgTs ts ds ρ = some ρ' := by unfold asgT at e; exact e
      exact ⟨p, vs, rfl, SqT.of h1, by rw [h2.length]; exact (asgTs_len e').symm, gTs_ok h2 rs e' (fun σ' a b => k σ' a (by unfold Tg.vars; exact b))⟩
    | st ds =>
      unfold Rp at r
      obtain ⟨p, vs, rfl, h1, h2⟩ := r
      unfold gT
      have e' : asgTs ts ds ρ = some ρ' := by unfold asgT at e; exact e
      exact ⟨p, vs, rfl, h1.sq, by rw [h2.length]; exact (asgTs_len e').symm, gTs_ok h2 rs e' (fun σ' a b => k σ' a (by unfold Tg.vars; exact b))⟩
    | _ => simp [asgT] at e
theorem gTs_ok : ∀ {ts : List Tg} {ds : List Dv} {vs : List V} {σ : L2.St} {ρ ρ' : DEnv} {Q : L2.St → Hp → Prop}, Rps K H α ds vs → RS K H α σ ρ → asgTs ts ds ρ = some ρ' → (∀ σ', RS K H α σ' ρ' → But (Tg.varss ts) σ σ' → Q σ' H) → gTs K ts vs σ H Q
  | [], ds, vs, σ, ρ, ρ', Q, r, rs, e, k => by
    cases ds with
    | nil =>
      unfold Rps at r
      subst r
      simp only [asgTs, Option.some.injEq] at e
      subst e
      unfold gTs
      exact ⟨rfl, k σ rs (But.refl _ _)⟩
    | cons d ds => simp [asgTs] at e
  | t :: ts, ds, vs, σ, ρ, ρ', Q, r, rs, e, k => by
    cases ds with
    | nil => simp [asgTs] at e
    | cons d ds =>
      unfold Rps at r
      obtain ⟨v, us, rfl, h1, h2⟩ := r
      unfold asgTs at e
      cases e1 : asgT t d ρ with
      | none => rw [e1] at e; cases e
      | some ρ1 =>
        rw [e1] at e
        unfold gTs
        refine ⟨v, us, rfl, gT_ok h1 rs e1 fun σ1 rs1 b1 => gTs_ok h2 rs1 e fun σ2 rs2 b2 => k σ2 rs2 ?_⟩
        unfold Tg.varss
        exact (b1.mono fun i hi => List.mem_append_left _ hi).trans (b2.mono fun i hi => List.mem_append_right _ hi)
theorem asgTs_len : ∀ {ts : List Tg} {ds : List Dv} {ρ ρ' : DEnv}, asgTs ts ds ρ = some ρ' → ts.length = ds.length
  | [], [], _, _, _ => rfl
  | [], _ :: _, _, _, e => by simp [asgTs] at e
  | _ :: _, [], _, _, e => by simp [asgTs] at e
  | t :: ts, d :: ds, ρ, ρ', e => by
    unfold asgTs at e
    cases e1 : asgT t d ρ with
    | none => rw [e1] at e; cases e
    | some ρ1 =>
      rw [e1] at e
      simp [asgTs_len e]
end
end
section
variable {X : Cx}
theorem gm_nm {i : Nat} {x : Str} {pos : Pos} (h : PG X (.Name x pos) (gName i)) : PG X (.Name x pos) (gT X.K (.nm i)) := by unfold gT; exact h
theorem gms_nil : PGs X [] (gTs X.K []) := by unfold gTs; exact pgs_nil
theorem gms_cons {e : Expr} {es : List Expr} {t : Tg} {ts : List Tg} (h1 : PG X e (gT X.K t)) (h2 : PGs X es (gTs X.K ts)) (hs : List.map (fun x => x.snd) (assignEach (e :: es) X.env) = assign e X.env :: List.map (fun x => x.snd) (assignEach es X.env) := by rfl) : PGs X (e :: es) (gTs X.K (t :: ts)) := by unfold gTs; exact pgs_cons h1 h2 hs
theorem gm_tp {es : List Expr} {k : Nat} {ts : List Tg} {pos : Pos} (c : Cf X) (hl : es.length = ts.length) (h : PGs X es (gTs X.K ts)) (h' : PGs X es (gTs X.K ts) → PG X (.Tuple es k pos) (gTup X.K ts.length (gTs X.K ts))) : PG X (.Tuple es k pos) (gT X.K (.tp ts)) := by
  unfold gT
  exact h' h
end

/-! ### statements -/
def sSeq (a b : MS) : MS := fun ρ => do
  let o ← a ρ
  match o with
  | .nx ρ' => b ρ'
  | o => pure o
def sNil : MS := fun ρ => pure (.nx ρ)
def sSet (i : Nat) (e : ME) : MS := fun ρ => do
  let d ← e ρ
  pure (.nx (ρ.set i (some d)))
def sAsg (T : Tg) (e : ME) : MS := fun ρ => do
  let d ← e ρ
  let ρ' ← MX.opt (asgT T d ρ)
  pure (.nx ρ')
def sDrop (e : ME) : MS := fun ρ => do
  let _ ← e ρ
  pure (.nx ρ)
def sRet (e : ME) : MS := fun ρ => do
  let d ← e ρ
  pure (.rt d)
def sRetN : MS := fun _ => pure (.rt .non)
def sIf (c : DEnv → MX Bool) (a b : MS) : MS := fun ρ => do
  let k ← c ρ
  if k then a ρ else b ρ
def sBrk : MS := fun ρ => pure (.bk ρ)
def sCt : MS := fun ρ => pure (.ct ρ)
def sAug (i : Nat) (o : Dv → Dv → MX Dv) (e : ME) : MS := fun ρ => do
  let x ← MX.opt (ρ.getD i none)
  let y ← e ρ
  let z ← o x y
  pure (.nx (ρ.set i (some z)))
/-- o[i] = v -/
def setO (x y v : Dv) : MX Unit := fun _ θ Q => match x with
  | .obj k => (match θ[k]? with
    | some (.lst ds) => (match y with
      | .int i => (match ixN ds.length i with
        | some j => Q () (θ.set k (.lst (ds.set j v)))
        | none => False)
      | _ => False)
    | some (.dK kvs) => (match fKey y with
      | some q => kvs.length < sizeLine ∧ Q () (θ.set k (.dK (putD kvs q v)))
      | none => False)
    | some (.dT kvs) => (match tKey y with
      | some q => kvs.length < sizeLine ∧ Q () (θ.set k (.dT (putD kvs q v)))
      | none => False)
    | _ => False)
  | _ => False
def sPut (o i e : ME) : MS := fun ρ => do
  let v ← e ρ
  let x ← o ρ
  let y ← i ρ
  setO x y v
  pure (.nx ρ)
def sWhileGo (c : DEnv → MX Bool) (b : MS) : Nat → DEnv → MX Out
  | 0, _ => MX.stuck
  | n + 1, ρ => do
    let k ← c ρ
    if k then do
      let o ← b ρ
      match o with
      | .nx ρ' => sWhileGo c b n ρ'
      | .ct ρ' => sWhileGo c b n ρ'
      | .bk ρ' => pure (.nx ρ')
      | .rt d => pure (.rt d)
    else pure (.nx ρ)
def sWhile (c : DEnv → MX Bool) (b : MS) : MS := fun ρ E θ Q => ∃ n, sWhileGo c b n ρ E θ Q

section
variable {X : Cx} {W : Wd X.K X.mg} {st : Stmt} {sts : List Stmt} {pos : Pos}
theorem sm_nil : PSs X [] (tS W sNil) := pss_w pss_nil fun D σ H ⟨ρ, α, θ, Qm, at', rs, q, u⟩ => u (.nx ρ) θ α H q at'.ok Nx.refl σ rs
theorem sm_one {m : MS} (h : PS X st (tS W m)) : PSs X [st] (tS W m) := pss_one h
theorem sm_cons {a b : MS} (h1 : PS X st (tS W a)) (h2 : PSs X sts (tS W b)) : PSs X (st :: sts) (tS W (sSeq a b)) :=
  pss_w (pss_cons h1 h2) fun D σ H ⟨ρ, α, θ, Qm, at', rs, q, u⟩ => ⟨ρ, α, θ, _, at', rs, q, fun o θ1 α1 H1 q1 ok1 nx1 => by
    cases o with
    | nx ρ1 => exact fun σ1 rs1 => ⟨ρ1, α1, θ1, Qm, ⟨ok1, at'.nx.trans nx1⟩, rs1, q1, u.mono nx1⟩
    | rt d => exact u (.rt d) θ1 α1 H1 q1 ok1 nx1
    | bk ρ1 => exact u (.bk ρ1) θ1 α1 H1 q1 ok1 nx1
    | ct ρ1 => exact u (.ct ρ1) θ1 α1 H1 q1 ok1 nx1⟩
theorem ts_set {i : Nat} {m : ME} (D : Ends) (σ : L2.St) (H : Hp) : tS W (sSet i m) D σ H → tAsg (tM W m) (gName i) D σ H := fun ⟨ρ, α, θ, Qm, at', rs, q, u⟩ =>
  ⟨ρ, α, θ, _, at', rs, q, fun d θ1 α1 H1 v q1 ok1 nx1 r1 => u _ θ1 α1 H1 q1 ok1 nx1 _ ((rs.mono nx1).set r1 i)⟩
theorem sm_setLc {i : Nat} {m : ME} {t : TE} (h : PS X st (tAsg t (gName i))) (w : ∀ σ H Q, tM W m σ H Q → t σ H Q) : PS X st (tS W (sSet i m)) := ps_w h fun D σ H q => w σ H _ (ts_set D σ H q)
theorem sm_asg {T : Tg} {m : ME} (h : PS X st (tAsg (tM W m) (gT X.K T))) : PS X st (tS W (sAsg T m)) := ps_w h fun D σ H ⟨ρ, α, θ, Qm, at', rs, q, u⟩ =>
  ⟨ρ, α, θ, _, at', rs, q, fun d θ1 α1 H1 v q1 ok1 nx1 r1 => by
    have q2 : (MX.opt (asgT T d ρ) : MX DEnv) W.En θ1 (fun ρ' θ' => Qm (.nx ρ') θ') := q1
    cases e : asgT T d ρ with
    | none => rw [e] at q2; exact False.elim q2
    | some ρ1 =>
      rw [e] at q2
      exact gT_ok r1 (rs.mono nx1) e fun σ1 rs1 _ => u _ θ1 α1 H1 q2 ok1 nx1 σ1 rs1⟩
theorem sm_drop {m : ME} (h : PS X st (tDrop (tM W m))) : PS X st (tS W (sDrop m)) := ps_w h fun D σ H ⟨ρ, α, θ, Qm, at', rs, q, u⟩ =>
  ⟨ρ, α, θ, _, at', rs, q, fun d θ1 α1 H1 v q1 ok1 nx1 r1 => u _ θ1 α1 H1 q1 ok1 nx1 σ (rs.mono nx1)⟩
theorem sm_ret {e : Expr} {m : ME} (h : PE X e (tM W m)) : PS X (.Return (some e) pos) (tS W (sRet m)) := ps_w (ps_ret h) fun D σ H ⟨ρ, α, θ, Qm, at', rs, q, u⟩ =>
  ⟨ρ, α, θ, _, at', rs, q, fun d θ1 α1 H1 v q1 ok1 nx1 r1 => u _ θ1 α1 H1 q1 ok1 nx1 v r1⟩
theorem sm_if {c : Expr} {a b : List Stmt} {mc : DEnv → MX Bool} {ma mb : MS} (hc : PT X c (tMb W mc)) (ha : PSs X a (tS W ma)) (hb : PSs X b (tS W mb)) : PS X (.If c a b pos) (tS W (sIf mc ma mb)) :=
  ps_w (ps_if hc ha hb) fun D σ H ⟨ρ, α, θ, Qm, at', rs, q, u⟩ => ⟨ρ, α, θ, _, at', rs, q, fun k θ1 α1 H1 q1 ok1 nx1 => by
    cases k with
    | true => exact iteT ⟨ρ, α1, θ1, Qm, ⟨ok1, at'.nx.trans nx1⟩, rs.mono nx1, q1, u.mono nx1⟩
    | false => exact iteF ⟨ρ, α1, θ1, Qm, ⟨ok1, at'.nx.trans nx1⟩, rs.mono nx1, q1, u.mono nx1⟩⟩
def IpM (W : Wd X.K X.mg) (op : Operator) (o : Dv → Dv → MX Dv) : Prop := PIp X op (rM2 W o)
theorem sm_aug {i : Nat} {o : Dv → Dv → MX Dv} {m : ME} (h : PS X st (tAug i (tM W m) (rM2 W o))) : PS X st (tS W (sAug i o m)) := ps_w h fun D σ H ⟨ρ, α, θ, Qm, at', rs, q, u⟩ => by
  have q' : (MX.opt (ρ.getD i none) : MX Dv) W.En θ (fun x θ1 => m ρ W.En θ1 fun y θ2 => o x y W.En θ2 fun z θ3 => Qm (.nx (ρ.set i (some z))) θ3) := q
  cases e : ρ.getD i none with
  | none => rw [e] at q'; exact False.elim q'
  | some d =>
    rw [e] at q'
    have e' : ρ[i]? = some (some d) := by
      rw [List.getD_eq_getElem?_getD] at e
      cases z : ρ[i]? with
      | none => rw [z] at e; cases e
      | some o => rw [z] at e; rw [show o = some d from e]
    obtain ⟨v, h1, h2⟩ := rs.2 i d e'
    refine ⟨v, h1, ρ, α, θ, _, at', rs, q', fun y θ1 α1 H1 vy q1 ok1 nx1 r1 => ?_⟩
    exact ⟨α1, θ1, d, y, _, ⟨ok1, at'.nx.trans nx1⟩, h2.mono nx1, r1, q1, fun z θ2 α2 H2 vz q2 ok2 nx2 r2 => u _ θ2 α2 H2 q2 ok2 (nx1.trans nx2) _ ((rs.mono (nx1.trans nx2)).set r2 i)⟩
theorem ipm_of {op : Operator} {r : TIp} {o : Dv → Dv → MX Dv} (h : PIp X op r) (w : ∀ {H : Hp} {α : List Addr} {θ : Th} {dx dy : Dv} {x y : V} {Qm : Dv → Th → Prop} {Q : VK}, At W H α θ → Rp X.K H α dx x → Rp X.K H α dy y → o dx dy W.En θ Qm → Up X.K H α Qm Q → r x y H Q) : IpM W op o :=
  fun pins s σ H x y v u Q I rx ry ⟨_, _, _, _, _, h1, h2, h3, h4, h5⟩ => h pins s σ H x y v u Q I rx ry (w h1 h2 h3 h4 h5)
theorem ipm_mulI : IpM W .Mult oMulI := ipm_of (r := rI CMul fun i j => .int (i * j)) (fun pins s σ H x y v u Q I rx ry h => iop_mul pins s σ H x y v u Q I rx ry h) fun {H α θ dx dy x y Qm Q} a r1 r2 q u => by
  cases dx <;> cases dy <;> first | exact False.elim q | skip
  cases of_int r1; cases of_int r2; exact ⟨_, _, rfl, rfl, q.1, up_same u a q.2 rp_int⟩
/-! stores to a place -/
theorem PSet.w {t t' : TSet} (h : PSet X t) (w : ∀ o i v H Q, t' o i v H Q → t o i v H Q) : PSet X t' := fun pins s σ H o i v ov iv u Q I r1 r2 r3 q => h pins s σ H o i v ov iv u Q I r1 r2 r3 (w o i v H Q q)
theorem PSet.or {t t' : TSet} (h : PSet X t) (h' : PSet X t') : PSet X (fun o i v H Q => t o i v H Q ∨ t' o i v H Q) := fun pins s σ H o i v ov iv u Q I r1 r2 r3 q => q.elim (fun q => h pins s σ H o i v ov iv u Q I r1 r2 r3 q) (fun q => h' pins s σ H o i v ov iv u Q I r1 r2 r3 q)
def rSetD : TSet := fun o i v H Q => ∃ a H', o = .ref a ∧ DPut H a i v H' ∧ Q H'
theorem set_dict (c : Cf X) : PSet X rSetD := fun pins s σ H o i v ov iv u Q I r1 r2 r3 ⟨a, H', e, g, q⟩ => by
  subst e
  cases (show ov = Value.ref a from r1)
  exact d_setItem (by have := c.un; omega) I g r2 r3 fun s' I' => ⟨H', I', q⟩
def rSetM (W : Wd X.K X.mg) : TSet := fun o i v H Q => ∃ α θ dx dy dv Qm, At W H α θ ∧ Rp X.K H α dx o ∧ Rp X.K H α dy i ∧ Rp X.K H α dv v ∧ setO dx dy dv W.En θ Qm ∧ ∀ θ' H', Qm () θ' → Okk X.K H' α θ' → Nx X.K H α H' α → Q H'
theorem set_any (c : Cf X) : PSet X (rSetM W) := PSet.w (PSet.or set_list (set_dict c)) fun o i v H Q ⟨α, θ, dx, dy, dv, Qm, a, r1, r2, r3, q, k⟩ => by
  unfold setO at q
  split at q
  · rename_i n
    have r1' := r1
    unfold Rp at r1
    obtain ⟨p, e1, rfl⟩ := r1
    split at q
    · rename_i ds e2
      split at q
      · rename_i z
        cases of_int r2
        split at q
        · rename_i j hj
          obtain ⟨vs, h1, h2⟩ := a.ok.ob n p _ e1 e2
          have nx := Nx.chg (o := .lst (vs.set j v)) (a.ok.ob n p _ e1 e2)
          exact .inl ⟨p, vs, z, j, rfl, rfl, h1, by rw [h2.length]; exact hj, k _ _ q (a.ok.chg e1 e2 ⟨_, upd_same, (h2.set r3).mono nx⟩) nx⟩
        · exact q.elim
      · exact q.elim
    · rename_i kvs e2
      split at q
      · rename_i k' hk
        obtain ⟨vs, h1, h2⟩ := a.ok.ob n p _ e1 e2
        have ex := fKey_v hk r2
        subst ex
        have nx := Nx.chg (o := .dK (putK vs k' v)) (a.ok.ob n p _ e1 e2)
        exact .inr ⟨p, _, rfl, DPut.k h1 (by rw [h2.length]; exact q.1), k _ _ q.2 (a.ok.chg e1 e2 ⟨_, upd_same, (h2.put k' r3).mono nx⟩) nx⟩
      · exact q.elim
    · rename_i kvs e2
      split at q
      · rename_i k' hk
        obtain ⟨vs, h1, h2⟩ := a.ok.ob n p _ e1 e2
        obtain ⟨b, rfl, hb⟩ := tKey_v hk r2
        have nx := Nx.chg (o := .dT (putK vs k' v)) (a.ok.ob n p _ e1 e2)
        exact .inr ⟨p, _, rfl, DPut.t h1 hb (by rw [h2.length]; exact q.1), k _ _ q.2 (a.ok.chg e1 e2 ⟨_, upd_same, (h2.put k' r3).mono nx⟩) nx⟩
      · exact q.elim
    · exact q.elim
  · exact q.elim
theorem sm_put {o i e : Expr} {mo mi m : ME} {pos' : Pos} (c : Cf X) (he : PE X e (tM W m)) (ho : PE X o (tM W mo)) (hi : PE X i (tM W mi))
    (pg : ∀ t, PSet X t → PG X (.Subscript o i pos') (gSub (tM W mo) (tM W mi) t)) (ps : ∀ g, PG X (.Subscript o i pos') g → PS X st (tAsg (tM W m) g)) : PS X st (tS W (sPut mo mi m)) :=
  ps_w (ps _ (pg _ (set_any (W := W) c))) fun D σ H ⟨ρ, α, θ, Qm, at', rs, q, u⟩ => ⟨ρ, α, θ, _, at', rs, q, fun d θ1 α1 H1 v q1 ok1 nx1 r1 =>
    ⟨ρ, α1, θ1, _, ⟨ok1, at'.nx.trans nx1⟩, rs.mono nx1, q1, fun d2 θ2 α2 H2 v2 q2 ok2 nx2 r2 => ⟨ρ, α2, θ2, _, ⟨ok2, (at'.nx.trans nx1).trans nx2⟩, rs.mono (nx1.trans nx2), q2, fun d3 θ3 α3 H3 v3 q3 ok3 nx3 r3 =>
      ⟨α3, θ3, d2, d3, d, _, ⟨ok3, ((at'.nx.trans nx1).trans nx2).trans nx3⟩, r2.mono nx3, r3, r1.mono (nx2.trans nx3), q3, fun θ4 H4 q4 ok4 nx4 =>
        u _ θ4 α3 H4 q4 ok4 (((nx1.trans nx2).trans nx3).trans nx4) σ (rs.mono (((nx1.trans nx2).trans nx3).trans nx4))⟩⟩⟩⟩
end
end Mn

/-! Mn7: what is walked; for; comprehensions. -/
namespace Mn
open PySem PySem.Spec PyProof.Rows L2

/-! ### a sequence or a text, whichever the value is -/
def iSeq (K : PySem.W.Frag) (tl : TE) : TI := fun σ H R => tl σ H fun x H1 => (∃ a xs, x = .ref a ∧ SqL K H1 a xs ∧ R (Itl K a) H1) ∨ (∃ a xs, x = .ref a ∧ SqT K H1 a xs ∧ R (Itt K a) H1) ∨ ∃ z, x = .str z ∧ R (Its z) H1
theorem pi_seq {X : Cx} {tg l : Expr} {tl : TE} (hl : PE X l tl) : PI X tg l (iSeq X.K tl) := by
  constructor
  intro pins s σ H R I h
  refine thn (hl.run pins s σ H _ I h) ?_
  rintro v s1 ⟨x, H1, I1, r1, ⟨a, xs, e, hq, q⟩ | ⟨a, xs, e, hq, q⟩ | ⟨z, e, q⟩⟩
  · subst e
    cases r1
    obtain ⟨its, rv, p, hz⟩ := I1.list hq
    exact wpAny_pyIter_list p.isList (pi_one (tk := s1.toks) I1 _ (turn_list a _) ⟨_, Heap.get?_push_size _ rfl, rfl, rfl⟩ q)
  · subst e
    cases r1
    obtain ⟨its, rv, p, hz⟩ := I1.tuple hq
    exact wpAny_pyIter_tuple (show s1.heap.IsTuple a its.toArray from p) (pi_one (tk := s1.toks) I1 _ (turn_tuple a _) ⟨_, Heap.get?_push_size _ rfl, rfl, rfl⟩ q)
  · subst e
    obtain ⟨t, rfl⟩ := r1
    cases ha : z.cps.all (· < 128)
    · exact wpAny_pyIter_wide ha (pi_one (tk := s1.toks) I1 _ (turn_str _ z t "str_iterator" (.inr rfl)) ⟨_, Heap.get?_push_size _ rfl, rfl, rfl⟩ q)
    · exact wpAny_pyIter_ascii ha (pi_one (tk := s1.toks) I1 _ (turn_str _ z t "str_ascii_iterator" (.inl rfl)) ⟨_, Heap.get?_push_size _ rfl, rfl, rfl⟩ q)

/-! ### the values of a locked dict, whatever its keys -/
def Lkv (H : Hp) (d : Addr) (o : Obj) (vs : List V) : Prop := (∃ kvs : List (Key × V), H d = some (.frz o (.dK kvs)) ∧ kvs.map (·.2) = vs) ∨ ∃ kvs : List (List Key × V), H d = some (.frz o (.dT kvs)) ∧ kvs.map (·.2) = vs
theorem Lkv.at {X : Cx} {pins : List (Addr × Obj)} {σ : L2.St} {H : Hp} {s : Shared} {d : Addr} {o : Obj} {vs : List V} (I : Inv X pins σ H s) (h : Lkv H d o vs) :
    (d == sysModules) = false ∧ s.heap.get? d = some o ∧ ∃ es ep, s.heap.DictRaw d es ep ∧ o.data = .dict es ep ∧ es.size = vs.length ∧ ∀ (i : Nat) (hi : i < es.size) (x : V), vs[i]? = some x → RelV x es[i].val := by
  rcases h with ⟨kvs, h, e⟩ | ⟨kvs, h, e⟩
  · obtain ⟨ho, hs, hd, us, rel, dd⟩ := (show ObjOk X.prog X.w H s.heap d (.frz o (.dK kvs)) from I.hok d _ h)
    obtain ⟨es, ep, raw, hsz, hv⟩ := dd.raw
    obtain ⟨o', ho', hx, hdt⟩ := id raw
    rw [ho] at ho'
    cases ho'
    have l2 : kvs.length = us.length := Paired.length rel
    refine ⟨hd, ho, es, ep, raw, hdt, by rw [hsz, ← e, List.length_map, l2], fun i hi x hx => ?_⟩
    rw [← e, List.getElem?_map] at hx
    obtain ⟨⟨k, v⟩, h1, h2⟩ := Option.map_eq_some_iff.mp hx
    cases h2
    obtain ⟨u, hu, ru⟩ := kv_get rel h1
    rw [(hv i hi k u hu).2]
    exact ru
  · obtain ⟨ho, hs, hd, us, rel, dd⟩ := (show ObjOk X.prog X.w H s.heap d (.frz o (.dT kvs)) from I.hok d _ h)
    obtain ⟨o', es, ep, ho', hx, hdt, he, _⟩ := dd
    rw [ho] at ho'
    cases ho'
    have l2 : kvs.length = us.length := Paired.length rel
    have hsz : es.size = us.length := size_of_entries he
    refine ⟨hd, ho, es, ep, ⟨o, ho, hx, hdt⟩, hdt, by rw [hsz, ← e, List.length_map, l2], fun i hi x hx => ?_⟩
    rw [← e, List.getElem?_map] at hx
    obtain ⟨⟨k, v⟩, h1, h2⟩ := Option.map_eq_some_iff.mp hx
    cases h2
    obtain ⟨b, hb, _, _, ru⟩ := paired_get rel h1
    have q := entry_at he i
    rw [hb, Array.getElem?_eq_getElem hi] at q
    have q' : es[i] = entryOfKey _ b := Option.some.inj q
    rw [q']
    exact ru
def Jvl (d : Addr) (o : Obj) (vs : List V) : It := ⟨fun i H => Lkv H d o vs ∧ i < vs.length, fun i H x H' => H' = H ∧ vs[i]? = some x, fun i H => Lkv H d o vs ∧ vs.length ≤ i⟩
theorem turn_vl {P : Program} {w : World} {K : PySem.W.Frag} {tg : Expr} {d it : Addr} {o : Obj} {es : Array DictEntry} {ep : Nat} {vs : List V} (hod : o.data = .dict es ep) (hsz : es.size = vs.length) :
    Turn P w K tg (Jvl d o vs) [it] it (fun i h => h.IsValIter it d i es.size ep) where
  mem := by simp
  obj := fun i h st b hb => by
    have e : b = it := by simpa using hb
    subst e
    obtain ⟨oi, e, c, dd⟩ := st
    exact ⟨oi, e, fun v z => by rw [dd] at z; cases z⟩
  keep := fun i h h' st k => st.at fun oi e => k it (by simp) oi e
  item := by
    intro X hP hw hK hc i pins s σ H E I hf st hg
    subst hP hw hK
    obtain ⟨hl, hi⟩ := hg
    obtain ⟨f0, f1, f2, f3, f4, f5⟩ := hf it (by simp)
    obtain ⟨_, _, es', ep', raw, hdt, _, hv⟩ := hl.at I
    obtain ⟨rfl, rfl⟩ := dict_ep hod hdt
    have hi' : i < es'.size := by rw [hsz]; exact hi
    refine wpAny_pyNext_values_item_raw st raw hi' fun h' st' sb => ?_
    have I1 : Inv X pins σ H { s with heap := h' } := I.turned (t' := s.toks) (fun b ob hb e => (sb.2 b hb).trans e) f0 f1 f3 f4 f5
    obtain ⟨oi, e, c, dd⟩ := id st'
    have hx : vs[i]? = some vs[i] := List.getElem?_eq_getElem hi
    exact ⟨_, rfl, go_of (s := { s with heap := h' }) e c dd (by decide) ⟨vs[i], H, I1, hv i hi' _ hx, ⟨rfl, hx⟩, st', fun b hb => (hf b hb).1⟩⟩
  done := by
    intro X hP hw hK hc i pins s σ H E I hf st hg
    subst hP hw hK
    obtain ⟨hl, hi⟩ := hg
    obtain ⟨f0, f1, f2, f3, f4, f5⟩ := hf it (by simp)
    obtain ⟨_, _, es', ep', raw, hdt, _, hv⟩ := hl.at I
    obtain ⟨rfl, rfl⟩ := dict_ep hod hdt
    exact wpAny_pyNext_values_end_raw (I.ok.hd hc) st raw (by rw [hsz]; exact hi) fun h' eb => ⟨rfl, I.turned (t' := s.toks) (fun b ob hb e => eb b ob hb e) f0 f1 f3 f4 f5⟩
  self := fun A i s Q E st h => wpAny_pyIter_valiter st h
def iVl (td : TE) : TI := fun σ H R => td σ H fun x H1 => ∃ d o vs, x = .ref d ∧ Lkv H1 d o vs ∧ R (Jvl d o vs) H1
theorem pi_vl {X : Cx} {tg e : Expr} {td : TE} {apos cpos : Pos} (he : PE X e td) (hbase : attributeBase e "values" X.env (eval e X.env) = eval e X.env := by rfl) (hline : (apos.endLine == cpos.line) = true := by rfl) :
    PI X tg (.Call (.Attribute e "values" apos) [] [] cpos) (iVl td) := by
  constructor
  intro pins s σ H R I h
  refine wpAny_Call_method (T := "dict") (id := "dict.values") hbase rfl hline F.plainAttrs_dict F.slot_dict_values F.type_dict_values (thn (he.run pins s σ H _ I h) ?_)
  rintro u s1 ⟨x, H1, I1, rx, d, o, vs, ex, hd, q⟩
  subst ex
  obtain rfl : u = Value.ref d := rx
  obtain ⟨hs, hgd, es, ep, raw, hdt, hsz, hv⟩ := hd.at I1
  have nd : ∀ a, Value.ref d = .ref a → ∃ ob, s1.heap.get? a = some ob ∧ ob.dict = none := fun a e => by
    cases e
    obtain ⟨ob, e1, ex, _⟩ := raw
    exact ⟨ob, e1, ex.2.1⟩
  refine ⟨raw.typeIs, nd, ?_⟩
  have I2 : Inv X pins σ H1 { s1 with heap := s1.heap.push { cls := .type "dict_values", data := .fields #[.ref d] } } := I1.kept (t' := s1.toks) fun b ob q => Heap.get?_push_of_some _ q
  have fin : wpAny (model X.prog X.w) X.A (pyIter (.ref s1.heap.objs.size)) (PIE X pins σ tg R) X.xe { s1 with heap := s1.heap.push { cls := .type "dict_values", data := .fields #[.ref d] } } :=
    wpAny_pyIter_values_raw (d := d) ⟨_, Heap.get?_push_size _ rfl, rfl, rfl⟩ (raw.at fun ob q => Heap.get?_push_of_some _ q) (pi_one (tk := s1.toks) I2 _ (turn_vl hdt hsz) ⟨_, Heap.get?_push_size _ rfl, rfl, rfl⟩ q)
  show wpAny _ _ (callWith cpos (.builtin "dict.values") [.ref d] [] []) _ X.xe s1
  exact method_meetsIn F.slot_dict_values F.entry_dict_values rfl (PySem.evalArgs_none ⟨rfl, raw.typeIs, F.args_dict_values_1 _, _, meets_dict_values_raw d hs, ⟨es, ep, raw⟩, fin⟩)

/-! ### sources by data -/
inductive Sd where
  | T (ds : List Dv) | L (k : Nat)
def lstAt (θ : Th) (k : Nat) : Option (List Dv) := match θ[k]? with
  | some (.lst ds) => some ds
  | _ => none
def Sd.items (θ : Th) : Sd → Option (List Dv)
  | .T ds => some ds
  | .L k => lstAt θ k
inductive Src where
  | sd (s : Sd) | en (s : Sd) | enS (k : Int) (s : Sd) | zp (s t : Sd) | rng (lo c : Int) (n : Nat) | str (z : Str) | vals (k : Nat)
def enAt (o : Option (List Dv)) (i : Nat) : Option (Option Dv) := match o with
  | some ds => if i ≤ ds.length then some (ds[i]?.map fun d => .tup [.int (i : Nat), d]) else none
  | none => none
def enSAt (k : Int) (o : Option (List Dv)) (i : Nat) : Option (Option Dv) := match o with
  | some ds => if i ≤ ds.length then some (ds[i]?.map fun d => .tup [.int (k + (i : Nat)), d]) else none
  | none => none
def pairO (d e : Option Dv) : Option Dv := match d, e with
  | some d, some e => some (.tup [d, e])
  | _, _ => none
def zpAt (o o' : Option (List Dv)) (i : Nat) : Option (Option Dv) := match o, o' with
  | some ds, some es => if i < min ds.length es.length then some (pairO ds[i]? es[i]?) else if i = min ds.length es.length then some none else none
  | _, _ => none
def vlAt (o : Option Ob) (i : Nat) : Option (Option Dv) := match o with
  | some (.dKf kvs) => some ((kvs.map (·.2))[i]?)
  | some (.dTf kvs) => some ((kvs.map (·.2))[i]?)
  | _ => none
def Src.at (θ : Th) : Src → Nat → Option (Option Dv)
  | .sd s, i => (s.items θ).map (·[i]?)
  | .en s, i => enAt (s.items θ) i
  | .enS k s, i => enSAt k (s.items θ) i
  | .zp s t, i => zpAt (s.items θ) (t.items θ) i
  | .rng lo c n, i => some (if i < n then some (.int (lo + (i : Nat) * c)) else none)
  | .str z, i => some (z.cps[i]?.map fun c => .str ⟨#[c]⟩)
  | .vals k, i => vlAt θ[k]? i
abbrev Wk (K : PySem.W.Frag) (J : It) (i : Nat) (H1 : Hp) (α1 : List Addr) (θ1 : Th) (r : Option Dv) : Prop := match r with
  | some d => J.go i H1 ∧ ∀ x H2, J.yld i H1 x H2 → Okk K H2 α1 θ1 ∧ Nx K H1 α1 H2 α1 ∧ Rp K H2 α1 d x
  | none => J.stop i H1
/-- the iterator J gives what src says, wherever the store has come from here -/
def Walks (K : PySem.W.Frag) (src : Src) (H : Hp) (α : List Addr) (J : It) : Prop :=
  ∀ H1 α1 θ1, Nx K H α H1 α1 → Okk K H1 α1 θ1 → ∀ (i : Nat) r, src.at θ1 i = some r → Wk K J i H1 α1 θ1 r
section
variable {X : Cx} {W : Wd X.K X.mg}
def tIm (W : Wd X.K X.mg) (m : DEnv → MX Src) : TI := fun σ H R => ∃ ρ α θ Qm, At W H α θ ∧ RS X.K H α σ ρ ∧ m ρ W.En θ Qm ∧ ∀ src θ' α' H', Qm src θ' → Okk X.K H' α' θ' → Nx X.K H α H' α' → ∀ J, Walks X.K src H' α' J → R J H'
theorem pi_w {tg e : Expr} {t t' : TI} (h : PI X tg e t) (w : ∀ σ H R, t' σ H R → t σ H R) : PI X tg e t' := ⟨fun pins s σ H R I q => h.run pins s σ H R I (w σ H R q)⟩
/-- what is known of a side -/
theorem Sd.sq {H : Hp} {α : List Addr} {θ : Th} {s : Sd} {ds : List Dv} {a : Addr} {kd : Bool} (h : match s with
    | .T es => ∃ vs, kd = false ∧ H a = some (.tup vs) ∧ Rps X.K H α es vs
    | .L k => kd = true ∧ α[k]? = some a) (ok : Okk X.K H α θ) (e : s.items θ = some ds) : ∃ vs, Sq kd H a vs ∧ Rps X.K H α ds vs := by
  cases s with
  | T es =>
    obtain ⟨vs, rfl, h1, h2⟩ := h
    cases e
    exact ⟨vs, h1, h2⟩
  | L k =>
    obtain ⟨rfl, h1⟩ := h
    have e : lstAt θ k = some ds := e
    unfold lstAt at e
    split at e
    · rename_i es e2
      cases e
      obtain ⟨vs, h3, h4⟩ := ok.ob k a _ h1 e2
      exact ⟨vs, h3, h4⟩
    · cases e
def Side (H : Hp) (α : List Addr) (K : PySem.W.Frag) (s : Sd) (kd : Bool) (a : Addr) : Prop := match s with
  | .T es => ∃ vs, kd = false ∧ H a = some (.tup vs) ∧ Rps K H α es vs
  | .L k => kd = true ∧ α[k]? = some a
theorem Side.mono {K : PySem.W.Frag} {H H' : Hp} {α α' : List Addr} {s : Sd} {kd : Bool} {a : Addr} (h : Side H α K s kd a) (n : Nx K H α H' α') : Side H' α' K s kd a := by
  cases s with
  | T es =>
    obtain ⟨vs, e, h1, h2⟩ := h
    exact ⟨vs, e, n.tup a vs h1, h2.mono n⟩
  | L k =>
    obtain ⟨e, h1⟩ := h
    exact ⟨e, n.at h1⟩
theorem Side.sq {H : Hp} {α : List Addr} {θ : Th} {s : Sd} {ds : List Dv} {a : Addr} {kd : Bool} (h : Side H α X.K s kd a) (ok : Okk X.K H α θ) (e : s.items θ = some ds) : ∃ vs, Sq kd H a vs ∧ Rps X.K H α ds vs := Sd.sq h ok e
/-- what a value is as a side -/
def asSd : Dv → MX Sd
  | .tup ds => pure (.T ds)
  | .obj k => fun _ θ Q => (match θ[k]? with
    | some (.lst _) => Q (.L k) θ
    | _ => False)
  | _ => MX.stuck
theorem asSd_up {H : Hp} {α : List Addr} {θ : Th} {d : Dv} {x : V} {E : Exn → Th → Prop} {Qm : Sd → Th → Prop} (ok : Okk X.K H α θ) (r : Rp X.K H α d x) (q : asSd d E θ Qm) : ∃ s kd a vs, Qm s θ ∧ Side H α X.K s kd a ∧ x = .ref a ∧ Sq kd H a vs := by
  cases d with
  | tup ds =>
    obtain ⟨p, vs, rfl, h1, h2⟩ := rp_tup r
    exact ⟨.T ds, false, p, vs, q, ⟨vs, rfl, h1, h2⟩, rfl, h1⟩
  | obj k =>
    unfold Rp at r
    obtain ⟨p, e1, rfl⟩ := r
    have q' : (match θ[k]? with
      | some (.lst _) => Qm (.L k) θ
      | _ => False) := q
    split at q'
    · rename_i ds e2
      obtain ⟨vs, h1, _⟩ := ok.ob k p _ e1 e2
      exact ⟨.L k, true, p, vs, q', ⟨rfl, e1⟩, rfl, h1⟩
    · exact q'.elim
  | _ => exact False.elim q
def srcV (a : ME) : DEnv → MX Src := fun ρ => do
  let d ← a ρ
  match d with
  | .str z => pure (.str z)
  | .pt ds => pure (.sd (.T ds))
  | .st ds => pure (.sd (.T ds))
  | d => do
    let s ← asSd d
    pure (.sd s)
theorem walks_sd {H : Hp} {α : List Addr} {s : Sd} {kd : Bool} {a : Addr} (h : Side H α X.K s kd a) : Walks X.K (.sd s) H α (if kd then Itl X.K a else Itt X.K a) := by
  intro H1 α1 θ1 nx ok i r e
  unfold Src.at at e
  obtain ⟨ds, e1, rfl⟩ := Option.map_eq_some_iff.mp e
  obtain ⟨vs, hq, rs⟩ := (h.mono nx).sq ok e1
  cases e2 : ds[i]? with
  | some d =>
    obtain ⟨v, hv, rv⟩ := rs.get e2
    cases kd with
    | true => exact ⟨⟨vs, v, SqL.of hq, hv⟩, fun x H2 y => by
        obtain ⟨rfl, y⟩ := y
        have := y vs (SqL.of hq)
        rw [hv] at this
        cases this
        exact ⟨ok, Nx.refl, rv⟩⟩
    | false => exact ⟨⟨vs, v, SqT.of hq, hv⟩, fun x H2 y => by
        obtain ⟨rfl, y⟩ := y
        have := y vs (SqT.of hq)
        rw [hv] at this
        cases this
        exact ⟨ok, Nx.refl, rv⟩⟩
  | none =>
    have hl : vs.length ≤ i := by rw [rs.length]; exact List.getElem?_eq_none_iff.mp e2
    cases kd with
    | true => exact ⟨vs, SqL.of hq, hl⟩
    | false => exact ⟨vs, SqT.of hq, hl⟩
theorem Rd.fz {H : Hp} {a : Addr} {o : Obj} {u : HO} (h : H a = some (.frz o u)) : Rd H a u := .inr ⟨o, h⟩
theorem SqT.fz {H : Hp} {a : Addr} {o : Obj} {vs : List V} (h : H a = some (.frz o (.tup vs))) : SqT X.K H a vs := .inl (Rd.fz h)
theorem walks_pt {H : Hp} {α : List Addr} {p : Addr} {o : Obj} {vs : List V} {ds : List Dv} (h : H p = some (.frz o (.tup vs))) (rs : Rps X.K H α ds vs) : Walks X.K (.sd (.T ds)) H α (Itt X.K p) := by
  intro H1 α1 θ1 nx ok i r e
  unfold Src.at at e
  obtain ⟨ds', e1, rfl⟩ := Option.map_eq_some_iff.mp e
  cases e1
  have hq : SqT X.K H1 p vs := SqT.fz (nx.fz p o _ h)
  have rs := rs.mono nx
  cases e2 : ds[i]? with
  | some d =>
    obtain ⟨v, hv, rv⟩ := rs.get e2
    exact ⟨⟨vs, v, hq, hv⟩, fun x H2 y => by
        obtain ⟨rfl, y⟩ := y
        have := y vs hq
        rw [hv] at this
        cases this
        exact ⟨ok, Nx.refl, rv⟩⟩
  | none => exact ⟨vs, hq, by rw [rs.length]; exact List.getElem?_eq_none_iff.mp e2⟩
theorem walks_st {H : Hp} {α : List Addr} {p : Addr} {vs : List V} {ds : List Dv} (h : StT X.K p vs) (rs : Rps X.K H α ds vs) : Walks X.K (.sd (.T ds)) H α (Itt X.K p) := by
  intro H1 α1 θ1 nx ok i r e
  unfold Src.at at e
  obtain ⟨ds', e1, rfl⟩ := Option.map_eq_some_iff.mp e
  cases e1
  have hq : SqT X.K H1 p vs := h.sq
  have rs := rs.mono nx
  cases e2 : ds[i]? with
  | some d =>
    obtain ⟨v, hv, rv⟩ := rs.get e2
    exact ⟨⟨vs, v, hq, hv⟩, fun x H2 y => by
        obtain ⟨rfl, y⟩ := y
        have := y vs hq
        rw [hv] at this
        cases this
        exact ⟨ok, Nx.refl, rv⟩⟩
  | none => exact ⟨vs, hq, by rw [rs.length]; exact List.getElem?_eq_none_iff.mp e2⟩
theorem pim_seq {tg e : Expr} {a : ME} (he : PE X e (tM W a)) : PI X tg e (tIm W (srcV a)) := pi_w (pi_seq he) fun σ H R ⟨ρ, α, θ, Qm, at', rs, q, k⟩ => ⟨ρ, α, θ, _, at', rs, q, fun d θ1 α1 H1 v q1 ok1 nx1 r1 => by
  cases d with
  | str z =>
    cases of_str r1
    refine .inr (.inr ⟨z, rfl, k _ θ1 α1 H1 q1 ok1 nx1 _ ?_⟩)
    intro H2 α2 θ2 nx2 ok2 i r e
    unfold Src.at at e
    cases e
    cases e2 : z.cps[i]? with
    | some c => exact ⟨(Array.getElem?_eq_some_iff.mp e2).1, fun x H3 y => by
        obtain ⟨rfl, c', h1, rfl⟩ := y
        rw [e2] at h1
        cases h1
        exact ⟨ok2, Nx.refl, rp_str⟩⟩
    | none => exact Array.getElem?_eq_none_iff.mp e2
  | tup ds =>
    obtain ⟨s, kd, b, vs, q2, sd, rfl, hq⟩ := asSd_up ok1 r1 q1
    have R1 := k _ θ1 α1 H1 q2 ok1 nx1 _ (walks_sd sd)
    cases kd with
    | true => exact .inl ⟨b, vs, rfl, SqL.of hq, R1⟩
    | false => exact .inr (.inl ⟨b, vs, rfl, SqT.of hq, R1⟩)
  | obj j =>
    obtain ⟨s, kd, b, vs, q2, sd, rfl, hq⟩ := asSd_up ok1 r1 q1
    have R1 := k _ θ1 α1 H1 q2 ok1 nx1 _ (walks_sd sd)
    cases kd with
    | true => exact .inl ⟨b, vs, rfl, SqL.of hq, R1⟩
    | false => exact .inr (.inl ⟨b, vs, rfl, SqT.of hq, R1⟩)
  | pt ds =>
    unfold Rp at r1
    obtain ⟨p, vs, o, rfl, hp, _, rs1⟩ := r1
    exact .inr (.inl ⟨p, vs, rfl, SqT.fz hp, k _ θ1 α1 H1 q1 ok1 nx1 _ (walks_pt hp rs1)⟩)
  | st ds =>
    unfold Rp at r1
    obtain ⟨p, vs, rfl, hp, rs1⟩ := r1
    exact .inr (.inl ⟨p, vs, rfl, hp.sq, k _ θ1 α1 H1 q1 ok1 nx1 _ (walks_st hp rs1)⟩)
  | _ => exact False.elim q1⟩
/-! ranges -/
def rk1 (ds : List Dv) : MX Src := fun _ θ Q => match ds with
  | [.int j] => (-(2 ^ 62) ≤ j ∧ j < 2 ^ 62) ∧ Q (.rng 0 1 j.toNat) θ
  | _ => False
def rk2 (ds : List Dv) : MX Src := fun _ θ Q => match ds with
  | [.int i, .int j] => (-(2 ^ 62) ≤ i ∧ i < 2 ^ 62 ∧ -(2 ^ 62) ≤ j ∧ j < 2 ^ 62) ∧ Q (.rng i 1 (j - i).toNat) θ
  | _ => False
/-- range(i, j, -1) -/
def rk3 (ds : List Dv) : MX Src := fun _ θ Q => match ds with
  | [.int i, .int j, .int c] => (-(2 ^ 62) ≤ i ∧ i < 2 ^ 62 ∧ -(2 ^ 62) ≤ j ∧ j < 2 ^ 62 ∧ c = -1) ∧ Q (.rng i (-1) (i - j).toNat) θ
  | _ => False
def rng1 (ms : DEnv → MX (List Dv)) : DEnv → MX Src := fun ρ => do rk1 (← ms ρ)
def rng2 (ms : DEnv → MX (List Dv)) : DEnv → MX Src := fun ρ => do rk2 (← ms ρ)
def rng3 (ms : DEnv → MX (List Dv)) : DEnv → MX Src := fun ρ => do rk3 (← ms ρ)
theorem ds1 {K : PySem.W.Frag} {H : Hp} {α : List Addr} {i : Int} {vs : List V} (r : Rps K H α [.int i] vs) : vs = [.int i] := by
  unfold Rps at r
  obtain ⟨v, us, rfl, h1, h2⟩ := r
  unfold Rps at h2
  subst h2
  rw [of_int h1]
theorem ds2 {K : PySem.W.Frag} {H : Hp} {α : List Addr} {i j : Int} {vs : List V} (r : Rps K H α [.int i, .int j] vs) : vs = [.int i, .int j] := by
  unfold Rps at r
  obtain ⟨v, us, rfl, h1, h2⟩ := r
  rw [ds1 h2, of_int h1]
theorem ds3 {K : PySem.W.Frag} {H : Hp} {α : List Addr} {i j k : Int} {vs : List V} (r : Rps K H α [.int i, .int j, .int k] vs) : vs = [.int i, .int j, .int k] := by
  unfold Rps at r
  obtain ⟨v, us, rfl, h1, h2⟩ := r
  rw [ds2 h2, of_int h1]
theorem walks_rng {H : Hp} {α : List Addr} {lo : Int} {n : Nat} : Walks X.K (.rng lo 1 n) H α (Itr lo n) := by
  intro H1 α1 θ1 nx ok i r e
  unfold Src.at at e
  cases e
  by_cases h : i < n
  · simp only [h, if_true]
    exact ⟨h, fun x H2 y => by
      obtain ⟨rfl, rfl⟩ := y
      refine ⟨ok, Nx.refl, ?_⟩
      rw [Int.mul_one]
      exact rp_int⟩
  · simp only [h, if_false]
    exact Nat.le_of_not_lt h
theorem walks_rngC {H : Hp} {α : List Addr} {lo c : Int} {n : Nat} : Walks X.K (.rng lo c n) H α (Itc lo c n) := by
  intro H1 α1 θ1 nx ok i r e
  unfold Src.at at e
  cases e
  by_cases h : i < n
  · simp only [h, if_true]
    exact ⟨h, fun x H2 y => by
      obtain ⟨rfl, rfl⟩ := y
      exact ⟨ok, Nx.refl, rp_int⟩⟩
  · simp only [h, if_false]
    exact Nat.le_of_not_lt h
theorem pim_rng1 {tg a : Expr} {ms : DEnv → MX (List Dv)} {p pos : Pos} (hg : Gl X "range") (hm : X.mg "range" = none) (ha : PA X [a] (tMs W ms)) (hs : starEach [a] X.env = [(false, eval a X.env)] := by rfl) : PI X tg (.Call (.Name "range" p) [a] [] pos) (tIm W (rng1 ms)) :=
  pi_w (pi_range1 hg hm ha hs) fun σ H R ⟨ρ, α, θ, Qm, at', rs, q, k⟩ => ⟨ρ, α, θ, _, at', rs, q, fun ds θ1 α1 H1 vs q1 ok1 nx1 r1 => by
    change rk1 ds W.En θ1 Qm at q1
    unfold rk1 at q1
    split at q1
    · rename_i j
      exact ⟨j, ds1 r1, q1.1.1, q1.1.2, k _ θ1 α1 H1 q1.2 ok1 nx1 _ walks_rng⟩
    · exact False.elim q1⟩
theorem pim_rng2 {tg a b : Expr} {ms : DEnv → MX (List Dv)} {p pos : Pos} (hg : Gl X "range") (hm : X.mg "range" = none) (ha : PA X [a, b] (tMs W ms)) (hs : starEach [a, b] X.env = [(false, eval a X.env), (false, eval b X.env)] := by rfl)
    (hs2 : starEach [b] X.env = [(false, eval b X.env)] := by rfl) : PI X tg (.Call (.Name "range" p) [a, b] [] pos) (tIm W (rng2 ms)) :=
  pi_w (pi_range2 hg hm ha hs hs2) fun σ H R ⟨ρ, α, θ, Qm, at', rs, q, k⟩ => ⟨ρ, α, θ, _, at', rs, q, fun ds θ1 α1 H1 vs q1 ok1 nx1 r1 => by
    change rk2 ds W.En θ1 Qm at q1
    unfold rk2 at q1
    split at q1
    · rename_i i j
      exact ⟨i, j, ds2 r1, q1.1, k _ θ1 α1 H1 q1.2 ok1 nx1 _ walks_rng⟩
    · exact False.elim q1⟩
theorem pim_rng3 {tg a b c : Expr} {ms : DEnv → MX (List Dv)} {p pos : Pos} (hg : Gl X "range") (hm : X.mg "range" = none) (ha : PA X [a, b, c] (tMs W ms)) (hs : starEach [a, b, c] X.env = (false, eval a X.env) :: starEach [b, c] X.env := by rfl)
    (hpl : (backTo pos (starEach [b, c] X.env)).any (·.1) = false := by rfl) : PI X tg (.Call (.Name "range" p) [a, b, c] [] pos) (tIm W (rng3 ms)) :=
  pi_w (pi_range3 hg hm ha hs hpl) fun σ H R ⟨ρ, α, θ, Qm, at', rs, q, k⟩ => ⟨ρ, α, θ, _, at', rs, q, fun ds θ1 α1 H1 vs q1 ok1 nx1 r1 => by
    change rk3 ds W.En θ1 Qm at q1
    unfold rk3 at q1
    split at q1
    · rename_i i j c
      obtain ⟨⟨b1, b2, b3, b4, rfl⟩, q2⟩ := q1
      exact ⟨i, j, -1, _, ds3 r1, RgC.neg b1 b2 b3 b4, k _ θ1 α1 H1 q2 ok1 nx1 _ walks_rngC⟩
    · exact False.elim q1⟩
/-! enumerate, zip, values -/
def ek (ds : List Dv) : MX Src := fun E θ Q => match ds with
  | [d] => asSd d E θ fun s θ' => Q (.en s) θ'
  | _ => False
def zk (ds : List Dv) : MX Src := fun E θ Q => match ds with
  | [d, e] => asSd d E θ fun s θ' => asSd e E θ' fun t θ2 => Q (.zp s t) θ2
  | _ => False
def srcEn (ms : DEnv → MX (List Dv)) : DEnv → MX Src := fun ρ => do ek (← ms ρ)
def srcZp (ms : DEnv → MX (List Dv)) : DEnv → MX Src := fun ρ => do zk (← ms ρ)
theorem one_of {K : PySem.W.Frag} {H : Hp} {α : List Addr} {d : Dv} {vs : List V} (r : Rps K H α [d] vs) : ∃ v, vs = [v] ∧ Rp K H α d v := by
  unfold Rps at r
  obtain ⟨v, us, rfl, h1, h2⟩ := r
  unfold Rps at h2
  subst h2
  exact ⟨v, rfl, h1⟩
theorem two_of {K : PySem.W.Frag} {H : Hp} {α : List Addr} {d e : Dv} {vs : List V} (r : Rps K H α [d, e] vs) : ∃ v u, vs = [v, u] ∧ Rp K H α d v ∧ Rp K H α e u := by
  unfold Rps at r
  obtain ⟨v, us, rfl, h1, h2⟩ := r
  obtain ⟨u, rfl, h3⟩ := one_of h2
  exact ⟨v, u, rfl, h1, h3⟩
theorem pair_up {H : Hp} {α : List Addr} {θ : Th} {d e : Dv} {x y : V} {T : Addr} (ok : Okk X.K H α θ) (hT : H T = none) (r1 : Rp X.K H α d x) (r2 : Rp X.K H α e y) :
    Okk X.K (upd H T (.tup [x, y])) α θ ∧ Nx X.K H α (upd H T (.tup [x, y])) α ∧ Rp X.K (upd H T (.tup [x, y])) α (.tup [d, e]) (.ref T) := by
  have nx : Nx X.K H α (upd H T (.tup [x, y])) α := Nx.new0 hT
  refine ⟨ok.new0 hT, nx, ?_⟩
  unfold Rp
  exact ⟨T, _, rfl, upd_same, Rps.cons (r1.mono nx) (Rps.cons (r2.mono nx) Rps.nil)⟩
theorem pim_en {elts : List Expr} {kk : Nat} {tpos : Pos} {e : Expr} {ms : DEnv → MX (List Dv)} {p pos : Pos} (hg : Gl X "enumerate") (hm : X.mg "enumerate" = none) (ha : PA X [e] (tMs W ms)) (hs : starEach [e] X.env = [(false, eval e X.env)] := by rfl) :
    PI X (.Tuple elts kk tpos) (.Call (.Name "enumerate" p) [e] [] pos) (tIm W (srcEn ms)) :=
  pi_w (pi_en hg hm ha hs) fun σ H R ⟨ρ, α, θ, Qm, at', rs, q, k⟩ => ⟨ρ, α, θ, _, at', rs, q, fun ds θ1 α1 H1 vs q1 ok1 nx1 r1 => by
    change ek ds W.En θ1 Qm at q1
    unfold ek at q1
    split at q1
    · rename_i d
      obtain ⟨v, rfl, rv⟩ := one_of r1
      obtain ⟨s, kd, a, us, q2, sd, rfl, hq⟩ := asSd_up ok1 rv q1
      refine ⟨kd, a, us, rfl, hq, k _ θ1 α1 H1 q2 ok1 nx1 _ ?_⟩
      intro H2 α2 θ2 nx2 ok2 i r e
      change enAt (s.items θ2) i = some r at e
      unfold enAt at e
      split at e
      · rename_i es e1
        split at e
        · rename_i hle
          cases e
          obtain ⟨ws, hq2, rs2⟩ := (sd.mono nx2).sq ok2 e1
          cases e2 : es[i]? with
          | some d2 =>
            obtain ⟨w, hw, rw'⟩ := rs2.get e2
            refine ⟨⟨ws, hq2, (List.getElem?_eq_some_iff.mp hw).1⟩, fun x H3 y => ?_⟩
            obtain ⟨T, x', xs', rfl, hT, rfl, hq3, hx'⟩ := y
            have := hq2.inj hq3
            subst this
            rw [hw] at hx'
            cases hx'
            exact pair_up ok2 hT rp_int rw'
          | none =>
            refine ⟨ws, hq2, ?_⟩
            have := List.getElem?_eq_none_iff.mp e2
            rw [rs2.length]
            omega
        · cases e
      · cases e
    · exact False.elim q1⟩
theorem pim_zp {elts : List Expr} {kk : Nat} {tpos : Pos} {e e2 : Expr} {ms : DEnv → MX (List Dv)} {p pos : Pos} (hg : Gl X "zip") (hm : X.mg "zip" = none) (ha : PA X [e, e2] (tMs W ms)) (hs : starEach [e, e2] X.env = [(false, eval e X.env), (false, eval e2 X.env)] := by rfl)
    (hs2 : starEach [e2] X.env = [(false, eval e2 X.env)] := by rfl) : PI X (.Tuple elts kk tpos) (.Call (.Name "zip" p) [e, e2] [] pos) (tIm W (srcZp ms)) :=
  pi_w (pi_zp hg hm ha hs hs2) fun σ H R ⟨ρ, α, θ, Qm, at', rs, q, k⟩ => ⟨ρ, α, θ, _, at', rs, q, fun ds θ1 α1 H1 vs q1 ok1 nx1 r1 => by
    change zk ds W.En θ1 Qm at q1
    unfold zk at q1
    split at q1
    · rename_i d d'
      obtain ⟨v, v', rfl, rv, rv'⟩ := two_of r1
      obtain ⟨s, kd, a, us, q2, sd, rfl, hq⟩ := asSd_up ok1 rv q1
      obtain ⟨s', kd', a', us', q3, sd', rfl, hq'⟩ := asSd_up ok1 rv' q2
      refine ⟨kd, kd', a, a', us, us', rfl, hq, hq', k _ θ1 α1 H1 q3 ok1 nx1 _ ?_⟩
      intro H2 α2 θ2 nx2 ok2 i r e
      change zpAt (s.items θ2) (s'.items θ2) i = some r at e
      unfold zpAt at e
      split at e
      · rename_i es es' e1 e1'
        obtain ⟨ws, hq2, rs2⟩ := (sd.mono nx2).sq ok2 e1
        obtain ⟨ws', hq2', rs2'⟩ := (sd'.mono nx2).sq ok2 e1'
        split at e
        · rename_i hlt
          cases e
          have g1 : es[i]? = some es[i] := List.getElem?_eq_getElem (by omega)
          have g2 : es'[i]? = some es'[i] := List.getElem?_eq_getElem (by omega)
          rw [g1, g2]
          obtain ⟨w, hw, rw'⟩ := rs2.get g1
          obtain ⟨w', hw', rw''⟩ := rs2'.get g2
          refine ⟨⟨ws, ws', hq2, hq2', (List.getElem?_eq_some_iff.mp hw).1, (List.getElem?_eq_some_iff.mp hw').1⟩, fun x H3 y => ?_⟩
          obtain ⟨T, x', y', xs', ys', rfl, hT, rfl, hq3, hq4, hx', hy'⟩ := y
          have := hq2.inj hq3
          subst this
          have := hq2'.inj hq4
          subst this
          rw [hw] at hx'
          rw [hw'] at hy'
          cases hx'
          cases hy'
          exact pair_up ok2 hT rw' rw''
        · split at e
          · rename_i heq
            cases e
            refine ⟨ws, ws', hq2, hq2', ?_⟩
            rw [rs2.length, rs2'.length]
            exact heq.symm
          · cases e
      · cases e
    · exact False.elim q1⟩
def vk (d : Dv) : MX Src := fun _ θ Q => match d with
  | .obj k => (match θ[k]? with
    | some (.dKf _) => Q (.vals k) θ
    | some (.dTf _) => Q (.vals k) θ
    | _ => False)
  | _ => False
def srcVals (a : ME) : DEnv → MX Src := fun ρ => do vk (← a ρ)
theorem RpK.snd {κ : Type} {K : PySem.W.Frag} {H : Hp} {α : List Addr} : ∀ {ds : List (κ × Dv)} {vs : List (κ × V)}, RpK K H α ds vs → Rps K H α (ds.map (·.2)) (vs.map (·.2))
  | [], _, h => by unfold RpK at h; subst h; exact Rps.nil
  | (k, d) :: ds, _, h => by
    unfold RpK at h
    obtain ⟨v, r, rfl, h1, h2⟩ := h
    exact Rps.cons h1 (RpK.snd h2)
theorem walks_rps {H : Hp} {α : List Addr} {k : Nat} {p : Addr} {J : It} (e1 : α[k]? = some p)
    (h : ∀ H1 α1 θ1, Nx X.K H α H1 α1 → Okk X.K H1 α1 θ1 → ∀ ds, (match θ1[k]? with | some (.dKf kvs) => kvs.map (·.2) = ds | some (.dTf kvs) => kvs.map (·.2) = ds | _ => False) → ∃ vs, Rps X.K H1 α1 ds vs ∧ (∀ i, i < vs.length → J.go i H1) ∧ (∀ i x H2, J.yld i H1 x H2 → H2 = H1 ∧ vs[i]? = some x) ∧ ∀ i, vs.length ≤ i → J.stop i H1) :
    Walks X.K (.vals k) H α J := by
  intro H1 α1 θ1 nx ok i r e
  have main : ∀ ds : List Dv, (match θ1[k]? with | some (.dKf kvs) => kvs.map (·.2) = ds | some (.dTf kvs) => kvs.map (·.2) = ds | _ => False) → some ds[i]? = some r → Wk X.K J i H1 α1 θ1 r := fun ds hd e => by
    cases e
    obtain ⟨vs, rs, g, y, st⟩ := h H1 α1 θ1 nx ok ds hd
    cases e2 : ds[i]? with
    | some d =>
      obtain ⟨v, hv, rv⟩ := rs.get e2
      refine ⟨g i (List.getElem?_eq_some_iff.mp hv).1, fun x H2 hy => ?_⟩
      obtain ⟨rfl, hx⟩ := y i x H2 hy
      rw [hv] at hx
      cases hx
      exact ⟨ok, Nx.refl, rv⟩
    | none => exact st i (by rw [rs.length]; exact List.getElem?_eq_none_iff.mp e2)
  change vlAt θ1[k]? i = some r at e
  unfold vlAt at e
  split at e
  · rename_i kvs e2
    exact main (kvs.map (·.2)) (by rw [e2]) e
  · rename_i kvs e2
    exact main (kvs.map (·.2)) (by rw [e2]) e
  · cases e
end
end Mn

/-! Mn8: for, comprehensions, a dict locked while it is walked. -/
namespace Mn
open PySem PySem.Spec PyProof.Rows L2

def forGo (src : Src) (T : Tg) (body : MS) : Nat → Nat → DEnv → MX Out
  | 0, _, _ => MX.stuck
  | n + 1, i, ρ => fun E θ Q => match src.at θ i with
    | none => False
    | some none => Q (.nx ρ) θ
    | some (some d) => match asgT T d ρ with
      | none => False
      | some ρ1 => body ρ1 E θ fun o θ' => match o with
        | .nx ρ2 => forGo src T body n (i + 1) ρ2 E θ' Q
        | .ct ρ2 => forGo src T body n (i + 1) ρ2 E θ' Q
        | .bk ρ2 => Q (.nx ρ2) θ'
        | .rt d => Q (.rt d) θ'
def sFor (ms : DEnv → MX Src) (T : Tg) (body : MS) : MS := fun ρ E θ Q => ms ρ E θ fun src θ' => ∃ n, forGo src T body n 0 ρ E θ' Q
def lcGo (src : Src) (T : Tg) (cond : DEnv → MX Bool) (elt : ME) (k : Nat) (ρ : DEnv) : Nat → Nat → Th → (Th → Prop) → Prop
  | 0, _, _, _ => False
  | n + 1, i, θ, Q => match src.at θ i with
    | none => False
    | some none => Q θ
    | some (some d) => match asgT T d ρ with
      | none => False
      | some ρ1 => cond ρ1 (fun _ _ => False) θ fun b θ1 => match b with
        | true => elt ρ1 (fun _ _ => False) θ1 fun y θ2 => match θ2[k]? with
          | some (.lst acc) => acc.length < sizeLine ∧ lcGo src T cond elt k ρ n (i + 1) (θ2.set k (.lst (acc ++ [y]))) Q
          | _ => False
        | false => lcGo src T cond elt k ρ n (i + 1) θ1 Q
def mLc (ms : DEnv → MX Src) (T : Tg) (cond : DEnv → MX Bool) (elt : ME) (vs : List Nat) : ME := fun ρ E θ Q => ms ρ E θ fun src θ' =>
  ∃ n, lcGo src T cond elt θ'.length (wipeE ρ vs) n 0 (θ' ++ [.lst []]) fun θ2 => Q (.obj θ'.length) θ2
def bYes : DEnv → MX Bool := fun _ => pure true
/-- while a dict is walked -/
def lockOb : Ob → Option Ob
  | .dK kvs => some (.dKf kvs)
  | .dT kvs => some (.dTf kvs)
  | _ => none
def mLock (i : Nat) (m : ME) : ME := fun ρ E θ Q => match ρ.getD i none with
  | some (.obj k) => match θ[k]? with
    | some o => match lockOb o with
      | some f => m ρ E (θ.set k f) fun d θ' => θ'[k]? = some f ∧ Q d (θ'.set k o)
      | none => False
    | none => False
  | _ => False

section
variable {X : Cx} {W : Wd X.K X.mg}
theorem sm_for {tg iter : Expr} {b : List Stmt} {ms : DEnv → MX Src} {T : Tg} {mb : MS} {pos : Pos} (hp : PassesOwn (model X.prog X.w) X.A X.env X.xe) (c : Cf X) (hi : PI X tg iter (tIm W ms)) (hg : PG X tg (gT X.K T)) (hb : PSs X b (tS W mb))
    (hs : ∀ x, foldedSetIterable iter X.env x = pure x := by intro _; rfl) : PS X (.For tg iter b [] pos) (tS W (sFor ms T mb)) :=
  ps_w (ps_for hp c.calm hi hg hb hs) fun D σ H ⟨ρ, α, θ, Qm, at', rs, q, u⟩ => ⟨ρ, α, θ, _, at', rs, q, fun src θ0 α0 H0 ⟨n, q0⟩ ok0 nx0 J wk => by
    refine ⟨fun i m σ1 H1 => ∃ ρ1 α1 θ1, At W H1 α1 θ1 ∧ RS X.K H1 α1 σ1 ρ1 ∧ Nx X.K H0 α0 H1 α1 ∧ forGo src T mb m i ρ1 W.En θ1 Qm, ⟨n, ρ, α0, θ0, ⟨ok0, at'.nx.trans nx0⟩, rs.mono nx0, Nx.refl, q0⟩, ?_⟩
    rintro i m σ1 H1 ⟨ρ1, α1, θ1, at1, rs1, nx1, q1⟩
    cases m with
    | zero => exact False.elim q1
    | succ m =>
      unfold forGo at q1
      have w1 := wk H1 α1 θ1 nx1 at1.ok i
      split at q1
      · exact q1.elim
      · rename_i e
        have st : J.stop i H1 := w1 _ e
        exact .inl ⟨st, u (.nx ρ1) θ1 α1 H1 q1 at1.ok (nx0.trans nx1) σ1 rs1⟩
      · rename_i d e
        obtain ⟨go, yl⟩ : Wk X.K J i H1 α1 θ1 (some d) := w1 _ e
        split at q1
        · exact q1.elim
        · rename_i ρ2 ea
          refine .inr ⟨go, fun σ3 H3 => ∃ ρ3 α3 θ3, At W H3 α3 θ3 ∧ RS X.K H3 α3 σ3 ρ3 ∧ Nx X.K H0 α0 H3 α3 ∧ forGo src T mb m (i + 1) ρ3 W.En θ3 Qm, fun σ3 H3 h3 => ⟨m, Nat.lt_succ_self m, h3⟩, fun x H2 y => ?_⟩
          obtain ⟨ok2, nx2, r2⟩ := yl x H2 y
          refine gT_ok r2 (rs1.mono nx2) ea fun σ2 rs2 _ => ?_
          refine ⟨ρ2, α1, θ1, _, ⟨ok2, at1.nx.trans nx2⟩, rs2, q1, fun o θ3 α3 H3 q3 ok3 nx3 => ?_⟩
          have nxT := (nx1.trans nx2).trans nx3
          have at3 : At W H3 α3 θ3 := ⟨ok3, (at1.nx.trans nx2).trans nx3⟩
          cases o with
          | nx ρ3 => exact fun σ3 rs3 => ⟨ρ3, α3, θ3, at3, rs3, nxT, q3⟩
          | ct ρ3 => exact fun σ3 rs3 => ⟨ρ3, α3, θ3, at3, rs3, nxT, q3⟩
          | bk ρ3 => exact fun σ3 rs3 => u (.nx ρ3) θ3 α3 H3 q3 ok3 (nx0.trans nxT) σ3 rs3
          | rt d => exact fun v r => u (.rt d) θ3 α3 H3 q3 ok3 (nx0.trans nxT) v r⟩
theorem tm_lc {ms : DEnv → MX Src} {T : Tg} {cond : DEnv → MX Bool} {elt : ME} {vs : List Nat} (hv : ∀ i ∈ T.vars, i ∈ vs) (σ : L2.St) (H : Hp) (Q : VK) : tM W (mLc ms T cond elt vs) σ H Q → tLc (tIm W ms) (gT X.K T) (tMb W.calm cond) (tM W.calm elt) vs σ H Q :=
  fun ⟨ρ, α, θ, Qm, at', rs, q, u⟩ => ⟨ρ, α, θ, _, at', rs, q, fun src θ0 α0 H0 ⟨n, q0⟩ ok0 nx0 J wk D hD => by
    have at0 : At W H0 α0 θ0 := ⟨ok0, at'.nx.trans nx0⟩
    have nxD : Nx X.K H0 α0 (upd H0 D (.lst [])) (α0 ++ [D]) := Nx.new hD _
    have okD : Okk X.K (upd H0 D (.lst [])) (α0 ++ [D]) (θ0 ++ [.lst []]) := ok0.new hD ⟨[], upd_same, Rps.nil⟩
    have hk : (α0 ++ [D])[θ0.length]? = some D := by rw [← ok0.len]; simp
    refine ⟨fun i m H1 => ∃ α1 θ1, At W H1 α1 θ1 ∧ Nx X.K (upd H0 D (.lst [])) (α0 ++ [D]) H1 α1 ∧ lcGo src T cond elt θ0.length (wipeE ρ vs) m i θ1 (fun θ2 => Qm (.obj θ0.length) θ2), ⟨n, α0 ++ [D], _, ⟨okD, at0.nx.trans nxD⟩, Nx.refl, q0⟩, ?_⟩
    rintro i m H1 ⟨α1, θ1, at1, nx1, q1⟩
    cases m with
    | zero => exact False.elim q1
    | succ m =>
      unfold lcGo at q1
      have w1 := wk H1 α1 θ1 (nxD.trans nx1) at1.ok i
      have nxA : Nx X.K H α H1 α1 := (nx0.trans nxD).trans nx1
      have rsW : RS X.K H1 α1 (wipe σ vs) (wipeE ρ vs) := (rs.mono nxA).wipe vs
      split at q1
      · exact q1.elim
      · rename_i e
        have st : J.stop i H1 := w1 _ e
        exact .inl ⟨st, u (.obj θ0.length) θ1 α1 H1 (.ref D) q1 at1.ok nxA (rp_obj (nx1.at hk))⟩
      · rename_i d e
        obtain ⟨go, yl⟩ : Wk X.K J i H1 α1 θ1 (some d) := w1 _ e
        split at q1
        · exact q1.elim
        · rename_i ρ2 ea
          refine .inr ⟨go, fun H3 => ∃ α3 θ3, At W H3 α3 θ3 ∧ Nx X.K (upd H0 D (.lst [])) (α0 ++ [D]) H3 α3 ∧ lcGo src T cond elt θ0.length (wipeE ρ vs) m (i + 1) θ3 (fun θ2 => Qm (.obj θ0.length) θ2), fun H3 h3 => ⟨m, Nat.lt_succ_self m, h3⟩, fun x H2 y => ?_⟩
          obtain ⟨ok2, nx2, r2⟩ := yl x H2 y
          refine gT_ok r2 (rsW.mono nx2) ea fun σ2 rs2 bt => ?_
          refine ⟨by rw [wipe_but (bt.mono hv), wipe_wipe], ?_⟩
          have nx12 := nx1.trans nx2
          refine ⟨ρ2, α1, θ1, _, ⟨ok2, at1.nx.trans nx2⟩, rs2, q1, fun b θ3 α3 H3 q3 ok3 nx3 => ?_⟩
          cases b with
          | false => exact iteF ⟨α3, θ3, ⟨ok3, (at1.nx.trans nx2).trans nx3⟩, nx12.trans nx3, q3⟩
          | true =>
            refine iteT ⟨ρ2, α3, θ3, _, ⟨ok3, (at1.nx.trans nx2).trans nx3⟩, rs2.mono nx3, q3, fun yd θ4 α4 H4 yv q4 ok4 nx4 r4 => ?_⟩
            have nxT := (nx12.trans nx3).trans nx4
            split at q4
            · rename_i acc e4
              obtain ⟨us, h1, h2⟩ := ok4.ob θ0.length D _ (nxT.at hk) e4
              have nx5 : Nx X.K H4 α4 (upd H4 D (.lst (us ++ [yv]))) α4 := Nx.chg (ok4.ob θ0.length D _ (nxT.at hk) e4)
              refine ⟨us, h1, by rw [h2.length]; exact q4.1, α4, _, ⟨ok4.chg (ob := .lst (acc ++ [yd])) (nxT.at hk) e4 ⟨_, upd_same, (h2.mono nx5).append (.cons (r4.mono nx5) .nil)⟩, (((at1.nx.trans nx2).trans nx3).trans nx4).trans nx5⟩, nxT.trans nx5, q4.2⟩
            · exact q4.elim⟩
theorem pm_lc {elt tg iter : Expr} {ifs : List Expr} {scope : Scope} {own : List (Str × Nat)} {pos : Pos} {ms : DEnv → MX Src} {T : Tg} {cond : DEnv → MX Bool} {me : ME} (c : Cf X) (hi : PI X tg iter (tIm W ms)) (ok : BlkOk X.N X.env.scope scope own)
    (hg : ∀ (s : Shared) (H : Hp) (C : Addr) (cl : List (Str × Addr)) (fp : List Addr), PG (X.blk s H scope (compEnvC scope cl C X.env) fp) tg (gT X.K T))
    (ht : ∀ (s : Shared) (H : Hp) (C : Addr) (cl : List (Str × Addr)) (fp : List Addr), PTs (X.blk s H scope (compEnvC scope cl C X.env) fp) ifs (tMb W.calm cond))
    (he : ∀ (s : Shared) (H : Hp) (C : Addr) (cl : List (Str × Addr)) (fp : List Addr), PE (X.blk s H scope (compEnvC scope cl C X.env) fp) elt (tM W.calm me))
    (hv : ∀ i ∈ T.vars, i ∈ own.map (·.2) := by decide) (hs : ∀ x, foldedSetIterable iter X.env x = pure x := by intro _; rfl) :
    PE X (.ListComp elt [⟨tg, iter, ifs, 0⟩] scope pos) (tM W (mLc ms T cond me (own.map (·.2)))) := pe_w (pe_lc c.calm c.nd hi ok hg ht he hs) (tm_lc hv)
theorem sm_lc {i : Nat} {y : Str} {py : Pos} {elt tg iter : Expr} {ifs : List Expr} {scope : Scope} {own : List (Str × Nat)} {pos spos : Pos} {ms : DEnv → MX Src} {T : Tg} {cond : DEnv → MX Bool} {me : ME} (c : Cf X) (hy : X.N[i]? = some y) (hyl : X.env.scope.names.lookup y = some .local)
    (hsw : swapsWith (.ListComp elt [⟨tg, iter, ifs, 0⟩] scope pos) (some (.Name y py)) spos.line X.env = pure true) (hi : PI X tg iter (tIm W ms)) (ok : BlkOk X.N X.env.scope scope own)
    (hg : ∀ (s : Shared) (H : Hp) (C : Addr) (cl : List (Str × Addr)) (fp : List Addr), PG (X.blk s H scope (compEnvC scope cl C X.env) fp) tg (gT X.K T))
    (ht : ∀ (s : Shared) (H : Hp) (C : Addr) (cl : List (Str × Addr)) (fp : List Addr), PTs (X.blk s H scope (compEnvC scope cl C X.env) fp) ifs (tMb W.calm cond))
    (he : ∀ (s : Shared) (H : Hp) (C : Addr) (cl : List (Str × Addr)) (fp : List Addr), PE (X.blk s H scope (compEnvC scope cl C X.env) fp) elt (tM W.calm me))
    (hv : ∀ i ∈ T.vars, i ∈ own.map (·.2) := by decide) (hs : ∀ x, foldedSetIterable iter X.env x = pure x := by intro _; rfl) :
    PS X (.Assign [.Name y py] (.ListComp elt [⟨tg, iter, ifs, 0⟩] scope pos) spos) (tS W (sSet i (mLc ms T cond me (own.map (·.2))))) := sm_setLc (ps_setLc c.calm c.nd hy hyl hsw hi ok hg ht he hs) (tm_lc hv)
theorem btm_nil : PTs X [] (tMb W bYes) := ⟨fun pins s σ H Q I ⟨ρ, α, θ, Qm, at', rs, q, u⟩ => pts_nil.run pins s σ H Q I (u true θ α H q at'.ok Nx.refl)⟩
theorem btm_one {e : Expr} {b : DEnv → MX Bool} (h : PT X e (tMb W b)) : PTs X [e] (tMb W b) := pts_one h
theorem pim_vals {tg e : Expr} {a : ME} {apos cpos : Pos} (he : PE X e (tM W a)) (hbase : attributeBase e "values" X.env (eval e X.env) = eval e X.env := by rfl) (hline : (apos.endLine == cpos.line) = true := by rfl) :
    PI X tg (.Call (.Attribute e "values" apos) [] [] cpos) (tIm W (srcVals a)) := pi_w (pi_vl he hbase hline) fun σ H R ⟨ρ, α, θ, Qm, at', rs, q, k⟩ => ⟨ρ, α, θ, _, at', rs, q, fun d θ1 α1 H1 v q1 ok1 nx1 r1 => by
  change vk d W.En θ1 Qm at q1
  unfold vk at q1
  split at q1
  · rename_i j
    unfold Rp at r1
    obtain ⟨p, ep, rfl⟩ := r1
    split at q1
    · rename_i kvs e2
      obtain ⟨vs, o, h1, h2⟩ := ok1.ob j p _ ep e2
      refine ⟨p, o, vs.map Prod.snd, rfl, .inl ⟨vs, h1, rfl⟩, k _ θ1 α1 H1 q1 ok1 nx1 _ (walks_rps ep fun H2 α2 θ2 nx2 ok2 ds hd => ?_)⟩
      have hz := nx2.fz p o _ h1
      refine ⟨vs.map Prod.snd, ?_, fun i hi => ⟨.inl ⟨vs, hz, rfl⟩, hi⟩, fun i x H3 y => show H3 = H2 ∧ (vs.map Prod.snd)[i]? = some x from y, fun i hi => ⟨.inl ⟨vs, hz, rfl⟩, hi⟩⟩
      split at hd
      · rename_i kvs2 e3
        obtain ⟨vs2, o2, h3, h4⟩ := ok2.ob j p _ (nx2.at ep) e3
        rw [hz] at h3
        cases h3
        rw [← hd]
        exact h4.snd
      · rename_i kvs2 e3
        obtain ⟨vs2, o2, h3, h4⟩ := ok2.ob j p _ (nx2.at ep) e3
        rw [hz] at h3
        cases h3
      · exact hd.elim
    · rename_i kvs e2
      obtain ⟨vs, o, h1, h2⟩ := ok1.ob j p _ ep e2
      refine ⟨p, o, vs.map Prod.snd, rfl, .inr ⟨vs, h1, rfl⟩, k _ θ1 α1 H1 q1 ok1 nx1 _ (walks_rps ep fun H2 α2 θ2 nx2 ok2 ds hd => ?_)⟩
      have hz := nx2.fz p o _ h1
      refine ⟨vs.map Prod.snd, ?_, fun i hi => ⟨.inr ⟨vs, hz, rfl⟩, hi⟩, fun i x H3 y => show H3 = H2 ∧ (vs.map Prod.snd)[i]? = some x from y, fun i hi => ⟨.inr ⟨vs, hz, rfl⟩, hi⟩⟩
      split at hd
      · rename_i kvs2 e3
        obtain ⟨vs2, o2, h3, h4⟩ := ok2.ob j p _ (nx2.at ep) e3
        rw [hz] at h3
        cases h3
      · rename_i kvs2 e3
        obtain ⟨vs2, o2, h3, h4⟩ := ok2.ob j p _ (nx2.at ep) e3
        rw [hz] at h3
        cases h3
        rw [← hd]
        exact h4.snd
      · exact hd.elim
    · exact q1.elim
  · exact q1.elim⟩
/-! ### lock -/
theorem okk_lock {K : PySem.W.Frag} {H : Hp} {α : List Addr} {θ : Th} {k : Nat} {p : Addr} {o f : Ob} {u : HO} {od : Obj} (ok : Okk K H α θ) (e1 : α[k]? = some p) (e2 : θ[k]? = some o) (hl : lockOb o = some f) (hu : H p = some u) (hm : Mut (some u)) :
    Okk K (upd H p (.frz od u)) α (θ.set k f) ∧ Nx K H α (upd H p (.frz od u)) α := by
  have r := ok.ob k p o e1 e2
  have lv : o.live = true := by cases o <;> first | rfl | cases hl
  have nx : Nx K H α (upd H p (.frz od u)) α := Nx.chg r lv
  refine ⟨ok.chg e1 e2 ?_ lv, nx⟩
  cases o with
  | dK kvs =>
    cases hl
    obtain ⟨vs, h1, h2⟩ := r
    rw [hu] at h1
    cases h1
    exact ⟨vs, od, upd_same, h2.mono nx⟩
  | dT kvs =>
    cases hl
    obtain ⟨vs, h1, h2⟩ := r
    rw [hu] at h1
    cases h1
    exact ⟨vs, od, upd_same, h2.mono nx⟩
  | _ => cases hl
theorem pm_lock {e : Expr} {i : Nat} {m : ME} (h : PE X e (tM W m)) : PE X e (tM W (mLock i m)) := pe_w (pe_lock h) fun σ H Q ⟨ρ, α, θ, Qm, at', rs, q, u⟩ => by
  unfold mLock at q
  split at q
  · rename_i k ei
    split at q
    · rename_i o eo
      split at q
      · rename_i f hl
        obtain ⟨p, ep⟩ := at'.ok.addr eo
        obtain ⟨uo, hu⟩ := (at'.ok.ob k p o ep eo).some
        have hm : Mut (some uo) := by
          have r := at'.ok.ob k p o ep eo
          cases o with
          | dK kvs => obtain ⟨vs, h1, _⟩ := r; rw [hu] at h1; cases h1; trivial
          | dT kvs => obtain ⟨vs, h1, _⟩ := r; rw [hu] at h1; cases h1; trivial
          | _ => cases hl
        refine ⟨p, uo, hu, hm, fun od => ?_⟩
        obtain ⟨ok1, nx1⟩ := okk_lock (od := od) at'.ok ep eo hl hu hm
        refine ⟨ρ, α, _, _, ⟨ok1, at'.nx.trans nx1⟩, rs.mono nx1, q, fun d θ2 α2 H2 v q2 ok2 nx2 r2 => ?_⟩
        have hz : H2 p = some (.frz od uo) := nx2.fz p od uo upd_same
        refine ⟨hz, ?_⟩
        have ep2 := nx2.at ep
        obtain ⟨e2, q2⟩ := q2
        have nw : Nw H2 α2 (upd H2 p uo) α2 := ⟨⟨[], by simp⟩, fun q us h => by rw [upd_ne (fun z => by subst z; rw [hz] at h; cases h)]; exact h, fun q o' us h => by
          rw [upd_ne (fun z => by
            subst z
            rw [hz] at h
            cases h
            cases o with
            | dK kvs => obtain ⟨vs, h1, _⟩ := at'.ok.ob k _ _ ep eo; rw [hu] at h1; cases h1
            | dT kvs => obtain ⟨vs, h1, _⟩ := at'.ok.ob k _ _ ep eo; rw [hu] at h1; cases h1
            | _ => cases hl)]
          exact h, fun q o' us h => by
          rw [upd_ne (fun z => by
            subst z
            rw [hz] at h
            cases h
            cases o with
            | dK kvs => obtain ⟨vs, h1, _⟩ := at'.ok.ob k _ _ ep eo; rw [hu] at h1; cases h1
            | dT kvs => obtain ⟨vs, h1, _⟩ := at'.ok.ob k _ _ ep eo; rw [hu] at h1; cases h1
            | _ => cases hl)]
          exact h⟩
        have ok3 : Okk X.K (upd H2 p uo) α2 (θ2.set k o) := by
          refine ⟨by simp [ok2.len], ok2.nd, fun j q w f1 f2 => ?_⟩
          by_cases hj : k = j
          · subst hj
            rw [List.getElem?_set_self (List.getElem?_eq_some_iff.mp e2).1] at f2
            rw [ep2] at f1
            cases f1
            cases f2
            have r := ok2.ob k p f ep2 e2
            cases o with
            | dK kvs =>
              cases hl
              obtain ⟨vs, o', h1, h2⟩ := r
              rw [hz] at h1
              cases h1
              exact ⟨vs, upd_same, h2.monoW nw⟩
            | dT kvs =>
              cases hl
              obtain ⟨vs, o', h1, h2⟩ := r
              rw [hz] at h1
              cases h1
              exact ⟨vs, upd_same, h2.monoW nw⟩
            | _ => cases hl
          · rw [List.getElem?_set_ne hj] at f2
            refine (ok2.ob j q w f1 f2).monoW nw (upd_ne fun z => ?_)
            subst z
            obtain ⟨a1, b1⟩ := List.getElem?_eq_some_iff.mp ep2
            obtain ⟨a2, b2⟩ := List.getElem?_eq_some_iff.mp f1
            exact hj ((List.getElem_inj ok2.nd).mp (b1.trans b2.symm))
        have nx12 := nx1.trans nx2
        have nx3 : Nx X.K H α (upd H2 p uo) α2 := ⟨nx12.ext, fun q us h => by
            rw [upd_ne (fun z => by subst z; rw [hu] at h; cases h; exact hm)]
            exact nx12.tup q us h, fun q fs h => by
            rw [upd_ne (fun z => by subst z; rw [hu] at h; cases h; exact hm)]
            exact nx12.xd q fs h, fun q o' w h => by
            rw [upd_ne (fun z => by subst z; rw [hu] at h; cases h; exact hm)]
            exact nx12.fz q o' w h⟩
        exact u d _ α2 _ v q2 ok3 nx3 (r2.monoW nw)
      · exact q.elim
    · exact q.elim
  · exact q.elim
end
end Mn

/-! Mn9: calls of built-ins and of built-in types' methods. -/
namespace Mn
open PySem PySem.Spec PyProof.Rows L2

section
variable {X : Cx} {W : Wd X.K X.mg}
def rMc (W : Wd X.K X.mg) (c : List Dv → MX Dv) : List V → Hp → VK → Prop := fun xs H Q => ∃ α θ ds Qm, At W H α θ ∧ Rps X.K H α ds xs ∧ c ds W.En θ Qm ∧ Up X.K H α Qm Q
def CallM (W : Wd X.K X.mg) (f : Value) (c : List Dv → MX Dv) : Prop := CallR X f (rMc W c)
theorem CallR.w {f : Value} {r r' : List V → Hp → VK → Prop} (h : CallR X f r) (w : ∀ xs H Q, r' xs H Q → r xs H Q) : CallR X f r' := fun pins s σ H xs us Q I r q => h pins s σ H xs us Q I r (w xs H Q q)
theorem cm_of {f : Value} {r : List V → Hp → VK → Prop} {c : List Dv → MX Dv} (h : CallR X f r) (w : ∀ {H : Hp} {α : List Addr} {θ : Th} {ds : List Dv} {xs : List V} {Qm : Dv → Th → Prop} {Q : VK}, At W H α θ → Rps X.K H α ds xs → c ds W.En θ Qm → Up X.K H α Qm Q → r xs H Q) : CallM W f c :=
  CallR.w h fun xs H Q ⟨_, _, _, _, h1, h2, h3, h4⟩ => w h1 h2 h3 h4
def mCall (c : List Dv → MX Dv) (ms : DEnv → MX (List Dv)) : ME := fun ρ => do c (← ms ρ)
theorem tm_call {c : List Dv → MX Dv} {ms : DEnv → MX (List Dv)} (σ : L2.St) (H : Hp) (Q : VK) : tM W (mCall c ms) σ H Q → tCB (rMc W c) (tMs W ms) σ H Q := fun ⟨ρ, α, θ, Qm, at', rs, q, u⟩ =>
  ⟨ρ, α, θ, _, at', rs, q, fun ds θ1 α1 H1 vs q1 ok1 nx1 r1 => ⟨α1, θ1, ds, Qm, ⟨ok1, at'.nx.trans nx1⟩, r1, q1, u.mono nx1⟩⟩
/-! ### one argument -/
def k1 (f : Dv → MX Dv) : List Dv → MX Dv
  | [d] => f d
  | _ => MX.stuck
def lenD (d : Dv) : MX Dv := fun _ θ Q => match d with
  | .tup ds => Q (.int ds.length) θ
  | .scr ns => Q (.int ns.length) θ
  | .pt ds => Q (.int ds.length) θ
  | .st ds => Q (.int ds.length) θ
  | .str z => z.length ≤ sizeLine ∧ Q (.int z.length) θ
  | .obj k => (match θ[k]? with
    | some (.lst ds) => Q (.int ds.length) θ
    | some (.dK kvs) => Q (.int kvs.length) θ
    | _ => False)
  | _ => False
theorem scr_sq {K : PySem.W.Frag} {H : Hp} {p : Addr} {xs : List V} (h : Scr K H p xs) : SqL K H p xs := by
  rcases h with ⟨o, h⟩ | h
  · exact .inl (.inr ⟨o, h⟩)
  · rcases h with (h | ⟨o, h⟩) | h
    · cases h
    · cases h
    · exact .inr h
theorem call_len_dK : CallR X (.builtin "len") (fun xs H Q => ∃ a kvs, xs = [V.ref a] ∧ H a = some (.dK kvs) ∧ Q (.int (kvs.length : Nat)) H) := fun pins s σ H xs us Q I r h => call_lenD pins s σ H xs us Q I r h
theorem cm_len : CallM W (.builtin "len") (k1 lenD) := cm_of (CallR.or call_len_seq (CallR.or call_len_str call_len_dK)) fun {H α θ ds xs Qm Q} a r q u => by
  unfold k1 at q
  split at q
  · rename_i d
    obtain ⟨x, rfl, rx⟩ := one_of r
    unfold lenD at q
    split at q
    · rename_i es
      obtain ⟨p, vs, rfl, h1, h2⟩ := rp_tup rx
      exact .inl ⟨p, vs, rfl, .inr (SqT.of h1), up_same u a q (by rw [h2.length]; exact rp_int)⟩
    · rename_i ns
      unfold Rp at rx
      obtain ⟨p, rfl, hq⟩ := rx
      exact .inl ⟨p, _, rfl, .inl (scr_sq hq), up_same u a q (by rw [List.length_map]; exact rp_int)⟩
    · rename_i es
      unfold Rp at rx
      obtain ⟨p, vs, o, rfl, h1, _, h2⟩ := rx
      exact .inl ⟨p, vs, rfl, .inr (SqT.fz h1), up_same u a q (by rw [h2.length]; exact rp_int)⟩
    · rename_i es
      unfold Rp at rx
      obtain ⟨p, vs, rfl, h1, h2⟩ := rx
      exact .inl ⟨p, vs, rfl, .inr h1.sq, up_same u a q (by rw [h2.length]; exact rp_int)⟩
    · rename_i z
      cases of_str rx
      exact .inr (.inl ⟨z, rfl, q.1, up_same u a q.2 rp_int⟩)
    · rename_i k
      unfold Rp at rx
      obtain ⟨p, ep, rfl⟩ := rx
      split at q
      · rename_i es e2
        obtain ⟨vs, h1, h2⟩ := a.ok.ob k p _ ep e2
        exact .inl ⟨p, vs, rfl, .inl (SqL.of h1), up_same u a q (by rw [h2.length]; exact rp_int)⟩
      · rename_i kvs e2
        obtain ⟨vs, h1, h2⟩ := a.ok.ob k p _ ep e2
        exact .inr (.inr ⟨p, vs, rfl, h1, up_same u a q (by rw [h2.length]; exact rp_int)⟩)
      · exact q.elim
    · exact q.elim
  · exact False.elim q
def intD : Dv → MX Dv
  | .int i => ret (.int i)
  | .bl b => ret (.int (if b then 1 else 0))
  | _ => MX.stuck
theorem cm_int : CallM W (.type "int") (k1 intD) := cm_of call_int1 fun {H α θ ds xs Qm Q} a r q u => by
  unfold k1 at q
  split at q
  · rename_i d
    obtain ⟨x, rfl, rx⟩ := one_of r
    cases d with
    | int i => cases of_int rx; exact .inl ⟨i, rfl, up_same u a q rp_int⟩
    | bl b => cases of_bl rx; exact .inr ⟨b, rfl, up_same u a q rp_int⟩
    | _ => exact False.elim q
  · exact False.elim q
/-! tuple(..), list(..) -/
theorem collect_kdl {prog : Program} {w : World} {A : Around} {E : Value → Shared → Prop} {s : Shared} {T : String} {r d : Addr} {n : Nat} {P : Nat → Value → Prop} {OK : Heap → Prop} {Q : List Value → Shared → Prop} (S : PySem.W.KdlSrc prog w T r d n P OK) (hh : A.handled = none) (hok : OK s.heap) (hn : n ≤ sizeLine)
    (hQ : ∀ (h' : Heap) (tk : Nat) (acc : Array Value), (∀ b o, s.heap.get? b = some o → h'.get? b = some o) → ItemsOf P acc n → Q acc.toList { s with heap := h', toks := tk }) :
    wpAny (model prog w) A (collect (.ref r)) Q E s := by
  unfold collect
  refine wpAny_bind (wpAny_runValue (codeAny_builtin F.entry_proto_collect ?_))
  rw [Around.under_plainId F.plain_proto_collect _]
  show wpAny _ A.in1 (newList [] >>= fun l => again (.builtin "list.__iadd__" ⟨[l, .ref r], []⟩)) _ _ s
  refine wpAny_bind (wpAny_newObj_type ?_)
  refine wpAny_pure ⟨plainId_quiet F.plain_list_iadd _, codeAny_builtin F.entry_list_iadd ?_⟩
  rw [Around.under_plainId F.plain_list_iadd _]
  show wpAny _ A.in1 (Builtin.List.listExtendWith (.ref s.heap.objs.size) (.ref r) (.ref s.heap.objs.size)) _ _ _
  have hS : (s.heap.push { cls := .type "list", data := .seq ([] : List Value).toArray }).get? s.heap.objs.size = some { cls := .type "list", data := .seq #[] 0 } := Heap.get?_push_size _ rfl
  have lt := S.there _ hok
  have hok' : OK (s.heap.push { cls := .type "list", data := .seq ([] : List Value).toArray }) := S.keep _ _ hok fun b _ o e => Heap.get?_push_of_some _ e
  refine wpAny_mono (PySem.W.kdl_extend (A := A) (R := fun rr s' => rr = .ok (.ret (.ref s.heap.objs.size)) ∧ ∃ (h' : Heap) (tk : Nat) (acc : Array Value) (c' : Nat), s' = { s with heap := h', toks := tk } ∧
      (∀ b o, s.heap.get? b = some o → h'.get? b = some o) ∧ h'.get? s.heap.objs.size = some { cls := .type "list", dict := none, data := .seq acc c', slots := #[] } ∧ ItemsOf P acc n)
    (s := { s with heap := s.heap.push { cls := .type "list", data := .seq ([] : List Value).toArray } }) S hh hok' _ (Nat.ne_of_gt lt.1) (Nat.ne_of_gt lt.2) _ 0 hS
    (fun h' tk acc c' hk e hi => ⟨rfl, h', tk, acc, c', rfl, fun b o q => hk b o (Nat.ne_of_lt (Heap.lt_size q)) (Heap.get?_push_of_some _ q), e, hi⟩) hn) ?_ ?_
  · intro fin s' h
    cases fin with
    | done f =>
      obtain ⟨e, h', tk, acc, c', rfl, hk, hS', hi⟩ := h
      cases e
      show wpAny _ A (load s.heap.objs.size >>= _) _ _ _
      exact wpAny_bind (wpAny_load hS' (wpAny_pure (hQ h' tk acc hk hi)))
    | again c' =>
      refine ⟨h.1, codeAny_mono h.2 ?_⟩
      rintro rr s'' ⟨rfl, h', tk, acc, c', rfl, hk, hS', hi⟩
      show wpAny _ A (load s.heap.objs.size >>= _) _ _ _
      exact wpAny_bind (wpAny_load hS' (wpAny_pure (hQ h' tk acc hk hi)))
  · intro e s' h
    exact absurd h.1 (by simp)
theorem code_tup_kdl {prog : Program} {w : World} {A : Around} {E : Value → Shared → Prop} {s : Shared} {T : String} {r d : Addr} {n : Nat} {P : Nat → Value → Prop} {OK : Heap → Prop} {Q₁ : Value → Shared → Prop} (S : PySem.W.KdlSrc prog w T r d n P OK) (hh : A.handled = none) (hok : OK s.heap) (hn : n ≤ sizeLine)
    (h : ∀ (h' : Heap) (tk : Nat) (acc : Array Value), (∀ b o, s.heap.get? b = some o → h'.get? b = some o) → ItemsOf P acc n → Q₁ (.ref h'.objs.size) { s with heap := h'.push { cls := .type "tuple", data := .seq acc }, toks := tk }) :
    codeAny (model prog w) A (.call (.builtin "tuple.__new__") ⟨[.type "tuple", .ref r], []⟩) (wants Q₁ E) s := by
  refine codeAny_of_tree ?_
  show wpAny _ A.in1 (do checkBuiltinCall "tuple.__new__" ⟨[.type "tuple", .ref r], []⟩; again (.builtin "tuple.__new__" ⟨[.type "tuple", .ref r], []⟩)) _ _ s
  refine wpAny_bind (wpAny_of_eq (F.newCall_tuple_1 _) (wpAny_pure ⟨plainId_quiet F.plain_tuple_new _, codeAny_builtin F.entry_tuple_new ?_⟩))
  rw [Around.under_plainId F.plain_tuple_new _]
  have hsub := sub_tuple_self
  have hinit := init_tuple_lookup
  have hmh := madeHere_tuple
  have hTI : s.TypeIs (.ref r) T := S.type s hok
  have hh1 : A.in1.handled = none := hh
  have hnt : (Value.type T == Value.type "tuple") = false := S.notTuple
  wp_walk using wpAny_typeOf hTI, collect_kdl (A := A.in1) S hh1 hok hn
  intro h' tk acc hk hacc
  show wpAny _ _ (Builtin.Tuple.tupleExact acc.toList.toArray >>= fun v => PySem.ret v) _ _ _
  unfold Builtin.Tuple.tupleExact
  refine wpAny_bind (wpAny_newObj_type ?_ (by show acc.toList.toArray.size ≤ sizeLine; simp only [Array.toArray_toList]; rw [hacc.1]; exact hn))
  refine wpAny_pure ?_
  have e : acc.toList.toArray = acc := by simp
  rw [e]
  exact h h' tk acc hk hacc
theorem call_tup_dK (hc : X.calm = true) : CallR X (.type "tuple") (fun xs H Q => ∃ p kvs, xs = [V.ref p] ∧ H p = some (.dK kvs) ∧ ∀ q, H q = none → Q (.ref q) (upd H q (.tup (kvs.map fun kv => kV kv.1)))) := by
  rintro pins s σ H xs us Q I r ⟨p, kvs, e, hk, q⟩
  subst e
  obtain ⟨u, eu, rx⟩ := vals1 r
  subst eu
  obtain rfl : u = Value.ref p := rx
  obtain ⟨z, lo, vs, rk, hd⟩ := (show ObjOk X.prog X.w H s.heap p (.dK kvs) from I.hok p _ hk)
  obtain ⟨ep, hat⟩ := hd.dictAt
  have hl : kvs.length = vs.length := Paired.length rk
  have S := PySem.W.kdl_dict (knd := mixKind X.prog X.w) (kvs := vs) (ep := ep) lo
  refine callType_codes (Q₁ := fun obj s₁ => s₁.TypeIs obj "tuple" ∧ EP X pins σ Q obj s₁) F.called_tuple (F.typeCall_tuple_1 _) F.entry_object_init
    (code_tup_kdl (A := X.A.in1) S (I.ok.hd hc) hat (by rw [← hl]; exact z) fun h' tk acc hk' hacc => ⟨⟨_, Heap.get?_push_size _ rfl, rfl⟩, ?_⟩) fun obj s₁ h₁ => ?_
  · have I1 : Inv X pins σ H { s with heap := h', toks := tk } := I.kept (t' := tk) hk'
    have new : Vals (kvs.map fun kv => kV kv.1) acc.toList := by
      have el : acc.toList.length = acc.size := by simp
      refine vals_of_at (by rw [List.length_map, el, hacc.1, hl]) fun j x w h1 h2 => ?_
      obtain ⟨k, y, hky, hi⟩ := hacc.2 j w (by rw [← Array.getElem?_toList]; exact h2)
      have e1 : (kvs.map (·.1))[j]? = some k := by
        rw [KV.keys rk, List.getElem?_map, hky] <;> rfl
      have e3 : (kvs.map fun kv => kV kv.1) = (kvs.map (·.1)).map kV := by
        rw [List.map_map]
        rfl
      rw [e3, List.getElem?_map, e1] at h1
      cases h1
      exact keyIs_rel hi
    have I2 : Inv X pins σ (upd H h'.objs.size (.tup (kvs.map fun kv => kV kv.1))) { s with heap := h'.push { cls := .type "tuple", data := .seq acc }, toks := tk } :=
      I1.laid (t' := tk) (fun b o e => Heap.get?_push_of_some _ e) (Nat.le_refl _) (show ObjOk X.prog X.w _ _ _ (.tup (kvs.map fun kv => kV kv.1)) from ⟨by rw [List.length_map]; exact z, acc.toList, new, ⟨_, Heap.get?_push_size _ rfl, rfl, 0, by simp⟩⟩)
    exact ⟨.ref h'.objs.size, _, I2, rfl, q _ (I1.hok.fresh (Nat.le_refl _))⟩
  · exact ⟨h₁.1, F.args_object_init_2 obj _, object_init_meets F.called_tuple.init.lookup F.called_tuple.made (by decide) X.prog X.w X.A.in1 _ s₁ ⟨h₁.1, rfl, h₁.2⟩⟩
def keyD : Key → Dv
  | .inl i => .int i
  | .inr s => .str s
theorem rp_keyD {K : PySem.W.Frag} {H : Hp} {α : List Addr} (k : Key) : Rp K H α (keyD k) (kV k) := by
  cases k
  · exact rp_int
  · exact rp_str
theorem rps_keys {K : PySem.W.Frag} {H : Hp} {α : List Addr} : ∀ {ds : List (Key × Dv)} {vs : List (Key × V)}, RpK K H α ds vs → Rps K H α (ds.map fun kv => keyD kv.1) (vs.map fun kv => kV kv.1)
  | [], _, h => by unfold RpK at h; subst h; exact Rps.nil
  | (k, d) :: ds, _, h => by
    unfold RpK at h
    obtain ⟨v, r, rfl, h1, h2⟩ := h
    exact Rps.cons (rp_keyD k) (rps_keys h2)
def tupD (d : Dv) : MX Dv := fun _ θ Q => match d with
  | .tup ds => Q (.tup ds) θ
  | .obj k => (match θ[k]? with
    | some (.lst ds) => Q (.tup ds) θ
    | some (.dK kvs) => Q (.tup (kvs.map fun kv => keyD kv.1)) θ
    | _ => False)
  | _ => False
theorem cm_tup (c : Cf X) : CallM W (.type "tuple") (k1 tupD) := cm_of (CallR.or call_tuple_of (call_tup_dK c.calm)) fun {H α θ ds xs Qm Q} a r q u => by
  unfold k1 at q
  split at q
  · rename_i d
    obtain ⟨x, rfl, rx⟩ := one_of r
    unfold tupD at q
    split at q
    · rename_i es
      obtain ⟨p, vs, rfl, h1, h2⟩ := rp_tup rx
      exact .inl ⟨p, vs, rfl, .inr ⟨SqT.of h1, up_same u a q rx⟩⟩
    · rename_i k
      unfold Rp at rx
      obtain ⟨p, ep, rfl⟩ := rx
      split at q
      · rename_i es e2
        obtain ⟨vs, h1, h2⟩ := a.ok.ob k p _ ep e2
        exact .inl ⟨p, vs, rfl, .inl ⟨SqL.of h1, up_tup u a q h2⟩⟩
      · rename_i kvs e2
        obtain ⟨vs, h1, h2⟩ := a.ok.ob k p _ ep e2
        exact .inr ⟨p, vs, rfl, h1, up_tup u a q (rps_keys h2)⟩
      · exact q.elim
    · exact q.elim
  · exact False.elim q
def lstD (d : Dv) : MX Dv := fun _ θ Q => match d with
  | .tup ds => Q (.obj θ.length) (θ ++ [.lst ds])
  | .obj k => (match θ[k]? with
    | some (.lst ds) => Q (.obj θ.length) (θ ++ [.lst ds])
    | some (.dK kvs) => Q (.obj θ.length) (θ ++ [.lst (kvs.map fun kv => keyD kv.1)])
    | _ => False)
  | _ => False
/-! ### over lists of ints, of bools -/
def intsD : List Dv → Option (List Int)
  | [] => some []
  | .int i :: r => (intsD r).map (i :: ·)
  | _ :: _ => none
def boolsD : List Dv → Option (List Bool)
  | [] => some []
  | .bl i :: r => (boolsD r).map (i :: ·)
  | _ :: _ => none
theorem intsD_v {K : PySem.W.Frag} {H : Hp} {α : List Addr} : ∀ {ds : List Dv} {ns : List Int} {vs : List V}, intsD ds = some ns → Rps K H α ds vs → vs = ns.map V.int
  | [], _, _, e, r => by unfold Rps at r; subst r; cases e; rfl
  | d :: ds, ns, vs, e, r => by
    unfold Rps at r
    obtain ⟨v, us, rfl, h1, h2⟩ := r
    cases d with
    | int i =>
      unfold intsD at e
      obtain ⟨ms, e2, rfl⟩ := Option.map_eq_some_iff.mp e
      rw [of_int h1, intsD_v e2 h2]
      rfl
    | _ => simp [intsD] at e
theorem boolsD_v {K : PySem.W.Frag} {H : Hp} {α : List Addr} : ∀ {ds : List Dv} {ns : List Bool} {vs : List V}, boolsD ds = some ns → Rps K H α ds vs → vs = ns.map V.bl
  | [], _, _, e, r => by unfold Rps at r; subst r; cases e; rfl
  | d :: ds, ns, vs, e, r => by
    unfold Rps at r
    obtain ⟨v, us, rfl, h1, h2⟩ := r
    cases d with
    | bl i =>
      unfold boolsD at e
      obtain ⟨ms, e2, rfl⟩ := Option.map_eq_some_iff.mp e
      rw [of_bl h1, boolsD_v e2 h2]
      rfl
    | _ => simp [boolsD] at e
theorem rps_ints {K : PySem.W.Frag} {H : Hp} {α : List Addr} : ∀ ns : List Int, Rps K H α (ns.map Dv.int) (ns.map V.int)
  | [] => Rps.nil
  | _ :: r => Rps.cons rp_int (rps_ints r)
/-- a list of ints at k: f of them -/
def onInts (f : List Int → MX Dv) (d : Dv) : MX Dv := fun E θ Q => match d with
  | .obj k => (match θ[k]? with
    | some (.lst ds) => (match intsD ds with
      | some ns => f ns E θ Q
      | none => False)
    | _ => False)
  | _ => False
def onBools (f : List Bool → MX Dv) (d : Dv) : MX Dv := fun E θ Q => match d with
  | .obj k => (match θ[k]? with
    | some (.lst ds) => (match boolsD ds with
      | some ns => f ns E θ Q
      | none => False)
    | _ => False)
  | _ => False
theorem onInts_up {H : Hp} {α : List Addr} {θ : Th} {f : List Int → MX Dv} {d : Dv} {x : V} {E : Exn → Th → Prop} {Qm : Dv → Th → Prop} (ok : Okk X.K H α θ) (r : Rp X.K H α d x) (q : onInts f d E θ Qm) : ∃ p ns, x = .ref p ∧ SqL X.K H p (ns.map V.int) ∧ f ns E θ Qm := by
  unfold onInts at q
  split at q
  · rename_i k
    unfold Rp at r
    obtain ⟨p, ep, rfl⟩ := r
    split at q
    · rename_i ds e2
      obtain ⟨vs, h1, h2⟩ := ok.ob k p _ ep e2
      split at q
      · rename_i ns e3
        have := intsD_v e3 h2
        subst this
        exact ⟨p, ns, rfl, SqL.of h1, q⟩
      · exact q.elim
    · exact q.elim
  · exact q.elim
theorem onBools_up {H : Hp} {α : List Addr} {θ : Th} {f : List Bool → MX Dv} {d : Dv} {x : V} {E : Exn → Th → Prop} {Qm : Dv → Th → Prop} (ok : Okk X.K H α θ) (r : Rp X.K H α d x) (q : onBools f d E θ Qm) : ∃ p ns, x = .ref p ∧ SqL X.K H p (ns.map V.bl) ∧ f ns E θ Qm := by
  unfold onBools at q
  split at q
  · rename_i k
    unfold Rp at r
    obtain ⟨p, ep, rfl⟩ := r
    split at q
    · rename_i ds e2
      obtain ⟨vs, h1, h2⟩ := ok.ob k p _ ep e2
      split at q
      · rename_i ns e3
        have := boolsD_v e3 h2
        subst this
        exact ⟨p, ns, rfl, SqL.of h1, q⟩
      · exact q.elim
    · exact q.elim
  · exact q.elim
def sumL (ns : List Int) : MX Dv := ret (.int ns.sum)
def anyL (bs : List Bool) : MX Dv := ret (.bl (bs.any id))
def allL (bs : List Bool) : MX Dv := ret (.bl (bs.all id))
def maxL (ns : List Int) : MX Dv := fun _ θ Q => 0 < ns.length ∧ ∀ m, m ∈ ns → (∀ y, y ∈ ns → y ≤ m) → Q (.int m) θ
def sortL (ns : List Int) : MX Dv := fun _ θ Q => ∀ ns' : List Int, ns'.Perm ns → ns'.Pairwise (· ≤ ·) → Q (.obj θ.length) (θ ++ [.lst (ns'.map Dv.int)])
theorem cm_any (c : Cf X) : CallM W (.builtin "any") (k1 (onBools anyL)) := cm_of (cr_any c.calm) fun {H α θ ds xs Qm Q} a r q u => by
  unfold k1 at q
  split at q
  · rename_i d
    obtain ⟨x, rfl, rx⟩ := one_of r
    obtain ⟨p, ns, rfl, h, q⟩ := onBools_up a.ok rx q
    exact ⟨p, ns, rfl, h, up_same u a q rp_bl⟩
  · exact False.elim q
theorem cm_max (c : Cf X) : CallM W (.builtin "max") (k1 (onInts maxL)) := cm_of (cr_max c.calm) fun {H α θ ds xs Qm Q} a r q u => by
  unfold k1 at q
  split at q
  · rename_i d
    obtain ⟨x, rfl, rx⟩ := one_of r
    obtain ⟨p, ns, rfl, h, q1, q2⟩ := onInts_up a.ok rx q
    exact ⟨p, ns, rfl, h, q1, fun m h1 h2 => up_same u a (q2 m h1 h2) rp_int⟩
  · exact False.elim q
def max2 : List Dv → MX Dv
  | [.int i, .int j] => ret (.int (if j > i then j else i))
  | _ => MX.stuck
theorem cm_max2 (c : Cf X) : CallM W (.builtin "max") max2 := cm_of (call_max2 c.calm) fun {H α θ ds xs Qm Q} a r q u => by
  unfold max2 at q
  split at q
  · cases ds2 r
    exact ⟨_, _, rfl, up_same u a q rp_int⟩
  · exact False.elim q
/-! ### repr -/
/-! ### isinstance of a built-in class -/
def tyO (o : Option Ob) : Option String := match o with
  | some (.lst _) => some "list"
  | some (.dK _) => some "dict"
  | some (.dT _) => some "dict"
  | _ => none
def tyD (θ : Th) : Dv → Option String
  | .non => some "NoneType"
  | .bl _ => some "bool"
  | .int _ => some "int"
  | .str _ => some "str"
  | .tup _ => some "tuple"
  | .obj k => tyO θ[k]?
  | _ => none
def mIsi (T : String) (a : ME) : ME := fun ρ => do
  let d ← a ρ
  fun _ θ Q => match tyD θ d with
    | some t => (match kitB t T with
      | some b => Q (.bl b) θ
      | none => False)
    | none => False
end
end Mn

/-! Mn10: methods, displays of dicts, chains, tuples and lists of ranges. -/
namespace Mn
open PySem PySem.Spec PyProof.Rows L2

section
variable {X : Cx} {W : Wd X.K X.mg}
/-! ### methods -/
def mMth (T : String) (f : Dv → List Dv → MX Dv) (o : ME) (ms : DEnv → MX (List Dv)) : ME := fun ρ E θ Q => o ρ E θ fun d θ1 => tyD θ1 d = some T ∧ ms ρ E θ1 fun ds θ2 => f d ds E θ2 Q
def rMt (W : Wd X.K X.mg) (f : Dv → List Dv → MX Dv) : V → List V → Hp → VK → Prop := fun x xs H Q => ∃ α θ d ds Qm, At W H α θ ∧ Rp X.K H α d x ∧ Rps X.K H α ds xs ∧ f d ds W.En θ Qm ∧ Up X.K H α Qm Q
def MthM (W : Wd X.K X.mg) (id : String) (f : Dv → List Dv → MX Dv) : Prop := MtR X id (rMt W f)
theorem mm_of {id : String} {r : V → List V → Hp → VK → Prop} {f : Dv → List Dv → MX Dv} (h : MtR X id r) (w : ∀ {H : Hp} {α : List Addr} {θ : Th} {d : Dv} {ds : List Dv} {x : V} {xs : List V} {Qm : Dv → Th → Prop} {Q : VK}, At W H α θ → Rp X.K H α d x → Rps X.K H α ds xs → f d ds W.En θ Qm → Up X.K H α Qm Q → r x xs H Q) : MthM W id f :=
  fun pins s σ H x xs v us Q I rx rs ⟨_, _, _, _, _, h1, h2, h3, h4, h5⟩ => h pins s σ H x xs v us Q I rx rs (w h1 h2 h3 h4 h5)
theorem tyV_of {T : String} (hT : T = "list" ∨ T = "dict" ∨ T = "str") {H : Hp} {α : List Addr} {θ : Th} {d : Dv} {x : V} (ok : Okk X.K H α θ) (r : Rp X.K H α d x) (h : tyD θ d = some T) : tyV X.K T x H := by
  cases d with
  | non => cases h; exact absurd hT (by decide)
  | bl b => cases h; exact absurd hT (by decide)
  | int i => cases h; exact absurd hT (by decide)
  | str z => cases of_str r; cases h; rfl
  | tup ds => cases h; exact absurd hT (by decide)
  | obj k =>
    unfold Rp at r
    obtain ⟨p, ep, rfl⟩ := r
    change tyO θ[k]? = some T at h
    unfold tyO at h
    split at h
    · rename_i ds e2
      obtain ⟨vs, h1, _⟩ := ok.ob k p _ ep e2
      cases h
      exact .inl ⟨rfl, vs, SqL.of h1⟩
    · rename_i ds e2
      obtain ⟨vs, h1, _⟩ := ok.ob k p _ ep e2
      cases h
      exact .inr (.inr (.inl ⟨rfl, .inl ⟨vs, h1⟩⟩))
    · rename_i ds e2
      obtain ⟨vs, h1, _⟩ := ok.ob k p _ ep e2
      cases h
      exact .inr (.inr (.inl ⟨rfl, .inr ⟨vs, h1⟩⟩))
    · cases h
  | _ => cases h
theorem pm_mth {T : String} {f : Dv → List Dv → MX Dv} {mo : ME} {ms : DEnv → MX (List Dv)} {e : Expr} (hT : T = "list" ∨ T = "dict" ∨ T = "str") (h : PE X e (tBM X.K T (rMt W f) (tM W mo) (tMs W ms))) : PE X e (tM W (mMth T f mo ms)) :=
  pe_w h fun σ H Q ⟨ρ, α, θ, Qm, at', rs, q, u⟩ => ⟨ρ, α, θ, _, at', rs, q, fun d θ1 α1 H1 v ⟨q0, q1⟩ ok1 nx1 r1 => ⟨tyV_of hT ok1 r1 q0, ρ, α1, θ1, _, ⟨ok1, at'.nx.trans nx1⟩, rs.mono nx1, q1, fun ds θ2 α2 H2 vs q2 ok2 nx2 r2 =>
    ⟨α2, θ2, d, ds, Qm, ⟨ok2, (at'.nx.trans nx1).trans nx2⟩, r1.mono nx2, r2, q2, u.mono (nx1.trans nx2)⟩⟩⟩
/-! lists -/
def appendD (d : Dv) (ds : List Dv) : MX Dv := fun _ θ Q => match d with
  | .obj k => (match θ[k]? with
    | some (.lst xs) => (match ds with
      | [y] => xs.length < sizeLine ∧ Q .non (θ.set k (.lst (xs ++ [y])))
      | _ => False)
    | _ => False)
  | _ => False
theorem mm_append : MthM W "list.append" appendD := mm_of (fun pins s σ H x xs v us Q I r1 r2 q => mt_append pins s σ H x xs v us Q I r1 r2 q) fun {H α θ d ds x xs Qm Q} a r rs q u => by
  unfold appendD at q
  split at q
  · rename_i k
    split at q
    · rename_i es e2
      split at q
      · rename_i y
        obtain ⟨p, vs, rfl, ep, h1, h2⟩ := a.lst e2 r
        obtain ⟨v, rfl, rv⟩ := one_of rs
        refine ⟨p, vs, v, rfl, rfl, h1, by rw [h2.length]; exact q.1, ?_⟩
        have nx := Nx.chg (K := X.K) (o := .lst (vs ++ [v])) (a.ok.ob k p _ ep e2)
        exact up_chg (ob := .lst (es ++ [y])) u a ep e2 ⟨_, upd_same, (h2.mono nx).append (.cons (rv.mono nx) .nil)⟩ q.2 rp_non
      · exact q.elim
    · exact q.elim
  · exact q.elim
/-! dict.setdefault -/
theorem d_setdT {pins : List (Addr × Obj)} {σ : L2.St} {H : Hp} {s : Shared} {a b : Addr} {kvs : List (List Key × V)} {k : List Key} {r : Value} {d : V} {A : Around} {E : Value → Shared → Prop} {Q : Value → Shared → Prop} (hu : A.units + 1 < cLine) (I : Inv X pins σ H s) (e : H a = some (.dT kvs)) (eb : H b = some (.tup (k.map kV))) (rd : RelV d r) (hl : kvs.length < sizeLine)
    (h1 : ∀ v, valV kvs k = some v → ∀ (w' : Value) (s' : Shared), Inv X pins σ H s' → RelV v w' → Q w' s') (h2 : valV kvs k = none → ∀ (w' : Value) (s' : Shared), Inv X pins σ (upd H a (.dT (putK kvs k d))) s' → RelV d w' → Q w' s') :
    wpAny (model X.prog X.w) A (call (.builtin "dict.setdefault") [.ref a, .ref b, r]) Q E s := by
  obtain ⟨z, hd, xs, rel, dd⟩ := dt_of I.hok e
  have hz : xs.length ≤ sizeLine := by rw [← Paired.length rel]; exact z
  refine call_setdefault_heap (knd := tupleKind (mixKind X.prog X.w)) (hsz := hz) (tupleKind_room_in1 hu) (key_of I.hok eb) hd dd (fun p hp => ?_) fun hn h' dd' hs => ?_
  · have q := rel.val k
    rw [hp] at q
    cases q0 : valV kvs k with
    | none =>
      rw [q0] at q
      exact (show False from q).elim
    | some v0 =>
      rw [q0] at q
      exact h1 v0 q0 _ _ (I.tok _) q
  · have q := rel.val k
    rw [hn] at q
    cases q0 : valV kvs k with
    | some v0 =>
      rw [q0] at q
      exact (show False from q).elim
    | none =>
      have hl2 : (putK kvs k d).length ≤ sizeLine := by
        have := length_putK kvs k d
        omega
      obtain ⟨q, es, ep, hq, g2, g3, g4, _, g5⟩ := dd'
      refine h2 q0 _ _ (d_write I (by rw [e]; exact True.intro) hs ⟨q, hq⟩ ⟨hl2, hd, _, (rel.put k eb rd).keeps fun c ys ec => ?_, q, es, ep, hq, g2, g3, g4, g5⟩) rd
      rw [upd_ne (ne_of ec e (fun z => nomatch z))]
      exact ec
def rSetd : V → List V → Hp → VK → Prop := fun x xs H Q => ∃ a b z kvs k, x = .ref a ∧ xs = [.ref b, z] ∧ H a = some (.dT kvs) ∧ H b = some (.tup (k.map kV)) ∧ kvs.length < sizeLine ∧
  (∀ v, valV kvs k = some v → Q v H) ∧ (valV kvs k = none → Q z (upd H a (.dT (putK kvs k z))))
theorem mt_setdT (c : Cf X) : MtR X "dict.setdefault" rSetd := by
  intro pins s σ H x xs v us Q I rx rxs h
  obtain ⟨a, b, z, kvs, k, rfl, rfl, ea, eb, hl, q1, q2⟩ := h
  cases rx
  obtain ⟨u, r, rfl, ru, rr⟩ := rxs.two
  cases ru
  have un := c.un
  exact d_setdT (by omega) I ea eb rr hl (fun v hv w' s4 I4 rw' => ⟨v, _, I4, rw', q1 v hv⟩) fun hn w' s4 I4 rw' => ⟨z, _, I4, rw', q2 hn⟩
def rSetdK : V → List V → Hp → VK → Prop := fun x xs H Q => ∃ a z kvs k, x = .ref a ∧ xs = [kV k, z] ∧ H a = some (.dK kvs) ∧ kvs.length < sizeLine ∧
  (∀ v, valV kvs k = some v → Q v H) ∧ (valV kvs k = none → Q z (upd H a (.dK (putK kvs k z))))
theorem mt_setdK : MtR X "dict.setdefault" rSetdK := by
  intro pins s σ H x xs v us Q I rx rxs h
  obtain ⟨a, z, kvs, k, rfl, rfl, ea, hl, q1, q2⟩ := h
  cases rx
  obtain ⟨u, r, rfl, ru, rr⟩ := rxs.two
  exact d_setd I ea ru rr hl (fun v hv w' s4 I4 rw' => ⟨v, _, I4, rw', q1 v hv⟩) fun hn w' s4 I4 rw' => ⟨z, _, I4, rw', q2 hn⟩
theorem MtR.or {id : String} {r r' : V → List V → Hp → VK → Prop} (h : MtR X id r) (h' : MtR X id r') : MtR X id (fun x xs H Q => r x xs H Q ∨ r' x xs H Q) := fun pins s σ H x xs v us Q I r1 r2 q => q.elim (fun q => h pins s σ H x xs v us Q I r1 r2 q) (fun q => h' pins s σ H x xs v us Q I r1 r2 q)
def setdD (d : Dv) (ds : List Dv) : MX Dv := fun _ θ Q => match d, ds with
  | .obj j, [y, z] => (match θ[j]? with
    | some (.dT kvs) => (match tKey y with
      | some k => kvs.length < sizeLine ∧ (match lookD kvs k with
        | some v => Q v θ
        | none => Q z (θ.set j (.dT (putD kvs k z))))
      | none => False)
    | some (.dK kvs) => (match fKey y with
      | some k => kvs.length < sizeLine ∧ (match lookD kvs k with
        | some v => Q v θ
        | none => Q z (θ.set j (.dK (putD kvs k z))))
      | none => False)
    | _ => False)
  | _, _ => False
theorem ds_2 {K : PySem.W.Frag} {H : Hp} {α : List Addr} {d e : Dv} {xs : List V} (r : Rps K H α [d, e] xs) : ∃ x y, xs = [x, y] ∧ Rp K H α d x ∧ Rp K H α e y := by
  unfold Rps at r
  obtain ⟨x, us, rfl, h1, r⟩ := r
  obtain ⟨y, rfl, h2⟩ := one_of r
  exact ⟨x, y, rfl, h1, h2⟩
theorem mm_setd (c : Cf X) : MthM W "dict.setdefault" setdD := mm_of (MtR.or (mt_setdT c) mt_setdK) fun {H α θ d ds x xs Qm Q} a r rs q u => by
  unfold setdD at q
  split at q
  · rename_i j y z
    obtain ⟨vy, vz, rfl, ry, rz⟩ := ds_2 rs
    unfold Rp at r
    obtain ⟨p, ep, rfl⟩ := r
    split at q
    · rename_i kvs e2
      split at q
      · rename_i k hk
        obtain ⟨vs, h1, h2⟩ := a.ok.ob j p _ ep e2
        obtain ⟨b, rfl, hb⟩ := tKey_v hk ry
        have lk := h2.look k
        refine .inl ⟨p, b, vz, vs, k, rfl, rfl, h1, hb, by rw [h2.length]; exact q.1, fun v hv => ?_, fun hn => ?_⟩
        · cases e3 : lookD kvs k with
          | none => rw [e3] at lk; rw [hv] at lk; cases lk
          | some d =>
            have q2 := q.2
            rw [e3] at lk q2
            obtain ⟨v', e4, r4⟩ := lk
            rw [hv] at e4
            cases e4
            exact up_same u a q2 r4
        · cases e3 : lookD kvs k with
          | some d => rw [e3] at lk; obtain ⟨v', e4, _⟩ := lk; rw [hn] at e4; cases e4
          | none =>
            have q2 := q.2
            rw [e3] at q2
            have nx := Nx.chg (K := X.K) (o := .dT (putK vs k vz)) (a.ok.ob j p _ ep e2)
            exact up_chg (ob := .dT (putD kvs k z)) u a ep e2 ⟨_, upd_same, (h2.put k rz).mono nx⟩ q2 (rz.mono nx)
      · exact q.elim
    · rename_i kvs e2
      split at q
      · rename_i k hk
        obtain ⟨vs, h1, h2⟩ := a.ok.ob j p _ ep e2
        have ex := fKey_v hk ry
        subst ex
        have lk := h2.look k
        refine .inr ⟨p, vz, vs, k, rfl, rfl, h1, by rw [h2.length]; exact q.1, fun v hv => ?_, fun hn => ?_⟩
        · cases e3 : lookD kvs k with
          | none => rw [e3] at lk; rw [hv] at lk; cases lk
          | some d =>
            have q2 := q.2
            rw [e3] at lk q2
            obtain ⟨v', e4, r4⟩ := lk
            rw [hv] at e4
            cases e4
            exact up_same u a q2 r4
        · cases e3 : lookD kvs k with
          | some d => rw [e3] at lk; obtain ⟨v', e4, _⟩ := lk; rw [hn] at e4; cases e4
          | none =>
            have q2 := q.2
            rw [e3] at q2
            have nx := Nx.chg (K := X.K) (o := .dK (putK vs k vz)) (a.ok.ob j p _ ep e2)
            exact up_chg (ob := .dK (putD kvs k z)) u a ep e2 ⟨_, upd_same, (h2.put k rz).mono nx⟩ q2 (rz.mono nx)
      · exact q.elim
    · exact q.elim
  · exact q.elim
/-! ### displays of dicts -/
def mDK : ME := fun _ _ θ Q => Q (.obj θ.length) (θ ++ [.dK []])
def mDT : ME := fun _ _ θ Q => Q (.obj θ.length) (θ ++ [.dT []])
theorem pm_dK {pos : Pos} : PE X (.Dict [] [] pos) (tM W mDK) := pe_w pe_dnewK fun σ H Q ⟨ρ, α, θ, Qm, at', rs, q, u⟩ p hp => by
  have nx : Nx X.K H α (upd H p (.dK [])) (α ++ [p]) := Nx.new hp _
  exact u _ _ _ _ _ q (at'.ok.new hp ⟨[], upd_same, by unfold RpK; rfl⟩) nx (rp_obj (by rw [← at'.ok.len]; simp))
theorem pm_dT {pos : Pos} : PE X (.Dict [] [] pos) (tM W mDT) := pe_w pe_dnewT fun σ H Q ⟨ρ, α, θ, Qm, at', rs, q, u⟩ p hp => by
  have nx : Nx X.K H α (upd H p (.dT [])) (α ++ [p]) := Nx.new hp _
  exact u _ _ _ _ _ q (at'.ok.new hp ⟨[], upd_same, by unfold RpK; rfl⟩) nx (rp_obj (by rw [← at'.ok.len]; simp))
/-- {a: b}, the new dict stands empty while the pair is made -/
def mDict1 (a b : ME) : ME := fun ρ E θ Q => a ρ E (θ ++ [.dK []]) fun x θ1 => b ρ E θ1 fun y θ2 => θ2[θ.length]? = some (.dK []) ∧ match fKey x with
  | some k => Q (.obj θ.length) (θ2.set θ.length (.dK [(k, y)]))
  | none => False
theorem pm_dict1 {k v : Expr} {a b : ME} {pos : Pos} (hk : PE X k (tM W a)) (hv : PE X v (tM W b)) : PE X (.Dict [some k] [v] pos) (tM W (mDict1 a b)) :=
  pe_w (pe_disp (pps_cons hk hv pps_nil) rfl rfl (by simp) (by simp)) fun σ H Q ⟨ρ, α, θ, Qm, at', rs, q, u⟩ p hp => by
    have nx : Nx X.K H α (upd H p (.dK [])) (α ++ [p]) := Nx.new hp _
    have ok := at'.ok.new (ob := .dK []) hp ⟨[], upd_same, by unfold RpK; rfl⟩
    have ep : (α ++ [p])[θ.length]? = some p := by rw [← at'.ok.len]; simp
    refine ⟨ρ, _, _, _, ⟨ok, at'.nx.trans nx⟩, rs.mono nx, q, fun x θ1 α1 H1 v1 q1 ok1 nx1 r1 => ⟨ρ, α1, θ1, _, ⟨ok1, (at'.nx.trans nx).trans nx1⟩, (rs.mono nx).mono nx1, q1, fun y θ2 α2 H2 v2 q2 ok2 nx2 r2 => ?_⟩⟩
    obtain ⟨e2, q2⟩ := q2
    have ep2 := (nx1.trans nx2).at ep
    obtain ⟨vs, h1, h2⟩ := ok2.ob _ p _ ep2 e2
    unfold RpK at h2
    subst h2
    refine ⟨h1, ?_⟩
    split at q2
    · rename_i key hk
      have ex := fKey_v hk r1
      subst ex
      have nx3 := Nx.chg (K := X.K) (o := .dK [(key, v2)]) (ok2.ob _ p _ ep2 e2)
      refine ⟨[(key, v2)], rfl, by simp, ?_⟩
      have hm : mergeK [] [(key, v2)] = [(key, v2)] := rfl
      rw [hm]
      refine u _ _ α2 _ _ q2 (ok2.chg (ob := .dK [(key, y)]) ep2 e2 ⟨_, upd_same, ?_⟩) (((nx.trans nx1).trans nx2).trans nx3) (rp_obj ep2)
      unfold RpK
      exact ⟨v2, [], rfl, r2.mono nx3, by unfold RpK; rfl⟩
    · exact q2.elim
/-! ### a < b < c -/
theorem tm_chain {o o' : Dv → Dv → MX Dv} {a b c : ME} (σ : L2.St) (H : Hp) (Q : VK) : tM W (mChain o o' a b c) σ H Q → tChain (rM2 W o) (rM2 W o') (tM W a) (tM W b) (tM W c) σ H Q := fun ⟨ρ, α, θ, Qm, at', rs, q, u⟩ =>
  ⟨ρ, α, θ, _, at', rs, q, fun x θ1 α1 H1 v1 q1 ok1 nx1 r1 => ⟨ρ, α1, θ1, _, ⟨ok1, at'.nx.trans nx1⟩, rs.mono nx1, q1, fun y θ2 α2 H2 v2 q2 ok2 nx2 r2 =>
    ⟨α2, θ2, x, y, _, ⟨ok2, (at'.nx.trans nx1).trans nx2⟩, r1.mono nx2, r2, q2, fun k θ3 α3 H3 v3 q3 ok3 nx3 r3 => by
      have a3 : At W H3 α3 θ3 := ⟨ok3, ((at'.nx.trans nx1).trans nx2).trans nx3⟩
      have nxT := (nx1.trans nx2).trans nx3
      cases k with
      | bl k =>
        cases of_bl r3
        cases k with
        | true => exact ⟨true, rfl, iteT ⟨ρ, α3, θ3, _, a3, rs.mono nxT, q3, fun z θ4 α4 H4 v4 q4 ok4 nx4 r4 => ⟨α4, θ4, y, z, Qm, ⟨ok4, a3.nx.trans nx4⟩, (r2.mono nx3).mono nx4, r4, q4, u.mono (nxT.trans nx4)⟩⟩⟩
        | false => exact ⟨false, rfl, iteF (up_same (u.mono nxT) a3 q3 rp_bl)⟩
      | _ => exact False.elim q3⟩⟩⟩
theorem bm_chain {a b c : Expr} {ma mb mc : ME} {op op' : CmpOp} {o o' : Dv → Dv → MX Dv} {pos : Pos} (ho : OpM W (compareOp op) o) (ho' : OpM W (compareOp op') o') (ha : PE X a (tM W ma)) (hb : PE X b (tM W mb)) (hc : PE X c (tM W mc))
    (hm : lastMarks [op, op'] [b, c] = false := by with_unfolding_all rfl) : PT X (.Compare a [op, op'] [b, c] pos) (tMb W (bB (mChain o o' ma mb mc))) :=
  pt_w (pt_chain ho ho' ha hb hc hm) fun σ H Q ⟨ρ, α, θ, Qm, at', rs, q, u⟩ => tm_chain σ H _ ⟨ρ, α, θ, _, at', rs, q, fun d θ1 α1 H1 v q1 ok1 nx1 r1 => by
    cases d with
    | bl k =>
      cases of_bl r1
      exact ⟨k, rfl, u k θ1 α1 H1 q1 ok1 nx1⟩
    | _ => exact False.elim q1⟩
/-! ### tuple(range(..)), list(range(..)) -/
def rgD (a b : Int) : List Dv := (List.range (b - a).toNat).map fun i => Dv.int (a + (i : Nat))
def mTupRg (m : DEnv → MX (Int × Int)) : ME := fun ρ E θ Q => m ρ E θ fun b θ1 => RgOk b.1 b.2 ∧ Q (.tup (rgD b.1 b.2)) θ1
def mLstRg (m : DEnv → MX (Int × Int)) : ME := fun ρ E θ Q => m ρ E θ fun b θ1 => RgOk b.1 b.2 ∧ Q (.obj θ1.length) (θ1 ++ [.lst (rgD b.1 b.2)])
end
end Mn

/-! Mn11: defs: what a def promises, its call, its body; what is left behind is dropped. -/
namespace Mn
open PySem PySem.Spec PyProof.Rows L2

/-! ### data whose objects are low n -/
mutual
def Dv.low (n : Nat) : Dv → Bool
  | .obj k => decide (k < n)
  | .tup ds => Dv.lows n ds
  | .pt ds => Dv.lows n ds
  | .st ds => Dv.lows n ds
  | _ => true
def Dv.lows (n : Nat) : List Dv → Bool
  | [] => true
  | d :: ds => d.low n && Dv.lows n ds
end
def lowK {κ : Type} (n : Nat) (kvs : List (κ × Dv)) : Bool := kvs.all fun kv => kv.2.low n
def Ob.low (n : Nat) : Ob → Bool
  | .lst ds => Dv.lows n ds
  | .dK kvs => lowK n kvs
  | .dT kvs => lowK n kvs
  | .dKf kvs => lowK n kvs
  | .dTf kvs => lowK n kvs
  | .ins _ fs => lowK n fs
  | .dN kvs => lowK n kvs
/-- every object of the store is made of what the store has -/
def Clo (θ : Th) : Prop := ∀ o, o ∈ θ → o.low θ.length = true
section
variable {K : PySem.W.Frag} {H : Hp} {α : List Addr} {θ : Th}
mutual
theorem Rp.low : ∀ {d : Dv} {v : V}, Rp K H α d v → d.low α.length = true
  | .non, _, _ => rfl
  | .bl _, _, _ => rfl
  | .int _, _, _ => rfl
  | .str _, _, _ => rfl
  | .rf _, _, _ => rfl
  | .fn _, _, _ => rfl
  | .scr _, _, _ => rfl
  | .obj k, v, h => by
    unfold Rp at h
    obtain ⟨p, e, _⟩ := h
    unfold Dv.low
    exact decide_eq_true (List.getElem?_eq_some_iff.mp e).1
  | .tup ds, v, h => by
    unfold Rp at h
    obtain ⟨p, vs, _, _, r⟩ := h
    unfold Dv.low
    exact Rps.low r
  | .st ds, v, h => by
    unfold Rp at h
    obtain ⟨p, vs, _, _, r⟩ := h
    unfold Dv.low
    exact Rps.low r
  | .pt ds, v, h => by
    unfold Rp at h
    obtain ⟨p, vs, _, _, _, _, r⟩ := h
    unfold Dv.low
    exact Rps.low r
theorem Rps.low : ∀ {ds : List Dv} {vs : List V}, Rps K H α ds vs → Dv.lows α.length ds = true
  | [], _, _ => rfl
  | d :: ds, _, h => by
    unfold Rps at h
    obtain ⟨v, r, _, h1, h2⟩ := h
    unfold Dv.lows
    rw [Rp.low h1, Rps.low h2]
    rfl
end
theorem RpK.low {κ : Type} : ∀ {ds : List (κ × Dv)} {vs : List (κ × V)}, RpK K H α ds vs → lowK α.length ds = true
  | [], _, _ => rfl
  | (k, d) :: ds, _, h => by
    unfold RpK at h
    obtain ⟨v, r, _, h1, h2⟩ := h
    have := RpK.low h2
    unfold lowK at this ⊢
    rw [List.all_cons, this, h1.low]
    rfl
theorem ObR.low {p : Addr} {o : Ob} (h : ObR K H α p o) : o.low α.length = true := by
  cases o with
  | lst ds => obtain ⟨vs, _, r⟩ := h; exact r.low
  | dK ds => obtain ⟨vs, _, r⟩ := h; exact r.low
  | dT ds => obtain ⟨vs, _, r⟩ := h; exact r.low
  | dKf ds => obtain ⟨vs, _, _, r⟩ := h; exact r.low
  | dTf ds => obtain ⟨vs, _, _, r⟩ := h; exact r.low
  | ins C fs => obtain ⟨_, vs, _, r⟩ := h; exact r.low
  | dN ds => obtain ⟨vs, bs, _, _, r⟩ := h; exact r.low
theorem Okk.clo (ok : Okk K H α θ) : Clo θ := fun o ho => by
  obtain ⟨k, hk, e⟩ := List.mem_iff_getElem.mp ho
  have e2 : θ[k]? = some o := by rw [List.getElem?_eq_getElem hk, e]
  obtain ⟨p, ep⟩ := ok.addr e2
  rw [← ok.len]
  exact (ok.ob k p o ep e2).low
mutual
theorem Rp.cut {n : Nat} : ∀ {d : Dv} {v : V}, Rp K H α d v → d.low n = true → Rp K H (α.take n) d v
  | .non, _, h, _ => by simpa [Rp] using h
  | .bl _, _, h, _ => by simpa [Rp] using h
  | .int _, _, h, _ => by simpa [Rp] using h
  | .str _, _, h, _ => by simpa [Rp] using h
  | .rf _, _, h, _ => by simpa [Rp] using h
  | .fn _, _, h, _ => by simpa [Rp] using h
  | .scr _, _, h, _ => by simpa [Rp] using h
  | .obj k, v, h, b => by
    unfold Rp at h ⊢
    obtain ⟨p, e, r⟩ := h
    unfold Dv.low at b
    have b := of_decide_eq_true b
    exact ⟨p, by rw [List.getElem?_take_of_lt b]; exact e, r⟩
  | .tup ds, v, h, b => by
    unfold Rp at h ⊢
    obtain ⟨p, vs, e, t, r⟩ := h
    unfold Dv.low at b
    exact ⟨p, vs, e, t, Rps.cut r b⟩
  | .st ds, v, h, b => by
    unfold Rp at h ⊢
    obtain ⟨p, vs, e, t, r⟩ := h
    unfold Dv.low at b
    exact ⟨p, vs, e, t, Rps.cut r b⟩
  | .pt ds, v, h, b => by
    unfold Rp at h ⊢
    obtain ⟨p, vs, o, e, t, d, r⟩ := h
    unfold Dv.low at b
    exact ⟨p, vs, o, e, t, d, Rps.cut r b⟩
theorem Rps.cut {n : Nat} : ∀ {ds : List Dv} {vs : List V}, Rps K H α ds vs → Dv.lows n ds = true → Rps K H (α.take n) ds vs
  | [], _, h, _ => by unfold Rps at h ⊢; exact h
  | d :: ds, _, h, b => by
    unfold Rps at h ⊢
    obtain ⟨v, r, e, h1, h2⟩ := h
    unfold Dv.lows at b
    rw [Bool.and_eq_true] at b
    exact ⟨v, r, e, Rp.cut h1 b.1, Rps.cut h2 b.2⟩
end
theorem RpK.cut {κ : Type} {n : Nat} : ∀ {ds : List (κ × Dv)} {vs : List (κ × V)}, RpK K H α ds vs → lowK n ds = true → RpK K H (α.take n) ds vs
  | [], _, h, _ => by unfold RpK at h ⊢; exact h
  | (k, d) :: ds, _, h, b => by
    unfold RpK at h ⊢
    obtain ⟨v, r, e, h1, h2⟩ := h
    unfold lowK at b
    rw [List.all_cons, Bool.and_eq_true] at b
    exact ⟨v, r, e, h1.cut b.1, RpK.cut h2 b.2⟩
theorem ObR.cut {n : Nat} {p : Addr} {o : Ob} (h : ObR K H α p o) (b : o.low n = true) : ObR K H (α.take n) p o := by
  cases o with
  | lst ds => obtain ⟨vs, e, r⟩ := h; exact ⟨vs, e, r.cut b⟩
  | dK ds => obtain ⟨vs, e, r⟩ := h; exact ⟨vs, e, r.cut b⟩
  | dT ds => obtain ⟨vs, e, r⟩ := h; exact ⟨vs, e, r.cut b⟩
  | dKf ds => obtain ⟨vs, o, e, r⟩ := h; exact ⟨vs, o, e, r.cut b⟩
  | dTf ds => obtain ⟨vs, o, e, r⟩ := h; exact ⟨vs, o, e, r.cut b⟩
  | ins C fs => obtain ⟨dx, vs, e, r⟩ := h; exact ⟨dx, vs, e, r.cut b⟩
  | dN ds => obtain ⟨vs, bs, e, k, r⟩ := h; exact ⟨vs, bs, e, k, r.cut b⟩
theorem Okk.cut {g : Th} (ok : Okk K H α (θ ++ g)) (c : Clo θ) : Okk K H (α.take θ.length) θ := by
  have hl := ok.len
  rw [List.length_append] at hl
  refine ⟨by rw [List.length_take]; omega, ok.nd.sublist (List.take_sublist _ _), fun k p o e1 e2 => ?_⟩
  have hk := (List.getElem?_eq_some_iff.mp e2).1
  rw [List.getElem?_take_of_lt hk] at e1
  exact (ok.ob k p o e1 (by rw [List.getElem?_append_left hk]; exact e2)).cut (c o (List.mem_of_getElem? e2))
end

/-! ### a def -/
/-- the end of a body: what it left behind may be dropped -/
def endQ (θ0 : Th) (Q : Dv → Th → Prop) (d : Dv) (θ' : Th) : Prop := Q d θ' ∨ ∃ θ2 g, θ' = θ2 ++ g ∧ θ0.length ≤ θ2.length ∧ (Clo θ0 → Clo θ2 ∧ d.low θ2.length = true) ∧ Q d θ2
/-- a def with j names more than parameters -/
def defM (j : Nat) (m : MS) (ds : List Dv) : MX Dv := fun E θ Q => m (ds.map some ++ List.replicate j none) E θ fun o θ' => match o with
  | .nx _ => endQ θ Q .non θ'
  | .rt d => endQ θ Q d θ'
  | _ => False
/-- what a def promises -/
def spM (K : PySem.W.Frag) (mg : Str → Option Value) (n : Nat) (c : List Dv → MX Dv) : Sp := fun vs H Q E => ∃ (α : List Addr) (θ : Th) (ds : List Dv) (En : Exn → Th → Prop) (Qm : Dv → Th → Prop),
  ds.length = n ∧ Okk K H α θ ∧ Rps K H α ds vs ∧ c ds En θ Qm ∧ Up K H α Qm Q ∧ ∀ x θ' α' H' cls d, En x θ' → Okk K H' α' θ' → Nx K H α H' α' → ExR K mg H' α' x cls d → E cls d H'
theorem spM_len {K : PySem.W.Frag} {mg : Str → Option Value} {n : Nat} {c : List Dv → MX Dv} {vs : List V} {H : Hp} {Q : VK} {E : XK} (h : spM K mg n c vs H Q E) : vs.length = n := by
  obtain ⟨α, θ, ds, En, Qm, h1, _, h2, _⟩ := h
  rw [h2.length, h1]
def Wd.XK {K : PySem.W.Frag} {mg : Str → Option Value} (W : Wd K mg) : XK := fun cls d H => ∃ x θ α, W.En x θ ∧ Okk K H α θ ∧ Nx K W.H0 W.α0 H α ∧ ExR K mg H α x cls d
theorem up_end {K : PySem.W.Frag} {H : Hp} {α : List Addr} {θ : Th} {Qm : Dv → Th → Prop} {Q : VK} (ok0 : Okk K H α θ) (u : Up K H α Qm Q) {d : Dv} {θ' : Th} {α' : List Addr} {H' : Hp} {v : V} (q : endQ θ Qm d θ') (ok : Okk K H' α' θ') (nx : Nx K H α H' α') (r : Rp K H' α' d v) : Q v H' := by
  rcases q with q | ⟨θ2, g, rfl, hl, hc, q⟩
  · exact u d θ' α' H' v q ok nx r
  · obtain ⟨c2, b2⟩ := hc ok0.clo
    refine u d θ2 (α'.take θ2.length) H' v q (ok.cut c2) ⟨?_, nx.tup, nx.xd, nx.fz⟩ (r.cut b2)
    obtain ⟨β, rfl⟩ := nx.ext
    refine ⟨β.take (θ2.length - α.length), ?_⟩
    rw [List.take_append, List.take_of_length_le (by rw [ok0.len]; exact hl)]
section
variable {X : Cx} {W : Wd X.K X.mg}
def mCallU (n : Nat) (c : List Dv → MX Dv) (ms : DEnv → MX (List Dv)) : ME := fun ρ E θ Q => ms ρ E θ fun ds θ1 => ds.length = n ∧ c ds E θ1 Q
theorem pm_call {CX : CXT} {k n : Nat} {f : Addr} {fd : FuncData} {ps : List Str} {c : List Dv → MX Dv} {x : Str} {p pos : Pos} {e : Expr} {es : List Expr} {ms : DEnv → MX (List Dv)} (F : FnG X.prog X.w X.K X.mg X.base CX k f fd ps (spM X.K X.mg n c)) (cf : Cf X) (hr : Room k X.A) (hg : Gl X x) (hm : X.mg x = some (.ref f)) (hk : PySem.W.keepIn X.K (.ref f) = true)
    (hb : Binds X.K fd ps []) (hx : Passes CX X W.XK) (ha : PA X (e :: es) (tMs W ms)) (hdb : (x == ("__debug__" : Str)) = false := by decide) (he : starEach (e :: es) X.env = (false, eval e X.env) :: starEach es X.env := by rfl)
    (hpl : (backTo pos (starEach es X.env)).any (·.1) = false := by rfl) : PE X (.Call (.Name x p) (e :: es) [] pos) (tM W (mCallU n c ms)) :=
  pe_w (pe_callG F cf.gd hr hg hm hk hb .nil hx ha hdb he hpl) fun σ H Q ⟨ρ, α, θ, Qm, at', rs, q, u⟩ => ⟨ρ, α, θ, _, at', rs, q, fun ds θ1 α1 H1 vs q1 ok1 nx1 r1 => by
    show spM X.K X.mg n c (vs ++ []) H1 Q W.XK
    rw [List.append_nil]
    exact ⟨α1, θ1, ds, W.En, Qm, q1.1, ok1, r1, q1.2, u.mono nx1, fun x2 θ2 α2 H2 cls d h1 h2 h3 h4 => ⟨x2, θ2, α2, h1, h2, (at'.nx.trans nx1).trans h3, h4⟩⟩⟩
end
theorem rs_start {K : PySem.W.Frag} {H : Hp} {α : List Addr} {N : List Str} {vs : List V} {ds : List Dv} {j : Nat} (r : Rps K H α ds vs) (h : N.length = ds.length + j) : RS K H α (L2.start N vs) (ds.map some ++ List.replicate j none) := by
  unfold L2.start
  refine ⟨by simp [r.length, h], fun i d e => ?_⟩
  by_cases hi : i < ds.length
  · rw [List.getElem?_append_left (by simpa using hi), List.getElem?_map] at e
    cases e2 : ds[i]? with
    | none => rw [e2] at e; cases e
    | some d2 =>
      rw [e2] at e
      cases e
      obtain ⟨v, hv, rv⟩ := r.get e2
      refine ⟨v, ?_, rv⟩
      rw [List.getElem?_append_left (by simpa [r.length] using hi), List.getElem?_map, hv]
      rfl
  · rw [List.getElem?_append_right (by simpa using hi), List.getElem?_replicate] at e
    split at e <;> cases e
theorem room_cf {CX : CXT} {P : Program} {w : World} {K : PySem.W.Frag} {mg : Str → Option Value} {base : Heap} {N : List Str} {qual : Str} {scope : Scope} {f : Addr} {cdv : Value} {A : Around} {outer : List Env} {s : Shared} {H : Hp} {E : XK} {k : Nat} (gd : A.guards = some []) (hr : Room k (A.deeper (envOfC qual scope s.heap.objs.size f cdv))) (nd : N.Nodup) :
    Cf (cxOf CX P w K mg base N qual scope f cdv A outer s H E).nox := by
  refine ⟨rfl, ?_, ?_, nd⟩
  · show (A.deeper _).guards = some []
    exact gd
  · have := hr.un
    show (A.deeper _).units + 100 < cLine
    omega
/-- a calm def by its body -/
theorem fnM0 {P : Program} {w : World} {K : PySem.W.Frag} {mg : Str → Option Value} {base : Heap} {x qual : Str} {st : Stmt} {f : Addr} {fd : FuncData} {N ps : List Str} {k n j : Nat} {m : MS} (F : Fun K x qual st f fd) (S : FnScope N ps (defScope st)) (hn : ps.length = n) (hj : N.length = n + j)
    (hbody : ∀ (cdv : Value) (A : Around) (outer : List Env) (s : Shared) (H : Hp) (E : XK) (W : Wd K mg), Room k (A.deeper (envOfC qual (defScope st) s.heap.objs.size f cdv)) → Cf (cxOf CX0 P w K mg base N qual (defScope st) f cdv A outer s H E).nox →
      PSs (cxOf CX0 P w K mg base N qual (defScope st) f cdv A outer s H E).nox (defBody st) (tS W m)) : FnG P w K mg base CX0 (k + 1) f fd ps (spM K mg n (defM j m)) := by
  obtain ⟨oc, od, kV, doc, pm, an, cdv, ct, osl, rfl, lk, hcd⟩ := F.ex
  refine fnG_of lk hcd S (fun vs H Q E h => by rw [spM_len h, hn]) fun A outer s H vs Q E gd hr hsp => ?_
  obtain ⟨α, θ, ds, En, Qm, h1, ok, rps, q, u, lnk⟩ := hsp
  refine ⟨_, (hbody cdv A outer s H E ⟨H, α, En, E⟩ hr (room_cf gd hr S.nd)).nox, _, α, θ, _, ⟨ok, Nx.refl⟩, rs_start rps (by rw [h1]; exact hj), q, fun o θ' α' H' q' ok' nx' => ?_⟩
  cases o with
  | nx ρ' => exact fun σ' _ => up_end ok u q' ok' nx' rp_non
  | rt d => exact fun v r => up_end ok u q' ok' nx' r
  | bk ρ' => exact False.elim q'
  | ct ρ' => exact False.elim q'
end Mn

/-! Mn12: short words for derivations. -/
namespace Mn
open PySem PySem.Spec PyProof.Rows L2
theorem b_len : bootBuiltins "len" = some (.builtin "len") := by decide +kernel
theorem b_any : bootBuiltins "any" = some (.builtin "any") := by decide +kernel
theorem b_max : bootBuiltins "max" = some (.builtin "max") := by decide +kernel
theorem b_min : bootBuiltins "min" = some (.builtin "min") := by decide +kernel
theorem b_sorted : bootBuiltins "sorted" = some (.builtin "sorted") := by decide +kernel
theorem b_int : bootBuiltins "int" = some (.type "int") := by decide +kernel
theorem b_tuple : bootBuiltins "tuple" = some (.type "tuple") := by decide +kernel
theorem Cf.blk {X : Cx} {s : Shared} {H : Hp} {scope : Scope} {e : Env} {fp : List Addr} (c : Cf X) : Cf (X.blk s H scope e fp) := ⟨c.calm, c.gd, c.un, c.nd⟩
theorem pass {X : Cx} {E : XK} : Passes CX0 X E := fun _ _ _ _ _ _ _ h => h.elim
section
variable {X : Cx} {W : Wd X.K X.mg}
theorem pm_v (i : Nat) {x : Str} {pos : Pos} (hN : X.N[i]? = some x := by rfl) (hv : Vis X.env.scope x := by first | exact Or.inl rfl | exact Or.inr (Or.inl rfl) | exact Or.inr (Or.inr rfl)) (hd : (x == ("__debug__" : Str)) = false := by decide)
    (hcd : (x == ("__classdict__" : Str)) = false := by decide) : PE X (.Name x pos) (tM W (mVar i)) := pm_var (pe_var hN hv hd hcd)
/-- a built-in function's call -/
theorem pm_bf {x : Str} {p pos : Pos} {e : Expr} {es : List Expr} {ms : DEnv → MX (List Dv)} {id : String} {c : List Dv → MX Dv} (hc : CallM W (.builtin id) c) (hm : X.mg x = none) (hv : bootBuiltins x = some (.builtin id)) (ha : PA X (e :: es) (tMs W ms)) (hg : Gl X x := by rfl) (hn : x ≠ "__name__" := by decide) (hdb : (x == ("__debug__" : Str)) = false := by decide)
    (he : starEach (e :: es) X.env = (false, eval e X.env) :: starEach es X.env := by rfl) (hpl : (backTo pos (starEach es X.env)).any (·.1) = false := by rfl) : PE X (.Call (.Name x p) (e :: es) [] pos) (tM W (mCall c ms)) := pe_w (pe_callB hc hg hm hv ha hn hdb he hpl) tm_call
/-- a built-in type's call -/
theorem pm_bt {x : Str} {p pos : Pos} {e : Expr} {es : List Expr} {ms : DEnv → MX (List Dv)} {T : String} {c : List Dv → MX Dv} (hc : CallM W (.type T) c) (hm : X.mg x = none) (hv : bootBuiltins x = some (.type T)) (ha : PA X (e :: es) (tMs W ms)) (hg : Gl X x := by rfl) (hn : x ≠ "__name__" := by decide) (hdb : (x == ("__debug__" : Str)) = false := by decide)
    (he : starEach (e :: es) X.env = (false, eval e X.env) :: starEach es X.env := by rfl) (hpl : (backTo pos (starEach es X.env)).any (·.1) = false := by rfl) : PE X (.Call (.Name x p) (e :: es) [] pos) (tM W (mCall c ms)) := pe_w (pe_callTy hc hg hm hv ha hn hdb he hpl) tm_call
theorem sm_st (i : Nat) {x : Str} {e : Expr} {m : ME} {pos' pos : Pos} (c : Cf X) (he : PE X e (tM W m)) (hi : X.N[i]? = some x := by rfl) (hx : Loc X.env.scope x := by first | exact Or.inl rfl | exact Or.inr rfl) (hs : swapsWith e (some (.Name x pos')) pos.line X.env = pure false := by rfl) (hf : X.fn x = true ∨ X.env.scope.names.lookup x = some .local := by first | exact .inl rfl | exact .inr rfl) :
    PS X (.Assign [.Name x pos'] e pos) (tS W (sSet i m)) := ps_w (ps_set c.nd hi hx he hs hf) ts_set
theorem sm_ex {e : Expr} {m : ME} {pos : Pos} (he : PE X e (tM W m)) (hs : swapsWith e none pos.line X.env = pure false := by rfl) : PS X (.Expr e pos) (tS W (sDrop m)) := sm_drop (ps_expr he hs)
theorem gm_v (i : Nat) {x : Str} {pos : Pos} (c : Cf X) (hi : X.N[i]? = some x := by rfl) (hx : Loc X.env.scope x := by first | exact Or.inl rfl | exact Or.inr rfl) (hf : X.fn x = true ∨ X.env.scope.names.lookup x = some .local := by first | exact .inl rfl | exact .inr rfl) : PG X (.Name x pos) (gT X.K (.nm i)) := gm_nm (pg_name c.nd hi hx hf)
theorem gm_t {es : List Expr} {k : Nat} {ts : List Tg} {pos : Pos} (c : Cf X) (h : PGs X es (gTs X.K ts)) (hl : es.length = ts.length := by rfl) (hn : (assignEach es X.env).length = ts.length := by rfl) (hst : (assignEach es X.env).findIdx? (·.1) = none := by rfl) : PG X (.Tuple es k pos) (gT X.K (.tp ts)) := gm_tp c hl h fun h => pg_tup c.calm h hn hst
theorem pm_lc1 {elt tg iter : Expr} {ifs : List Expr} {scope : Scope} {vs : List Nat} {pos : Pos} {ms : DEnv → MX Src} {T : Tg} {cond : DEnv → MX Bool} {me : ME} (own : List (Str × Nat)) (c : Cf X) (hi : PI X tg iter (tIm W ms)) (ok : BlkOk X.N X.env.scope scope own)
    (hg : ∀ (s : Shared) (H : Hp) (C : Addr) (cl : List (Str × Addr)) (fp : List Addr), PG (X.blk s H scope (compEnvC scope cl C X.env) fp) tg (gT X.K T))
    (ht : ∀ (s : Shared) (H : Hp) (C : Addr) (cl : List (Str × Addr)) (fp : List Addr), PTs (X.blk s H scope (compEnvC scope cl C X.env) fp) ifs (tMb W.calm cond))
    (he : ∀ (s : Shared) (H : Hp) (C : Addr) (cl : List (Str × Addr)) (fp : List Addr), PE (X.blk s H scope (compEnvC scope cl C X.env) fp) elt (tM W.calm me))
    (hvs : own.map (·.2) = vs := by rfl) (hv : ∀ i ∈ T.vars, i ∈ vs := by decide) (hs : ∀ x, foldedSetIterable iter X.env x = pure x := by intro _; rfl) :
    PE X (.ListComp elt [⟨tg, iter, ifs, 0⟩] scope pos) (tM W (mLc ms T cond me vs)) := by
  subst hvs
  exact pm_lc c hi ok hg ht he hv hs
theorem sm_lc1 {i : Nat} {y : Str} {py : Pos} {elt tg iter : Expr} {ifs : List Expr} {scope : Scope} {vs : List Nat} {pos spos : Pos} {ms : DEnv → MX Src} {T : Tg} {cond : DEnv → MX Bool} {me : ME} (own : List (Str × Nat)) (c : Cf X) (hy : X.N[i]? = some y) (hyl : X.env.scope.names.lookup y = some .local)
    (hsw : swapsWith (.ListComp elt [⟨tg, iter, ifs, 0⟩] scope pos) (some (.Name y py)) spos.line X.env = pure true) (hi : PI X tg iter (tIm W ms)) (ok : BlkOk X.N X.env.scope scope own)
    (hg : ∀ (s : Shared) (H : Hp) (C : Addr) (cl : List (Str × Addr)) (fp : List Addr), PG (X.blk s H scope (compEnvC scope cl C X.env) fp) tg (gT X.K T))
    (ht : ∀ (s : Shared) (H : Hp) (C : Addr) (cl : List (Str × Addr)) (fp : List Addr), PTs (X.blk s H scope (compEnvC scope cl C X.env) fp) ifs (tMb W.calm cond))
    (he : ∀ (s : Shared) (H : Hp) (C : Addr) (cl : List (Str × Addr)) (fp : List Addr), PE (X.blk s H scope (compEnvC scope cl C X.env) fp) elt (tM W.calm me))
    (hvs : own.map (·.2) = vs := by rfl) (hv : ∀ i ∈ T.vars, i ∈ vs := by decide) (hs : ∀ x, foldedSetIterable iter X.env x = pure x := by intro _; rfl) :
    PS X (.Assign [.Name y py] (.ListComp elt [⟨tg, iter, ifs, 0⟩] scope pos) spos) (tS W (sSet i (mLc ms T cond me vs))) := by
  subst hvs
  exact sm_lc c hy hyl hsw hi ok hg ht he hv hs
theorem sm_pt {o i e : Expr} {mo mi m : ME} {pos' pos : Pos} (c : Cf X) (he : PE X e (tM W m)) (ho : PE X o (tM W mo)) (hi : PE X i (tM W mi))
    (hg : ∀ g, PE X e (tM W m) → PG X (.Subscript o i pos') g → PS X (.Assign [.Subscript o i pos'] e pos) (tAsg (tM W m) g) := by exact fun g h1 h2 => ps_asg h1 h2)
    (hp : ∀ t, PE X o (tM W mo) → PE X i (tM W mi) → PSet X t → PG X (.Subscript o i pos') (gSub (tM W mo) (tM W mi) t) := by exact fun t h1 h2 h => pg_sub h1 h2 h) : PS X (.Assign [.Subscript o i pos'] e pos) (tS W (sPut mo mi m)) := sm_put c he ho hi (fun t h => hp t ho hi h) fun g h => hg g he h
end
/-! ### the law's end -/
def spTop (K : PySem.W.Frag) (c : List Dv → MX Dv) : Sp := fun vs H Q _ => ∃ (ns : List Int) (a : Addr), vs = [.ref a] ∧ Scr K H a (ns.map V.int) ∧ c [.scr ns] (fun _ _ => False) [] (fun d _ => d = .bl true) ∧ ∀ H', Q (.bl true) H'
theorem fnG_top {P : Program} {w : World} {K : PySem.W.Frag} {mg : Str → Option Value} {base : Heap} {CX : CXT} {k : Nat} {f : Addr} {fd : FuncData} {ps : List Str} {c : List Dv → MX Dv} (F : FnG P w K mg base CX k f fd ps (spM K mg 1 c)) : FnG P w K mg base CX k f fd ps (spTop K c) :=
  F.imp fun vs H Q E ⟨ns, a, e, hs, q, k⟩ => ⟨[], [], [.scr ns], fun _ _ => False, _, rfl, ⟨rfl, List.nodup_nil, fun _ _ _ h _ => by simp at h⟩, by
    subst e
    exact Rps.cons (by unfold Rp; exact ⟨a, rfl, hs⟩) Rps.nil, q, fun d θ' α' H' v h _ _ r => by
    subst h
    cases of_bl r
    exact k H', fun _ _ _ _ _ _ h => h.elim⟩
theorem top_hS {K : PySem.W.Frag} {c : List Dv → MX Dv} {H : Hp} {a : Addr} {ns : List Int} (g : ∀ ns : List Int, ns.length ≤ 63 → c [.scr ns] (fun _ _ => False) [] (fun d _ => d = .bl true)) (hl : ns.length ≤ 63) (h : ∃ o, H a = some (.frz o (.lst (ns.map V.int)))) : spTop K c [.ref a] H (fun v _ => v = .bl true) fun _ _ _ => False :=
  ⟨ns, a, rfl, .inl h, g ns hl, fun _ => rfl⟩
theorem top_hK {K : PySem.W.Frag} {c : List Dv → MX Dv} {H : Hp} {a : Addr} {ns : List Int} (g : ∀ ns : List Int, ns.length ≤ 63 → c [.scr ns] (fun _ _ => False) [] (fun d _ => d = .bl true)) (hl : ns.length ≤ 63) (h0 : ∀ b, H b = none) (h : SqL K H a (ns.map V.int)) : spTop K c [.ref a] H (fun v _ => v = .bl true) fun _ _ _ => False := by
  refine ⟨ns, a, rfl, ?_, g ns hl, fun _ => rfl⟩
  rcases h with (h | h) | h
  · rw [h0] at h; cases h
  · obtain ⟨o, h⟩ := h; rw [h0] at h; cases h
  · exact .inr (.inr h)
end Mn

/-! Mn13: how a mirror runs: equations of the words, rules of loops. -/
namespace Mn
open PySem PySem.Spec PyProof.Rows L2
section
variable {E : Exn → Th → Prop} {θ : Th} {ρ : DEnv}
section
variable {Q : Dv → Th → Prop} {a b c : ME} {o o' : Dv → Dv → MX Dv} {d : Dv}
theorem x_var0 {r : DEnv} : mVar 0 (some d :: r) E θ Q = Q d θ := (rfl)
theorem x_varS {i : Nat} {y : Option Dv} {r : DEnv} : mVar (i + 1) (y :: r) E θ Q = mVar i r E θ Q := by
  unfold mVar
  rw [List.getD_cons_succ]
theorem x_c : mC d ρ E θ Q = Q d θ := (rfl)
theorem x_bin : mBin o a b ρ E θ Q = a ρ E θ fun x θ1 => b ρ E θ1 fun y θ2 => o x y E θ2 Q := (rfl)
theorem x_un {u : Dv → MX Dv} : mUn u a ρ E θ Q = a ρ E θ fun x θ1 => u x E θ1 Q := (rfl)
def andK (b : ME) (ρ : DEnv) (E : Exn → Th → Prop) (Q : Dv → Th → Prop) : Dv → Th → Prop := fun x θ1 => match x with
  | .bl true => b ρ E θ1 Q
  | .bl false => Q (.bl false) θ1
  | _ => False
def orK (b : ME) (ρ : DEnv) (E : Exn → Th → Prop) (Q : Dv → Th → Prop) : Dv → Th → Prop := fun x θ1 => match x with
  | .bl false => b ρ E θ1 Q
  | .bl true => Q (.bl true) θ1
  | _ => False
theorem x_and : mAnd a b ρ E θ Q = a ρ E θ (andK b ρ E Q) := by
  show (a ρ E θ fun x θ1 => _) = _
  congr 1
  funext x θ1
  unfold andK
  cases x with
  | bl k => cases k <;> rfl
  | _ => rfl
theorem x_or : mOr a b ρ E θ Q = a ρ E θ (orK b ρ E Q) := by
  show (a ρ E θ fun x θ1 => _) = _
  congr 1
  funext x θ1
  unfold orK
  cases x with
  | bl k => cases k <;> rfl
  | _ => rfl
theorem x_andK {k : Bool} : andK b ρ E Q (.bl k) θ = (if k = true then b ρ E θ Q else Q (.bl false) θ) := by cases k <;> rfl
theorem x_orK {k : Bool} : orK b ρ E Q (.bl k) θ = (if k = true then Q (.bl true) θ else b ρ E θ Q) := by cases k <;> rfl
theorem x_not {k : Bool} : oNot (.bl k) E θ Q = Q (.bl !k) θ := (rfl)
theorem x_if {k : DEnv → MX Bool} : mIf k a b ρ E θ Q = k ρ E θ fun v θ1 => if v = true then a ρ E θ1 Q else b ρ E θ1 Q := by
  show (k ρ E θ fun v θ1 => (if v = true then a ρ else b ρ : MX Dv) E θ1 Q) = _
  congr 1
  funext v θ1
  cases v <;> rfl
theorem x_tup {ms : DEnv → MX (List Dv)} : mTup ms ρ E θ Q = ms ρ E θ fun ds θ1 => ds.length ≤ sizeLine ∧ Q (.tup ds) θ1 := (rfl)
theorem x_lst {ms : DEnv → MX (List Dv)} : mLst ms ρ E θ Q = ms ρ E θ fun ds θ1 => ds.length ≤ sizeLine ∧ Q (.obj θ1.length) (θ1 ++ [.lst ds]) := (rfl)
theorem x_sl {l h : DEnv → MX (Option Int)} : mSl a l h ρ E θ Q = a ρ E θ fun x θ1 => l ρ E θ1 fun l' θ2 => h ρ E θ2 fun h' θ3 => oSl x l' h' E θ3 Q := (rfl)
theorem x_call {f : List Dv → MX Dv} {ms : DEnv → MX (List Dv)} : mCall f ms ρ E θ Q = ms ρ E θ fun ds θ1 => f ds E θ1 Q := (rfl)
theorem x_callU {n : Nat} {f : List Dv → MX Dv} {ms : DEnv → MX (List Dv)} : mCallU n f ms ρ E θ Q = ms ρ E θ fun ds θ1 => ds.length = n ∧ f ds E θ1 Q := (rfl)
theorem x_mth {T : String} {f : Dv → List Dv → MX Dv} {ms : DEnv → MX (List Dv)} : mMth T f a ms ρ E θ Q = a ρ E θ fun d θ1 => tyD θ1 d = some T ∧ ms ρ E θ1 fun ds θ2 => f d ds E θ2 Q := (rfl)
theorem x_isi {T : String} : mIsi T a ρ E θ Q = a ρ E θ fun d θ1 => (match tyD θ1 d with
  | some t => (match kitB t T with
    | some b => Q (.bl b) θ1
    | none => False)
  | none => False) := (rfl)
def chK (c : Th → Prop) (Q : Dv → Th → Prop) : Dv → Th → Prop := fun k θ3 => match k with
  | .bl true => c θ3
  | .bl false => Q (.bl false) θ3
  | _ => False
theorem x_chK {c : Th → Prop} {k : Bool} : chK c Q (.bl k) θ = (if k = true then c θ else Q (.bl false) θ) := by cases k <;> rfl
theorem x_chain : mChain o o' a b c ρ E θ Q = a ρ E θ fun x θ1 => b ρ E θ1 fun y θ2 => o x y E θ2 (chK (fun θ4 => c ρ E θ4 fun z θ5 => o' y z E θ5 Q) Q) := by
  show (a ρ E θ fun x θ1 => b ρ E θ1 fun y θ2 => o x y E θ2 fun k θ3 => _) = _
  congr 1
  funext x θ1
  congr 1
  funext y θ2
  congr 1
  funext k θ3
  unfold chK
  cases k with
  | bl k => cases k <;> rfl
  | _ => rfl
theorem x_k1 {f : Dv → MX Dv} : k1 f [d] E θ Q = f d E θ Q := (rfl)
theorem x_tupRg {m : DEnv → MX (Int × Int)} : mTupRg m ρ E θ Q = m ρ E θ fun b θ1 => RgOk b.1 b.2 ∧ Q (.tup (rgD b.1 b.2)) θ1 := (rfl)
theorem x_lstRg {m : DEnv → MX (Int × Int)} : mLstRg m ρ E θ Q = m ρ E θ fun b θ1 => RgOk b.1 b.2 ∧ Q (.obj θ1.length) (θ1 ++ [.lst (rgD b.1 b.2)]) := (rfl)
theorem x_lc {ms : DEnv → MX Src} {T : Tg} {k : DEnv → MX Bool} {vs : List Nat} : mLc ms T k a vs ρ E θ Q = ms ρ E θ fun src θ' => ∃ n, lcGo src T k a θ'.length (wipeE ρ vs) n 0 (θ' ++ [.lst []]) fun θ2 => Q (.obj θ'.length) θ2 := (rfl)
/-! operations -/
theorem x_addI {i j : Int} : oAdd (.int i) (.int j) E θ Q = Q (.int (i + j)) θ := (rfl)
theorem x_addS {i j : Str} : oAdd (.str i) (.str j) E θ Q = (i.length + j.length ≤ sizeLine ∧ Q (.str (i ++ j)) θ) := (rfl)
theorem x_addT {i j : List Dv} : oAdd (.tup i) (.tup j) E θ Q = (i.length + j.length ≤ sizeLine ∧ Q (.tup (i ++ j)) θ) := (rfl)
theorem x_subI {i j : Int} : oSub (.int i) (.int j) E θ Q = Q (.int (i - j)) θ := (rfl)
theorem x_mulI {i j : Int} : oMul (.int i) (.int j) E θ Q = (CMul i j ∧ Q (.int (i * j)) θ) := (rfl)
theorem x_fdiv {i j : Int} : oFdiv (.int i) (.int j) E θ Q = (CDiv i j ∧ Q (.int (i / j)) θ) := (rfl)
theorem x_mod {i j : Int} : oMod (.int i) (.int j) E θ Q = (0 < j ∧ Q (.int (i % j)) θ) := (rfl)
theorem x_pow {i j : Int} : oPow (.int i) (.int j) E θ Q = (CPow i j ∧ Q (.int (i ^ j.toNat)) θ) := (rfl)
theorem x_lt {i j : Int} : oLt (.int i) (.int j) E θ Q = Q (.bl (decide (i < j))) θ := (rfl)
theorem x_le {i j : Int} : oLe (.int i) (.int j) E θ Q = Q (.bl (decide (i ≤ j))) θ := (rfl)
theorem x_gt {i j : Int} : oGt (.int i) (.int j) E θ Q = Q (.bl (decide (j < i))) θ := (rfl)
theorem x_ge {i j : Int} : oGe (.int i) (.int j) E θ Q = Q (.bl (decide (j ≤ i))) θ := (rfl)
theorem x_eqI {i j : Int} : oEq (.int i) (.int j) E θ Q = Q (.bl (decide (i = j))) θ := (rfl)
theorem x_eqB {i j : Bool} : oEq (.bl i) (.bl j) E θ Q = Q (.bl (decide (i = j))) θ := (rfl)
theorem x_eqS {i j : Str} : oEq (.str i) (.str j) E θ Q = Q (.bl (decide (i = j))) θ := (rfl)
theorem x_neI {i j : Int} : oNe (.int i) (.int j) E θ Q = Q (.bl (!decide (i = j))) θ := (rfl)
theorem x_neB {i j : Bool} : oNe (.bl i) (.bl j) E θ Q = Q (.bl (!decide (i = j))) θ := (rfl)
theorem x_isB {i j : Bool} : oIs (.bl i) (.bl j) E θ Q = Q (.bl (decide (i = j))) θ := (rfl)
theorem x_isnB {i j : Bool} : oIsNot (.bl i) (.bl j) E θ Q = Q (.bl (!decide (i = j))) θ := (rfl)
theorem x_neg {i : Int} : oNeg (.int i) E θ Q = Q (.int (-i)) θ := (rfl)
theorem x_int {i : Int} : intD (.int i) E θ Q = Q (.int i) θ := (rfl)
theorem x_intB {i : Bool} : intD (.bl i) E θ Q = Q (.int (if i then 1 else 0)) θ := (rfl)
theorem x_lenT {ds : List Dv} : lenD (.tup ds) E θ Q = Q (.int ds.length) θ := (rfl)
theorem x_lenPt {ds : List Dv} : lenD (.pt ds) E θ Q = Q (.int ds.length) θ := (rfl)
theorem x_lenS {ns : List Int} : lenD (.scr ns) E θ Q = Q (.int ns.length) θ := (rfl)
theorem x_tupT {ds : List Dv} : tupD (.tup ds) E θ Q = Q (.tup ds) θ := (rfl)
theorem x_tupO {k : Nat} {ds : List Dv} (h : θ[k]? = some (.lst ds)) : tupD (.obj k) E θ Q = Q (.tup ds) θ := by unfold tupD; simp only [h]
theorem x_lstT {ds : List Dv} : lstD (.tup ds) E θ Q = Q (.obj θ.length) (θ ++ [.lst ds]) := (rfl)
theorem x_ixT {ds : List Dv} {i : Int} : oIx (.tup ds) (.int i) E θ Q = optW (atI ds i) θ Q := (rfl)
theorem x_ixR {ns : List Int} {i : Int} : oIx (.scr ns) (.int i) E θ Q = optW ((atI ns i).map Dv.int) θ Q := (rfl)
theorem x_optW : optW (some d) θ Q = Q d θ := (rfl)
end
section
variable {Q : List Dv → Th → Prop} {a : ME} {ms : DEnv → MX (List Dv)}
theorem x_nil : msNil ρ E θ Q = Q [] θ := (rfl)
theorem x_cons : msCons a ms ρ E θ Q = a ρ E θ fun x θ1 => ms ρ E θ1 fun xs θ2 => Q (x :: xs) θ2 := (rfl)
end
section
variable {Q : Bool → Th → Prop} {a : ME} {b c : DEnv → MX Bool}
def boolK (Q : Bool → Th → Prop) : Dv → Th → Prop := fun x θ1 => match x with
  | .bl k => Q k θ1
  | _ => False
theorem x_bB : bB a ρ E θ Q = a ρ E θ (boolK Q) := by
  show (a ρ E θ fun x θ1 => asBool x E θ1 Q) = _
  congr 1
  funext x θ1
  unfold boolK asBool
  cases x <;> rfl
theorem x_boolK {k : Bool} : boolK Q (.bl k) θ = Q k θ := (rfl)
theorem x_bAnd : bAnd b c ρ E θ Q = b ρ E θ fun v θ1 => if v = true then c ρ E θ1 Q else Q false θ1 := by
  show (b ρ E θ fun v θ1 => (if v = true then c ρ else pure false : MX Bool) E θ1 Q) = _
  congr 1
  funext v θ1
  cases v <;> rfl
theorem x_bOr : bOr b c ρ E θ Q = b ρ E θ fun v θ1 => if v = true then Q true θ1 else c ρ E θ1 Q := by
  show (b ρ E θ fun v θ1 => (if v = true then pure true else c ρ : MX Bool) E θ1 Q) = _
  congr 1
  funext v θ1
  cases v <;> rfl
theorem x_bNot : bNot b ρ E θ Q = b ρ E θ fun v θ1 => Q (!v) θ1 := (rfl)
theorem x_bYes : bYes ρ E θ Q = Q true θ := (rfl)
end
section
variable {Q : Option Int → Th → Prop} {i : Int}
theorem x_pNo : pNo ρ E θ Q = Q none θ := (rfl)
theorem x_pSo {a : ME} : pSo a ρ E θ Q = a ρ E θ fun x θ1 => oPart x E θ1 Q := (rfl)
theorem x_part : oPart (.int i) E θ Q = Q (some i) θ := (rfl)
end
section
variable {Q : Int × Int → Th → Prop}
end
section
variable {Q : Src → Th → Prop} {ms : DEnv → MX (List Dv)} {i j : Int}
theorem x_rng1 : rng1 ms ρ E θ Q = ms ρ E θ fun ds θ1 => rk1 ds E θ1 Q := (rfl)
theorem x_rng2 : rng2 ms ρ E θ Q = ms ρ E θ fun ds θ1 => rk2 ds E θ1 Q := (rfl)
theorem x_rng3 : rng3 ms ρ E θ Q = ms ρ E θ fun ds θ1 => rk3 ds E θ1 Q := (rfl)
theorem x_rk1 : rk1 [.int j] E θ Q = ((-(2 ^ 62) ≤ j ∧ j < 2 ^ 62) ∧ Q (.rng 0 1 j.toNat) θ) := (rfl)
theorem x_rk2 : rk2 [.int i, .int j] E θ Q = ((-(2 ^ 62) ≤ i ∧ i < 2 ^ 62 ∧ -(2 ^ 62) ≤ j ∧ j < 2 ^ 62) ∧ Q (.rng i 1 (j - i).toNat) θ) := (rfl)
theorem x_rk3 {c : Int} : rk3 [.int i, .int j, .int c] E θ Q = ((-(2 ^ 62) ≤ i ∧ i < 2 ^ 62 ∧ -(2 ^ 62) ≤ j ∧ j < 2 ^ 62 ∧ c = -1) ∧ Q (.rng i (-1) (i - j).toNat) θ) := (rfl)
theorem x_srcEn : srcEn ms ρ E θ Q = ms ρ E θ fun ds θ1 => ek ds E θ1 Q := (rfl)
theorem x_srcZp : srcZp ms ρ E θ Q = ms ρ E θ fun ds θ1 => zk ds E θ1 Q := (rfl)
theorem x_ekT {ds : List Dv} : ek [.tup ds] E θ Q = Q (.en (.T ds)) θ := (rfl)
theorem x_zkT {ds es : List Dv} : zk [.tup ds, .tup es] E θ Q = Q (.zp (.T ds) (.T es)) θ := (rfl)
def srcK (E : Exn → Th → Prop) (Q : Src → Th → Prop) : Dv → Th → Prop := fun x θ1 => match x with
  | .str z => Q (.str z) θ1
  | .pt ds => Q (.sd (.T ds)) θ1
  | .st ds => Q (.sd (.T ds)) θ1
  | d => asSd d E θ1 fun s θ2 => Q (.sd s) θ2
theorem x_srcV {a : ME} : srcV a ρ E θ Q = a ρ E θ (srcK E Q) := by
  show (a ρ E θ fun x θ1 => _) = _
  congr 1
  funext x θ1
  unfold srcK
  cases x <;> rfl
theorem x_srcPt {ds : List Dv} : srcK E Q (.pt ds) θ = Q (.sd (.T ds)) θ := (rfl)
theorem x_srcT {ds : List Dv} : srcK E Q (.tup ds) θ = Q (.sd (.T ds)) θ := (rfl)
end
section
variable {Q : Out → Th → Prop} {a : ME} {s t : MS}
def seqK (t : MS) (E : Exn → Th → Prop) (Q : Out → Th → Prop) : Out → Th → Prop := fun o θ1 => match o with
  | .nx ρ' => t ρ' E θ1 Q
  | o => Q o θ1
theorem x_seq : sSeq s t ρ E θ Q = s ρ E θ (seqK t E Q) := by
  show (s ρ E θ fun o θ1 => _) = _
  congr 1
  funext o θ1
  unfold seqK
  cases o <;> rfl
theorem x_seqN {ρ' : DEnv} : seqK t E Q (.nx ρ') θ = t ρ' E θ Q := (rfl)
theorem x_seqR {d : Dv} : seqK t E Q (.rt d) θ = Q (.rt d) θ := (rfl)
theorem x_seqB {ρ' : DEnv} : seqK t E Q (.bk ρ') θ = Q (.bk ρ') θ := (rfl)
theorem x_seqC {ρ' : DEnv} : seqK t E Q (.ct ρ') θ = Q (.ct ρ') θ := (rfl)
theorem x_sNil : sNil ρ E θ Q = Q (.nx ρ) θ := (rfl)
theorem x_set {i : Nat} : sSet i a ρ E θ Q = a ρ E θ fun d θ1 => Q (.nx (ρ.set i (some d))) θ1 := (rfl)
theorem x_drop : sDrop a ρ E θ Q = a ρ E θ fun _ θ1 => Q (.nx ρ) θ1 := (rfl)
theorem x_ret : sRet a ρ E θ Q = a ρ E θ fun d θ1 => Q (.rt d) θ1 := (rfl)
theorem x_retN : sRetN ρ E θ Q = Q (.rt .non) θ := (rfl)
theorem x_sIf {k : DEnv → MX Bool} : sIf k s t ρ E θ Q = k ρ E θ fun v θ1 => if v = true then s ρ E θ1 Q else t ρ E θ1 Q := by
  show (k ρ E θ fun v θ1 => (if v = true then s ρ else t ρ : MX Out) E θ1 Q) = _
  congr 1
  funext v θ1
  cases v <;> rfl
theorem x_brk : sBrk ρ E θ Q = Q (.bk ρ) θ := (rfl)
theorem x_ct : sCt ρ E θ Q = Q (.ct ρ) θ := (rfl)
theorem x_put {o i : ME} : sPut o i a ρ E θ Q = a ρ E θ fun v θ1 => o ρ E θ1 fun x θ2 => i ρ E θ2 fun y θ3 => setO x y v E θ3 fun _ θ4 => Q (.nx ρ) θ4 := (rfl)
theorem x_for {ms : DEnv → MX Src} {T : Tg} : sFor ms T s ρ E θ Q = ms ρ E θ fun src θ' => ∃ n, forGo src T s n 0 ρ E θ' Q := (rfl)
end
/-! defs -/
def defK (θ : Th) (Q : Dv → Th → Prop) : Out → Th → Prop := fun o θ' => match o with
  | .nx _ => endQ θ Q .non θ'
  | .rt d => endQ θ Q d θ'
  | _ => False
theorem x_def {j : Nat} {m : MS} {ds : List Dv} {Q : Dv → Th → Prop} : defM j m ds E θ Q = m (ds.map some ++ List.replicate j none) E θ (defK θ Q) := (rfl)
theorem x_defR {Q : Dv → Th → Prop} {d : Dv} {θ' : Th} : defK θ Q (.rt d) θ' = endQ θ Q d θ' := (rfl)
theorem x_defN {Q : Dv → Th → Prop} {ρ : DEnv} {θ' : Th} : defK θ Q (.nx ρ) θ' = endQ θ Q .non θ' := (rfl)
/-- what is behind the caller's store is dropped -/
theorem end_drop {Q : Dv → Th → Prop} {d : Dv} {g : Th} (h : Q d θ) (hd : ∀ n, d.low n = true) : endQ θ Q d (θ ++ g) := .inr ⟨θ, g, rfl, Nat.le_refl _, fun c => ⟨c, hd _⟩, h⟩
theorem end_same {Q : Dv → Th → Prop} {d : Dv} {θ' : Th} (h : Q d θ') : endQ θ Q d θ' := .inl h
end
/-! ### loops -/
/-- what a turn of a loop's body must go on to -/
structure LoopK (N Q K : Out → Th → Prop) : Prop where
  nx : ∀ ρ θ, N (.nx ρ) θ → K (.nx ρ) θ
  ct : ∀ ρ θ, N (.nx ρ) θ → K (.ct ρ) θ
  bk : ∀ ρ θ, Q (.nx ρ) θ → K (.bk ρ) θ
  rt : ∀ d θ, Q (.rt d) θ → K (.rt d) θ
theorem for_rule {src : Src} {T : Tg} {body : MS} {E : Exn → Th → Prop} {Q : Out → Th → Prop} {ρ : DEnv} {θ : Th} (n : Nat) (I : Nat → DEnv → Th → Prop) (h0 : I 0 ρ θ)
    (hs : ∀ i ρ θ, i < n → I i ρ θ → ∃ d ρ1, src.at θ i = some (some d) ∧ asgT T d ρ = some ρ1 ∧ ∀ K, LoopK (fun o θ' => ∃ ρ', o = .nx ρ' ∧ I (i + 1) ρ' θ') Q K → body ρ1 E θ K)
    (he : ∀ ρ θ, I n ρ θ → src.at θ n = some none ∧ Q (.nx ρ) θ) : ∃ m, forGo src T body m 0 ρ E θ Q := by
  have key : ∀ k i ρ θ, i + k = n → I i ρ θ → forGo src T body (k + 1) i ρ E θ Q := by
    intro k
    induction k with
    | zero =>
      intro i ρ θ e h
      obtain rfl : i = n := by omega
      obtain ⟨h1, h2⟩ := he ρ θ h
      unfold forGo
      simp only [h1]
      exact h2
    | succ k ih =>
      intro i ρ θ e h
      obtain ⟨d, ρ1, h1, h2, h3⟩ := hs i ρ θ (by omega) h
      unfold forGo
      simp only [h1, h2]
      refine h3 _ ⟨?_, ?_, ?_, ?_⟩
      · rintro ρ2 θ2 ⟨ρ', e', h'⟩
        cases e'
        exact ih (i + 1) ρ2 θ2 (by omega) h'
      · rintro ρ2 θ2 ⟨ρ', e', h'⟩
        cases e'
        exact ih (i + 1) ρ2 θ2 (by omega) h'
      · exact fun ρ2 θ2 h' => h'
      · exact fun d θ2 h' => h'
  exact ⟨n + 1, key n 0 ρ θ (by omega) h0⟩
theorem lc_rule {src : Src} {T : Tg} {cond : DEnv → MX Bool} {elt : ME} {k : Nat} {Q : Th → Prop} {ρ : DEnv} {θ : Th} (n : Nat) (I : Nat → Th → Prop) (h0 : I 0 θ)
    (hs : ∀ i θ, i < n → I i θ → ∃ d ρ1, src.at θ i = some (some d) ∧ asgT T d ρ = some ρ1 ∧ ∀ K : Bool → Th → Prop, (∀ θ1, I (i + 1) θ1 → K false θ1) →
      (∀ θ1, (∀ K2 : Dv → Th → Prop, (∀ y θ2 acc, θ2[k]? = some (.lst acc) → acc.length < sizeLine → I (i + 1) (θ2.set k (.lst (acc ++ [y]))) → K2 y θ2) → elt ρ1 (fun _ _ => False) θ1 K2) → K true θ1) → cond ρ1 (fun _ _ => False) θ K)
    (he : ∀ θ, I n θ → src.at θ n = some none ∧ Q θ) : ∃ m, lcGo src T cond elt k ρ m 0 θ Q := by
  have key : ∀ j i θ, i + j = n → I i θ → lcGo src T cond elt k ρ (j + 1) i θ Q := by
    intro j
    induction j with
    | zero =>
      intro i θ e h
      obtain rfl : i = n := by omega
      obtain ⟨h1, h2⟩ := he θ h
      unfold lcGo
      simp only [h1]
      exact h2
    | succ j ih =>
      intro i θ e h
      obtain ⟨d, ρ1, h1, h2, h3⟩ := hs i θ (by omega) h
      unfold lcGo
      simp only [h1, h2]
      refine h3 _ (fun θ1 h' => ih (i + 1) θ1 (by omega) h') fun θ1 h' => h' _ fun y θ2 acc e2 hl h4 => ?_
      simp only [e2]
      exact ⟨hl, ih (i + 1) _ (by omega) h4⟩
  exact ⟨n + 1, key n 0 θ (by omega) h0⟩
/-- a comprehension whose turns leave the store ahead of the list as it is -/
theorem lc_pure {src : Src} {T : Tg} {cond : DEnv → MX Bool} {elt : ME} {Q : Th → Prop} {ρ : DEnv} {θ0 : Th} (n : Nat) (p : Nat → Bool) (f : Nat → Dv) (hn : n < sizeLine)
    (hs : ∀ i acc g, i < n → ∃ d ρ1, src.at (θ0 ++ .lst acc :: g) i = some (some d) ∧ asgT T d ρ = some ρ1 ∧ ∀ K : Bool → Th → Prop, (∀ g', (p i = true → ∀ K2 : Dv → Th → Prop, (∀ g2, K2 (f i) (θ0 ++ .lst acc :: g2)) → elt ρ1 (fun _ _ => False) (θ0 ++ .lst acc :: g') K2) → K (p i) (θ0 ++ .lst acc :: g')) → cond ρ1 (fun _ _ => False) (θ0 ++ .lst acc :: g) K)
    (he : ∀ acc g, src.at (θ0 ++ .lst acc :: g) n = some none) (q : ∀ g, Q (θ0 ++ .lst (((List.range n).filter p).map f) :: g)) : ∃ m, lcGo src T cond elt θ0.length ρ m 0 (θ0 ++ [.lst []]) Q := by
  refine lc_rule n (fun i θ => ∃ g, θ = θ0 ++ .lst (((List.range i).filter p).map f) :: g) ⟨[], rfl⟩ ?_ ?_
  · rintro i θ hi ⟨g, rfl⟩
    obtain ⟨d, ρ1, h1, h2, h3⟩ := hs i (((List.range i).filter p).map f) g hi
    refine ⟨d, ρ1, h1, h2, fun K k0 k1 => h3 K fun g' he => ?_⟩
    cases hp : p i with
    | false =>
      refine k0 _ ⟨g', ?_⟩
      rw [List.range_succ, List.filter_append]
      simp [hp]
    | true =>
      refine k1 _ fun K2 h4 => he hp K2 fun g2 => h4 _ _ (((List.range i).filter p).map f) (by simp) ?_ ⟨g2, ?_⟩
      · rw [List.length_map]
        refine Nat.lt_of_le_of_lt (List.length_filter_le _ _) ?_
        rw [List.length_range]
        omega
      · rw [List.range_succ, List.filter_append]
        simp [hp]
  · rintro θ ⟨g, rfl⟩
    exact ⟨he _ _, q g⟩
end Mn

/-! Cm: the mirrors of what many laws read alike. -/
namespace Cm
open PySem Mn
def m_ascends : MS := (sRet (mCall (k1 (onBools allL)) (msCons (mLc (srcZp (msCons (mVar 0) (msCons (mSl (mVar 0) (pSo (mC (.int 1))) pNo) msNil))) (.tp [(.nm 1), (.nm 2)]) bYes (mBin oLt (mVar 1) (mVar 2)) [1, 2]) msNil)))
def c_ascends : List Dv → MX Dv := defM 2 m_ascends
def m_is_integer : MS := (sRet (mAnd (mIsi "int" (mVar 0)) (mUn oNot (mIsi "bool" (mVar 0)))))
def c_is_integer : List Dv → MX Dv := defM 0 m_is_integer
def m_are_integers : MS := (sRet (mAnd (mIsi "tuple" (mVar 0)) (mCall (k1 (onBools allL)) (msCons (mLc (srcV (mVar 0)) (.nm 1) bYes (mCallU 1 c_is_integer (msCons (mVar 1) msNil)) [1]) msNil))))
def c_are_integers : List Dv → MX Dv := defM 1 m_are_integers
def m_tests : MS := (sRet (mCall (k1 tupD) (msCons (mLc (rng1 (msCons (mBin oSub (mCall (k1 lenD) (msCons (mBin oIx (mVar 0) (mC (.int 1))) msNil)) (mC (.int 1))) msNil)) (.nm 2) (bB (mBin oNotIn (mVar 2) (mVar 1))) (mVar 2) [2]) msNil)))
def c_tests : List Dv → MX Dv := defM 1 m_tests
def m_offspring : MS := (sSeq (sSet 2 (mDict1 (mVar 1) (mC (.bl true)))) (sSeq (sFor (srcEn (msCons (mBin oIx (mVar 0) (mC (.int 1))) msNil)) (.tp [(.nm 3), (.tp [(.nm 4), (.nm 5)])]) (sIf (bB (mCall (k1 (onBools anyL)) (msCons (mLc (srcV (mVar 5)) (.nm 6) bYes (mBin oIn (mVar 6) (mVar 2)) [6]) msNil))) (sPut (mVar 2) (mVar 3) (mC (.bl true))) sNil)) (sRet (mCall (k1 tupD) (msCons (mVar 2) msNil)))))
def c_offspring : List Dv → MX Dv := defM 5 m_offspring
def m_classes : MS := (sSeq (sSet 2 mDT) (sSeq (sFor (rng1 (msCons (mCall (k1 lenD) (msCons (mBin oIx (mVar 0) (mC (.int 1))) msNil)) msNil)) (.nm 3) (sSeq (sSet 4 (mCall (k1 tupD) (msCons (mLc (srcV (mCallU 2 c_offspring (msCons (mVar 0) (msCons (mVar 3) msNil)))) (.nm 5) (bB (mBin oNotIn (mVar 5) (mVar 1))) (mVar 5) [5]) msNil))) (sDrop (mMth "list" appendD (mMth "dict" setdD (mVar 2) (msCons (mVar 4) (msCons (mLst msNil) msNil))) (msCons (mVar 3) msNil))))) (sRet (mCall (k1 tupD) (msCons (mLock 2 (mLc (srcVals (mVar 2)) (.nm 6) bYes (mCall (k1 tupD) (msCons (mVar 6) msNil)) [6])) msNil)))))
def c_classes : List Dv → MX Dv := defM 5 m_classes
def m__law_above : MS := (sSeq (sSet 2 (mLc (rng1 (msCons (mCall (k1 lenD) (msCons (mBin oIx (mVar 0) (mC (.int 1))) msNil)) msNil)) (.nm 3) bYes (mBin oEq (mVar 3) (mVar 1)) [3])) (sSeq (sFor (rng3 (msCons (mVar 1) (msCons (mUn oNeg (mC (.int 1))) (msCons (mUn oNeg (mC (.int 1))) msNil)))) (.nm 3) (sFor (srcV (mBin oIx (mBin oIx (mBin oIx (mVar 0) (mC (.int 1))) (mVar 3)) (mC (.int 1)))) (.nm 4) (sPut (mVar 2) (mVar 4) (mOr (mBin oIx (mVar 2) (mVar 4)) (mBin oIx (mVar 2) (mVar 3)))))) (sRet (mVar 2))))
def c__law_above : List Dv → MX Dv := defM 3 m__law_above
def m__law_classes : MS := (sSeq (sSet 2 (mLc (rng1 (msCons (mCall (k1 lenD) (msCons (mBin oIx (mVar 0) (mC (.int 1))) msNil)) msNil)) (.nm 3) (bB (mBin oNotIn (mVar 3) (mVar 1))) (mCallU 2 c__law_above (msCons (mVar 0) (msCons (mVar 3) msNil))) [3])) (sSeq (sSet 4 (mLst msNil)) (sSeq (sFor (rng1 (msCons (mCall (k1 lenD) (msCons (mBin oIx (mVar 0) (mC (.int 1))) msNil)) msNil)) (.nm 5) (sSeq (sSet 6 (mLc (srcV (mVar 4)) (.nm 7) (bB (mBin oEq (mLc (srcV (mVar 2)) (.nm 8) bYes (mBin oIx (mVar 8) (mBin oIx (mVar 7) (mC (.int 0)))) [8]) (mLc (srcV (mVar 2)) (.nm 8) bYes (mBin oIx (mVar 8) (mVar 5)) [8]))) (mVar 7) [7])) (sIf (bB (mBin oEq (mVar 6) (mLst msNil))) (sDrop (mMth "list" appendD (mVar 4) (msCons (mLst (msCons (mVar 5) msNil)) msNil))) (sDrop (mMth "list" appendD (mBin oIx (mVar 6) (mC (.int 0))) (msCons (mVar 5) msNil)))))) (sRet (mCall (k1 tupD) (msCons (mLc (srcV (mVar 4)) (.nm 7) bYes (mCall (k1 tupD) (msCons (mVar 7) msNil)) [7]) msNil))))))
def c__law_classes : List Dv → MX Dv := defM 7 m__law_classes
def m__law_draw : MS := (sSeq (sSet 2 (mBin oIx (mVar 0) (mC (.int 1)))) (sSeq (sPut (mVar 0) (mC (.int 1)) (mBin oAdd (mVar 2) (mC (.int 1)))) (sSeq (sIf (bB (mBin oLt (mVar 2) (mCall (k1 lenD) (msCons (mBin oIx (mVar 0) (mC (.int 0))) msNil)))) (sRet (mBin oMod (mCall (k1 intD) (msCons (mBin oIx (mBin oIx (mVar 0) (mC (.int 0))) (mVar 2)) msNil)) (mVar 1))) sNil) (sRet (mC (.int 0))))))
def c__law_draw : List Dv → MX Dv := defM 1 m__law_draw
def m__law_word : MS := (sSeq (sIf (bAnd (bB (mBin oEq (mVar 1) (mC (.int 1)))) (bB (mBin oEq (mVar 2) (mC (.int 3))))) (sRet (mC (.str "from"))) sNil) (sSeq (sIf (bAnd (bB (mBin oEq (mVar 1) (mC (.int 0)))) (bB (mBin oEq (mVar 2) (mC (.int 5))))) (sRet (mC (.str "make"))) sNil) (sRet (mBin oAdd (mBin oIx (mC (.str "abcdefghijklmnopqrstuvwxyz")) (mBin oMod (mCall (k1 intD) (msCons (mBin oAdd (mVar 2) (mVar 1)) msNil)) (mC (.int 26)))) (mBin oIx (mLst (msCons (mC (.str "")) (msCons (mC (.str "x")) (msCons (mC (.str "zzzzzzz")) msNil)))) (mBin oMod (mCall (k1 intD) (msCons (mVar 2) msNil)) (mC (.int 3))))))))
def c__law_word : List Dv → MX Dv := defM 0 m__law_word
def m__law_history : MS := (sSeq (sSet 2 (mBin oAdd (mC (.int 1)) (mCallU 2 c__law_draw (msCons (mVar 0) (msCons (mVar 1) msNil))))) (sSeq (sSet 3 (mLc (rng1 (msCons (mVar 2) msNil)) (.nm 4) bYes (mLst msNil) [4])) (sSeq (sFor (rng1 (msCons (mBin oSub (mVar 2) (mC (.int 1))) msNil)) (.nm 4) (sSeq (sSet 5 (mBin oAdd (mBin oAdd (mVar 4) (mC (.int 1))) (mBin oMul (mCallU 2 c__law_draw (msCons (mVar 0) (msCons (mBin oSub (mBin oSub (mVar 2) (mC (.int 1))) (mVar 4)) msNil))) (mCall (k1 intD) (msCons (mBin oEq (mCallU 2 c__law_draw (msCons (mVar 0) (msCons (mC (.int 2)) msNil))) (mC (.int 0))) msNil))))) (sSeq (sIf (bB (mBin oGe (mCall (k1 lenD) (msCons (mBin oIx (mVar 3) (mVar 5)) msNil)) (mC (.int 2)))) (sSet 5 (mBin oAdd (mVar 4) (mC (.int 1)))) sNil) (sDrop (mMth "list" appendD (mBin oIx (mVar 3) (mVar 5)) (msCons (mVar 4) msNil)))))) (sSeq (sFor (rng1 (msCons (mBin oMul (mCallU 2 c__law_draw (msCons (mVar 0) (msCons (mC (.int 5)) msNil))) (mCall (k1 intD) (msCons (mBin oGt (mVar 2) (mC (.int 1))) msNil))) msNil)) (.nm 6) (sSeq (sSet 5 (mBin oAdd (mC (.int 1)) (mCallU 2 c__law_draw (msCons (mVar 0) (msCons (mBin oSub (mVar 2) (mC (.int 1))) msNil))))) (sSeq (sSet 7 (mCallU 2 c__law_draw (msCons (mVar 0) (msCons (mVar 5) msNil)))) (sIf (bAnd (bB (mBin oNotIn (mVar 7) (mBin oIx (mVar 3) (mVar 5)))) (bB (mBin oLt (mCall (k1 lenD) (msCons (mBin oIx (mVar 3) (mVar 5)) msNil)) (mC (.int 4))))) (sDrop (mMth "list" appendD (mBin oIx (mVar 3) (mVar 5)) (msCons (mVar 7) msNil))) sNil)))) (sSeq (sSet 8 (mCallU 2 c__law_draw (msCons (mVar 0) (msCons (mC (.int 12)) msNil)))) (sRet (mTup (msCons (mC (.str "history")) (msCons (mCall (k1 tupD) (msCons (mLc (rng1 (msCons (mVar 2) msNil)) (.nm 4) bYes (mTup (msCons (mCallU 3 c__law_word (msCons (mVar 0) (msCons (mVar 4) (msCons (mVar 8) msNil)))) (msCons (mCall (k1 tupD) (msCons (mCall (k1 (onInts sortL)) (msCons (mBin oIx (mVar 3) (mVar 4)) msNil)) msNil)) msNil))) [4]) msNil)) msNil)))))))))
def c__law_history : List Dv → MX Dv := defM 7 m__law_history
def m__law_cell : MS := (sSeq (sIf (bB (mBin oLt (mVar 1) (mCall (k1 lenD) (msCons (mVar 0) msNil)))) (sRet (mBin oIx (mVar 0) (mVar 1))) sNil) (sRet (mC (.int 0))))
def c__law_cell : List Dv → MX Dv := defM 0 m__law_cell
def m__law_digits : MS := (sSeq (sSet 3 (mLst msNil)) (sSeq (sFor (rng2 (msCons (mVar 1) (msCons (mVar 2) msNil))) (.nm 4) (sSeq (sSet 5 (mCallU 2 c__law_cell (msCons (mVar 0) (msCons (mVar 4) msNil)))) (sSeq (sIf (bB (mBin oLt (mVar 5) (mC (.int 0)))) (sSet 5 (mBin oSub (mC (.int 1)) (mBin oMul (mC (.int 2)) (mVar 5)))) sNil) (sIf (bB (mBin oGe (mVar 5) (mBin oPow (mC (.int 10)) (mC (.int 18))))) (sFor (rng1 (msCons (mC (.int 60)) msNil)) (.nm 6) (sIf (bB (mBin oGt (mVar 5) (mC (.int 0)))) (sSeq (sDrop (mMth "list" appendD (mVar 3) (msCons (mBin oMod (mCall (k1 intD) (msCons (mVar 5) msNil)) (mC (.int 1000))) msNil))) (sSet 5 (mBin oFdiv (mVar 5) (mC (.int 1000))))) sNil)) (sSeq (sSet 7 (mBin oMod (mCall (k1 intD) (msCons (mBin oAdd (mBin oAdd (mBin oMul (mVar 5) (mC (.int 48271))) (mBin oMul (mVar 4) (mC (.int 69621)))) (mC (.int 11))) msNil)) (mC (.int 2147483647)))) (sFor (rng1 (msCons (mC (.int 12)) msNil)) (.nm 6) (sSeq (sSet 7 (mBin oMod (mCall (k1 intD) (msCons (mBin oAdd (mBin oAdd (mBin oMul (mVar 7) (mC (.int 16807))) (mBin oMul (mC (.int 7)) (mVar 6))) (mC (.int 1))) msNil)) (mC (.int 2147483647)))) (sDrop (mMth "list" appendD (mVar 3) (msCons (mBin oMod (mCall (k1 intD) (msCons (mBin oFdiv (mVar 7) (mC (.int 997))) msNil)) (mC (.int 1000))) msNil)))))))))) (sRet (mVar 3))))
def c__law_digits : List Dv → MX Dv := defM 5 m__law_digits
def m_ancestors : MS := (sSeq (sSet 2 (mBin oIx (mVar 0) (mC (.int 1)))) (sSeq (sSet 3 (mBin oAdd (mBin oMul (mLst (msCons (mC (.bl false)) msNil)) (mVar 1)) (mLst (msCons (mC (.bl true)) msNil)))) (sSeq (sFor (rng3 (msCons (mVar 1) (msCons (mUn oNeg (mC (.int 1))) (msCons (mUn oNeg (mC (.int 1))) msNil)))) (.nm 4) (sIf (bB (mBin oIx (mVar 3) (mVar 4))) (sFor (srcV (mBin oIx (mBin oIx (mVar 2) (mVar 4)) (mC (.int 1)))) (.nm 5) (sPut (mVar 3) (mVar 5) (mC (.bl true)))) sNil)) (sRet (mCall (k1 tupD) (msCons (mLc (srcEn (msCons (mVar 3) msNil)) (.tp [(.nm 4), (.nm 6)]) (bTru (mVar 6)) (mVar 4) [4, 6]) msNil))))))
def c_ancestors : List Dv → MX Dv := defM 5 m_ancestors
def m_which_are_in : MS := (sRet (mCall (k1 tupD) (msCons (mLc (srcV (mVar 0)) (.nm 2) bYes (mBin oIn (mVar 2) (mVar 1)) [2]) msNil)))
def c_which_are_in : List Dv → MX Dv := defM 1 m_which_are_in
def m_marks : MS := (sSeq (sSet 3 (mLc (srcV (mCallU 2 c_classes (msCons (mVar 0) (msCons (mVar 1) msNil)))) (.nm 4) bYes (mBin oIx (mVar 4) (mC (.int 0))) [4])) (sRet (mCall (k1 tupD) (msCons (mLc (srcV (mVar 2)) (.nm 5) bYes (mCallU 2 c_which_are_in (msCons (mVar 3) (msCons (mCallU 2 c_ancestors (msCons (mVar 0) (msCons (mVar 5) msNil))) msNil))) [5]) msNil))))
def c_marks : List Dv → MX Dv := defM 3 m_marks
def m_start : MS := (sRet (mCall (k1 tupD) (msCons (mLc (srcV (mCallU 2 c_classes (msCons (mVar 0) (msCons (mVar 1) msNil)))) (.nm 3) bYes (mVar 2) [3]) msNil)))
def c_start : List Dv → MX Dv := defM 1 m_start
def m_taken : MS := (sSeq (sIf (bB (mBin oEq (mVar 2) (mC (.str "broken")))) (sRet (mCall (k1 tupD) (msCons (mLc (srcZp (msCons (mVar 0) (msCons (mVar 1) msNil))) (.tp [(.nm 3), (.nm 4)]) bYes (mIf (bOr (bTru (mVar 4)) (bB (mBin oLt (mVar 3) (mC (.int 0))))) (mVar 3) (mBin oSub (mVar 3) (mC (.int 1)))) [3, 4]) msNil))) sNil) (sRet (mCall (k1 tupD) (msCons (mLc (srcZp (msCons (mVar 0) (msCons (mVar 1) msNil))) (.tp [(.nm 3), (.nm 4)]) bYes (mIf (bAnd (bTru (mVar 4)) (bB (mBin oGe (mVar 3) (mC (.int 0))))) (mBin oSub (mVar 3) (mC (.int 1))) (mVar 3)) [3, 4]) msNil))))
def c_taken : List Dv → MX Dv := defM 2 m_taken
end Cm

/-! Mn14: words that look in the store, by what they find there. -/
namespace Mn
open PySem PySem.Spec PyProof.Rows L2
section
variable {E : Exn → Th → Prop} {θ : Th} {ρ : DEnv} {Q : Dv → Th → Prop} {k : Nat} {ds : List Dv} {i : Int} {d y : Dv}
def ixK (o : Option Ob) (y : Dv) (θ : Th) (Q : Dv → Th → Prop) : Prop := match o with
  | some (.lst ds) => (match y with
    | .int i => optW (atI ds i) θ Q
    | _ => False)
  | some (.dK kvs) => (match fKey y with
    | some q => optW (lookD kvs q) θ Q
    | none => False)
  | some (.dT kvs) => (match tKey y with
    | some q => optW (lookD kvs q) θ Q
    | none => False)
  | _ => False
theorem x_ixP : oIx (.obj k) y E θ Q = ixK θ[k]? y θ Q := (rfl)
theorem x_ixL : ixK (some (.lst ds)) (.int i) θ Q = optW (atI ds i) θ Q := (rfl)
def lenK (o : Option Ob) (θ : Th) (Q : Dv → Th → Prop) : Prop := match o with
  | some (.lst ds) => Q (.int ds.length) θ
  | some (.dK kvs) => Q (.int kvs.length) θ
  | _ => False
theorem x_lenP : lenD (.obj k) E θ Q = lenK θ[k]? θ Q := (rfl)
theorem x_lenL : lenK (some (.lst ds)) θ Q = Q (.int ds.length) θ := (rfl)
def tupK (o : Option Ob) (θ : Th) (Q : Dv → Th → Prop) : Prop := match o with
  | some (.lst ds) => Q (.tup ds) θ
  | some (.dK kvs) => Q (.tup (kvs.map fun kv => keyD kv.1)) θ
  | _ => False
theorem x_tupP : tupD (.obj k) E θ Q = tupK θ[k]? θ Q := (rfl)
theorem x_tupL : tupK (some (.lst ds)) θ Q = Q (.tup ds) θ := (rfl)
theorem x_tupKK {kvs : List (Key × Dv)} : tupK (some (.dK kvs)) θ Q = Q (.tup (kvs.map fun kv => keyD kv.1)) θ := (rfl)
def lstK (o : Option Ob) (θ : Th) (Q : Dv → Th → Prop) : Prop := match o with
  | some (.lst ds) => Q (.obj θ.length) (θ ++ [.lst ds])
  | some (.dK kvs) => Q (.obj θ.length) (θ ++ [.lst (kvs.map fun kv => keyD kv.1)])
  | _ => False
theorem x_lstP : lstD (.obj k) E θ Q = lstK θ[k]? θ Q := (rfl)
theorem x_lstL : lstK (some (.lst ds)) θ Q = Q (.obj θ.length) (θ ++ [.lst ds]) := (rfl)
def appK (o : Option Ob) (k : Nat) (es : List Dv) (θ : Th) (Q : Dv → Th → Prop) : Prop := match o with
  | some (.lst xs) => (match es with
    | [y] => xs.length < sizeLine ∧ Q .non (θ.set k (.lst (xs ++ [y])))
    | _ => False)
  | _ => False
theorem x_appP {es : List Dv} : appendD (.obj k) es E θ Q = appK θ[k]? k es θ Q := (rfl)
theorem x_appL : appK (some (.lst ds)) k [y] θ Q = (ds.length < sizeLine ∧ Q .non (θ.set k (.lst (ds ++ [y])))) := (rfl)
theorem x_tyP : tyD θ (.obj k) = tyO θ[k]? := (rfl)
theorem x_tyL : tyO (some (.lst ds)) = some "list" := (rfl)
theorem x_tyK {kvs : List (Key × Dv)} : tyO (some (.dK kvs)) = some "dict" := (rfl)
theorem x_tyT {kvs : List (List Key × Dv)} : tyO (some (.dT kvs)) = some "dict" := (rfl)
def putK1 (o : Option Ob) (k : Nat) (y v : Dv) (θ : Th) (Q : Unit → Th → Prop) : Prop := match o with
  | some (.lst ds) => (match y with
      | .int i => (match ixN ds.length i with
        | some j => Q () (θ.set k (.lst (ds.set j v)))
        | none => False)
      | _ => False)
  | some (.dK kvs) => (match fKey y with
      | some q => kvs.length < sizeLine ∧ Q () (θ.set k (.dK (putD kvs q v)))
      | none => False)
  | some (.dT kvs) => (match tKey y with
      | some q => kvs.length < sizeLine ∧ Q () (θ.set k (.dT (putD kvs q v)))
      | none => False)
  | _ => False
theorem x_putP {v : Dv} {R : Unit → Th → Prop} : setO (.obj k) y v E θ R = putK1 θ[k]? k y v θ R := (rfl)
def putI (o : Option Nat) (k : Nat) (ds : List Dv) (v : Dv) (θ : Th) (Q : Unit → Th → Prop) : Prop := match o with
  | some j => Q () (θ.set k (.lst (ds.set j v)))
  | none => False
theorem x_putL {v : Dv} {R : Unit → Th → Prop} : putK1 (some (.lst ds)) k (.int i) v θ R = putI (ixN ds.length i) k ds v θ R := (rfl)
theorem x_putI {v : Dv} {j : Nat} {R : Unit → Th → Prop} : putI (some j) k ds v θ R = R () (θ.set k (.lst (ds.set j v))) := (rfl)
theorem x_putKK {v : Dv} {q : Int} {kvs : List (Key × Dv)} {R : Unit → Th → Prop} : putK1 (some (.dK kvs)) k (.int q) v θ R = (kvs.length < sizeLine ∧ R () (θ.set k (.dK (putD kvs (.inl q) v)))) := (rfl)
def srcKK (o : Option Ob) (k : Nat) (θ : Th) (Q : Src → Th → Prop) : Prop := match o with
  | some (.lst _) => Q (.sd (.L k)) θ
  | _ => False
theorem x_srcP {R : Src → Th → Prop} : srcK E R (.obj k) θ = srcKK θ[k]? k θ R := (rfl)
theorem x_srcL {R : Src → Th → Prop} : srcKK (some (.lst ds)) k θ R = R (.sd (.L k)) θ := (rfl)
/-! places -/
theorem ix_nat {n : Nat} {j : Nat} (h : j < n) : ixN n (j : Int) = some j := by
  unfold ixN
  rw [if_pos (by omega), if_pos (by omega)]
  simp
theorem ix_int {n : Nat} {i : Int} (h0 : 0 ≤ i) (h : i < n) : ixN n i = some i.toNat := by
  unfold ixN
  rw [if_pos h0, if_pos h]
theorem at_nat {β : Type} {xs : List β} {j : Nat} {x : β} (h : xs[j]? = some x) : atI xs (j : Int) = some x := by
  unfold atI
  rw [ix_nat (List.getElem?_eq_some_iff.mp h).1]
  exact h
theorem at_int {β : Type} {xs : List β} {i : Int} {x : β} (h0 : 0 ≤ i) (h : xs[i.toNat]? = some x) : atI xs i = some x := by
  unfold atI
  have := (List.getElem?_eq_some_iff.mp h).1
  rw [ix_int h0 (by omega)]
  exact h
theorem at_0 {β : Type} {x : β} {r : List β} : atI (x :: r) 0 = some x := at_nat (j := 0) rfl
theorem at_1 {β : Type} {x y : β} {r : List β} : atI (x :: y :: r) 1 = some y := at_nat (j := 1) rfl
theorem th_mid {θ g : Th} {o : Ob} : (θ ++ o :: g)[θ.length]? = some o := by simp
theorem th_left {θ g : Th} {k : Nat} {o : Ob} (h : θ[k]? = some o) : (θ ++ g)[k]? = some o := by
  rw [List.getElem?_append_left (List.getElem?_eq_some_iff.mp h).1]
  exact h
theorem th_set_mid {θ g : Th} {o o' : Ob} : (θ ++ o :: g).set θ.length o' = θ ++ o' :: g := by simp
end
end Mn

/-! Mn15: a suite may drop what it left behind. -/
namespace Mn
open PySem PySem.Spec PyProof.Rows L2
def lowE (n : Nat) (ρ : DEnv) : Prop := ∀ (i : Nat) (d : Dv), ρ[i]? = some (some d) → d.low n = true
/-- ρ2 is ρ' with some slots forgotten -/
def subE (ρ2 ρ' : DEnv) : Prop := ρ2.length = ρ'.length ∧ ∀ (i : Nat) (d : Dv), ρ2[i]? = some (some d) → ρ'[i]? = some (some d)
def outCut (θ0 : Th) (Q : Out → Th → Prop) (o : Out) (θ' : Th) : Prop := Q o θ' ∨ ∃ ρ' θ2 g ρ2, o = .nx ρ' ∧ θ' = θ2 ++ g ∧ θ0.length ≤ θ2.length ∧ (Clo θ0 → Clo θ2) ∧ lowE θ2.length ρ2 ∧ subE ρ2 ρ' ∧ Q (.nx ρ2) θ2
def sCut (m : MS) : MS := fun ρ E θ Q => m ρ E θ (outCut θ Q)
section
variable {X : Cx} {W : Wd X.K X.mg}
theorem sm_cut {b : List Stmt} {m : MS} (h : PSs X b (tS W m)) : PSs X b (tS W (sCut m)) := pss_w h fun D σ H ⟨ρ, α, θ, Qm, at', rs, q, u⟩ => ⟨ρ, α, θ, _, at', rs, q, fun o θ' α' H' q' ok' nx' => by
  rcases q' with q' | ⟨ρ', θ2, g, ρ2, rfl, rfl, hl, hc, lo, sb, q'⟩
  · exact u o θ' α' H' q' ok' nx'
  · intro σ' rs'
    have c2 := hc at'.ok.clo
    refine u (.nx ρ2) θ2 (α'.take θ2.length) H' q' (ok'.cut c2) ⟨?_, nx'.tup, nx'.xd, nx'.fz⟩ σ' ⟨rs'.1.trans sb.1.symm, fun i d e => ?_⟩
    · obtain ⟨β, rfl⟩ := nx'.ext
      refine ⟨β.take (θ2.length - α.length), ?_⟩
      rw [List.take_append, List.take_of_length_le (by rw [at'.ok.len]; exact hl)]
    · obtain ⟨v, h1, h2⟩ := rs'.2 i d (sb.2 i d e)
      exact ⟨v, h1, h2.cut (lo i d e)⟩⟩
end
theorem x_cut {m : MS} {ρ : DEnv} {E : Exn → Th → Prop} {θ : Th} {Q : Out → Th → Prop} : sCut m ρ E θ Q = m ρ E θ (outCut θ Q) := (rfl)
theorem cut_same {θ0 θ' : Th} {Q : Out → Th → Prop} {o : Out} (h : Q o θ') : outCut θ0 Q o θ' := .inl h
end Mn

/-! Mn16: sorted(set(xs)), sum of a tuple, count, bit operations. -/
namespace Mn
open PySem PySem.Spec PyProof.Rows L2

/-! ### set(xs) of a list of ints -/
/-- the empty set, just made -/
abbrev set0 (w : World) : Obj := { cls := .type "set", dict := none, data := .set #[] 0 (.fresh 0 0 (!w.params.followText "set-order")) }
section
variable {P : Program} {w : World} {A : Around} {E : Value → Shared → Prop} {s : Shared}
/-- what filling it leaves -/
def Filled (w : World) (s : Shared) (ns : List Int) (t : Shared) : Prop := ∃ h' tk c, t = { s with heap := h', toks := tk } ∧ SetR w h' s.heap.objs.size (fun j => decide (j ∈ ns)) c ∧ c ≤ ns.length ∧ ∀ b o, s.heap.get? b = some o → h'.get? b = some o
theorem two_not {a b c : Nat} (h1 : a ≠ b) (h2 : a ≠ c) : a ∉ [b, c] := by simp [h1, h2]
theorem set0_here (s : Shared) (w : World) : (s.heap.push (set0 w)).get? s.heap.objs.size = some (set0 w) := Heap.get?_push_size _ rfl
theorem set0_lookup (ns : List Int) {items : Array Value} (hit : IntsAre items.toList ns) (hz : items.size = ns.length) (i : Nat) (v : Value) (hv : items[i]? = some v) : ∃ k t, ns[i]? = some k ∧ v = .int k t := by
  have hi : i < ns.length := hz ▸ (Array.getElem?_eq_some_iff.mp hv).1
  obtain ⟨t, rfl⟩ := IntsAre.int_at hit i v (by rw [Array.getElem?_toList]; exact hv)
  exact ⟨ns[i], t, List.getElem?_eq_getElem hi, by rw [List.getD_eq_getElem?_getD, List.getElem?_eq_getElem hi]; rfl⟩
set_option maxHeartbeats 3200000 in
theorem call_setL {l : Addr} {items : Array Value} (ns : List Int) {Q : Value → Shared → Prop} (hh : A.handled = none) (hl : s.heap.IsList l items) (hit : IntsAre items.toList ns) (hb : ns.length + 1 < scanBound)
    (h : ∀ t, Filled w s ns t → Q (.ref s.heap.objs.size) t) : wpAny (model P w) A (call (.type "set") [.ref l]) Q E s := by
  have hz : items.size = ns.length := by rw [← Array.length_toList, IntsAre.length hit]
  have ⟨_, _, m1⟩ := F.called_set.mro
  have m2 := F.called_set.made
  have m3 := F.called_set.sub
  have m4 := F.called_set.notType
  have m5 := F.called_set.canCreate
  have m6 := F.typeCall_set_1 (.ref l)
  have m7 := F.called_set.init.lookup
  have m8 := F.called_set.init.bind (.ref s.heap.objs.size)
  have here := set0_here s w
  apply wpAny_call
  apply codeAny_of_tree
  show wpAny _ _ (callAny (.type "set") _) _ _ _
  apply wpAny_pure
  refine ⟨Code.quiet_builtin _ (by decide +kernel), codeAny_builtin F.entry_type_call ?_⟩
  rw [Around.under_plain (weight_type_call_type "set" [.ref l] []) rfl]
  repeat' first | assumption | wp_step
  refine codeAny_mono (code_set_led1 (.ref l) (E := E) (Q₁ := fun v t => v = .ref s.heap.objs.size ∧ t = { s with heap := s.heap.push (set0 w) }) ⟨rfl, rfl⟩) ?_
  rintro (e | f) t ht
  · exact ht
  cases f with
  | ret v =>
    obtain ⟨rfl, rfl⟩ := ht
    have ty : Shared.TypeIs { s with heap := s.heap.push (set0 w) } (.ref s.heap.objs.size) "set" := ⟨_, here, rfl⟩
    repeat' first | assumption | wp_step
    refine codeAny_mono (codeAny_call_builtin (R := wants (fun r t => r = .none ∧ Filled w s ns t) E) F.called_set.init.plain F.entry_set_init (check_set_init_1 ty ?_)) ?_
    · have ⟨⟨oc, od, oda, osl⟩, o1, o2, n, o3⟩ := hl
      simp only at o2 o3
      subst o2 o3
      have old : (s.heap.push (set0 w)).get? l = some _ := Heap.get?_push_of_some _ o1
      have t1 := F.sub_list_set
      have t2 := F.sub_list_frozenset
      have t3 : (Value.type "list" == Value.type "dict") = false := by decide
      have lst : (s.heap.push (set0 w)).IsList l items := ⟨_, old, rfl, n, rfl⟩
      have lt := Heap.lt_size o1
      unfold Builtin.«set.__init__» noKeywords Builtin.Frozenset.updateFrom
      generalize e : pyIter = it
      wp_walk
      subst e
      apply wpAny_pyIter_list lst
      apply wpAny_bind
      apply wpAny_runValue
      have sz := Heap.size_push s.heap (set0 w)
      have ne1 : l ≠ (s.heap.push (set0 w)).objs.size := by rw [sz]; exact Nat.ne_of_lt (Nat.lt_succ_of_lt lt)
      have ne2 : s.heap.objs.size ≠ (s.heap.push (set0 w)).objs.size := by rw [sz]; exact Nat.ne_of_lt (Nat.lt_succ_self _)
      refine set_update_ints (Walks.list (by simp [hh]) _ l ne1 items).toS s.heap.objs.size (two_not ne2 (Nat.ne_of_gt lt)) ns hz hb (set0_lookup ns hit hz) (items.size - 0) 0 _ (by omega) (Nat.zero_le _) ⟨⟨_, Heap.get?_push_size _ rfl, rfl, rfl⟩, lst.push _⟩ ⟨0, Nat.le_refl 0, setR_new_at (Heap.get?_push_of_some _ here)⟩ ?_
      rintro ⟨h', g', d', tk', os'⟩ c mv hc R
      have e1 : g' = s.gens := mv.gens
      have e2 : d' = s.drawn := mv.drawn
      have e3 : os' = s.os := mv.os
      subst e1 e2 e3
      show wpAny _ _ _ _ _ _
      apply wpAny_pure
      show wpAny _ _ (PySem.ret Value.none) _ _ _
      apply wpAny_pure
      refine ⟨rfl, h', tk', c, rfl, R, hz ▸ hc, fun b o q => ?_⟩
      have lb := Heap.lt_size q
      exact mv.heap b o (two_not (Nat.ne_of_lt lb) (by rw [sz]; exact Nat.ne_of_lt (Nat.lt_succ_of_lt lb))) (Heap.get?_push_of_some _ (Heap.get?_push_of_some _ q))
    · rintro (e | f) t ht
      · exact ht
      cases f with
      | ret v =>
        obtain ⟨rfl, ht⟩ := ht
        have ht2 := ht
        obtain ⟨h', tk, c, rfl, _⟩ := ht
        repeat' first | assumption | wp_step
        exact h _ ht2
      | _ => exact ht.elim
  | _ => exact ht.elim
end

/-! ### sorted(set(xs)) -/
section
variable {X : Cx} {W : Wd X.K X.mg}
def rSetL (X : Cx) : List V → Hp → VK → Prop := fun xs H Q => ∃ (l : Addr) (ns : List Int), xs = [.ref l] ∧ SqL X.K H l (ns.map V.int) ∧ ns.length ≤ 60 ∧ ∀ p c, H p = none → c ≤ ns.length → Q (.ref p) (upd H p (SetO X.w p (fun j => decide (j ∈ ns)) c))
theorem cr_setL (hc : X.calm = true) : CallR X (.type "set") (rSetL X) := by
  intro pins s σ H xs us Q I r h
  obtain ⟨l, ns, rfl, hs, hn, q⟩ := h
  obtain ⟨its, rv, pl, _⟩ := I.list hs
  rw [Vals.ref1 r]
  refine call_setL (I.ok.hd hc) (ns := ns) pl.isList (by simpa using rv.ints) (by unfold scanBound; omega) fun t ⟨h', tk, c, et, R, hcc, kp⟩ => ?_
  subst et
  exact ⟨.ref _, upd H s.heap.objs.size (SetO X.w s.heap.objs.size (fun j => decide (j ∈ ns)) c), I.laid (fun b u e => kp b u e) (Nat.le_refl _) (setO_new R), rfl, q _ c (I.hok.fresh (Nat.le_refl _)) hcc⟩
def srtSet (ns : List Int) : MX Dv := fun _ θ Q => ns.length ≤ 60 ∧ ∀ ns' : List Int, ns'.Pairwise (· < ·) → (∀ k, k ∈ ns' ↔ k ∈ ns) → Q (.obj θ.length) (θ ++ [.lst (ns'.map Dv.int)])
theorem pm_srtSet {e : Expr} {ms : DEnv → MX (List Dv)} {p p2 q2 pos : Pos} (c : Cf X) (hm : X.mg "sorted" = none) (hm2 : X.mg "set" = none) (ha : PA X [e] (tMs W ms)) (hg : Gl X "sorted" := by rfl) (hg2 : Gl X "set" := by rfl)
    (he : starEach [e] X.env = (false, eval e X.env) :: starEach [] X.env := by rfl) (hpl : (backTo q2 (starEach [] X.env)).any (·.1) = false := by rfl)
    (he2 : starEach [.Call (.Name "set" p2) [e] [] q2] X.env = (false, eval (.Call (.Name "set" p2) [e] [] q2) X.env) :: starEach [] X.env := by rfl) (hpl2 : (backTo pos (starEach [] X.env)).any (·.1) = false := by rfl) :
    PE X (.Call (.Name "sorted" p) [.Call (.Name "set" p2) [e] [] q2] [] pos) (tM W (mCall (k1 (onInts srtSet)) ms)) :=
  pe_w (pe_callB (cr_sortedSet c.calm) hg hm PyProof.Rows.boot_sorted (pa_cons (pe_callTy (cr_setL c.calm) hg2 hm2 PyProof.Rows.boot_set ha (by decide) (by decide) he hpl) pa_nil he2) (by decide) (by decide) he2 hpl2) fun σ H Q ⟨ρ, α, θ, Qm, at', rs, q, u⟩ =>
    ⟨ρ, α, θ, _, at', rs, q, fun ds θ1 α1 H1 vs q1 ok1 nx1 r1 => by
      have q1 : k1 (onInts srtSet) ds W.En θ1 Qm := q1
      unfold k1 at q1
      split at q1
      · rename_i d
        obtain ⟨x, rfl, rx⟩ := one_of r1
        obtain ⟨l, ns, rfl, hs, hn, q2⟩ := onInts_up ok1 rx q1
        refine ⟨l, ns, rfl, hs, hn, fun p c hp hc => ⟨p, _, c, rfl, upd_same, by omega, fun ns' p3 h1 h2 _ hp3 => ?_⟩⟩
        have nx2 : Nx X.K H1 α1 (upd H1 p (SetO X.w p (fun j => decide (j ∈ ns)) c)) α1 := Nx.new0 hp
        have a2 : At W (upd H1 p (SetO X.w p (fun j => decide (j ∈ ns)) c)) α1 θ1 := ⟨ok1.new0 hp, (at'.nx.trans nx1).trans nx2⟩
        exact up_lst (u.mono (nx1.trans nx2)) a2 (q2 ns' h1 fun k => by rw [h2 k]; exact decide_eq_true_iff) (rps_ints ns') p3 hp3
      · exact False.elim q1⟩
/-! ### sum of a tuple -/
def sumD (d : Dv) : MX Dv := fun E θ Q => match d with
  | .tup ds => (match intsD ds with
    | some ns => sumL ns E θ Q
    | none => False)
  | _ => False
/-! ### tuple(xs) of a list, known to be bare -/
def tupPD (d : Dv) : MX Dv := fun _ θ Q => match d with
  | .obj k => (match θ[k]? with
    | some (.lst ds) => Q (.pt ds) θ
    | _ => False)
  | _ => False
/-! ### t.count(x) of a bare tuple -/
def countD (d : Dv) (ds : List Dv) : MX Dv := fun _ θ Q => match d, ds with
  | .pt es, [y] => (match toPy θ 66 y, toPy θ 66 (.tup es) with
    | some d, some (.tuple ps) => SeqAt.shaped (.tuple ps) = true ∧ SeqAt.shaped d = true ∧ Q (.int (ps.countP fun z => PyData.eqv z d : Nat)) θ
    | _, _ => False)
  | _, _ => False
def mCnt (o : ME) (ms : DEnv → MX (List Dv)) : ME := fun ρ E θ Q => o ρ E θ fun d θ1 => (match d with
  | .pt _ => True
  | _ => False) ∧ ms ρ E θ1 fun ds θ2 => countD d ds E θ2 Q
/-! ### n & 1 -/
def oAnd : Dv → Dv → MX Dv
  | .int i, .int j => fun _ θ Q => j = 1 ∧ ∃ n : Nat, i = n ∧ Q (.int ((n % 2 : Nat) : Int)) θ
  | _, _ => MX.stuck
/-! ### a, b = .. ; a += .. -/
theorem sm_tg {ts : List Expr} {k : Nat} {e : Expr} {m : ME} {T : Tg} {pos pos' : Pos} (he : PE X e (tM W m)) (hg : PG X (.Tuple ts k pos') (gT X.K T)) (hs : swapsWithSole [.Tuple ts k pos'] e pos.line X.env = pure false := by rfl) (hw : swappedStores [.Tuple ts k pos'] e X.env = pure none := by rfl)
    (h1 : (assignEach [.Tuple ts k pos'] X.env).map (·.2) = [assign (.Tuple ts k pos') X.env] := by rfl) : PS X (.Assign [.Tuple ts k pos'] e pos) (tS W (sAsg T m)) := sm_asg (ps_asg he hg hs hw h1)
end
end Mn

/-! Mn17: equations of what Mn16 has. -/
namespace Mn
open PySem PySem.Spec PyProof.Rows L2
section
variable {E : Exn → Th → Prop} {θ : Th} {ρ : DEnv} {a : ME} {ms : DEnv → MX (List Dv)}
def asgQ (o : Option DEnv) (θ : Th) (Q : Out → Th → Prop) : Prop := match o with
  | some ρ' => Q (.nx ρ') θ
  | none => False
theorem x_asg {T : Tg} {Q : Out → Th → Prop} : sAsg T a ρ E θ Q = a ρ E θ fun d θ1 => asgQ (asgT T d ρ) θ1 Q := by
  show (a ρ E θ fun d θ1 => (MX.opt (asgT T d ρ) : MX DEnv) E θ1 fun ρ' θ' => Q (.nx ρ') θ') = _
  congr 1
  funext d θ1
  cases asgT T d ρ <;> rfl
theorem x_asgQ {ρ' : DEnv} {Q : Out → Th → Prop} : asgQ (some ρ') θ Q = Q (.nx ρ') θ := (rfl)
theorem x_asgT2 {i j : Nat} {x y : Dv} : asgT (.tp [.nm i, .nm j]) (.tup [x, y]) ρ = some ((ρ.set i (some x)).set j (some y)) := (rfl)
variable {Q : Dv → Th → Prop}
theorem x_cnt : mCnt a ms ρ E θ Q = a ρ E θ fun d θ1 => (match d with
  | .pt _ => True
  | _ => False) ∧ ms ρ E θ1 fun ds θ2 => countD d ds E θ2 Q := (rfl)
theorem x_sumT2 {i j : Int} : sumD (.tup [.int i, .int j]) E θ Q = Q (.int (i + j)) θ := by
  show Q (.int [i, j].sum) θ = _
  simp
def tupPK (o : Option Ob) (θ : Th) (Q : Dv → Th → Prop) : Prop := match o with
  | some (.lst ds) => Q (.pt ds) θ
  | _ => False
theorem x_tupPD {k : Nat} : tupPD (.obj k) E θ Q = tupPK θ[k]? θ Q := (rfl)
theorem x_tupPL {ds : List Dv} : tupPK (some (.lst ds)) θ Q = Q (.pt ds) θ := (rfl)
theorem x_and1 {i : Nat} : oAnd (.int i) (.int 1) E θ Q = Q (.int ((i % 2 : Nat) : Int)) θ := by
  show (1 = 1 ∧ ∃ n : Nat, (i : Int) = n ∧ Q (.int ((n % 2 : Nat) : Int)) θ) = _
  refine propext ⟨fun ⟨_, n, e, q⟩ => ?_, fun q => ⟨rfl, i, rfl, q⟩⟩
  have : i = n := Int.ofNat.inj e
  rw [this]
  exact q
end
end Mn
namespace Mn
open PySem PySem.Spec PyProof.Rows L2
section
variable {E : Exn → Th → Prop} {θ : Th} {ρ : DEnv} {a : ME} {Q : Bool → Th → Prop}
def truK (E : Exn → Th → Prop) (Q : Bool → Th → Prop) : Dv → Th → Prop := fun x θ1 => truth x E θ1 Q
theorem x_bTru : bTru a ρ E θ Q = a ρ E θ (truK E Q) := (rfl)
theorem x_truB {b : Bool} : truK E Q (.bl b) θ = Q b θ := (rfl)
theorem x_truI {i : Int} : truK E Q (.int i) θ = Q (i != 0) θ := (rfl)
theorem x_truS {z : Str} : truK E Q (.str z) θ = (z.length ≤ sizeLine ∧ Q ((z.length : Int) != 0) θ) := (rfl)
end
end Mn
namespace Mn
open PySem PySem.Spec PyProof.Rows L2
section
variable {E : Exn → Th → Prop} {θ : Th} {Q : Dv → Th → Prop}
def slK (o : Option Ob) (lo hi : Option Int) (θ : Th) (Q : Dv → Th → Prop) : Prop := match o with
  | some (.lst ds) => Q (.obj θ.length) (θ ++ [.lst (cutD ds lo hi)])
  | _ => False
theorem x_slP {k : Nat} {lo hi : Option Int} : oSl (.obj k) lo hi E θ Q = slK θ[k]? lo hi θ Q := (rfl)
theorem x_slL {ds : List Dv} {lo hi : Option Int} : slK (some (.lst ds)) lo hi θ Q = Q (.obj θ.length) (θ ++ [.lst (cutD ds lo hi)]) := (rfl)
theorem x_slTu {ds : List Dv} {lo hi : Option Int} : oSl (.tup ds) lo hi E θ Q = Q (.tup (cutD ds lo hi)) θ := (rfl)
def addK (o o' : Option Ob) (θ : Th) (Q : Dv → Th → Prop) : Prop := match o, o' with
  | some (.lst a), some (.lst b) => a.length + b.length ≤ sizeLine ∧ Q (.obj θ.length) (θ ++ [.lst (a ++ b)])
  | _, _ => False
theorem x_addP {j k : Nat} : oAdd (.obj j) (.obj k) E θ Q = addK θ[j]? θ[k]? θ Q := (rfl)
theorem x_addL {a b : List Dv} : addK (some (.lst a)) (some (.lst b)) θ Q = (a.length + b.length ≤ sizeLine ∧ Q (.obj θ.length) (θ ++ [.lst (a ++ b)])) := (rfl)
end
end Mn

/-! Cm2: more mirrors that many laws read alike. -/
namespace Cm2
open PySem Mn
def m_most_tests : MS := (sRet (mIf (bB (mBin oEq (mVar 1) (mC (.str "two")))) (mBin oAdd (mBin oMul (mC (.int 2)) (mVar 0)) (mC (.int 1))) (mBin oAdd (mVar 0) (mC (.int 1)))))
def c_most_tests : List Dv → MX Dv := defM 0 m_most_tests
def m__law_parents : MS := (sSeq (sIf (bB (mBin oGt (mCall (k1 lenD) (msCons (mVar 2) msNil)) (mC (.int 2)))) (sSeq (sSet 3 (mCallU 2 Cm.c__law_draw (msCons (mVar 0) (msCons (mBin oSub (mCall (k1 lenD) (msCons (mVar 2) msNil)) (mC (.int 1))) msNil)))) (sRet (mCall (k1 tupD) (msCons (mSl (mVar 2) (pSo (mVar 3)) (pSo (mBin oAdd (mVar 3) (mC (.int 2))))) msNil)))) sNil) (sSeq (sIf (bB (mBin oEq (mCallU 2 Cm.c__law_draw (msCons (mVar 0) (msCons (mC (.int 6)) msNil))) (mC (.int 0)))) (sRet (mTup msNil)) sNil) (sSeq (sSet 4 (mCallU 2 Cm.c__law_draw (msCons (mVar 0) (msCons (mVar 1) msNil)))) (sSeq (sSet 5 (mCallU 2 Cm.c__law_draw (msCons (mVar 0) (msCons (mVar 1) msNil)))) (sRet (mCall (k1 tupD) (msCons (mCall (k1 (onInts srtSet)) (msCons (mLst (msCons (mVar 4) (msCons (mVar 5) msNil))) msNil)) msNil)))))))
def c__law_parents : List Dv → MX Dv := defM 3 m__law_parents
def m__law_history : MS := (sSeq (sSet 2 (mBin oAdd (mC (.int 1)) (mCallU 2 Cm.c__law_draw (msCons (mVar 0) (msCons (mVar 1) msNil))))) (sSeq (sSet 3 (mLst msNil)) (sSeq (sSet 4 (mLst msNil)) (sSeq (sFor (rng1 (msCons (mVar 2) msNil)) (.nm 5) (sSeq (sSet 6 (mTup msNil)) (sSeq (sIf (bB (mBin oEq (mVar 5) (mBin oSub (mVar 2) (mC (.int 1))))) (sSet 6 (mCall (k1 tupD) (msCons (mVar 4) msNil))) (sIf (bB (mBin oGt (mVar 5) (mC (.int 0)))) (sSet 6 (mCallU 3 Cm2.c__law_parents (msCons (mVar 0) (msCons (mVar 5) (msCons (mVar 4) msNil))))) sNil)) (sSeq (sSet 4 (mBin oAdd (mLc (srcV (mVar 4)) (.nm 7) (bB (mBin oNotIn (mVar 7) (mVar 6))) (mVar 7) [7]) (mLst (msCons (mVar 5) msNil)))) (sDrop (mMth "list" appendD (mVar 3) (msCons (mTup (msCons (mBin oAdd (mC (.str "v")) (mBin oIx (mC (.str "abcdefghijklmnopqrstuvwx")) (mVar 5))) (msCons (mVar 6) msNil))) msNil))))))) (sRet (mTup (msCons (mC (.str "history")) (msCons (mCall (k1 tupD) (msCons (mVar 3) msNil)) msNil))))))))
def c__law_history : List Dv → MX Dv := defM 6 m__law_history
end Cm2

/-! Mn18: a part of a bare tuple; what a turn of a law's loop leaves behind. -/
namespace Mn
open PySem PySem.Spec PyProof.Rows L2
section
variable {X : Cx} {W : Wd X.K X.mg}
def oSlP (x : Dv) (lo hi : Option Int) : MX Dv := fun _ θ Q => match x with
  | .pt ds => Q (.pt (Mn.cutD ds lo hi)) θ
  | _ => False
def mSlP (a : ME) (lo hi : DEnv → MX (Option Int)) : ME := fun ρ => do
  let x ← a ρ
  let l ← lo ρ
  let h ← hi ρ
  oSlP x l h
end
section
variable {E : Exn → Th → Prop} {θ : Th} {ρ : DEnv} {a : ME} {Q : Dv → Th → Prop}
theorem x_slPt {l h : DEnv → MX (Option Int)} : mSlP a l h ρ E θ Q = a ρ E θ fun x θ1 => l ρ E θ1 fun l' θ2 => h ρ E θ2 fun h' θ3 => oSlP x l' h' E θ3 Q := (rfl)
theorem x_slPu {ds : List Dv} {lo hi : Option Int} : oSlP (.pt ds) lo hi E θ Q = Q (.pt (Mn.cutD ds lo hi)) θ := (rfl)
/-! what a turn leaves behind is dropped -/
end
end Mn

/-! Cm3: more mirrors that many laws read alike. -/
namespace Cm3
open PySem Mn
def m__law_above : MS := (sSeq (sSet 2 (mLst (msCons (mVar 1) msNil))) (sSeq (sFor (rng3 (msCons (mVar 1) (msCons (mUn oNeg (mC (.int 1))) (msCons (mUn oNeg (mC (.int 1))) msNil)))) (.nm 3) (sIf (bB (mBin oIn (mVar 3) (mVar 2))) (sSet 2 (mBin oAdd (mVar 2) (mLc (srcV (mBin oIx (mBin oIx (mBin oIx (mVar 0) (mC (.int 1))) (mVar 3)) (mC (.int 1)))) (.nm 4) (bB (mBin oNotIn (mVar 4) (mVar 2))) (mVar 4) [4]))) sNil)) (sRet (mVar 2))))
def c__law_above : List Dv → MX Dv := defM 3 m__law_above
def m__law_breaks : MS := (sRet (mBin oIn (mVar 1) (mCallU 2 Cm3.c__law_above (msCons (mVar 0) (msCons (mVar 2) msNil)))))
def c__law_breaks : List Dv → MX Dv := defM 0 m__law_breaks
end Cm3

/-! Mn19: defs that call themselves, loops by while, small dicts and get. -/
namespace Mn
open PySem PySem.Spec PyProof.Rows L2
/-! ### a def that calls itself -/
/-- with no calls left -/
theorem fnM_stuck {P : Program} {w : World} {K : PySem.W.Frag} {mg : Str → Option Value} {base : Heap} {x qual : Str} {st : Stmt} {f : Addr} {fd : FuncData} {N ps : List Str} {k n : Nat} (F : Fun K x qual st f fd) (S : FnScope N ps (defScope st)) (hn : ps.length = n) : FnG P w K mg base CX0 (k + 1) f fd ps (spM K mg n fun _ => MX.stuck) := by
  obtain ⟨oc, od, kV, doc, pm, an, cdv, ct, osl, rfl, lk, hcd⟩ := F.ex
  refine fnG_of lk hcd S (fun vs H Q E h => by rw [spM_len h, hn]) fun A outer s H vs Q E gd hr hsp => ?_
  obtain ⟨α, θ, ds, En, Qm, h1, ok, rps, q, u, lnk⟩ := hsp
  exact False.elim q
/-! ### while -/
section
variable {E : Exn → Th → Prop} {θ : Th} {ρ : DEnv}
theorem x_while {c : DEnv → MX Bool} {b : MS} {Q : Out → Th → Prop} : sWhile c b ρ E θ Q = ∃ n, sWhileGo c b n ρ E θ Q := (rfl)
/-- m falls at each turn -/
theorem while_rule {c : DEnv → MX Bool} {b : MS} {Q : Out → Th → Prop} (I : Nat → DEnv → Th → Prop) {m : Nat} (h0 : I m ρ θ)
    (hs : ∀ m ρ θ, I m ρ θ → ∀ K : Bool → Th → Prop, (∀ θ1, (∀ K2 : Out → Th → Prop, LoopK (fun o θ' => ∃ m' ρ', o = .nx ρ' ∧ m' < m ∧ I m' ρ' θ') Q K2 → b ρ E θ1 K2) → K true θ1) → (∀ θ1, Q (.nx ρ) θ1 → K false θ1) → c ρ E θ K) : ∃ n, sWhileGo c b n ρ E θ Q := by
  have key : ∀ n m ρ θ, m < n → I m ρ θ → sWhileGo c b n ρ E θ Q := by
    intro n
    induction n with
    | zero => intro m ρ θ h; omega
    | succ n ih =>
      intro m ρ θ hm hI
      show c ρ E θ fun k θ1 => (if k then (do
        let o ← b ρ
        match o with
        | .nx ρ' => sWhileGo c b n ρ'
        | .ct ρ' => sWhileGo c b n ρ'
        | .bk ρ' => pure (.nx ρ')
        | .rt d => pure (.rt d) : MX Out) else pure (.nx ρ)) E θ1 Q
      refine hs m ρ θ hI _ (fun θ1 hb => ?_) (fun θ1 hq => hq)
      refine hb _ ⟨fun ρ' θ' ⟨m', ρ2, e, h1, h2⟩ => ?_, fun ρ' θ' ⟨m', ρ2, e, h1, h2⟩ => ?_, fun ρ' θ' q => q, fun d θ' q => q⟩
      · cases e; exact ih m' ρ' θ' (by omega) h2
      · cases e; exact ih m' ρ' θ' (by omega) h2
  exact ⟨m + 1, key (m + 1) m ρ θ (Nat.lt_succ_self _) h0⟩
end
/-! ### {a: b, c: d} and d.get(x, y) -/
section
variable {X : Cx} {W : Wd X.K X.mg}
end
end Mn

/-! Cm4: mirrors of trees whose makes are tested again and again. -/
namespace Cm4
open PySem Mn
end Cm4

/-! Cm5: mirrors of answers and papers. -/
namespace Cm5
open PySem Mn
end Cm5

/-! Mn20: sorted, repeated, reversed tuples. -/
namespace Mn
open PySem PySem.Spec PyProof.Rows L2
section
variable {prog : Program} {w : World} {A : Around} {E : Value → Shared → Prop} {s : Shared}
end
section
variable {X : Cx} {W : Wd X.K X.mg}
end
end Mn

/-! Mn21: t[::-1], t * n. -/
namespace Mn
open PySem PySem.Spec PyProof.Rows L2
section
variable {prog : Program} {w : World} {A : Around} {E : Value → Shared → Prop} {s : Shared}
end

section
variable {X : Cx} {W : Wd X.K X.mg}
/-! ### t * n -/
end
end Mn

/-! Cm6: the mirror of spoilt papers. -/
namespace Cm6
open PySem Mn
end Cm6

/-! Mn22: math.comb, x += 1, a tuple times one. -/
namespace Mn
open PySem PySem.Spec PyProof.Rows L2
section
variable {X : Cx}
variable {W : Wd X.K X.mg}
end
section
variable {E : Exn → Th → Prop} {θ : Th} {ρ : DEnv} {Q : Dv → Th → Prop}
end
end Mn

/-! Cm7: mirrors of weights. -/
namespace Cm7
open PySem Mn
end Cm7

/-! Mn23: raise, try .. except, defs that may raise. -/
namespace Mn
open PySem PySem.Spec PyProof.Rows L2
/-- raise X() -/
def sRaise (x : Str) : MS := fun _ E θ _ => E ⟨x, []⟩ θ
/-- what W wishes of an exception -/
abbrev TakesW {X : Cx} (W : Wd X.K X.mg) : Prop := Takes X (fun cls d _ H => W.XK cls d H)
section
variable {X : Cx} {W : Wd X.K X.mg}
theorem passTk (tk : TakesW W) : Passes (L2.CX X.prog X.w) X W.XK := passes_call tk fun _ _ _ _ h => h
theorem pmk_own0 {C : Addr} {bmB : List Value} {B newId initId : String} {x : Str} {p pos : Pos} (F : ExcBaseFacts B newId initId bmB) (q : PySem.W.excIn X.K C bmB newId = true) (gC : X.mg x = some (.ref C)) (kC : PySem.W.keepIn X.K (.ref C) = true) (r : Raises X (.ref C)) (hg : Gl X x)
    (hdb : (x == ("__debug__" : Str)) = false := by decide) : PMk X (.Call (.Name x p) [] [] pos) (fun _ H Q => Q (.ref C) none H) := by
  intro pins s σ H Q I h
  refine wpAny_Call_Name_kw (ld_glob I hg gC ?_ hdb)
  apply PySem.W.callWith_K0 I.kIn kC
  show wpAny _ _ (call (.ref C) []) _ _ _
  obtain ⟨bm, N, nm, qn, bs, hdct, sn, sub, ab, col, dd, k0, k1, k2, k3, k5, mN, hC, hN, hni, T⟩ := exc_obj I.kIn q
  refine wpAny_call_exc_subT F T hC hN hni (fun h' e hm => ?_) (Nat.zero_le _)
  exact mk_of I hm r h (I.hok.gone hm.new)
theorem sm_raise {C : Addr} {x : Str} {e : Expr} {pos : Pos} (hc : X.calm = true) (tk : TakesW W) (gC : X.mg x = some (.ref C)) (mk : PMk X e (fun _ H Q => Q (.ref C) none H)) : PS X (.Raise (some e) none pos) (tS W (sRaise x)) :=
  ps_w (ps_raise hc tk mk) fun D σ H ⟨ρ, α, θ, Qm, at', rs, q, u⟩ => ⟨⟨x, []⟩, θ, α, q, at'.ok, at'.nx, C, gC, rfl, rfl⟩
/-- raise X(), X an own class over ValueError without __init__ -/
theorem sm_raiseV {C : Addr} {x : Str} {p pos pos2 : Pos} (c : Cf X) (tk : TakesW W) (gC : X.mg x = some (.ref C)) (q : PySem.W.excIn X.K C [.type "ValueError", .type "Exception", .type "BaseException", .type "object"] "ValueError.__new__" = true) (kC : PySem.W.keepIn X.K (.ref C) = true)
    (bC : PySem.W.subIn X.K (.ref C) (.type "BaseException") = some true) (tC : PySem.W.typeIn X.K (.ref C) = some (.type "type")) (hg : Gl X x := by rfl) (hdb : (x == ("__debug__" : Str)) = false := by decide) : PS X (.Raise (some (.Call (.Name x p) [] [] pos)) none pos2) (tS W (sRaise x)) :=
  sm_raise c.calm tk gC (pmk_own0 PySem.F.excBase_ValueError q gC kC (raises_own bC tC) hg hdb)
end
/-- a def that may raise, by its body -/
theorem fnMX {P : Program} {w : World} {K : PySem.W.Frag} {mg : Str → Option Value} {base : Heap} {x qual : Str} {st : Stmt} {f : Addr} {fd : FuncData} {N ps : List Str} {k n j : Nat} {m : MS} (F : Fun K x qual st f fd) (S : FnScope N ps (defScope st)) (hn : ps.length = n) (hj : N.length = n + j)
    (hbody : ∀ (cdv : Value) (A : Around) (outer : List Env) (s : Shared) (H : Hp) (E : XK) (W : Wd K mg), Room k (A.deeper (envOfC qual (defScope st) s.heap.objs.size f cdv)) → Cf (cxOf (L2.CX P w) P w K mg base N qual (defScope st) f cdv A outer s H E) →
      TakesW (X := cxOf (L2.CX P w) P w K mg base N qual (defScope st) f cdv A outer s H E) W →
      PassesOwn (model P w) (cxOf (L2.CX P w) P w K mg base N qual (defScope st) f cdv A outer s H E).A (cxOf (L2.CX P w) P w K mg base N qual (defScope st) f cdv A outer s H E).env (cxOf (L2.CX P w) P w K mg base N qual (defScope st) f cdv A outer s H E).xe →
      PSs (cxOf (L2.CX P w) P w K mg base N qual (defScope st) f cdv A outer s H E) (defBody st) (tS W m)) : FnG P w K mg base (L2.CX P w) (k + 1) f fd ps (spM K mg n (defM j m)) := by
  obtain ⟨oc, od, kV, doc, pm, an, cdv, ct, osl, rfl, lk, hcd⟩ := F.ex
  refine fnG_of lk hcd S (fun vs H Q E h => by rw [spM_len h, hn]) fun A outer s H vs Q E gd hr hsp => ?_
  obtain ⟨α, θ, ds, En, Qm, h1, ok, rps, q, u, lnk⟩ := hsp
  have cf := room_cf (CX := L2.CX P w) (P := P) (w := w) (K := K) (mg := mg) (base := base) (outer := outer) (H := H) (E := E) gd hr S.nd
  have tk : Takes (cxOf (L2.CX P w) P w K mg base N qual (defScope st) f cdv A outer s H E) (fun cls d _ H => E cls d H) := takes_of rfl rfl rfl rfl
  refine ⟨_, hbody cdv A outer s H E ⟨H, α, En, E⟩ hr ⟨cf.calm, cf.gd, cf.un, cf.nd⟩ (tk.imp fun cls d σ H' h => ?_) (passes_of rfl), _, α, θ, _, ⟨ok, Nx.refl⟩, rs_start rps (by rw [h1]; exact hj), q, fun o θ' α' H' q' ok' nx' => ?_⟩
  · obtain ⟨x, θ', α', h1, h2, h3, h4⟩ := h
    exact lnk x θ' α' H' cls d h1 h2 h3 h4
  cases o with
  | nx ρ' => exact fun σ' _ => up_end ok u q' ok' nx' rp_non
  | rt d => exact fun v r => up_end ok u q' ok' nx' r
  | bk ρ' => exact False.elim q'
  | ct ρ' => exact False.elim q'
/-! ### a call in a try, at the slots that stand -/
section
variable {X : Cx} {W : Wd X.K X.mg} {Wx : WX}
def ExW (X : Cx) (Wx : WX) (En : Exn → Th → Prop) (σ : L2.St) (H : Hp) (α : List Addr) : Prop := ∀ x θ' α' H' cls d, En x θ' → Okk X.K H' α' θ' → Nx X.K H α H' α' → ExR X.K X.mg H' α' x cls d → Wx cls d σ H'
theorem ExW.mono {En : Exn → Th → Prop} {σ : L2.St} {H H' : Hp} {α α' : List Addr} (h : ExW X Wx En σ H α) (n : Nx X.K H α H' α') : ExW X Wx En σ H' α' := fun x θ2 α2 H2 cls d h1 h2 h3 h4 => h x θ2 α2 H2 cls d h1 h2 (n.trans h3) h4
def tX (W : Wd X.K X.mg) (Wx : WX) (m : ME) : TE := fun σ H Q => ∃ ρ α θ Qm En, At W H α θ ∧ RS X.K H α σ ρ ∧ m ρ En θ Qm ∧ Up X.K H α Qm Q ∧ ExW X Wx En σ H α
def tXS (W : Wd X.K X.mg) (Wx : WX) (m : MS) : TS := fun D σ H => ∃ ρ α θ Qm En, At W H α θ ∧ RS X.K H α σ ρ ∧ m ρ En θ Qm ∧ UpS X.K H α Qm D ∧ ExW X Wx En σ H α
theorem runGS {CX : CXT} {k : Nat} {f : Addr} {fd : FuncData} {ps : List Str} {sp : Sp} {E : XK} {pins : List (Addr × Obj)} {σ : L2.St} {H : Hp} {s : Shared} {Q : VK} {us : List Value} {vs : List V} (F : FnG X.prog X.w X.K X.mg X.base CX k f fd ps sp)
    (gd : X.A.guards = some []) (hr : Room k X.A) (hb : Binds X.K fd ps []) (hx : PassesAt CX X σ E)
    (I : Inv X pins σ H s) (r : Vals vs us) (h : sp vs H Q E) : wpAny (model X.prog X.w) X.A (call (.ref f) us) (EP X pins σ Q) X.xe s := by
  have hl : us.length = ps.length := by rw [← r.length]; exact F.arity _ _ _ _ h
  have b := hb s us I.kIn (by rw [List.append_nil]; exact hl)
  rw [List.append_nil] at b
  refine wpAny_call (codeAny_mono (F.go X.A X.stack s H ⟨us, []⟩ us vs Q E gd hr I.env0 b r h) fun r s' hq => ?_)
  cases r with
  | error e => exact hx pins H s e s' I hq
  | ok fl =>
    cases fl with
    | ret u => exact I.after hq
    | next => exact False.elim hq
    | brk => exact False.elim hq
    | cont => exact False.elim hq
theorem pe_callGS {CX : CXT} {k : Nat} {f : Addr} {fd : FuncData} {ps : List Str} {sp : Sp} {E : L2.St → XK} {x : Str} {p pos : Pos} {e : Expr} {es : List Expr} {t : TA} (F : FnG X.prog X.w X.K X.mg X.base CX k f fd ps sp) (gd : X.A.guards = some []) (hr : Room k X.A) (hg : Gl X x) (hm : X.mg x = some (.ref f)) (hk : PySem.W.keepIn X.K (.ref f) = true) (hb : Binds X.K fd ps []) (hx : ∀ σ, PassesAt CX X σ (E σ))
    (ha : PA X (e :: es) t) (hdb : (x == ("__debug__" : Str)) = false := by decide) (he : starEach (e :: es) X.env = (false, eval e X.env) :: starEach es X.env := by rfl) (hpl : (backTo pos (starEach es X.env)).any (·.1) = false := by rfl) :
    PE X (.Call (.Name x p) (e :: es) [] pos) (tCallS sp E t) := by
  refine ⟨fun pins s σ H Q I h => ?_⟩
  refine wpAny_Call_Name_kw (ld_glob I hg hm ?_ hdb)
  refine PySem.W.callWith_K (h₀ := X.base) I.ok.mod.kin hk (thn (ha.run pos pins s σ H _ I h) fun us s1 ⟨vs, H1, I1, r, q⟩ => ⟨I1.kIn, ?_⟩) he hpl
  exact runGS F gd hr hb (hx σ) I1 r q
theorem px_call {k n : Nat} {f : Addr} {fd : FuncData} {ps : List Str} {c : List Dv → MX Dv} {x : Str} {p pos : Pos} {e : Expr} {es : List Expr} {ms : DEnv → MX (List Dv)} (F : FnG X.prog X.w X.K X.mg X.base (L2.CX X.prog X.w) k f fd ps (spM X.K X.mg n c)) (gd : X.A.guards = some []) (hr : Room k X.A) (hm : X.mg x = some (.ref f)) (hk : PySem.W.keepIn X.K (.ref f) = true)
    (hb : Binds X.K fd ps []) (tk : Takes X Wx) (ha : ∀ W : Wd X.K X.mg, PA X (e :: es) (tMs W ms)) (hg : Gl X x := by rfl) (hdb : (x == ("__debug__" : Str)) = false := by decide) (he : starEach (e :: es) X.env = (false, eval e X.env) :: starEach es X.env := by rfl)
    (hpl : (backTo pos (starEach es X.env)).any (·.1) = false := by rfl) : PE X (.Call (.Name x p) (e :: es) [] pos) (tX W Wx (mCallU n c ms)) := by
  refine ⟨fun pins s σ H Q I ⟨ρ, α, θ, Qm, En, at', rs, q, u, ex⟩ => ?_⟩
  refine (pe_callGS (E := WE Wx) F gd hr hg hm hk hb (fun σ => passAt tk σ) (ha { W with En := En }) hdb he hpl).run pins s σ H Q I ?_
  refine ⟨ρ, α, θ, _, ⟨at'.ok, at'.nx⟩, rs, q, fun ds θ1 α1 H1 vs q1 ok1 nx1 r1 => ⟨α1, θ1, ds, En, Qm, q1.1, ok1, r1, q1.2, u.mono nx1, ?_⟩⟩
  exact fun x2 θ2 α2 H2 cls d h1 h2 h3 h4 => ex x2 θ2 α2 H2 cls d h1 h2 (nx1.trans h3) h4
theorem sx_ret {e : Expr} {m : ME} {pos : Pos} (h : PE X e (tX W Wx m)) : PS X (.Return (some e) pos) (tXS W Wx (sRet m)) := ps_w (ps_ret h) fun D σ H ⟨ρ, α, θ, Qm, En, at', rs, q, u, ex⟩ =>
  ⟨ρ, α, θ, _, En, at', rs, q, fun d θ1 α1 H1 v q1 ok1 nx1 r1 => u (.rt d) θ1 α1 H1 q1 ok1 nx1 v r1, ex⟩
theorem sx_one {st : Stmt} {m : MS} (h : PS X st (tXS W Wx m)) : PSs X [st] (tXS W Wx m) := pss_one h
end
/-! ### try -/
/-- whether instances of a class meet the clause -/
def KnOk (K : PySem.W.Frag) (mg : Str → Option Value) (c : Value) (kn : List (Str × Bool)) : Prop := ∀ y b, kn.lookup y = some b → ∀ C, mg y = some (.ref C) → PySem.W.exmOne K (.ref C) c = some b
theorem kn_nil {K : PySem.W.Frag} {mg : Str → Option Value} {c : Value} : KnOk K mg c [] := fun y b h => by cases h
theorem kn_cons {K : PySem.W.Frag} {mg : Str → Option Value} {c : Value} {y : Str} {b : Bool} {C : Addr} {kn : List (Str × Bool)} (g : mg y = some (.ref C)) (e : PySem.W.exmOne K (.ref C) c = some b) (r : KnOk K mg c kn) : KnOk K mg c ((y, b) :: kn) := fun z b' h C' g' => by
  rw [List.lookup_cons] at h
  by_cases hz : z = y
  · subst hz
    rw [beq_self_eq_true] at h
    cases h
    rw [g] at g'
    cases g'
    exact e
  · rw [beq_false_of_ne hz] at h
    exact r z b' h C' g'
def tryK (kn : List (Str × Bool)) (suite : Exn → Th → Prop) (E : Exn → Th → Prop) : Exn → Th → Prop := fun x θ => ∃ b, kn.lookup x.cls = some b ∧ (b = true → suite x θ) ∧ (b = false → E x θ)
def sTry (kn : List (Str × Bool)) (body suite : MS) : MS := fun ρ E θ Q => body ρ (tryK kn (fun _ θ' => suite ρ (fun _ _ => False) θ' Q) E) θ Q
def clearO (i : Nat) : Out → Out
  | .nx ρ => .nx (ρ.set i none)
  | .bk ρ => .bk (ρ.set i none)
  | .ct ρ => .ct (ρ.set i none)
  | .rt d => .rt d
def sTryAs (kn : List (Str × Bool)) (i : Nat) (body : MS) (suite : Addr → Exn → MS) : MS := fun ρ E θ Q => body ρ (tryK kn (fun x θ' => ∀ a, suite a x (ρ.set i (some (.rf a))) (fun _ _ => False) θ' fun o => Q (clearO i o)) E) θ Q
section
variable {X : Cx} {W : Wd X.K X.mg} {x n : Str} {c : Value} {body suite : List Stmt} {b₀ : Stmt} {np pos pos' : Pos} {mb : MS} {kn : List (Str × Bool)}
theorem sm_try {ms : MS} (hs : X.stack = X.env :: X.outer) (hf : X.env.frame = some X.env.locals) (hc : Names X x c) (tk : TakesW W) (hk : KnOk X.K X.mg c kn)
    (hb : ∀ (Wx : WX) (pn : List (Addr × Obj)) (xe : Value → Shared → Prop), Takes (X.tr pn xe) Wx → PSs (X.tr pn xe) body (tXS (X := X.tr pn xe) W Wx mb))
    (hsu : ∀ (a : Addr) (oe : Obj) (pn : List (Addr × Obj)) (W2 : Wd X.K X.mg), PSs (X.suite a ((a, oe) :: pn)) (b₀ :: suite) (tS W2.calm ms)) :
    PS X (.Try body [.ExceptHandler (some (.Name x np)) none (b₀ :: suite) pos'] [] [] pos) (tS W (sTry kn mb ms)) :=
  ps_w (ps_try_only (tb := fun Wx => tXS W Wx mb) (ts := fun _ _ _ => tS W.calm ms) hs hf hc tk (fun Wx pn xe h1 h2 => hb Wx pn xe h1) (fun a oe cls d pn h1 h2 => hsu a oe pn W)) fun D σ H ⟨ρ, α, θ, Qm, at', rs, q, u⟩ =>
    ⟨ρ, α, θ, Qm, _, at', rs, q, u, fun x θ' α' H' cls d ⟨b, e, h1, h2⟩ ok' nx' ex => ⟨b, by
      obtain ⟨C, g, rfl, _⟩ := ex
      exact hk _ _ e C g, fun hb a na => ⟨ρ, α', θ', Qm, ⟨ok', at'.nx.trans nx'⟩, rs.mono nx', h1 hb, u.mono nx'⟩, fun hb => ⟨x, θ', α', h2 hb, ok', at'.nx.trans nx', ex⟩⟩⟩
end
/-! ### isinstance of the caught exception, its fields -/
structure ExF (K : PySem.W.Frag) (C : Addr) : Prop where
  cl : (PySem.W.clsIn K C).isSome = true
  ga : PySem.W.findIn K (.ref C) "__getattribute__" = some (some (.builtin "BaseException.__getattribute__"))
  gt : PySem.W.findIn K (.ref C) "__getattr__" = some none
  sb : PySem.W.subIn K (.ref C) (.type "BaseException") = some true
  ca : PySem.W.findIn K (.ref C) "__class__" = some (some (.builtin "object.__class__"))
  gn : PySem.W.specialIn K (.builtin "object.__class__") "__get__" = some (some (.builtin "getset_descriptor.__get__"))
  tk : PySem.W.takesIn K (.builtin "object.__class__") = some true
  mr : PySem.W.mroIn K C (.type "object") = some true
def mIsX (i : Nat) (a : Addr) (x : Exn) (kn : List (Str × Bool)) : ME := fun ρ _ θ Q => ρ.getD i none = some (.rf a) ∧ ∃ b, kn.lookup x.cls = some b ∧ Q (.bl b) θ
section
variable {X : Cx} {W : Wd X.K X.mg}
end
section
variable {E : Exn → Th → Prop} {θ : Th} {ρ : DEnv}
theorem x_raise {x : Str} {Q : Out → Th → Prop} : sRaise x ρ E θ Q = E ⟨x, []⟩ θ := (rfl)
theorem x_try {kn : List (Str × Bool)} {b s : MS} {Q : Out → Th → Prop} : sTry kn b s ρ E θ Q = b ρ (tryK kn (fun _ θ' => s ρ (fun _ _ => False) θ' Q) E) θ Q := (rfl)
end
/-- an own class of exceptions -/
structure ExCl (K : PySem.W.Frag) (mg : Str → Option Value) (y : Str) (C : Addr) : Prop where
  g : mg y = some (.ref C)
  f : ExF K C
  sb : PySem.W.subIn K (.ref C) (.type "BaseException") = some true
  tC : PySem.W.typeIn K (.ref C) = some (.type "type")
  iC : PySem.W.isClsIn K C = true
theorem exm_cl {K : PySem.W.Frag} {mg : Str → Option Value} {y : Str} {C D : Addr} {b : Bool} (c : ExCl K mg y C) (h4 : PySem.W.subIn K (.ref D) (.ref C) = some b) : PySem.W.exmOne K (.ref D) (.ref C) = some b := by
  have e1 : (PySem.W.subIn K (.ref C) (.type "BaseException") == some true) = true := by rw [c.sb] <;> rfl
  have hc : (PySem.W.clsIn K C).isSome = true := c.iC
  have e2 : ((PySem.W.clsIn K C).isSome && PySem.W.typeIn K (.ref C) == some (.type "type")) = true := by rw [hc, c.tC] <;> rfl
  show (if (PySem.W.subIn K (.ref C) (.type "BaseException") == some true) = true then (if ((PySem.W.clsIn K C).isSome && PySem.W.typeIn K (.ref C) == some (.type "type")) = true then PySem.W.subIn K (.ref D) (.ref C) else none) else none) = some b
  rw [if_pos e1, if_pos e2]
  exact h4
theorem noCX {P : Program} {w : World} {H : Hp} {s : Shared} {e : Value} {s' : Shared} (h : L2.CX P w [] H s (fun _ _ _ => False) e s') : False := by
  obtain ⟨_, _, _, _, _, _, _, _, _, _, _, _, z⟩ := h
  exact z
theorem Cf.tr {X : Cx} {pn : List (Addr × Obj)} {xe : Value → Shared → Prop} (c : Cf X) : Cf (X.tr pn xe) := ⟨c.calm, c.gd, c.un, c.nd⟩
end Mn

/-! Mn24: the greatest, the least of a list of data. -/
namespace Mn
open PySem PySem.Spec PyProof.Rows L2
section
open PySem.W PySem.SeqAt
variable {prog : Program} {w : World} {A : Around} {E : Value → Shared → Prop} {s : Shared}
theorem fold_at (f : PyData → PyData → Bool) (x : PyData) (xs : List PyData) (k : Nat) (hk : k = xs.length) (hlt : argBest (fun i j => f ((x :: xs).getD i PyData.none) ((x :: xs).getD j PyData.none)) k < (x :: xs).length) :
    (x :: xs)[argBest (fun i j => f ((x :: xs).getD i PyData.none) ((x :: xs).getD j PyData.none)) k]? = some (xs.foldl (fun a y => if f y a then y else a) x) := by
  subst hk
  have z := (argBest_fold f PyData.none x xs xs.length (Nat.le_refl _)).2
  rw [List.take_length] at z
  rw [← z, List.getD_eq_getElem?_getD]
  rw [List.getElem?_eq_getElem hlt]
  rfl
theorem min_dflt_ix {l : Addr} {its : Array Value} {xs : List PyData} {ad : List Addr} {d : Value} {Q : Value → Shared → Prop} (h0 : A.handled = none) (h1 : s.heap.IsList l its) (h2 : ReadsAll s.heap its.toList xs ad) (h3 : AlikeAll xs) (h4 : A.units + 1 + PyData.depthAll xs < cLine)
    (hd : xs = [] → ∀ hp tk, (∀ b o, s.heap.get? b = some o → hp.get? b = some o) → Q d { s with heap := hp, toks := tk })
    (hq : ∀ (y : PyData) (ys : List PyData) (i : Nat) v hp tk, xs = y :: ys → its[i]? = some v → xs[i]? = some (minD y ys) → (∀ b o, s.heap.get? b = some o → hp.get? b = some o) → Q v { s with heap := hp, toks := tk }) : wpAny (model prog w) A (call (.builtin "min") [.ref l] [(Str.ofString "default", d)]) Q E s := by
  have hz : its.size = xs.length := readsAll_len h2
  apply call_min_walkD
  refine iter_listW (A := A.in1) h0 h1 fun s2 e W st f1 f2 f3 => ?_
  refine ⟨_, _, _, _, _, _, _, s.heap, (fun i j => dataLt (xs.getD i PyData.none) (xs.getD j PyData.none)), rfl, W, st, f1, f2, f3, fun z s' m => ?_, fun hpos => ⟨cmpIn_lt (A := A.in1) h2 h3 (show A.units + 1 + _ < _ from h4), fun v s' hP m => ?_⟩⟩
  · obtain ⟨hp, tk, rfl, kp⟩ := moved_old e rfl m
    exact hd (List.length_eq_zero_iff.mp (by omega)) hp tk kp
  · obtain ⟨hp, tk, rfl, kp⟩ := moved_old e rfl m
    obtain ⟨_, _, lt, _, _⟩ := readsAll_atA h2 _ v hP
    match xs, hz, lt, hP, hq with
    | [], hz, _, _, _ => exact absurd hpos (by rw [hz]; exact Nat.lt_irrefl 0)
    | y :: ys, hz, lt, hP, hq => exact hq y ys _ v hp tk rfl hP (fold_at (fun a b => dataLt a b) y ys _ (by rw [hz]; rfl) lt) kp
end
section
variable {X : Cx} {W : Wd X.K X.mg}
theorem vals_at {vs : List V} {us : List Value} (r : Vals vs us) {i : Nat} {u : Value} (h : us[i]? = some u) : ∃ v, vs[i]? = some v ∧ RelV v u := by
  have hl := r.length
  have hi : i < vs.length := by rw [hl]; exact (List.getElem?_eq_some_iff.mp h).1
  obtain ⟨u', h', r'⟩ := r.get (List.getElem?_eq_getElem hi)
  rw [h] at h'
  cases h'
  exact ⟨_, List.getElem?_eq_getElem hi, r'⟩
end
section
variable {E : Exn → Th → Prop} {θ : Th} {Q : Dv → Th → Prop}
end
end Mn

namespace Cm8
open PySem PySem.Spec PyProof.Rows L2 Mn
def m_least_tests : MS := (sSeq (sSet 2 (mC (.int 0))) (sSeq (sWhile (bB (mBin oGt (mBin oAdd (mBin oMul (mVar 0) (mBin oAdd (mVar 2) (mC (.int 1)))) (mVar 1)) (mBin oShl (mC (.int 1)) (mVar 2)))) (sAug 2 oAddI (mC (.int 1)))) (sRet (mVar 2))))
def c_least_tests : List Dv → MX Dv := defM 1 m_least_tests
def m_next_numbers : MS := (sSeq (sIf (bB (mBin oLe (mBin oAdd (mVar 0) (mVar 1)) (mC (.int 1)))) (sRaise "BadState") sNil) (sSeq (sIf (bAnd (bB (mBin oGe (mVar 0) (mC (.int 2)))) (bB (mBin oEq (mVar 1) (mC (.int 0))))) (sRet (mTup (msCons (mBin oFdiv (mBin oAdd (mVar 0) (mC (.int 1))) (mC (.int 2))) (msCons (mC (.int 0)) msNil)))) sNil) (sSeq (sIf (bB (mBin oLt (mVar 1) (mBin oSub (mVar 0) (mC (.int 1))))) (sRaise "BadState") sNil) (sSeq (sIf (bTru (mBin oAnd (mVar 0) (mC (.int 1)))) (sRet (mTup (msCons (mBin oFdiv (mBin oAdd (mVar 0) (mC (.int 1))) (mC (.int 2))) (msCons (mCall (max2) (msCons (mC (.int 0)) (msCons (mBin oFdiv (mBin oAdd (mBin oSub (mVar 1) (mCallU 2 Cm8.c_least_tests (msCons (mVar 0) (msCons (mVar 1) msNil)))) (mC (.int 1))) (mC (.int 2))) msNil))) msNil)))) sNil) (sRet (mTup (msCons (mBin oFdiv (mVar 0) (mC (.int 2))) (msCons (mBin oFdiv (mVar 1) (mC (.int 2))) msNil))))))))
def c_next_numbers : List Dv → MX Dv := defM 0 m_next_numbers
def m__law_least : MS := (sSeq (sSet 2 (mC (.int 1))) (sSeq (sFor (rng1 (msCons (mC (.int 80)) msNil)) (.nm 3) (sSeq (sIf (bB (mBin oLe (mBin oAdd (mBin oMul (mVar 0) (mBin oAdd (mVar 3) (mC (.int 1)))) (mVar 1)) (mVar 2))) (sRet (mVar 3)) sNil) (sSet 2 (mBin oMul (mVar 2) (mC (.int 2)))))) (sRet (mUn oNeg (mC (.int 1))))))
def c__law_least : List Dv → MX Dv := defM 2 m__law_least
def m__law_due : MS := (sSeq (sIf (bB (mBin oEq (mVar 1) (mC (.int 0)))) (sRet (mTup (msCons (mBin oFdiv (mBin oAdd (mVar 0) (mC (.int 1))) (mC (.int 2))) (msCons (mC (.int 0)) msNil)))) sNil) (sSeq (sIf (bB (mBin oEq (mBin oMod (mCall (k1 intD) (msCons (mVar 0) msNil)) (mC (.int 2))) (mC (.int 0)))) (sRet (mTup (msCons (mBin oFdiv (mVar 0) (mC (.int 2))) (msCons (mBin oFdiv (mVar 1) (mC (.int 2))) msNil)))) sNil) (sSeq (sSet 2 (mBin oAdd (mBin oSub (mVar 1) (mCallU 2 Cm8.c__law_least (msCons (mVar 0) (msCons (mVar 1) msNil)))) (mC (.int 1)))) (sRet (mTup (msCons (mBin oFdiv (mBin oAdd (mVar 0) (mC (.int 1))) (mC (.int 2))) (msCons (mBin oFdiv (mCall (max2) (msCons (mC (.int 0)) (msCons (mVar 2) msNil))) (mC (.int 2))) msNil)))))))
def c__law_due : List Dv → MX Dv := defM 1 m__law_due
end Cm8

/-! Mn25: instances: made, their fields, their methods. -/
namespace Mn
open PySem PySem.Spec PyProof.Rows L2
/-- a statement of a class's body -/
def inCls (s : Stmt) (j : Nat) : Stmt := match s with
  | .ClassDef _ _ _ body _ _ _ _ _ _ _ => body.getD j (.Pass ⟨0, 0, 0, 0⟩)
  | _ => .Pass ⟨0, 0, 0, 0⟩
theorem clsAt_of {K : PySem.W.Frag} {x : Str} {C : Addr} (e : PySem.W.nsIn K mainGlobals x = some (some (.ref C))) : clsAt K x = C := by
  unfold clsAt
  rw [e]
section
variable {K : PySem.W.Frag} {H : Hp} {α : List Addr}
theorem RpK.lookN : ∀ {fs : List (Str × Dv)} {vs : List (Str × V)} {f : Str}, RpK K H α fs vs → fs.lookup f = none → vs.lookup f = none
  | [], _, f, h, _ => by unfold RpK at h; subst h; rfl
  | (g, d) :: fs, _, f, h, e => by
    unfold RpK at h
    obtain ⟨v, r, rfl, h1, h2⟩ := h
    rw [List.lookup_cons] at e ⊢
    cases hb : f == g with
    | true => rw [hb] at e; cases e
    | false => rw [hb] at e; exact RpK.lookN h2 e
theorem RpK.lookS : ∀ {fs : List (Str × Dv)} {vs : List (Str × V)} {f : Str} {d : Dv}, RpK K H α fs vs → fs.lookup f = some d → ∃ v, vs.lookup f = some v ∧ Rp K H α d v
  | [], _, f, _, h, e => by cases e
  | (g, d) :: fs, _, f, d', h, e => by
    unfold RpK at h
    obtain ⟨v, r, rfl, h1, h2⟩ := h
    rw [List.lookup_cons] at e ⊢
    cases hb : f == g with
    | true => rw [hb] at e; cases e; exact ⟨v, rfl, h1⟩
    | false => rw [hb] at e; exact RpK.lookS h2 e
def putFd (f : Str) (d : Dv) : List (Str × Dv) → List (Str × Dv)
  | [] => [(f, d)]
  | (g, x) :: r => if g = f then (g, d) :: r else (g, x) :: putFd f d r
theorem RpK.putF {f : Str} {d : Dv} {v : V} (q : Rp K H α d v) : ∀ {fs : List (Str × Dv)} {vs : List (Str × V)}, RpK K H α fs vs → RpK K H α (putFd f d fs) (L2.putF f v vs)
  | [], _, h => by
    unfold RpK at h
    subst h
    unfold putFd L2.putF RpK
    exact ⟨v, [], rfl, q, by unfold RpK; rfl⟩
  | (g, x) :: fs, _, h => by
    unfold RpK at h
    obtain ⟨y, r, rfl, h1, h2⟩ := h
    unfold putFd L2.putF
    by_cases hg : g = f
    · rw [if_pos hg, if_pos hg]
      unfold RpK
      exact ⟨v, r, rfl, q, h2⟩
    · rw [if_neg hg, if_neg hg]
      unfold RpK
      exact ⟨y, _, rfl, h1, RpK.putF q h2⟩
end
/-- the fields of an instance -/
def fldsOf (cls : Str) (o : Option Ob) : Option (List (Str × Dv)) := match o with
  | some (.ins c fs) => if c = cls then some fs else none
  | _ => none
theorem fldsOf_eq {cls : Str} {o : Option Ob} {fs : List (Str × Dv)} (h : fldsOf cls o = some fs) : o = some (.ins cls fs) := by
  unfold fldsOf at h
  split at h
  · rename_i c fs'
    split at h
    · rename_i e
      cases h
      rw [e]
    · cases h
  · cases h
/-- o.f -/
def fldK (cls f : Str) (Q : Dv → Th → Prop) : Dv → Th → Prop := fun d θ1 => match d with
  | .obj k => ∃ fs v, fldsOf cls θ1[k]? = some fs ∧ fs.lookup f = some v ∧ Q v θ1
  | _ => False
def mFld (cls f : Str) (me : ME) : ME := fun ρ E θ Q => me ρ E θ (fldK cls f Q)
/-- o.f = e -/
def sFldK (cls f : Str) (y : Dv) (ρ : DEnv) (Q : Out → Th → Prop) : Dv → Th → Prop := fun d θ2 => match d with
  | .obj k => ∃ fs, fldsOf cls θ2[k]? = some fs ∧ fs.length < 1000 ∧ Q (.nx ρ) (θ2.set k (.ins cls (putFd f y fs)))
  | _ => False
def sFldM (cls f : Str) (o e : ME) : MS := fun ρ E θ Q => e ρ E θ fun y θ1 => o ρ E θ1 (sFldK cls f y ρ Q)
/-- o.m(..) -/
def methK (cls m : Str) (n : Nat) (c : List Dv → MX Dv) (ms : DEnv → MX (List Dv)) (ρ : DEnv) (E : Exn → Th → Prop) (Q : Dv → Th → Prop) : Dv → Th → Prop := fun d θ1 => match d with
  | .obj k => ∃ fs, fldsOf cls θ1[k]? = some fs ∧ fs.lookup m = none ∧ ms ρ E θ1 fun ds θ2 => ds.length = n ∧ c (.obj k :: ds) E θ2 Q
  | _ => False
def mMeth (cls m : Str) (n : Nat) (c : List Dv → MX Dv) (mo : ME) (ms : DEnv → MX (List Dv)) : ME := fun ρ E θ Q => mo ρ E θ (methK cls m n c ms ρ E Q)
/-- C(..) -/
def mMake (cls : Str) (n : Nat) (c : List Dv → MX Dv) (ms : DEnv → MX (List Dv)) : ME := fun ρ E θ Q => ms ρ E θ fun ds θ1 => ds.length = n ∧ c (.obj θ1.length :: ds) E (θ1 ++ [.ins cls []]) fun d θ2 => d = .non ∧ Q (.obj θ1.length) θ2
section
variable {X : Cx} {W : Wd X.K X.mg}
theorem at_ins {H : Hp} {α : List Addr} {θ : Th} {k : Nat} {x : V} {cls : Str} {fs : List (Str × Dv)} (ok : Okk X.K H α θ) (e : fldsOf cls θ[k]? = some fs) (r : Rp X.K H α (.obj k) x) : ∃ p dx vs, x = .ref p ∧ α[k]? = some p ∧ H p = some (.ins (clsAt X.K cls) dx vs) ∧ RpK X.K H α fs vs := by
  unfold Rp at r
  obtain ⟨p, ep, rfl⟩ := r
  obtain ⟨dx, vs, h1, h2⟩ := ok.ob k p _ ep (fldsOf_eq e)
  exact ⟨p, dx, vs, rfl, ep, h1, h2⟩
theorem pm_fld {cls f : Str} {e : Expr} {me : ME} {pos : Pos} (c : Cls X.K (clsAt X.K cls)) (n : NoAttr X.K (clsAt X.K cls) f) (he : PE X e (tM W me)) (hb : attributeBase e f X.env (eval e X.env) = eval e X.env := by rfl) : PE X (.Attribute e f pos) (tM W (mFld cls f me)) :=
  pe_w (pe_fld he hb) fun σ H Q ⟨ρ, α, θ, Qm, at', rs, q, u⟩ => ⟨ρ, α, θ, _, at', rs, q, fun d θ1 α1 H1 v q1 ok1 nx1 r1 => by
    cases d with
    | obj k =>
      obtain ⟨fs, d, e1, e2, q1⟩ := q1
      obtain ⟨p, dx, vs, rfl, ep, h1, h2⟩ := at_ins ok1 e1 r1
      obtain ⟨v, e4, rv⟩ := h2.lookS e2
      exact ⟨p, _, dx, vs, v, rfl, h1, c, n, e4, up_same (W := W) (u.mono nx1) ⟨ok1, at'.nx.trans nx1⟩ q1 rv⟩
    | _ => exact False.elim q1⟩
theorem sm_fld {cls f : Str} {o e : Expr} {mo me : ME} {pos' pos : Pos} (c : Cls X.K (clsAt X.K cls)) (n : NoAttr X.K (clsAt X.K cls) f) (ho : PE X o (tM W mo)) (he : PE X e (tM W me)) (hs : swapsWith e (some (.Attribute o f pos')) pos.line X.env = pure false := by rfl) : PS X (.Assign [.Attribute o f pos'] e pos) (tS W (sFldM cls f mo me)) :=
  ps_w (ps_fld ho he hs) fun D σ H ⟨ρ, α, θ, Qm, at', rs, q, u⟩ => ⟨ρ, α, θ, _, at', rs, q, fun y θ1 α1 H1 vy q1 ok1 nx1 r1 => ⟨ρ, α1, θ1, _, ⟨ok1, at'.nx.trans nx1⟩, rs.mono nx1, q1, fun d θ2 α2 H2 v q2 ok2 nx2 r2 => by
    cases d with
    | obj k =>
      obtain ⟨fs, e1, hl, q2⟩ := q2
      obtain ⟨p, dx, vs, rfl, ep, h1, h2⟩ := at_ins ok2 e1 r2
      have eo := ok2.ob k p _ ep (fldsOf_eq e1)
      have nx3 : Nx X.K H2 α2 (upd H2 p (.ins (clsAt X.K cls) dx (L2.putF f vy vs))) α2 := Nx.chg eo
      refine ⟨p, _, dx, vs, rfl, h1, c, n, by rw [h2.length]; exact hl, ?_⟩
      exact u (.nx ρ) _ α2 _ q2 (ok2.chg (ob := .ins cls (putFd f y fs)) ep (fldsOf_eq e1) ⟨dx, _, upd_same, (RpK.putF (r1.mono nx2) h2).mono nx3⟩) ((nx1.trans nx2).trans nx3) σ (((rs.mono nx1).mono nx2).mono nx3)
    | _ => exact False.elim q2⟩⟩
/-! methods -/
theorem pe_methG {CX : CXT} {k : Nat} {f C : Addr} {fd : FuncData} {ps : List Str} {sp : Sp} {E : XK} {m : Str} {pos apos : Pos} {e o : Expr} {es : List Expr} {ta : TE} {t : TA} {pl : Sem Bool} (he : PE X o ta) (c : Cls X.K C) (hm : Meth X.K C m f) (F : FnG X.prog X.w X.K X.mg X.base CX k f fd ps sp) (gd : X.A.guards = some []) (hr : Room k X.A) (hb : Binds X.K fd ps []) (hx : Passes CX X E) (ha : PA X (e :: es) t)
    (hst : starEach (e :: es) X.env = (false, eval e X.env) :: starEach es X.env := by rfl) (hpl : (backTo pos (starEach es X.env)).any (·.1) = false := by rfl)
    (ht : eval (.Call (.Attribute o m apos) (e :: es) [] pos) X.env = (do { let ov ← eval o X.env; standAt apos.atName; let (g, first) ← holding [ov] (getMethod ov m pl); callWith pos g first (backTo pos (starEach (e :: es) X.env)) (backToKw pos (keywordEach [] X.env)) }) := by rfl) :
    PE X (.Call (.Attribute o m apos) (e :: es) [] pos) (tMeth C m sp [] E ta t) := by
  constructor
  intro pins s σ H Q I h
  refine PySem.W.methodCall_KW (pl := pl) (thn (he.run pins s σ H _ I h) ?_) ht
  rintro u s1 ⟨x, H1, I1, rx, a, dx, fs, rfl, ea, l, q⟩
  obtain rfl : u = Value.ref a := rx
  refine getmeth_ok I1 ea c hm l ?_
  refine PySem.W.callWith_K (first := [.ref a]) (h₀ := X.base) I.ok.mod.kin hm.kp (thn (ha.run pos pins s1 σ H1 _ I1 q) ?_) hst hpl
  rintro us s2 ⟨vs, H2, I2, r, q2⟩
  exact ⟨I2.kIn, runG (us := .ref a :: us) (vs := .ref a :: vs) F gd hr hb .nil hx I2 (.cons rfl r) q2⟩
theorem tm_meth {cls m : Str} {n : Nat} {c : List Dv → MX Dv} {mo : ME} {ms : DEnv → MX (List Dv)} {tA : TA} (hA : ∀ σ H Q, tMs W ms σ H Q → tA σ H Q) (σ : L2.St) (H : Hp) (Q : VK) : tM W (mMeth cls m n c mo ms) σ H Q → tMeth (clsAt X.K cls) m (spM X.K X.mg (n + 1) c) [] W.XK (tM W mo) tA σ H Q := fun ⟨ρ, α, θ, Qm, at', rs, q, u⟩ =>
  ⟨ρ, α, θ, _, at', rs, q, fun d θ1 α1 H1 v q1 ok1 nx1 r1 => by
    cases d with
    | obj k =>
      obtain ⟨fs, e1, e2, q1⟩ := q1
      obtain ⟨p, dx, vs, rfl, ep, h1, h2⟩ := at_ins ok1 e1 r1
      refine ⟨p, dx, vs, rfl, h1, h2.lookN e2, hA _ _ _ ⟨ρ, α1, θ1, _, ⟨ok1, at'.nx.trans nx1⟩, rs.mono nx1, q1, fun ds θ2 α2 H2 us q2 ok2 nx2 r2 => ?_⟩⟩
      show spM X.K X.mg (n + 1) c (.ref p :: (us ++ [])) H2 Q W.XK
      rw [List.append_nil]
      exact ⟨α2, θ2, .obj k :: ds, W.En, Qm, by rw [List.length_cons, q2.1], ok2, Rps.cons (rp_obj (nx2.at ep)) r2, q2.2, u.mono (nx1.trans nx2), fun x2 θ3 α3 H3 cls d h1 h2 h3 h4 => ⟨x2, θ3, α3, h1, h2, ((at'.nx.trans nx1).trans nx2).trans h3, h4⟩⟩
    | _ => exact False.elim q1⟩
theorem pm_meth {CX : CXT} {k n : Nat} {f : Addr} {fd : FuncData} {ps : List Str} {c : List Dv → MX Dv} {cls m : Str} {pos apos : Pos} {e o : Expr} {es : List Expr} {mo : ME} {ms : DEnv → MX (List Dv)} {pl : Sem Bool} (F : FnG X.prog X.w X.K X.mg X.base CX k f fd ps (spM X.K X.mg (n + 1) c)) (cf : Cf X) (hr : Room k X.A) (cc : Cls X.K (clsAt X.K cls)) (hm : Meth X.K (clsAt X.K cls) m f) (hb : Binds X.K fd ps []) (hx : Passes CX X W.XK) (ho : PE X o (tM W mo)) (ha : PA X (e :: es) (tMs W ms))
    (hst : starEach (e :: es) X.env = (false, eval e X.env) :: starEach es X.env := by rfl) (hpl : (backTo pos (starEach es X.env)).any (·.1) = false := by rfl)
    (ht : eval (.Call (.Attribute o m apos) (e :: es) [] pos) X.env = (do { let ov ← eval o X.env; standAt apos.atName; let (g, first) ← holding [ov] (getMethod ov m pl); callWith pos g first (backTo pos (starEach (e :: es) X.env)) (backToKw pos (keywordEach [] X.env)) }) := by rfl) :
    PE X (.Call (.Attribute o m apos) (e :: es) [] pos) (tM W (mMeth cls m n c mo ms)) := pe_w (pe_methG (pl := pl) ho cc hm F cf.gd hr hb hx ha hst hpl ht) (tm_meth fun _ _ _ h => h)
/-! a new instance -/
theorem guards_make {A : Around} {C : Addr} {us : List Value} {kw : List (Str × Value)} (h : A.guards = some []) : (A.under (.builtin "type.__call__" ⟨.ref C :: us, kw⟩)).guards = some [] := by
  first
    | exact h
    | (simpa [Around.under, Code.isFrame] using h)
theorem run_makeG {CX : CXT} {k : Nat} {f C : Addr} {fd : FuncData} {ps : List Str} {sp : Sp} {E : XK} {pins : List (Addr × Obj)} {σ : L2.St} {H : Hp} {s : Shared} {Q : VK} {us : List Value} {vs : List V} (M : Mk X.K C f) (F : FnG X.prog X.w X.K X.mg X.base CX k f fd ps sp) (gd : X.A.guards = some []) (hr : Room (k + 1) X.A) (hb : Binds X.K fd ps []) (hx : Passes CX X E) (I : Inv X pins σ H s) (r : Vals vs us)
    (h : ∀ x dx, H x = none → H dx = none → dx ≠ x → sp (.ref x :: vs) (upd (upd H dx (.own x)) x (.ins C dx [])) (fun v H2 => v = .non ∧ Q (.ref x) H2) E) : wpAny (model X.prog X.w) X.A (call (.ref C) us) (EP X pins σ Q) X.xe s := by
  have q := h (s.heap.objs.size + 1) s.heap.objs.size (I.hok.fresh (Nat.le_succ _)) (I.hok.fresh (Nat.le_refl _)) (Nat.ne_of_lt (Nat.lt_succ_self _))
  have J := Inv.made (C := C) I
  have r2 : Vals (V.ref (s.heap.objs.size + 1) :: vs) (Value.ref (s.heap.objs.size + 1) :: us) := .cons rfl r
  have len : (Value.ref (s.heap.objs.size + 1) :: us).length = ps.length := r2.length.symm.trans (F.arity _ _ _ _ q)
  have bd := hb _ (Value.ref (s.heap.objs.size + 1) :: us) J.kIn (by rw [List.append_nil]; exact len)
  rw [List.append_nil] at bd
  apply wpAny_call
  refine make_map (f := f) I.kIn M.makes M.init (beq_iff_eq.mp M.fn) ?_
  refine codeAny_mono (F.go _ X.stack _ _ ⟨Value.ref (s.heap.objs.size + 1) :: us, []⟩ _ _ _ E (guards_make gd) (hr.make C us []) (J.env0.make C us []) bd r2 q) ?_
  intro res s' hq
  cases res with
  | error e => exact hx pins σ _ _ e s' J hq
  | ok fl =>
    cases fl with
    | ret u =>
      obtain ⟨v, H', I3, rv, ev, q3⟩ := J.after hq
      subst ev
      exact ⟨rv, V.ref (s.heap.objs.size + 1), H', I3, rfl, q3⟩
    | next => exact hq.elim
    | brk => exact hq.elim
    | cont => exact hq.elim
theorem pe_makeG {CX : CXT} {k : Nat} {f C : Addr} {fd : FuncData} {ps : List Str} {sp : Sp} {E : XK} {x : Str} {p pos : Pos} {e : Expr} {es : List Expr} {t : TA} (M : Mk X.K C f) (F : FnG X.prog X.w X.K X.mg X.base CX k f fd ps sp) (gd : X.A.guards = some []) (hr : Room (k + 1) X.A) (hg : Gl X x) (hm : X.mg x = some (.ref C)) (hb : Binds X.K fd ps []) (hx : Passes CX X E)
    (ha : PA X (e :: es) t) (hdb : (x == ("__debug__" : Str)) = false := by decide) (he : starEach (e :: es) X.env = (false, eval e X.env) :: starEach es X.env := by rfl) (hpl : (backTo pos (starEach es X.env)).any (·.1) = false := by rfl) :
    PE X (.Call (.Name x p) (e :: es) [] pos) (tMake C sp [] E t) := by
  constructor
  intro pins s σ H Q I h
  refine wpAny_Call_Name_kw (ld_glob I hg hm ?_ hdb)
  refine PySem.W.callWith_K (h₀ := X.base) I.ok.mod.kin M.kp (thn (ha.run pos pins s σ H _ I h) ?_) he hpl
  rintro us s1 ⟨vs, H1, I1, r, q⟩
  refine ⟨I1.kIn, run_makeG M F gd hr hb hx I1 r fun x dx h1 h2 h3 => ?_⟩
  have := q x dx h1 h2 h3
  rwa [List.append_nil] at this
theorem pm_make {CX : CXT} {k n : Nat} {f : Addr} {fd : FuncData} {ps : List Str} {c : List Dv → MX Dv} {cls : Str} {p pos : Pos} {e : Expr} {es : List Expr} {ms : DEnv → MX (List Dv)} (F : FnG X.prog X.w X.K X.mg X.base CX k f fd ps (spM X.K X.mg (n + 1) c)) (cf : Cf X) (hr : Room (k + 1) X.A) (M : Mk X.K (clsAt X.K cls) f) (hm : X.mg cls = some (.ref (clsAt X.K cls))) (hb : Binds X.K fd ps []) (hx : Passes CX X W.XK) (ha : PA X (e :: es) (tMs W ms)) (hg : Gl X cls := by rfl)
    (hdb : (cls == ("__debug__" : Str)) = false := by decide) (he : starEach (e :: es) X.env = (false, eval e X.env) :: starEach es X.env := by rfl) (hpl : (backTo pos (starEach es X.env)).any (·.1) = false := by rfl) :
    PE X (.Call (.Name cls p) (e :: es) [] pos) (tM W (mMake cls n c ms)) := pe_w (pe_makeG M F cf.gd hr hg hm hb hx ha hdb he hpl) fun σ H Q ⟨ρ, α, θ, Qm, at', rs, q, u⟩ =>
  ⟨ρ, α, θ, _, at', rs, q, fun ds θ1 α1 H1 vs q1 ok1 nx1 r1 x dx h1 h2 h3 => by
    have hx2 : upd H1 dx (.own x) x = none := by rw [upd_ne (Ne.symm h3)]; exact h1
    have nA : Nx X.K H1 α1 (upd H1 dx (.own x)) α1 := Nx.new0 h2
    have nB : Nx X.K (upd H1 dx (.own x)) α1 (upd (upd H1 dx (.own x)) x (.ins (clsAt X.K cls) dx [])) (α1 ++ [x]) := Nx.new hx2 _
    have ok2 : Okk X.K (upd (upd H1 dx (.own x)) x (.ins (clsAt X.K cls) dx [])) (α1 ++ [x]) (θ1 ++ [.ins cls []]) := (ok1.new0 h2).new hx2 ⟨dx, [], upd_same, by unfold RpK; rfl⟩
    have ep : (α1 ++ [x])[θ1.length]? = some x := by rw [← ok1.len]; simp
    have nxx := nA.trans nB
    show spM X.K X.mg (n + 1) c (.ref x :: (vs ++ [])) _ _ W.XK
    rw [List.append_nil]
    refine ⟨_, _, .obj θ1.length :: ds, W.En, _, by rw [List.length_cons, q1.1], ok2, Rps.cons (rp_obj ep) (r1.mono nxx), q1.2, fun d θ2 α2 H2 v q2 ok3 nx3 r2 => ?_, fun x2 θ3 α3 H3 cls d h1 h2 h3 h4 => ⟨x2, θ3, α3, h1, h2, ((at'.nx.trans nx1).trans nxx).trans h3, h4⟩⟩
    obtain ⟨rfl, q2⟩ := q2
    cases of_non r2
    exact ⟨rfl, u _ θ2 α2 H2 _ q2 ok3 ((nx1.trans nxx).trans nx3) (rp_obj (nx3.at ep))⟩⟩
/-! in a try -/
end
section
variable {E : Exn → Th → Prop} {θ : Th} {ρ : DEnv}
theorem x_fld {cls f : Str} {me : ME} {Q : Dv → Th → Prop} : mFld cls f me ρ E θ Q = me ρ E θ (fldK cls f Q) := (rfl)
theorem x_sfld {cls f : Str} {o e : ME} {Q : Out → Th → Prop} : sFldM cls f o e ρ E θ Q = e ρ E θ fun y θ1 => o ρ E θ1 (sFldK cls f y ρ Q) := (rfl)
theorem x_meth {cls m : Str} {n : Nat} {c : List Dv → MX Dv} {mo : ME} {ms : DEnv → MX (List Dv)} {Q : Dv → Th → Prop} : mMeth cls m n c mo ms ρ E θ Q = mo ρ E θ (methK cls m n c ms ρ E Q) := (rfl)
theorem x_make {cls : Str} {n : Nat} {c : List Dv → MX Dv} {ms : DEnv → MX (List Dv)} {Q : Dv → Th → Prop} : mMake cls n c ms ρ E θ Q = ms ρ E θ fun ds θ1 => ds.length = n ∧ c (.obj θ1.length :: ds) E (θ1 ++ [.ins cls []]) fun d θ2 => d = .non ∧ Q (.obj θ1.length) θ2 := (rfl)
theorem flds_ins {cls : Str} {fs : List (Str × Dv)} : fldsOf cls (some (.ins cls fs)) = some fs := by unfold fldsOf; exact if_pos rfl
end
end Mn

/-! Mn26: a, b = a list. -/
namespace Mn
open PySem PySem.Spec PyProof.Rows L2
section
variable {X : Cx} {W : Wd X.K X.mg}
end
section
variable {E : Exn → Th → Prop} {θ : Th} {ρ : DEnv}
end
end Mn

namespace Cm9
open PySem PySem.Spec PyProof.Rows L2 Mn
end Cm9

/-! Mn27: exceptions with fields: their __init__ says super().__init__(..), then keeps fields. -/
namespace Mn
open PySem PySem.Spec PySem.Calls PyProof.Rows L2 PySem.W
structure SupScope (N ps : List Str) (sc : Scope) : Prop where
  kind : sc.kind = .function
  co : sc.isCoroutine = false
  gen : sc.isGenerator = false
  nd : N.Nodup
  pre : N = ps
  par : ∀ x ∈ ps, sc.names.lookup x = some .local
  nocell : ∀ y ∈ sc.names, y.2 ≠ .cell
  fr : ∀ y ∈ sc.names, y.2 = .free → y.1 = "__class__"
  su : sc.names.lookup ("super" : Str) = some .globalImplicit
  cl : sc.names.lookup ("__class__" : Str) = some .free
structure SupOk (P : Program) (K : Frag) (mg : Str → Option Value) (C cc cda : Addr) : Prop where
  T : OexC K C
  code : ∃ (o : Obj) (vs : Array Value) (file : Str) (tf : Tok), K.lookup cda = some o ∧ o.data = .fields vs ∧ vs[2]? = some (.str file tf) ∧ ((P.main.file : Str) == file) = true
  cell : ∃ o : Obj, K.lookup cc = some o ∧ o.data = .cell (some (.ref C))
  mgs : mg "super" = none
  top : (P.main.scope.names.lookup ("super" : Str)).isSome = false
  st : nsIn K cStatics "thirdparty.any" = some none
  al : ks_superIn K C C "__init__" = some (some (.builtin "ValueError.__init__"))
  sb : mroIn K C (.ref C) = some true
  hB : subIn K (.ref C) (.type "ValueError") = some true
end Mn

/-! Mn28: an exception with one field, an int: made, raised, its field read. -/
namespace Mn
open PySem PySem.Spec PySem.Calls PyProof.Rows L2 PySem.W
/-- raise X(e), X an exception with one field, an int -/
def sRaiseI (x fl : Str) (me : ME) : MS := fun ρ E θ _ => me ρ E θ fun d θ' => ∃ i : Int, d = .int i ∧ i.natAbs.log2 < 1920 ∧ E ⟨x, [(fl, .int i)]⟩ θ'
section
variable {X : Cx} {W : Wd X.K X.mg}
end
/-- e.f of a caught exception -/
def mXf (i : Nat) (a : Addr) (x : Exn) (y f : Str) : ME := fun ρ _ θ Q => x.cls = y ∧ ρ.getD i none = some (.rf a) ∧ ∃ v, x.fs.lookup f = some v ∧ Q v θ
section
variable {X : Cx}
end
section
variable {E : Exn → Th → Prop} {θ : Th} {ρ : DEnv}
end
end Mn

namespace Cm10
open PySem PySem.Spec PyProof.Rows L2 Mn
end Cm10

/-! Mn29: an exception with two fields, an int and a text. -/
namespace Mn
open PySem PySem.Spec PySem.Calls PyProof.Rows L2 PySem.W
/-- raise X(e, e2), X an exception with two fields, an int and a text -/
def sRaiseT (x f1 f2 : Str) (me me2 : ME) : MS := fun ρ E θ _ => me ρ E θ fun d θ1 => me2 ρ E θ1 fun d2 θ2 => ∃ (i : Int) (s : Str), d = .int i ∧ i.natAbs.log2 < 1920 ∧ d2 = .str s ∧ s.length ≤ 1000 ∧ E ⟨x, [(f2, .str s), (f1, .int i)]⟩ θ2
section
variable {X : Cx} {W : Wd X.K X.mg}
end
section
variable {E : Exn → Th → Prop} {θ : Th} {ρ : DEnv}
end
end Mn

namespace Cm11
open PySem PySem.Spec PyProof.Rows L2 Mn
def m__law_chain : MS := (sSeq (sSet 1 (mC (.str "abcdefghijklmnopqrstuvwxyz"))) (sRet (mTup (msCons (mC (.str "history")) (msCons (mCall (k1 tupD) (msCons (mLc (rng1 (msCons (mVar 0) msNil)) (.nm 2) bYes (mTup (msCons (mBin oIx (mVar 1) (mVar 2)) (msCons (mCall (k1 tupD) (msCons (mBin oMul (mLst (msCons (mBin oSub (mVar 2) (mC (.int 1))) msNil)) (mCall (k1 intD) (msCons (mBin oGt (mVar 2) (mC (.int 0))) msNil))) msNil)) msNil))) [2]) msNil)) msNil)))))
def c__law_chain : List Dv → MX Dv := defM 2 m__law_chain
def m_are_parents : MS := (sSeq (sIf (bOr (bB (mBin oGt (mCall (k1 lenD) (msCons (mVar 0) msNil)) (mC (.int 4)))) (bNot (bB (mCallU 1 Cm.c_ascends (msCons (mVar 0) msNil))))) (sRet (mC (.bl false))) sNil) (sRet (mCall (k1 (onBools allL)) (msCons (mLc (srcV (mVar 0)) (.nm 2) bYes (mChain oLe oLt (mC (.int 0)) (mVar 2) (mVar 1)) [2]) msNil))))
def c_are_parents : List Dv → MX Dv := defM 1 m_are_parents
def m_is_name : MS := (sRet (mAnd (mChain oLe oLe (mC (.int 1)) (mCall (k1 lenD) (msCons (mVar 0) msNil)) (mC (.int 8))) (mCall (k1 (onBools allL)) (msCons (mLc (srcV (mVar 0)) (.nm 1) bYes (mBin oIn (mVar 1) (mC (.str "abcdefghijklmnopqrstuvwxyz"))) [1]) msNil))))
def c_is_name : List Dv → MX Dv := defM 1 m_is_name
def m_check_makes : MS := (sSeq (sSet 1 mDK) (sFor (srcEn (msCons (mVar 0) msNil)) (.tp [(.nm 2), (.tp [(.nm 3), (.nm 4)])]) (sSeq (sIf (bNot (bB (mCallU 1 Cm11.c_is_name (msCons (mVar 3) msNil)))) (sRaiseT "BadHistory" "line" "reason" (mC (.int 0)) (mC (.str "bad name"))) sNil) (sSeq (sIf (bB (mBin oIn (mVar 3) (mVar 1))) (sRaiseT "BadHistory" "line" "reason" (mC (.int 0)) (mC (.str "two of a name"))) sNil) (sSeq (sIf (bNot (bB (mCallU 2 Cm11.c_are_parents (msCons (mVar 4) (msCons (mVar 2) msNil))))) (sRaiseT "BadHistory" "line" "reason" (mC (.int 0)) (mC (.str "bad parents"))) sNil) (sPut (mVar 1) (mVar 3) (mVar 2)))))))
def c_check_makes : List Dv → MX Dv := defM 4 m_check_makes
def m_is_make : MS := (sSeq (sIf (bOr (bNot (bB (mIsi "tuple" (mVar 0)))) (bB (mBin oNe (mCall (k1 lenD) (msCons (mVar 0) msNil)) (mC (.int 2))))) (sRet (mC (.bl false))) sNil) (sRet (mAnd (mIsi "str" (mBin oIx (mVar 0) (mC (.int 0)))) (mCallU 1 Cm.c_are_integers (msCons (mBin oIx (mVar 0) (mC (.int 1))) msNil)))))
def c_is_make : List Dv → MX Dv := defM 0 m_is_make
def m_is_shaped : MS := (sSeq (sIf (bOr (bNot (bB (mIsi "tuple" (mVar 0)))) (bOr (bB (mBin oNe (mCall (k1 lenD) (msCons (mVar 0) msNil)) (mC (.int 2)))) (bB (mBin oNe (mBin oIx (mVar 0) (mC (.int 0))) (mC (.str "history")))))) (sRet (mC (.bl false))) sNil) (sRet (mAnd (mIsi "tuple" (mBin oIx (mVar 0) (mC (.int 1)))) (mCall (k1 (onBools allL)) (msCons (mLc (srcV (mBin oIx (mVar 0) (mC (.int 1)))) (.nm 1) bYes (mCallU 1 Cm11.c_is_make (msCons (mVar 1) msNil)) [1]) msNil)))))
def c_is_shaped : List Dv → MX Dv := defM 1 m_is_shaped
def m_check_history : MS := (sSeq (sIf (bNot (bB (mCallU 1 Cm11.c_is_shaped (msCons (mVar 0) msNil)))) (sRaiseT "BadHistory" "line" "reason" (mC (.int 0)) (mC (.str "not a history"))) sNil) (sSeq (sSet 1 (mBin oIx (mVar 0) (mC (.int 1)))) (sSeq (sIf (bNot (bTru (mVar 1))) (sRaiseT "BadHistory" "line" "reason" (mC (.int 0)) (mC (.str "no makes"))) sNil) (sSeq (sIf (bB (mBin oGt (mCall (k1 lenD) (msCons (mVar 1) msNil)) (mC (.int 24)))) (sRaiseT "BadHistory" "line" "reason" (mC (.int 0)) (mC (.str "too many makes"))) sNil) (sSeq (sDrop (mCallU 1 Cm11.c_check_makes (msCons (mVar 1) msNil))) (sIf (bB (mBin oLt (mCall (k1 lenD) (msCons (mCallU 2 Cm.c_ancestors (msCons (mVar 0) (msCons (mBin oSub (mCall (k1 lenD) (msCons (mVar 1) msNil)) (mC (.int 1))) msNil))) msNil)) (mCall (k1 lenD) (msCons (mVar 1) msNil)))) (sRaiseT "BadHistory" "line" "reason" (mC (.int 0)) (mC (.str "not of the last"))) sNil))))))
def c_check_history : List Dv → MX Dv := defM 1 m_check_history
def m__law_told : MS := (sTryAs [("BadHistory", true)] 1 (sRet (mCallU 1 Cm11.c_check_history (msCons (mVar 0) msNil))) (fun a x => (sSeq (sIf (bOr (bNot (bB (mIsX 1 a x [("BadHistory", true)]))) (bOr (bNot (bB (mIsX 1 a x [("BadHistory", true)]))) (bB (mIsX 1 a x [("BadHistory", false)])))) (sRet (mC (.str "other"))) sNil) (sSeq (sIf (bOr (bB (mIsX 1 a x [("BadHistory", false)])) (bB (mIsX 1 a x [("BadHistory", false)]))) (sRet (mC (.str "other"))) sNil) (sRet (mTup (msCons (mXf 1 a x "BadHistory" "line") (msCons (mXf 1 a x "BadHistory" "reason") msNil))))))))
def c__law_told : List Dv → MX Dv := defM 1 m__law_told
end Cm11

/-! Mn30: x -= e, x *= e. -/
namespace Mn
open PySem PySem.Spec PyProof.Rows L2
section
variable {X : Cx} {W : Wd X.K X.mg}
theorem sm_augb {op : Operator} {o : Dv → Dv → MX Dv} {i : Nat} {x : Str} {e : Expr} {m : ME} {pos' pos : Pos} (ho : IpM W op o) (c : Cf X) (he : PE X e (tM W m)) (hi : X.N[i]? = some x := by rfl) (hx : Loc X.env.scope x := by first | exact Or.inl rfl | exact Or.inr rfl) (hf : X.fn x = true ∨ X.env.scope.names.lookup x = some .local := by first | exact .inl rfl | exact .inr rfl) : PS X (.AugAssign (.Name x pos') op e pos) (tS W (sAug i o m)) :=
  sm_aug (ps_aug c.nd hi hx he ho (hf := hf))
end
end Mn

/-! Mn31: a def of the module as a value; a local name called that holds one. -/
namespace Mn
open PySem PySem.Spec PyProof.Rows L2
def mFnV (x : Str) : ME := fun _ _ θ Q => Q (.fn x) θ
/-- y(..), y a local name (slot i) that holds the def x -/
def mCallF (i : Nat) (x : Str) (n : Nat) (c : List Dv → MX Dv) (ms : DEnv → MX (List Dv)) : ME := fun ρ E θ Q => ρ.getD i none = some (.fn x) ∧ ms ρ E θ fun ds θ1 => ds.length = n ∧ c ds E θ1 Q
section
variable {X : Cx} {W : Wd X.K X.mg}
theorem rp_fn {H : Hp} {α : List Addr} {x : Str} {f : Addr} (ef : clsAt X.K x = f) : Rp X.K H α (.fn x) (.ref f) := by
  unfold Rp
  rw [ef]
theorem pm_fnv {x : Str} {f : Addr} {pos : Pos} (g : X.mg x = some (.ref f)) (ef : clsAt X.K x = f) (hg : Gl X x := by rfl) (hd : (x == ("__debug__" : Str)) = false := by decide) : PE X (.Name x pos) (tM W (mFnV x)) :=
  pe_w (pe_glob hg g (v := .ref f) rfl hd) fun σ H Q ⟨ρ, α, θ, Qm, at', rs, q, u⟩ => up_same (W := W) u at' q (rp_fn ef)
theorem pm_callF {CX : CXT} {k n i : Nat} {f : Addr} {fd : FuncData} {ps : List Str} {c : List Dv → MX Dv} {x y : Str} {p pos : Pos} {e : Expr} {es : List Expr} {ms : DEnv → MX (List Dv)} (F : FnG X.prog X.w X.K X.mg X.base CX k f fd ps (spM X.K X.mg n c)) (cf : Cf X) (hr : Room k X.A) (ef : clsAt X.K x = f) (hk : PySem.W.keepIn X.K (.ref f) = true)
    (hb : Binds X.K fd ps []) (hx : Passes CX X W.XK) (ha : PA X (e :: es) (tMs W ms)) (hN : X.N[i]? = some y := by rfl) (hv : Vis X.env.scope y := by first | exact Or.inl rfl | exact Or.inr (Or.inl rfl) | exact Or.inr (Or.inr rfl)) (hdb : (y == ("__debug__" : Str)) = false := by decide) (hcd : (y == ("__classdict__" : Str)) = false := by decide)
    (he : starEach (e :: es) X.env = (false, eval e X.env) :: starEach es X.env := by rfl) (hpl : (backTo pos (starEach es X.env)).any (·.1) = false := by rfl) : PE X (.Call (.Name y p) (e :: es) [] pos) (tM W (mCallF i x n c ms)) := by
  refine ⟨fun pins s σ H Q I ⟨ρ, α, θ, Qm, at', rs, q, u⟩ => ?_⟩
  obtain ⟨q0, q⟩ := q
  have e' : ρ[i]? = some (some (.fn x)) := by
    rw [List.getD_eq_getElem?_getD] at q0
    cases z : ρ[i]? with
    | none => rw [z] at q0; cases q0
    | some o => rw [z] at q0; rw [show o = some (.fn x) from q0]
  obtain ⟨v, h1, h2⟩ := rs.2 i _ e'
  have ev : v = .ref f := by
    unfold Rp at h2
    rw [h2, ef]
  subst ev
  refine wpAny_Call_Name_kw (thn ((pe_var (pos := p) hN hv hdb hcd).run pins s σ H (fun v H1 => v = .ref f ∧ H1 = H) I ⟨.ref f, h1, rfl, rfl⟩) ?_)
  rintro u' s1 ⟨v, H1, I1, r1, rfl, rfl⟩
  cases r1
  refine PySem.W.callWith_K (h₀ := X.base) I.ok.mod.kin hk (thn (ha.run pos pins s1 σ _ (fun vs H2 => spM X.K X.mg n c vs H2 Q W.XK) I1 ⟨ρ, α, θ, _, at', rs, q, ?_⟩) ?_) he hpl
  · intro ds θ1 α1 H2 vs q1 ok1 nx1 r1
    exact ⟨α1, θ1, ds, W.En, Qm, q1.1, ok1, r1, q1.2, u.mono nx1, fun x2 θ2 α2 H3 cls d h1 h2 h3 h4 => ⟨x2, θ2, α2, h1, h2, (at'.nx.trans nx1).trans h3, h4⟩⟩
  · rintro us s2 ⟨vs, H2, I2, r, q2⟩
    exact ⟨I2.kIn, runG F cf.gd hr hb .nil hx I2 r (by rw [List.append_nil]; exact q2)⟩
theorem x_fnv {x : Str} {ρ : DEnv} {E : Exn → Th → Prop} {θ : Th} {Q : Dv → Th → Prop} : mFnV x ρ E θ Q = Q (.fn x) θ := (rfl)
theorem x_callF {i n : Nat} {x : Str} {c : List Dv → MX Dv} {ms : DEnv → MX (List Dv)} {ρ : DEnv} {E : Exn → Th → Prop} {θ : Th} {Q : Dv → Th → Prop} : mCallF i x n c ms ρ E θ Q = (ρ.getD i none = some (.fn x) ∧ ms ρ E θ fun ds θ1 => ds.length = n ∧ c ds E θ1 Q) := (rfl)
end
end Mn

/-! Mn32: min(xs, default=d), xs a list of data. -/
namespace Mn
open PySem PySem.Spec PyProof.Rows L2
section
variable {X : Cx} {W : Wd X.K X.mg}
def rMinDt (K : PySem.W.Frag) : List V → List V → Hp → VK → Prop := fun xs zs H Q => ∃ p vs dv ds, xs = [V.ref p] ∧ zs = [dv] ∧ SqL K H p vs ∧ DpAll K H vs ds ∧ PySem.W.AlikeAll ds ∧ PyData.depthAll ds ≤ 50 ∧ (ds = [] → Q dv H) ∧ ∀ d r (i : Nat) v, ds = d :: r → vs[i]? = some v → ds[i]? = some (PySem.W.minD d r) → Q v H
theorem cr_minDt (c : Cf X) : CallRK X (.builtin "min") [Str.ofString "default"] (rMinDt X.K) := by
  intro pins s σ H xs zs us ws Q I r rz h
  obtain ⟨p, vs, dv, ds, rfl, rfl, hs, hd, ha, hz, q0, q⟩ := h
  obtain ⟨its, rv, hl, _⟩ := I.list hs
  rw [Vals.ref1 r]
  cases rz with
  | @cons _ w _ wr rw_ rr =>
    cases rr
    obtain ⟨as, hr⟩ := Dp.readsAll I _ _ _ hd rv
    have un := c.un
    refine min_dflt_ix (I.ok.hd c.calm) hl.isList (by simpa using hr) ha (by omega) (fun e h' tk hk => ?_) fun y ys i v h' tk e h1 h2 hk => ?_
    · exact ⟨dv, H, I.kept (t' := tk) hk, rw_, q0 e⟩
    · obtain ⟨v', e1, r1⟩ := vals_at rv (by simpa using h1)
      exact ⟨v', H, I.kept (t' := tk) hk, r1, q y ys i v' e e1 h2⟩
def minDt (d dv : Dv) : MX Dv := fun _ θ Q => match d with
  | .obj k => (match θ[k]? with
    | some (.lst xs) => (match allSome (toPy θ 66) xs with
      | some ps => PySem.W.AlikeAll ps ∧ PyData.depthAll ps ≤ 50 ∧ (ps = [] → Q dv θ) ∧ ∀ p r (i : Nat) y, ps = p :: r → xs[i]? = some y → ps[i]? = some (PySem.W.minD p r) → Q y θ
      | none => False)
    | _ => False)
  | _ => False
def mMinD (me me2 : ME) : ME := fun ρ E θ Q => me ρ E θ fun x θ1 => me2 ρ E θ1 fun d θ2 => minDt x d E θ2 Q
theorem pm_minD {p pos kpos : Pos} {e e2 : Expr} {me me2 : ME} (c : Cf X) (hm : X.mg "min" = none) (hv : bootBuiltins "min" = some (.builtin "min")) (he : PE X e (tM W me)) (he2 : PE X e2 (tM W me2)) (hg : Gl X "min" := by rfl)
    (na : starEach [e] X.env = (false, eval e X.env) :: starEach [] X.env := by rfl) (hb : backTo pos (starEach [e] X.env) = (false, eval e X.env) :: backTo pos (starEach [] X.env) := by rfl) (hpl : (backTo pos (starEach [e] X.env)).any (·.1) = false := by rfl)
    (hall : (backToKw pos (keywordEach [⟨some "default", e2, kpos⟩] X.env)).all (·.1.isSome) = true := by rfl) (hnone : (backToKw pos (keywordEach [⟨some "default", e2, kpos⟩] X.env)).any (·.1.isNone) = false := by rfl) (hks : (backToKw pos (keywordEach [⟨some "default", e2, kpos⟩] X.env)).filterMap (·.1) = [Str.ofString "default"] := by rfl) :
    PE X (.Call (.Name "min" p) [e] [⟨some "default", e2, kpos⟩] pos) (tM W (mMinD me me2)) := by
  refine pe_w (pe_callBK (cr_minDt c) hg hm hv (pa_cons he pa_nil na) (pk_cons he2 pk_nil) (by decide) (by decide) hb hpl hall hnone hks) fun σ H Q ⟨ρ, α, θ, Qm, at', rs, q, u⟩ => ?_
  refine ⟨ρ, α, θ, _, at', rs, q, fun d θ1 α1 H1 v q1 ok1 nx1 r1 => ⟨ρ, α1, θ1, _, ⟨ok1, at'.nx.trans nx1⟩, rs.mono nx1, q1, fun d2 θ2 α2 H2 v2 q2 ok2 nx2 r2 => ?_⟩⟩
  have rx := r1.mono nx2
  unfold minDt at q2
  split at q2
  · rename_i k
    split at q2
    · rename_i es e2'
      split at q2
      · rename_i ps e3
        obtain ⟨q1, q2, q3, q4⟩ := q2
        have at2 : At W H2 α2 θ2 := ⟨ok2, (at'.nx.trans nx1).trans nx2⟩
        obtain ⟨pa, vs, rfl, _, h1, h2⟩ := at2.lst e2' rx
        refine ⟨pa, vs, v2, ps, rfl, rfl, SqL.of h1, dpAll_of (fun d v e => toPy_dp ok2 66 d v e) e3 h2, q1, q2, fun e => ?_, fun p r i v e hv he => ?_⟩
        · exact up_same (W := W) (u.mono (nx1.trans nx2)) at2 (q3 e) r2
        · obtain ⟨d', hd', rd⟩ := h2.get' hv
          exact up_same (W := W) (u.mono (nx1.trans nx2)) at2 (q4 p r i d' e hd' he) rd
      · exact q2.elim
    · exact q2.elim
  · exact q2.elim
end
end Mn

/-! Mn33: [.., *t, ..], t a tuple. -/
namespace Mn
open PySem PySem.Spec PyProof.Rows L2
def msStar (a : ME) (r : DEnv → MX (List Dv)) : DEnv → MX (List Dv) := fun ρ E θ Q => a ρ E θ fun x θ1 => match x with
  | .tup ds => r ρ E θ1 fun es θ2 => Q (ds ++ es) θ2
  | _ => False
section
variable {X : Cx} {W : Wd X.K X.mg}
theorem am_star {a : Expr} {es : List Expr} {p : Pos} {ma : ME} {ms : DEnv → MX (List Dv)} (ha : PE X a (tM W ma)) (hr : PA X es (tMs W ms)) (hs : starEach (.Starred a p :: es) X.env = (true, eval a X.env) :: starEach es X.env := by rfl) : PA X (.Starred a p :: es) (tMs W (msStar ma ms)) :=
  pa_w (StX.pa_star ha hr hs) fun σ H Q ⟨ρ, α, θ, Qm, at', rs, q, u⟩ => ⟨ρ, α, θ, _, at', rs, q, fun d θ1 α1 H1 v q1 ok1 nx1 r1 => by
    cases d with
    | tup ds =>
      obtain ⟨p, vs, rfl, h1, h2⟩ := rp_tup r1
      exact ⟨p, vs, rfl, .inl (.inl (.inl h1)), ρ, α1, θ1, _, ⟨ok1, at'.nx.trans nx1⟩, rs.mono nx1, q1, fun es θ2 α2 H2 ws q2 ok2 nx2 r2 => u _ θ2 α2 H2 _ q2 ok2 (nx1.trans nx2) ((h2.mono nx2).append r2)⟩
    | _ => exact False.elim q1⟩
end
end Mn

/-! Mn34: sorted(xs), xs a list of data. -/
namespace Mn
open PySem PySem.Spec PyProof.Rows L2
section
variable {X : Cx} {W : Wd X.K X.mg}
end
section
variable {E : Exn → Th → Prop} {θ : Th} {Q : Dv → Th → Prop}
end
end Mn

/-! Mn35: str(x), sep.join(xs), f'..', xs.index(x). -/
namespace Mn
open PySem PySem.Spec PyProof.Rows L2
section
variable {X : Cx} {W : Wd X.K X.mg}
/-! str(n) -/
def strD (d : Dv) : MX Dv := fun _ θ Q => match d with
  | .int i => i.natAbs.log2 < 1920 ∧ Q (.str (toString i)) θ
  | _ => False
/-! join -/
def strsD : List Dv → Option (List Str)
  | [] => some []
  | .str x :: r => (strsD r).map (x :: ·)
  | _ => none
def joinK (a : Str) (o : Option (List Str)) (θ : Th) (Q : Dv → Th → Prop) : Prop := match o with
  | some ys => (ys.map (·.length)).sum + ys.length * a.length ≤ 16777216 ∧ Q (.str (Txt.join a ys)) θ
  | none => False
def joinO (a : Str) (o : Option Ob) (θ : Th) (Q : Dv → Th → Prop) : Prop := match o with
  | some (.lst xs) => joinK a (strsD xs) θ Q
  | _ => False
def joinD (d : Dv) (ds : List Dv) : MX Dv := fun _ θ Q => match d with
  | .str a => (match ds with
    | [.obj k] => joinO a θ[k]? θ Q
    | [.tup xs] => joinK a (strsD xs) θ Q
    | _ => False)
  | _ => False
/-! f'..' -/
def fmtD (d : Dv) : MX Dv := fun _ θ Q => match d with
  | .str y => y.length ≤ sizeLine ∧ Q (.str y) θ
  | .int i => i.natAbs.log2 < 1920 ∧ Q (.str (toString i)) θ
  | _ => False
def mFmt (a : ME) : ME := fun ρ E θ Q => a ρ E θ fun d θ1 => fmtD d E θ1 Q
def jsK (acc : Str) (k : Str → Th → Prop) (d : Dv) (θ : Th) : Prop := match d with
  | .str y => (acc ++ y).length ≤ sizeLine ∧ k (acc ++ y) θ
  | _ => False
def mJs : List ME → Str → ME
  | [], acc => fun _ _ θ Q => Q (.str acc) θ
  | m :: ms, acc => fun ρ E θ Q => m ρ E θ (jsK acc fun z θ1 => mJs ms z ρ E θ1 Q)
/-! xs.index(x), texts and ints -/
def flD : Dv → Bool
  | .str _ => true
  | .int _ => true
  | _ => false
def indexO (o : Option Ob) (y : Dv) (θ : Th) (Q : Dv → Th → Prop) : Prop := match o with
  | some (.lst xs) => xs.all flD = true ∧ flD y = true ∧ ∃ j : Nat, xs[j]? = some y ∧ (∀ m, m < j → xs[m]? ≠ some y) ∧ Q (.int (j : Nat)) θ
  | _ => False
def indexD (d : Dv) (ds : List Dv) : MX Dv := fun _ θ Q => match d with
  | .obj k => (match ds with
    | [y] => indexO θ[k]? y θ Q
    | _ => False)
  | _ => False
end
/-! equations -/
section
variable {E : Exn → Th → Prop} {θ : Th} {ρ : DEnv} {a : ME} {Q : Dv → Th → Prop}
theorem x_strI {i : Int} : strD (.int i) E θ Q = (i.natAbs.log2 < 1920 ∧ Q (.str (toString i)) θ) := (rfl)
theorem x_joinO {z : Str} {k : Nat} : joinD (.str z) [.obj k] E θ Q = joinO z θ[k]? θ Q := (rfl)
theorem x_joinT {z : Str} {xs : List Dv} : joinD (.str z) [.tup xs] E θ Q = joinK z (strsD xs) θ Q := (rfl)
theorem x_joinL {z : Str} {xs : List Dv} : joinO z (some (.lst xs)) θ Q = joinK z (strsD xs) θ Q := (rfl)
theorem x_fmt : mFmt a ρ E θ Q = a ρ E θ fun d θ1 => fmtD d E θ1 Q := (rfl)
theorem x_fmtS {y : Str} : fmtD (.str y) E θ Q = (y.length ≤ sizeLine ∧ Q (.str y) θ) := (rfl)
theorem x_fmtI {i : Int} : fmtD (.int i) E θ Q = (i.natAbs.log2 < 1920 ∧ Q (.str (toString i)) θ) := (rfl)
theorem x_js0 {acc : Str} : mJs [] acc ρ E θ Q = Q (.str acc) θ := (rfl)
theorem x_js {m : ME} {ms : List ME} {acc : Str} : mJs (m :: ms) acc ρ E θ Q = m ρ E θ (jsK acc fun z θ1 => mJs ms z ρ E θ1 Q) := (rfl)
theorem x_jsK {acc y : Str} {k : Str → Th → Prop} : jsK acc k (.str y) θ = ((acc ++ y).length ≤ sizeLine ∧ k (acc ++ y) θ) := (rfl)
theorem x_index {k : Nat} {y : Dv} : indexD (.obj k) [y] E θ Q = indexO θ[k]? y θ Q := (rfl)
end
end Mn

/-! Cm12: mirrors of k36. -/
namespace Cm12
open PySem PySem.Spec PyProof.Rows L2 Mn
end Cm12

/-! Mn36: tuples of the module; equations. -/
namespace Mn
open PySem PySem.Spec PyProof.Rows L2
section
variable {E : Exn → Th → Prop} {θ : Th} {Q : Dv → Th → Prop}
end
end Mn

/-! Mn37: the least of a list of data; [f(x)] in a try; s * n. -/
namespace Mn
open PySem PySem.Spec PyProof.Rows L2
section
open PySem.W PySem.SeqAt
variable {prog : Program} {w : World} {A : Around} {E : Value → Shared → Prop} {s : Shared}
end
section
variable {X : Cx} {W : Wd X.K X.mg}
/-! [f(x)], f may raise -/
/-! f() -/
/-! s * n -/
def oMulS : Dv → Dv → MX Dv
  | .str a, .int n => fun _ θ Q => MulOk a n ∧ Q (.str (Txt.mul a n)) θ
  | _, _ => MX.stuck
end
section
variable {E : Exn → Th → Prop} {θ : Th} {Q : Dv → Th → Prop}
end
end Mn

/-! Cm13: mirrors of k08. -/
namespace Cm13
open PySem PySem.Spec PyProof.Rows L2 Mn
def m__law_classes : MS := (sSeq (sSet 2 (mLst msNil)) (sSeq (sFor (rng1 (msCons (mCall (k1 lenD) (msCons (mBin oIx (mVar 0) (mC (.int 1))) msNil)) msNil)) (.nm 3) (sSeq (sSet 4 (mLc (rng1 (msCons (mCall (k1 lenD) (msCons (mBin oIx (mVar 0) (mC (.int 1))) msNil)) msNil)) (.nm 5) (bB (mBin oNotIn (mVar 5) (mVar 1))) (mCallU 3 Cm3.c__law_breaks (msCons (mVar 0) (msCons (mVar 3) (msCons (mVar 5) msNil)))) [5])) (sSeq (sSet 6 (mLc (srcV (mVar 2)) (.nm 7) (bB (mBin oEq (mBin oIx (mVar 7) (mC (.int 0))) (mVar 4))) (mVar 7) [7])) (sIf (bB (mBin oEq (mVar 6) (mLst msNil))) (sDrop (mMth "list" appendD (mVar 2) (msCons (mLst (msCons (mVar 4) (msCons (mLst (msCons (mVar 3) msNil)) msNil))) msNil))) (sDrop (mMth "list" appendD (mBin oIx (mBin oIx (mVar 6) (mC (.int 0))) (mC (.int 1))) (msCons (mVar 3) msNil))))))) (sRet (mLc (srcV (mVar 2)) (.nm 7) bYes (mCall (k1 tupD) (msCons (mBin oIx (mVar 7) (mC (.int 1))) msNil)) [7]))))
def c__law_classes : List Dv → MX Dv := defM 6 m__law_classes
def m_behind_skipping : MS := (sSeq (sAsg (.tp [(.nm 3), (.nm 4), (.nm 5)]) (mVar 0)) (sSeq (sIf (bB (mBin oEq (mBin oIn (mVar 1) (mVar 4)) (mVar 2))) (sRaise "BadState") sNil) (sSeq (sSet 6 (mLc (srcV (mVar 4)) (.nm 7) (bB (mBin oNe (mVar 7) (mVar 1))) (mVar 7) [7])) (sRet (mTup (msCons (mVar 3) (msCons (mCall (k1 tupD) (msCons (mCall (k1 (onInts sortL)) (msCons (mIf (bTru (mVar 2)) (mBin oAdd (mVar 6) (mLst (msCons (mVar 1) msNil))) (mVar 6)) msNil)) msNil)) (msCons (mVar 5) msNil))))))))
def c_behind_skipping : List Dv → MX Dv := defM 5 m_behind_skipping
def m_behind_answer : MS := (sSeq (sAsg (.tp [(.nm 2), (.nm 3), (.nm 4)]) (mVar 0)) (sSeq (sIf (bOr (bB (mBin oIn (mBin oIx (mVar 1) (mC (.int 1))) (mVar 3))) (bB (mBin oGe (mCall (k1 lenD) (msCons (mVar 2) msNil)) (mC (.int 200))))) (sRaise "BadState") sNil) (sRet (mTup (msCons (mBin oAdd (mVar 2) (mTup (msCons (mTup (msCons (mVar 4) (msCons (mVar 1) msNil))) msNil))) (msCons (mVar 3) (msCons (mBin oAdd (mVar 4) (mC (.int 1))) msNil)))))))
def c_behind_answer : List Dv → MX Dv := defM 3 m_behind_answer
def m_make_called : MS := (sSeq (sFor (srcEn (msCons (mBin oIx (mVar 0) (mC (.int 1))) msNil)) (.tp [(.nm 2), (.tp [(.nm 3), (.nm 4)])]) (sIf (bB (mBin oEq (mVar 3) (mVar 1))) (sRet (mVar 2)) sNil)) (sRaise "BadState"))
def c_make_called : List Dv → MX Dv := defM 3 m_make_called
def m_behind_taking : MS := (sSeq (sAsg (.tp [(.nm 2), (.nm 3), (.nm 4)]) (mVar 0)) (sSeq (sSet 5 (mCall (k1 tupD) (msCons (mLc (srcV (mVar 2)) (.nm 6) (bB (mBin oNe (mBin oIx (mVar 6) (mC (.int 0))) (mVar 1))) (mVar 6) [6]) msNil))) (sSeq (sIf (bB (mBin oEq (mCall (k1 lenD) (msCons (mVar 5) msNil)) (mCall (k1 lenD) (msCons (mVar 2) msNil)))) (sRaise "BadState") sNil) (sRet (mTup (msCons (mVar 5) (msCons (mVar 3) (msCons (mVar 4) msNil))))))))
def c_behind_taking : List Dv → MX Dv := defM 5 m_behind_taking
def m_behind : MS := (sSeq (sIf (bB (mBin oEq (mBin oIx (mVar 2) (mC (.int 0))) (mC (.str "take")))) (sRet (mCallU 2 Cm13.c_behind_taking (msCons (mVar 1) (msCons (mBin oIx (mVar 2) (mC (.int 1))) msNil)))) sNil) (sSeq (sSet 3 (mCallU 2 Cm13.c_make_called (msCons (mVar 0) (msCons (mBin oIx (mVar 2) (mUn oNeg (mC (.int 1)))) msNil)))) (sSeq (sIf (bB (mBin oEq (mBin oIx (mVar 2) (mC (.int 0))) (mC (.str "answer")))) (sRet (mCallU 2 Cm13.c_behind_answer (msCons (mVar 1) (msCons (mTup (msCons (mBin oIx (mVar 2) (mC (.int 1))) (msCons (mVar 3) msNil))) msNil)))) sNil) (sRet (mCallU 3 Cm13.c_behind_skipping (msCons (mVar 1) (msCons (mVar 3) (msCons (mBin oEq (mBin oIx (mVar 2) (mC (.int 0))) (mC (.str "skip"))) msNil))))))))
def c_behind : List Dv → MX Dv := defM 1 m_behind
def m_is_deed : MS := (sSeq (sIf (bNot (bB (mIsi "tuple" (mVar 0)))) (sRet (mC (.bl false))) sNil) (sSeq (sIf (bB (mBin oEq (mCall (k1 lenD) (msCons (mVar 0) msNil)) (mC (.int 3)))) (sRet (mAnd (mBin oEq (mBin oIx (mVar 0) (mC (.int 0))) (mC (.str "answer"))) (mAnd (mBin oIn (mBin oIx (mVar 0) (mC (.int 1))) (mTup (msCons (mC (.str "broken")) (msCons (mC (.str "works")) msNil)))) (mIsi "str" (mBin oIx (mVar 0) (mC (.int 2))))))) sNil) (sSeq (sIf (bB (mBin oNe (mCall (k1 lenD) (msCons (mVar 0) msNil)) (mC (.int 2)))) (sRet (mC (.bl false))) sNil) (sSeq (sIf (bB (mBin oEq (mBin oIx (mVar 0) (mC (.int 0))) (mC (.str "take")))) (sRet (mCallU 1 Cm.c_is_integer (msCons (mBin oIx (mVar 0) (mC (.int 1))) msNil))) sNil) (sRet (mAnd (mBin oIn (mBin oIx (mVar 0) (mC (.int 0))) (mTup (msCons (mC (.str "skip")) (msCons (mC (.str "unskip")) msNil)))) (mIsi "str" (mBin oIx (mVar 0) (mC (.int 1))))))))))
def c_is_deed : List Dv → MX Dv := defM 0 m_is_deed
def m_Desk_do : MS := (sSeq (sIf (bNot (bB (mCallU 1 Cm13.c_is_deed (msCons (mVar 1) msNil)))) (sRaiseI "BadAnswer" "place" (mC (.int 0))) sNil) (sSeq (sIf (bB (mBin oGe (mCall (k1 lenD) (msCons (mFld "Desk" "_deeds" (mVar 0)) msNil)) (mC (.int 2000)))) (sRaise "BadState") sNil) (sSeq (sDrop (mMth "list" appendD (mFld "Desk" "_moments" (mVar 0)) (msCons (mCallU 3 Cm13.c_behind (msCons (mFld "Desk" "_history" (mVar 0)) (msCons (mBin oIx (mFld "Desk" "_moments" (mVar 0)) (mUn oNeg (mC (.int 1)))) (msCons (mVar 1) msNil)))) msNil))) (sDrop (mMth "list" appendD (mFld "Desk" "_deeds" (mVar 0)) (msCons (mVar 1) msNil))))))
def c_Desk_do : List Dv → MX Dv := defM 0 m_Desk_do
def m__law_told : MS := (sTryAs [("BadAnswer", false), ("BadHistory", false), ("BadState", true)] 2 (sRet (mLst (msCons (mMeth "Desk" "do" 1 Cm13.c_Desk_do (mVar 0) (msCons (mVar 1) msNil)) msNil))) (fun a x => (sRet (mBin oMulS (mC (.str "other")) (mCall (k1 intD) (msCons (mIsX 2 a x [("BadAnswer", true), ("BadHistory", false), ("BadState", false)]) msNil))))))
def c__law_told : List Dv → MX Dv := defM 1 m__law_told
end Cm13

/-! Mn38: a try whose body raises nothing here. -/
namespace Mn
open PySem PySem.Spec PyProof.Rows L2
theorem Cf.nox {X : Cx} (c : Cf X) : Cf X.nox := ⟨c.calm, c.gd, c.un, c.nd⟩
section
variable {X : Cx} {W : Wd X.K X.mg}
end
end Mn

/-! Cm14: mirrors of k40. -/
namespace Cm14
open PySem PySem.Spec PyProof.Rows L2 Mn
end Cm14

/-! Mn39: dict comprehensions. -/
namespace Mn
open PySem PySem.Spec PyProof.Rows L2
section
variable {X : Cx} {W : Wd X.K X.mg}
end
end Mn

/-! Mn40: a tuple in a tuple of tuples; texts taken apart. -/
namespace Mn
open PySem PySem.Spec PyProof.Rows L2
section
variable {X : Cx} {W : Wd X.K X.mg}
/-! texts -/
def splitD (d : Dv) (ds : List Dv) : MX Dv := fun _ θ Q => match d, ds with
  | .str a, [.str b] => (b.length == 0) = false ∧ a.length + 2 ≤ sizeLine ∧ Q (.obj θ.length) (θ ++ [.lst ((Txt.split a b).map Dv.str)])
  | _, _ => False
def partD (d : Dv) (ds : List Dv) : MX Dv := fun _ θ Q => match d, ds with
  | .str a, [.str b] => (b.length == 0) = false ∧ a.length ≤ sizeLine ∧ Q (.tup [.str (Txt.partition a b).1, .str (Txt.partition a b).2.1, .str (Txt.partition a b).2.2]) θ
  | _, _ => False
end
section
variable {E : Exn → Th → Prop} {θ : Th} {Q : Dv → Th → Prop}
end
end Mn

/-! Mn41: enumerate(.., start=k). -/
namespace Mn
open PySem PySem.Spec PyProof.Rows L2
/-! as a source -/
def ekS (ds zs : List Dv) : MX Src := fun E θ Q => match ds, zs with
  | [d], [.int k] => (0 ≤ k ∧ k < 1000) ∧ asSd d E θ fun s θ' => Q (.enS k s) θ'
  | _, _ => False
def srcEnS (ms zs : DEnv → MX (List Dv)) : DEnv → MX Src := fun ρ E θ Q => ms ρ E θ fun ds θ1 => zs ρ E θ1 fun es θ2 => ekS ds es E θ2 Q
section
variable {X : Cx} {W : Wd X.K X.mg}
end
section
variable {E : Exn → Th → Prop} {θ : Th} {ρ : DEnv} {R : Src → Th → Prop}
end
end Mn

/-! Cm15: mirrors of k13. -/
namespace Cm15
open PySem PySem.Spec PyProof.Rows L2 Mn
def m_fault_of_parents : MS := (sSeq (sSet 2 mDK) (sSeq (sFor (srcV (mVar 0)) (.nm 3) (sSeq (sIf (bB (mBin oNotIn (mVar 3) (mVar 1))) (sRet (mC (.str "unknown make"))) sNil) (sSeq (sIf (bB (mBin oIn (mVar 3) (mVar 2))) (sRet (mC (.str "twice a parent"))) sNil) (sPut (mVar 2) (mVar 3) (mC (.bl true)))))) (sSeq (sIf (bB (mBin oGt (mCall (k1 lenD) (msCons (mVar 0) msNil)) (mC (.int 4)))) (sRet (mC (.str "too many parents"))) sNil) (sRet (mC (.str ""))))))
def c_fault_of_parents : List Dv → MX Dv := defM 2 m_fault_of_parents
def m_has_right_number : MS := (sRet (mOr (mBin oEq (mCall (k1 lenD) (msCons (mVar 0) msNil)) (mC (.int 2))) (mAnd (mBin oGt (mCall (k1 lenD) (msCons (mVar 0) msNil)) (mC (.int 3))) (mBin oEq (mBin oIx (mVar 0) (mC (.int 2))) (mC (.str "from"))))))
def c_has_right_number : List Dv → MX Dv := defM 0 m_has_right_number
def m_fault : MS := (sSeq (sIf (bB (mBin oNe (mBin oIx (mVar 0) (mC (.int 0))) (mC (.str "make")))) (sRet (mC (.str "unknown line"))) sNil) (sSeq (sIf (bNot (bB (mCallU 1 Cm15.c_has_right_number (msCons (mVar 0) msNil)))) (sRet (mC (.str "wrong number of words"))) sNil) (sSeq (sIf (bNot (bB (mCallU 1 Cm11.c_is_name (msCons (mBin oIx (mVar 0) (mC (.int 1))) msNil)))) (sRet (mC (.str "bad name"))) sNil) (sSeq (sIf (bB (mBin oIn (mBin oIx (mVar 0) (mC (.int 1))) (mVar 1))) (sRet (mC (.str "two of a name"))) sNil) (sRet (mCallU 2 Cm15.c_fault_of_parents (msCons (mSl (mVar 0) (pSo (mC (.int 3))) pNo) (msCons (mVar 1) msNil))))))))
def c_fault : List Dv → MX Dv := defM 0 m_fault
def m_words_of : MS := (sRet (mLc (srcV (mMth "str" splitD (mBin oIx (mMth "str" partD (mVar 0) (msCons (mC (.str "#")) msNil)) (mC (.int 0))) (msCons (mC (.str " ")) msNil))) (.nm 1) (bTru (mVar 1)) (mVar 1) [1]))
def c_words_of : List Dv → MX Dv := defM 1 m_words_of
def m_parse : MS := (sSeq (sSet 1 mDK) (sSeq (sSet 2 (mLst msNil)) (sSeq (sFor (srcEnS (msCons (mMth "str" splitD (mVar 0) (msCons (mC (.str "\n")) msNil)) msNil) (msCons (mC (.int 1)) msNil)) (.tp [(.nm 3), (.nm 4)]) (sSeq (sSet 5 (mCallU 1 Cm15.c_words_of (msCons (mVar 4) msNil))) (sIf (bTru (mVar 5)) (sSeq (sSet 6 (mCallU 2 Cm15.c_fault (msCons (mVar 5) (msCons (mVar 1) msNil)))) (sSeq (sIf (bTru (mVar 6)) (sRaiseT "BadHistory" "line" "reason" (mVar 3) (mVar 6)) sNil) (sSeq (sDrop (mMth "list" appendD (mVar 2) (msCons (mTup (msCons (mBin oIx (mVar 5) (mC (.int 1))) (msCons (mCall (k1 tupD) (msCons (mCall (k1 (onInts sortL)) (msCons (mLc (srcV (mSl (mVar 5) (pSo (mC (.int 3))) pNo)) (.nm 7) bYes (mBin oIx (mVar 1) (mVar 7)) [7]) msNil)) msNil)) msNil))) msNil))) (sPut (mVar 1) (mBin oIx (mVar 5) (mC (.int 1))) (mCall (k1 lenD) (msCons (mVar 1) msNil)))))) sNil))) (sSeq (sSet 8 (mTup (msCons (mC (.str "history")) (msCons (mCall (k1 tupD) (msCons (mVar 2) msNil)) msNil)))) (sSeq (sDrop (mCallU 1 Cm11.c_check_history (msCons (mVar 8) msNil))) (sRet (mVar 8)))))))
def c_parse : List Dv → MX Dv := defM 8 m_parse
def m__law_told : MS := (sSeq (sTryAs [("BadHistory", true)] 1 (sDrop (mCallU 1 Cm15.c_parse (msCons (mVar 0) msNil))) (fun a x => (sSeq (sIf (bOr (bB (mIsX 1 a x [("BadHistory", false)])) (bNot (bB (mIsX 1 a x [("BadHistory", true)])))) (sRet (mC (.str "other"))) sNil) (sRet (mTup (msCons (mXf 1 a x "BadHistory" "line") (msCons (mXf 1 a x "BadHistory" "reason") msNil))))))) (sRet (mC (.str "read"))))
def c__law_told : List Dv → MX Dv := defM 1 m__law_told
end Cm15

/-! Mn42: list.pop(i). -/
namespace Mn
open PySem PySem.Spec PyProof.Rows L2
section
variable {X : Cx} {W : Wd X.K X.mg}
end
section
variable {E : Exn → Th → Prop} {θ : Th} {Q : Dv → Th → Prop}
end
end Mn

/-! Cm16: mirrors of k12. -/
namespace Cm16
open PySem PySem.Spec PyProof.Rows L2 Mn
end Cm16

/-! Mn43: sum of a list of lists, from a list on. -/
namespace Mn
open PySem PySem.Spec PyProof.Rows L2
section
variable {prog : Program} {w : World} {A : Around} {R : Result → Shared → Prop}
end
section
variable {prog : Program} {w : World} {A : Around} {E : Value → Shared → Prop} {s : Shared}
end
end Mn

/-! Mn44: sum(lists, []). -/
namespace Mn
open PySem PySem.Spec PyProof.Rows L2
section
variable {X : Cx} {W : Wd X.K X.mg}
end
end Mn

/-! Cm17: mirrors of k17. -/
namespace Cm17
open PySem PySem.Spec PyProof.Rows L2 Mn
end Cm17

/-! Mn45: a try whose first clause has a name and whose other clauses have none; an own class called in a try. -/
namespace Mn
open PySem PySem.Spec PyProof.Rows L2
section
variable {X : Cx} {x n : Str} {c : Value} {i : Nat} {body suite : List Stmt} {b₀ : Stmt} {np pos pos' : Pos} {hds : List ExceptHandler} {l : List (Value × (Addr → Value → Option Addr → TS))} {tb : WX → TS} {ts : Addr → Value → Option Addr → TS} {Wout : WX}
end
section
variable {X : Cx} {W : Wd X.K X.mg} {x x2 n : Str} {c c2 : Value} {body suite suite2 : List Stmt} {b₀ b2 : Stmt} {np np2 pos pos' pos2 : Pos} {mb : MS} {kn kn2 : List (Str × Bool)}
end
/-! ### an own class called in a try -/
section
variable {X : Cx} {W : Wd X.K X.mg} {Wx : WX}
end
end Mn

/-! Mn46: *a, b = a list; except (A, B). -/
namespace PySem.W
open PySem PySem.Spec PySem.Calls PyProof.Rows
section
variable {prog : Program} {w : World} {A : Around} {E : Value → Shared → Prop} {s : Shared}
end
end PySem.W
namespace Mn
open PySem PySem.Spec PyProof.Rows L2
section
variable {X : Cx} {pos : Pos}
end
section
variable {X : Cx} {W : Wd X.K X.mg}
end
/-! ### except (A, B) -/
section
variable {X : Cx} {x1 x2 : Str} {c1 c2 : Value} {body suite : List Stmt} {b₀ : Stmt} {np1 np2 tp pos pos' : Pos} {tk : Nat} {tb : WX → TS} {ts : Addr → Value → Option Addr → TS} {Wout : WX}
end
section
variable {X : Cx} {W : Wd X.K X.mg} {x1 x2 : Str} {c1 c2 : Value} {body suite : List Stmt} {b₀ : Stmt} {np1 np2 tp pos pos' : Pos} {tk0 : Nat} {mb : MS} {kn kn2 : List (Str × Bool)}
end
end Mn

/-! Mn47: str(a text), int(a text). -/
namespace Mn
open PySem PySem.Spec PyProof.Rows L2
section
variable {X : Cx} {W : Wd X.K X.mg}
end
section
variable {E : Exn → Th → Prop} {θ : Th} {Q : Dv → Th → Prop}
end
/-! == in an except's suite -/
section
variable {X : Cx} {a : Addr} {pn : List (Addr × Obj)} {W : Wd (X.suite a pn).K (X.suite a pn).mg}
end
end Mn

/-! Cm18: mirrors of k39. -/
namespace Cm18
open PySem PySem.Spec PyProof.Rows L2 Mn
end Cm18

/-! Mn48: a try whose body sets a name by a call, and raises nothing behind it; != in an except's suite. -/
namespace Mn
open PySem PySem.Spec PyProof.Rows L2
section
variable {X : Cx} {W : Wd X.K X.mg} {Wx : WX}
end
section
variable {X : Cx} {a : Addr} {pn : List (Addr × Obj)} {W : Wd (X.suite a pn).K (X.suite a pn).mg}
end
end Mn

/-! Cm19: mirrors of k38. -/
namespace Cm19
open PySem PySem.Spec PyProof.Rows L2 Mn
end Cm19

/-! Mn49: what a zip of two tuples gives while its tuples are kept. -/
namespace Mn
open PySem PySem.Spec PyProof.Rows L2 RZ
section
variable {prog : Program} {w : World} {A : Around} {E : Value → Shared → Prop} {s : Shared}
/-- a zip of two tuples behind i turns, all of its tuples kept -/
structure ZipT (h : Heap) (z TI TO i1 i2 l1 l2 : Addr) (xs ys : Array Value) (i : Nat) : Prop where
  st : (i = 0 ∧ IsZip h z TI TO .none ∧ ∃ a b, IsPair h TO a b) ∨ ∃ T f oT, T ≠ z ∧ T ≠ i1 ∧ T ≠ i2 ∧ IsZipHeld h z TI TO T f ∧ h.get? T = some oT
  ti : IsPair h TI (.ref i1) (.ref i2)
  h1 : h.IsTupleIter i1 l1 i
  h2 : h.IsTupleIter i2 l2 i
  p1 : h.IsTuple l1 xs
  p2 : h.IsTuple l2 ys
theorem zt_item_held {z TI TO T i1 i2 l1 l2 : Addr} {f : Bool} {oT : Obj} {k1 k2 : Nat} {xs ys : Array Value} {x y : Value} {Q : Value → Shared → Prop} (D : ZipApart z TI TO i1 i2 l1 l2) (hz : IsZipHeld s.heap z TI TO T f) (hT : s.heap.get? T = some oT) (hTI : IsPair s.heap TI (.ref i1) (.ref i2))
    (h1 : s.heap.IsTupleIter i1 l1 k1) (h2 : s.heap.IsTupleIter i2 l2 k2) (p1 : s.heap.IsTuple l1 xs) (p2 : s.heap.IsTuple l2 ys) (hx : xs[k1]? = some x) (hy : ys[k2]? = some y)
    (q : ∀ h' : Heap, IsZipHeld h' z TI TO T true → h'.IsTupleIter i1 l1 (k1 + 1) → h'.IsTupleIter i2 l2 (k2 + 1) → IsPair h' s.heap.objs.size x y → h'.objs.size = s.heap.objs.size + 1 → (∀ c o, c ≠ z → c ≠ i1 → c ≠ i2 → s.heap.get? c = some o → h'.get? c = some o) → Q (.ref s.heap.objs.size) { s with heap := h' }) :
    wpAny (model prog w) A (Builtin.«zip.__next__» ⟨[.ref z], []⟩) (fun fin s' => ∃ v, fin = .done (.ret v) ∧ Q v s') E s := by
  show wpAny _ _ (field (.ref z) 2 >>= _) _ _ _
  apply wpAny_bind; apply wpAny_field hz rfl (x := .bool false) rfl
  show wpAny _ _ (field (.ref z) 3 >>= _) _ _ _
  apply wpAny_bind; apply wpAny_field hz rfl (x := .ref TI) rfl
  apply wpAny_bind; apply wpAny_seqItems hTI rfl
  show wpAny _ _ (Builtin.SmallTypes.ownedTupleIsFree (.ref z) >>= _) _ _ _
  apply wpAny_bind; apply wpAny_tupleHeld_zip hz hT; intro g1 z1 b1
  simp only [Bool.false_eq_true, if_false]
  apply wpAny_bind
  rw [← Array.forIn_toList]
  simp only [List.forIn_cons, List.forIn_nil]
  apply wpAny_bind; apply wpAny_bind; apply wpAny_holding
  show wpAny _ _ (Builtin.SmallTypes.nextOf (.ref i1) >>= _) _ _ _
  apply wpAny_bind
  refine nextOf_tuple_item (s := { s with heap := g1 }) (h1.extBut b1.extBut D.i1z) (p1.extBut b1.extBut D.l1z) hx fun g2 t1 b2 => wpAny_pure ?_
  apply wpAny_pure
  apply wpAny_bind; apply wpAny_bind; apply wpAny_holding
  show wpAny _ _ (Builtin.SmallTypes.nextOf (.ref i2) >>= _) _ _ _
  apply wpAny_bind
  refine nextOf_tuple_item (s := { s with heap := g2 }) ((h2.extBut b1.extBut D.i2z).extBut b2.extBut D.i12.symm) ((p2.extBut b1.extBut D.l2z).extBut b2.extBut D.l2i1) hy fun g3 t2 b3 => wpAny_pure ?_
  apply wpAny_pure; apply wpAny_pure
  show wpAny _ _ (newTuple [x, y] >>= _) _ _ _
  apply wpAny_bind; refine wpAny_newTuple ?_
  have e3 : g3.objs.size = s.heap.objs.size := by rw [b3.1, b2.1, b1.1]
  have z3 : IsZipHeld g3 z TI TO T true := b3.extBut _ _ D.i2z.symm (b2.extBut _ _ D.i1z.symm z1)
  apply wpAny_pure
  refine ⟨_, rfl, ?_⟩
  show Q (.ref g3.objs.size) _
  have np : IsPair (g3.push { cls := .type "tuple", data := .seq #[x, y] }) g3.objs.size x y := Heap.get?_push_size _ rfl
  have ns : (g3.push { cls := .type "tuple", data := .seq #[x, y] }).objs.size = g3.objs.size + 1 := Heap.size_push ..
  rw [e3] at np ns ⊢
  refine q _ (Heap.get?_push_of_some _ z3) ((t1.extBut b3.extBut D.i12).at fun o e => Heap.get?_push_of_some _ e) (t2.at fun o e => Heap.get?_push_of_some _ e) np ns fun c o c1 c2 c3 e => Heap.get?_push_of_some _ ?_
  exact b3.extBut _ _ c3 (b2.extBut _ _ c2 (b1.extBut _ _ c1 e))
theorem zt_end_held {z TI TO T i1 i2 l1 l2 : Addr} {f : Bool} {oT : Obj} {k1 : Nat} {xs : Array Value} {Q : Fin → Shared → Prop} (hh : A.handled = none) (D : ZipApart z TI TO i1 i2 l1 l2) (hz : IsZipHeld s.heap z TI TO T f) (hT : s.heap.get? T = some oT) (hTI : IsPair s.heap TI (.ref i1) (.ref i2))
    (h1 : s.heap.IsTupleIter i1 l1 k1) (p1 : s.heap.IsTuple l1 xs) (hx : xs[k1]? = none)
    (q : ∀ (h' : Heap) (e : Addr), (∀ c o, c ≠ z → c ≠ i1 → s.heap.get? c = some o → h'.get? c = some o) → (∃ o, h'.get? e = some o ∧ o.cls = .type "StopIteration") → E (.ref e) { s with heap := h' }) :
    wpAny (model prog w) A (Builtin.«zip.__next__» ⟨[.ref z], []⟩) Q E s := by
  show wpAny _ _ (field (.ref z) 2 >>= _) _ _ _
  apply wpAny_bind; apply wpAny_field hz rfl (x := .bool false) rfl
  show wpAny _ _ (field (.ref z) 3 >>= _) _ _ _
  apply wpAny_bind; apply wpAny_field hz rfl (x := .ref TI) rfl
  apply wpAny_bind; apply wpAny_seqItems hTI rfl
  show wpAny _ _ (Builtin.SmallTypes.ownedTupleIsFree (.ref z) >>= _) _ _ _
  apply wpAny_bind; apply wpAny_tupleHeld_zip hz hT; intro g1 z1 b1
  simp only [Bool.false_eq_true, if_false]
  apply wpAny_bind
  rw [← Array.forIn_toList]
  simp only [List.forIn_cons, List.forIn_nil]
  apply wpAny_bind; apply wpAny_bind; apply wpAny_holding
  show wpAny _ _ (Builtin.SmallTypes.nextOf (.ref i1) >>= _) _ _ _
  apply wpAny_bind
  refine nextOf_tuple_end (s := { s with heap := g1 }) hh (h1.extBut b1.extBut D.i1z) (p1.extBut b1.extBut D.l1z) hx fun g2 e b2 st => ?_
  exact q g2 e (fun c o c1 c2 x => b2 _ _ c2 (b1.extBut _ _ c1 x)) st
/-- the next pair -/
theorem ZipT.item {z TI TO i1 i2 l1 l2 : Addr} {i : Nat} {xs ys : Array Value} {x y : Value} {Q : Option Value → Shared → Prop} (D : ZipApart z TI TO i1 i2 l1 l2) (S : ZipT s.heap z TI TO i1 i2 l1 l2 xs ys i) (hx : xs[i]? = some x) (hy : ys[i]? = some y)
    (q : ∀ h' : Heap, ZipT h' z TI TO i1 i2 l1 l2 xs ys (i + 1) → IsPair h' s.heap.objs.size x y → h'.objs.size = s.heap.objs.size + 1 → (∀ c o, c ≠ z → c ≠ TO → c ≠ i1 → c ≠ i2 → s.heap.get? c = some o → h'.get? c = some o) → Q (some (.ref s.heap.objs.size)) { s with heap := h' }) :
    wpAny (model prog w) A (pyNext (.ref z)) Q E s := by
  obtain ⟨st, ti, h1, h2, p1, p2⟩ := S
  have lt : ∀ {c : Addr} {o : Obj}, s.heap.get? c = some o → s.heap.objs.size ≠ c := fun e => Nat.ne_of_gt (Heap.lt_size e)
  have i1lt : s.heap.objs.size ≠ i1 := by obtain ⟨_, e, _⟩ := h1; exact lt e
  have i2lt : s.heap.objs.size ≠ i2 := by obtain ⟨_, e, _⟩ := h2; exact lt e
  have up : ∀ (h' : Heap), (∀ c o, c ≠ z → c ≠ TO → c ≠ i1 → c ≠ i2 → s.heap.get? c = some o → h'.get? c = some o) → IsPair h' TI (.ref i1) (.ref i2) ∧ h'.IsTuple l1 xs ∧ h'.IsTuple l2 ys := fun h' k =>
    ⟨k _ _ D.TIz D.TITO D.TIi1 D.TIi2 ti, p1.at fun o e => k _ o D.l1z D.l1TO D.l1i1 D.l1i2 e, p2.at fun o e => k _ o D.l2z D.l2TO D.l2i1 D.l2i2 e⟩
  rcases st with ⟨rfl, hz, a, b, hTO⟩ | ⟨T, f, oT, n1, n2, n3, hz, hT⟩
  · refine pyNext_zipT_item D hz ti hTO h1 h2 p1 p2 hx hy fun h' z' to' a1 a2 pr sz k => ?_
    obtain ⟨u1, u2, u3⟩ := up h' k
    exact q h' ⟨.inr ⟨_, false, _, lt hz, i1lt, i2lt, z', pr⟩, u1, a1, a2, u2, u3⟩ pr sz k
  · have ty : s.TypeIs (.ref z) "zip" := ⟨_, hz, rfl⟩
    unfold pyNext
    apply wpAny_bind; apply wpAny_attempt
    refine wpAny_callSpecial?_slot (name := Str.ofString "__next__") ty F.slot_zip_next (wpAny_call_entry F.slot_zip_next ty F.entry_zip_next (zt_item_held D hz hT ti h1 h2 p1 p2 hx hy fun h' z' a1 a2 pr sz k => wpAny_pure ?_) (F.args_zip_next_1 _))
    have k' : ∀ c o, c ≠ z → c ≠ TO → c ≠ i1 → c ≠ i2 → s.heap.get? c = some o → h'.get? c = some o := fun c o c1 _ c3 c4 e => k c o c1 c3 c4 e
    obtain ⟨u1, u2, u3⟩ := up h' k'
    exact q h' ⟨.inr ⟨T, true, oT, n1, n2, n3, z', k T oT n1 n2 n3 hT⟩, u1, a1, a2, u2, u3⟩ pr sz k'
/-- no pair is left -/
theorem ZipT.done {z TI TO i1 i2 l1 l2 : Addr} {i : Nat} {xs ys : Array Value} {Q : Option Value → Shared → Prop} (hh : A.handled = none) (D : ZipApart z TI TO i1 i2 l1 l2) (S : ZipT s.heap z TI TO i1 i2 l1 l2 xs ys i) (hx : xs[i]? = none)
    (q : ∀ h' : Heap, (∀ c o, c ≠ z → c ≠ TO → c ≠ i1 → c ≠ i2 → s.heap.get? c = some o → h'.get? c = some o) → Q none { s with heap := h' }) : wpAny (model prog w) A (pyNext (.ref z)) Q E s := by
  obtain ⟨st, ti, h1, h2, p1, p2⟩ := S
  rcases st with ⟨rfl, hz, a, b, hTO⟩ | ⟨T, f, oT, n1, n2, n3, hz, hT⟩
  · exact pyNext_zipT_end hh D hz ti hTO h1 h2 p1 p2 (.inl hx) q
  · have ty : s.TypeIs (.ref z) "zip" := ⟨_, hz, rfl⟩
    unfold pyNext
    apply wpAny_bind; apply wpAny_attempt
    refine wpAny_callSpecial?_slot (name := Str.ofString "__next__") ty F.slot_zip_next (wpAny_call_entry F.slot_zip_next ty F.entry_zip_next (zt_end_held hh D hz hT ti h1 p1 hx fun h' e k ⟨o, ho, hc⟩ => ?_) (F.args_zip_next_1 _))
    have tyE : ({ s with heap := h' } : Shared).TypeIs (.ref e) "StopIteration" := ⟨o, ho, hc⟩
    apply wpAny_bind; apply wpAny_isInstance (b := true) tyE isSubtype_stop
    exact wpAny_pure (q h' fun c o c1 _ c3 _ e => k c o c1 c3 e)
end
end Mn

/-! Mn50: tuple(zip(a, b)) of two tuples. -/
namespace Mn
open PySem PySem.Spec PyProof.Rows L2 RZ
/-- the pairs made so far: ps their places, in the heap H that grew out of H0 -/
inductive Zps (H0 : Hp) (xs ys : List V) : Hp → List V → Prop
  | nil : Zps H0 xs ys H0 []
  | snoc {H : Hp} {ps : List V} {q : Addr} {x y : V} (z : Zps H0 xs ys H ps) (hq : H q = none) (hx : xs[ps.length]? = some x) (hy : ys[ps.length]? = some y) : Zps H0 xs ys (upd H q (.tup [x, y])) (ps ++ [.ref q])
theorem vals_snoc {vs : List V} {us : List Value} {v : V} {u : Value} (r : Vals vs us) (rv : RelV v u) : Vals (vs ++ [v]) (us ++ [u]) := by
  induction r with
  | nil => exact .cons rv .nil
  | cons a b ih => exact .cons a ih
theorem ZipT.other {h h' : Heap} {z TI TO i1 i2 l1 l2 S : Addr} {xs ys : Array Value} {i : Nat} (Z : ZipT h z TI TO i1 i2 l1 l2 xs ys i) (hS : S ≠ z ∧ S ≠ TI ∧ S ≠ TO ∧ S ≠ i1 ∧ S ≠ i2 ∧ S ≠ l1 ∧ S ≠ l2) (k : ∀ b o, b ≠ S → h.get? b = some o → h'.get? b = some o) (hn : ∃ o, h'.get? S = some o) : ZipT h' z TI TO i1 i2 l1 l2 xs ys i := by
  obtain ⟨sz, sTI, sTO, s1, s2, sl1, sl2⟩ := hS
  obtain ⟨st, ti, h1, h2, p1, p2⟩ := Z
  refine ⟨?_, k _ _ sTI.symm ti, h1.at fun o e => k _ o s1.symm e, h2.at fun o e => k _ o s2.symm e, p1.at fun o e => k _ o sl1.symm e, p2.at fun o e => k _ o sl2.symm e⟩
  rcases st with ⟨e, hz, a, b, hTO⟩ | ⟨T, f, oT, n1, n2, n3, hz, hT⟩
  · exact .inl ⟨e, k _ _ sz.symm hz, a, b, k _ _ sTO.symm hTO⟩
  · by_cases c : T = S
    · obtain ⟨o, ho⟩ := hn
      exact .inr ⟨T, f, o, n1, n2, n3, k _ _ sz.symm hz, by rw [c]; exact ho⟩
    · exact .inr ⟨T, f, oT, n1, n2, n3, k _ _ sz.symm hz, k _ _ c hT⟩
section
variable {X : Cx} {pins : List (Addr × Obj)} {σ : L2.St}
theorem zt_loop {A : Around} {z TI TO i1 i2 l1 l2 S : Addr} {us1 us2 : List Value} {xs ys : List V} {H0 : Hp} {n : Nat} {res : Value} {R : Result → Shared → Prop} (hh : A.in1.handled = none) (D : ZipApart z TI TO i1 i2 l1 l2) (r1 : Vals xs us1) (r2 : Vals ys us2) (hn1 : xs.length = n) (hn2 : ys.length = n) (hn : n ≤ sizeLine) (hS : S ≠ z ∧ S ≠ TI ∧ S ≠ TO ∧ S ≠ i1 ∧ S ≠ i2 ∧ S ≠ l1 ∧ S ≠ l2) :
    ∀ (k i : Nat) (s : Shared) (H : Hp) (acc : Array Value) (c : Nat) (ps : List V), n - i = k → i ≤ n → Inv X pins σ H s → ZipT s.heap z TI TO i1 i2 l1 l2 us1.toArray us2.toArray i → (∀ b ∈ [z, TO, i1, i2, S], FpOk X pins H b ∧ b < s.heap.objs.size) →
    s.heap.get? S = some { cls := .type "list", dict := none, data := .seq acc c, slots := #[] } → Vals ps acc.toList → ps.length = i → Zps H0 xs ys H ps →
    (∀ s' H' acc' c' ps', Inv X pins σ H' s' → s'.heap.get? S = some { cls := .type "list", dict := none, data := .seq acc' c', slots := #[] } → Vals ps' acc'.toList → ps'.length = n → Zps H0 xs ys H' ps' → R (.ok (.ret res)) s') →
    codeAny (model X.prog X.w) A (.builtin "list.extend.loop" ⟨[.ref S, .ref z, res], []⟩) R s := by
  obtain ⟨sz, sTI, sTO, s1, s2, sl1, sl2⟩ := hS
  have e1 : us1.length = n := by rw [← r1.length]; exact hn1
  have e2 : us2.length = n := by rw [← r2.length]; exact hn2
  intro k
  induction k with
  | zero =>
    intro i s H acc c ps hk hi I Z hf hS ra hl zp fin
    have hin : i = n := by omega
    subst hin
    refine codeAny_builtin PySem.F.entry_extend_loop ?_
    rw [Around.under_plainId PySem.F.plain_extend_loop _]
    show wpAny _ A.in1 (pyNext (.ref z) >>= _) _ _ s
    apply wpAny_bind
    refine Z.done hh D (by simp; omega) fun h' kp => wpAny_pure ?_
    have I1 : Inv X pins σ H { s with heap := h' } := I.turnedL (t' := s.toks) (ch := [z, TO, i1, i2]) (fun b o hb e => kp b o (fun q => hb (by simp [q])) (fun q => hb (by simp [q])) (fun q => hb (by simp [q])) (fun q => hb (by simp [q])) e) fun b hb => (hf b (by simp at hb ⊢; rcases hb with h | h | h | h <;> simp [h])).1
    exact fin _ H acc c ps I1 (kp S _ sz sTO s1 s2 hS) ra hl zp
  | succ k ih =>
    intro i s H acc c ps hk hi I Z hf hS ra hl zp fin
    have hlt : i < n := by omega
    obtain ⟨x, hx⟩ : ∃ x, xs[i]? = some x := ⟨xs[i], List.getElem?_eq_getElem (by omega)⟩
    obtain ⟨y, hy⟩ : ∃ y, ys[i]? = some y := ⟨ys[i], List.getElem?_eq_getElem (by omega)⟩
    obtain ⟨u, hu, ru⟩ := r1.get hx
    obtain ⟨v, hv, rv⟩ := r2.get hy
    refine codeAny_builtin PySem.F.entry_extend_loop ?_
    rw [Around.under_plainId PySem.F.plain_extend_loop _]
    show wpAny _ A.in1 (pyNext (.ref z) >>= _) _ _ s
    apply wpAny_bind
    refine Z.item D (x := u) (y := v) (by simpa using hu) (by simpa using hv) fun h' Z' pr hsz kp => ?_
    have new : ObjOk X.prog X.w (upd H s.heap.objs.size (.tup [x, y])) h' s.heap.objs.size (.tup [x, y]) := ⟨by show 2 ≤ sizeLine; decide, [u, v], .cons ru (.cons rv .nil), ⟨_, pr, rfl, _, rfl⟩⟩
    have I1 : Inv X pins σ (upd H s.heap.objs.size (.tup [x, y])) { s with heap := h' } :=
      I.turnedNew (t' := s.toks) (ch := [z, TO, i1, i2]) (fun b o hb e => kp b o (fun q => hb (by simp [q])) (fun q => hb (by simp [q])) (fun q => hb (by simp [q])) (fun q => hb (by simp [q])) e) (fun b hb => (hf b (by simp at hb ⊢; rcases hb with h | h | h | h <;> simp [h])).1) (Nat.le_refl _) new
    have hS1 := kp S _ sz sTO s1 s2 hS
    show wpAny _ A.in1 (updateSeq S (·.push (.ref s.heap.objs.size)) >>= _) _ _ _
    have hacc : acc.size = i := by
      have e3 := ra.length
      have e4 : acc.toList.length = acc.size := Array.length_toList
      omega
    have hlt2 : ∀ b ∈ [z, TO, i1, i2, S], b ≠ s.heap.objs.size := fun b hb => Nat.ne_of_lt (hf b hb).2
    have fp1 : ∀ b ∈ [z, TO, i1, i2, S], FpOk X pins (upd H s.heap.objs.size (.tup [x, y])) b := fun b hb => ⟨by rw [upd_ne (hlt2 b hb)]; exact (hf b hb).1.1, (hf b hb).1.2⟩
    apply wpAny_bind
    refine wpAny_updateSeq hS1 rfl (wpAny_pure ⟨plainId_quiet PySem.F.plain_extend_loop _, ?_⟩) (by rw [hacc]; omega) (by show (acc.push _).size ≤ sizeLine + 1; rw [Array.size_push, hacc]; omega)
    have kS : ∀ (b : Addr) (o : Obj), b ≠ S → h'.get? b = some o → (h'.update S (Obj.mapSeq fun a => a.push (.ref s.heap.objs.size))).get? b = some o := fun b o hb e => (Heap.get?_update_other _ _ (Ne.symm hb)).trans e
    have I2 : Inv X pins σ (upd H s.heap.objs.size (.tup [x, y])) { s with heap := h'.update S (Obj.mapSeq fun a => a.push (.ref s.heap.objs.size)) } :=
      Inv.turnedL (s := { s with heap := h' }) (h' := h'.update S (Obj.mapSeq fun a => a.push (.ref s.heap.objs.size))) I1 (t' := s.toks) (ch := [S]) (fun b o hb e => kS b o (fun q => hb (by simp [q])) e) fun b hb => fp1 b (by simp at hb ⊢; simp [hb])
    refine ih (i + 1) _ (upd H s.heap.objs.size (.tup [x, y])) (acc.push (.ref s.heap.objs.size)) _ (ps ++ [.ref s.heap.objs.size]) (by omega) hlt I2 (Z'.other ⟨sz, sTI, sTO, s1, s2, sl1, sl2⟩ kS ⟨_, Heap.get?_update_self _ hS1 rfl⟩) (fun b hb => ⟨fp1 b hb, ?_⟩) (Heap.get?_update_self _ hS1 rfl) ?_ (by rw [List.length_append, hl]; rfl) (zp.snoc ((I.hok.fresh (Nat.le_refl _))) (by rw [hl]; exact hx) (by rw [hl]; exact hy)) fin
    · have := (hf b hb).2
      show b < (h'.update S _).objs.size
      rw [Heap.size_update, hsz]
      exact Nat.lt_succ_of_lt this
    · rw [Array.toList_push]
      exact vals_snoc ra rfl
end
end Mn

/-! Mn51: tuple(zip(a, b)) of two tuples, the call. -/
namespace PySem
open AutoSeq1 (wpAny_loadPart')
theorem zip_nolen : typeLookup (.type "zip") (Str.ofString "__len__") = pure none := am_miss_of_fast (by decide +kernel)
theorem zip_nohint : typeLookup (.type "zip") (Str.ofString "__length_hint__") = pure none := am_miss_of_fast (by decide +kernel)
end PySem
namespace Mn
open PySem PySem.Spec PyProof.Rows L2 RZ
section
variable {X : Cx} {pins : List (Addr × Obj)} {σ : L2.St}
/-- what the walk gives: values for the places of the pairs -/
def ZEnd (X : Cx) (pins : List (Addr × Obj)) (σ : L2.St) (H0 : Hp) (xs ys : List V) (n : Nat) (us : List Value) (s' : Shared) : Prop := ∃ H' ps, Inv X pins σ H' s' ∧ Vals ps us ∧ ps.length = n ∧ Zps H0 xs ys H' ps
theorem zt_collect {A : Around} {E : Value → Shared → Prop} {z TI TO i1 i2 l1 l2 : Addr} {us1 us2 : List Value} {xs ys : List V} {H : Hp} {n : Nat} {s : Shared} {Q : List Value → Shared → Prop} (hh : A.handled = none) (D : ZipApart z TI TO i1 i2 l1 l2) (r1 : Vals xs us1) (r2 : Vals ys us2) (hn1 : xs.length = n) (hn2 : ys.length = n) (hn : n ≤ sizeLine)
    (I : Inv X pins σ H s) (Z : ZipT s.heap z TI TO i1 i2 l1 l2 us1.toArray us2.toArray 0) (hz : IsZip s.heap z TI TO .none) (hf : ∀ b ∈ [z, TO, i1, i2], FpOk X pins H b ∧ b < s.heap.objs.size) (hl : TI < s.heap.objs.size ∧ l1 < s.heap.objs.size ∧ l2 < s.heap.objs.size)
    (q : ∀ us s', ZEnd X pins σ H xs ys n us s' → Q us s') : wpAny (model X.prog X.w) A (collect (.ref z)) Q E s := by
  have zlt := (hf z (by simp)).2
  have neS : s.heap.objs.size ≠ z ∧ s.heap.objs.size ≠ TI ∧ s.heap.objs.size ≠ TO ∧ s.heap.objs.size ≠ i1 ∧ s.heap.objs.size ≠ i2 ∧ s.heap.objs.size ≠ l1 ∧ s.heap.objs.size ≠ l2 :=
    ⟨Nat.ne_of_gt zlt, Nat.ne_of_gt hl.1, Nat.ne_of_gt (hf TO (by simp)).2, Nat.ne_of_gt (hf i1 (by simp)).2, Nat.ne_of_gt (hf i2 (by simp)).2, Nat.ne_of_gt hl.2.1, Nat.ne_of_gt hl.2.2⟩
  unfold collect
  apply wpAny_bind; apply wpAny_runValue; refine codeAny_builtin PySem.F.entry_proto_collect ?_
  rw [Around.under_plainId PySem.F.plain_proto_collect _]
  show wpAny _ A.in1 (newList [] >>= fun l => again (.builtin "list.__iadd__" ⟨[l, .ref z], []⟩)) _ _ s
  apply wpAny_bind; refine wpAny_newObj_type ?_ (by size_fits)
  refine wpAny_pure ⟨plainId_quiet PySem.F.plain_list_iadd _, codeAny_builtin PySem.F.entry_list_iadd ?_⟩
  rw [Around.under_plainId PySem.F.plain_list_iadd _]
  obtain ⟨o0, ho0⟩ : ∃ o0 : Obj, o0 = { cls := .type "list", data := .seq ([] : List Value).toArray } := ⟨_, rfl⟩
  rw [← ho0]
  have hz1 : IsZip (s.heap.push o0) z TI TO .none := Heap.get?_push_of_some _ hz
  have ty : ({ s with heap := s.heap.push o0 } : Shared).TypeIs (.ref z) "zip" := ⟨_, hz1, rfl⟩
  show wpAny _ A.in1 (Builtin.List.listExtendWith (.ref s.heap.objs.size) (.ref z) (.ref s.heap.objs.size)) _ _ _
  unfold Builtin.List.listExtendWith
  apply wpAny_bind; apply wpAny_typeOf ty
  have b1 : Builtin.List.listSameRef (.ref s.heap.objs.size) (.ref z) = false := by simp [Builtin.List.listSameRef, neS.1]
  have b2 : (Value.type "zip" == Value.type "list") = false := by decide
  have b3 : (Value.type "zip" == Value.type "tuple") = false := by decide
  simp only [b1, b2, b3, Bool.or_false, Bool.false_eq_true, if_false]
  apply wpAny_bind; refine wpAny_pyIter_zip hz1 ?_
  apply wpAny_bind; apply wpAny_holding
  unfold Builtin.List.listLengthHint
  apply wpAny_bind; refine wpAny_specialOf ty PySem.zip_nolen ?_
  show wpAny _ A.in1 (specialOf (Value.ref z) (Str.ofString "__length_hint__") >>= _) _ _ _
  apply wpAny_bind; refine wpAny_specialOf ty PySem.zip_nohint ?_
  apply wpAny_pure
  show wpAny _ A.in1 (rule "list.extend.makes-room" >>= fun _ => Builtin.List.listTouch (.ref s.heap.objs.size) >>= fun _ => again (.builtin "list.extend.loop" ⟨[.ref s.heap.objs.size, .ref z, .ref s.heap.objs.size], []⟩)) _ _ _
  apply wpAny_bind; apply wpAny_rule
  have g1 : (s.heap.push o0).get? s.heap.objs.size = some o0 := by rw [ho0]; exact Heap.get?_push_size _ rfl
  rw [ho0] at g1
  apply wpAny_bind
  show wpAny _ A.in1 (updateSeq s.heap.objs.size (·.push .none) >>= fun _ => updateSeq s.heap.objs.size (·.pop)) _ _ _
  rw [ho0]
  apply wpAny_bind; refine wpAny_updateSeq g1 rfl ?_
  have g2 := Heap.get?_update_self (Obj.mapSeq (·.push Value.none)) g1 rfl
  refine wpAny_updateSeq g2 rfl ?_
  have g3 := Heap.get?_update_self (Obj.mapSeq (·.pop)) g2 rfl
  obtain ⟨h2, e2⟩ : ∃ h2 : Heap, h2 = ((s.heap.push { cls := .type "list", data := .seq ([] : List Value).toArray }).update s.heap.objs.size (Obj.mapSeq (·.push Value.none))).update s.heap.objs.size (Obj.mapSeq (·.pop)) := ⟨_, rfl⟩
  have oth : ∀ (b : Addr) (o : Obj), b ≠ s.heap.objs.size → s.heap.get? b = some o → h2.get? b = some o := fun b o hb e => by
    rw [e2, Heap.get?_update_other _ _ (Ne.symm hb), Heap.get?_update_other _ _ (Ne.symm hb)]
    exact Heap.get?_push_of_some _ e
  have fS : FpOk X pins H s.heap.objs.size := I.fpOk (Nat.le_refl _) (I.hok.fresh (Nat.le_refl _))
  have sz2 : h2.objs.size = s.heap.objs.size + 1 := by rw [e2, Heap.size_update, Heap.size_update, Heap.size_push]
  have I2 : Inv X pins σ H { s with heap := h2 } := Inv.turnedL (s := s) (h' := h2) I (t' := s.toks) (ch := [s.heap.objs.size]) (fun b o hb e => oth b o (fun q => hb (by simp [q])) e) fun b hb => by
    rw [List.mem_singleton.mp hb]
    exact fS
  rw [← e2] at g3 ⊢
  have Z2 : ZipT h2 z TI TO i1 i2 l1 l2 us1.toArray us2.toArray 0 := Z.other neS oth ⟨_, g3⟩
  refine wpAny_pure ⟨plainId_quiet PySem.F.plain_extend_loop _, zt_loop hh D r1 r2 hn1 hn2 hn neS n 0 { s with heap := h2 } H _ _ [] rfl (Nat.zero_le _) I2 Z2 (fun b hb => ?_) g3 .nil rfl .nil fun s' H' acc' c' ps' I' hS' ra' hl' zp' => ?_⟩
  · have e5 : b = s.heap.objs.size ∨ b ∈ [z, TO, i1, i2] := by
      simp only [List.mem_cons, List.not_mem_nil, or_false] at hb ⊢
      rcases hb with h | h | h | h | h <;> simp [h]
    show _ ∧ b < h2.objs.size
    rw [sz2]
    rcases e5 with rfl | h
    · exact ⟨fS, Nat.lt_succ_self _⟩
    · exact ⟨(hf b h).1, Nat.lt_succ_of_lt (hf b h).2⟩
  · show wpAny _ A (load s.heap.objs.size >>= _) _ _ s'
    apply wpAny_bind; refine wpAny_load hS' ?_
    exact wpAny_pure (q _ _ ⟨H', ps', I', ra', hl', zp'⟩)
/-- tuple(a zip) -/
theorem zt_tuple {A : Around} {E : Value → Shared → Prop} {z TI TO i1 i2 l1 l2 : Addr} {us1 us2 : List Value} {xs ys : List V} {H : Hp} {n : Nat} {s : Shared} {Q : Value → Shared → Prop} (hh : A.handled = none) (D : ZipApart z TI TO i1 i2 l1 l2) (r1 : Vals xs us1) (r2 : Vals ys us2) (hn1 : xs.length = n) (hn2 : ys.length = n) (hn : n ≤ sizeLine)
    (I : Inv X pins σ H s) (Z : ZipT s.heap z TI TO i1 i2 l1 l2 us1.toArray us2.toArray 0) (hz : IsZip s.heap z TI TO .none) (hf : ∀ b ∈ [z, TO, i1, i2], FpOk X pins H b ∧ b < s.heap.objs.size) (hl : TI < s.heap.objs.size ∧ l1 < s.heap.objs.size ∧ l2 < s.heap.objs.size)
    (q : ∀ us s', ZEnd X pins σ H xs ys n us s' → Q (.ref s'.heap.objs.size) { s' with heap := s'.heap.push { cls := .type "tuple", data := .seq us.toArray } }) : wpAny (model X.prog X.w) A (call (.type "tuple") [.ref z]) Q E s := by
  refine callType_codes (Q₁ := fun obj s₁ => s₁.TypeIs obj "tuple" ∧ Q obj s₁) PySem.F.called_tuple (PySem.F.typeCall_tuple_1 _) PySem.F.entry_object_init ?_ fun obj s₁ h₁ => ?_
  · refine codeAny_of_tree ?_
    show wpAny _ _ (do checkBuiltinCall "tuple.__new__" ⟨[.type "tuple", .ref z], []⟩; again (.builtin "tuple.__new__" ⟨[.type "tuple", .ref z], []⟩)) _ _ s
    apply wpAny_bind
    refine wpAny_of_eq (PySem.F.newCall_tuple_1 _) (wpAny_pure ⟨plainId_quiet PySem.F.plain_tuple_new _, codeAny_builtin PySem.F.entry_tuple_new ?_⟩)
    rw [Around.under_plainId PySem.F.plain_tuple_new _]
    have hsub := sub_tuple_self
    have hinit := init_tuple_lookup
    have hmh := madeHere_tuple
    have ty : s.TypeIs (.ref z) "zip" := ⟨_, hz, rfl⟩
    wp_walk using wpAny_typeOf ty, zt_collect (by exact hh) D r1 r2 hn1 hn2 hn I Z hz hf hl
    intro us s' ze
    have lu : us.length ≤ sizeLine := by
      obtain ⟨H', ps, _, r, e, _⟩ := id ze
      rw [← r.length, e]
      exact hn
    show wpAny _ _ (Builtin.Tuple.tupleExact us.toArray >>= fun v => PySem.ret v) _ _ _
    unfold Builtin.Tuple.tupleExact
    apply wpAny_bind; refine wpAny_newObj_type ?_ (by show us.toArray.size ≤ sizeLine; rw [List.size_toArray]; exact lu)
    apply wpAny_pure
    exact ⟨⟨_, Heap.get?_push_size _ rfl, rfl⟩, q us s' ze⟩
  · exact ⟨h₁.1, PySem.F.args_object_init_2 obj _, object_init_meets PySem.F.called_tuple.init.lookup PySem.F.called_tuple.made (by decide) _ _ _ _ s₁ ⟨h₁.1, rfl, h₁.2⟩⟩
end
/-- a zip of two tuples, just made -/
structure ZNew (X : Cx) (pins : List (Addr × Obj)) (σ : L2.St) (H : Hp) (l1 l2 : Addr) (xs ys : List V) (u : Value) (s : Shared) : Prop where
  ex : ∃ (z TI TO i1 i2 : Addr) (us1 us2 : List Value), u = .ref z ∧ ZipApart z TI TO i1 i2 l1 l2 ∧ Vals xs us1 ∧ Vals ys us2 ∧ ZipT s.heap z TI TO i1 i2 l1 l2 us1.toArray us2.toArray 0 ∧ IsZip s.heap z TI TO .none ∧ (∀ b ∈ [z, TO, i1, i2], FpOk X pins H b ∧ b < s.heap.objs.size) ∧ TI < s.heap.objs.size ∧ l1 < s.heap.objs.size ∧ l2 < s.heap.objs.size
  I : Inv X pins σ H s
  z : xs.length ≤ sizeLine
def tZip2 (K : PySem.W.Frag) (ta : TA) (Q : Addr → Addr → List V → List V → Hp → Prop) (σ : L2.St) (H : Hp) : Prop := ta σ H fun vs H1 => ∃ a b xs ys, vs = [.ref a, .ref b] ∧ SqT K H1 a xs ∧ SqT K H1 b ys ∧ Q a b xs ys H1
theorem run_zip2 {X : Cx} {pins : List (Addr × Obj)} {σ : L2.St} {H : Hp} {s : Shared} {e e2 : Expr} {ta : TA} {p pos : Pos} {Q : Addr → Addr → List V → List V → Hp → Prop} (I : Inv X pins σ H s) (hg : Gl X "zip") (hm : X.mg "zip" = none) (ha : PA X [e, e2] ta)
    (hs : starEach [e, e2] X.env = (false, eval e X.env) :: starEach [e2] X.env) (hpl : (backTo pos (starEach [e2] X.env)).any (·.1) = false) (h : tZip2 X.K ta Q σ H) :
    wpAny (model X.prog X.w) X.A (eval (.Call (.Name "zip" p) [e, e2] [] pos) X.env) (fun u s' => ∃ a b xs ys H1, Q a b xs ys H1 ∧ ZNew X pins σ H1 a b xs ys u s') X.xe s := by
  refine Call_ (ld_blt I hg hm PyProof.Rows.boot_zip (PyProof.Rows.callWith_type1 (thn (ha.run pos pins s σ H _ I h) fun us s1 ⟨vs, H1, I1, rr, q1⟩ => ?_) hs hpl))
  obtain ⟨a, b, xs, ys, rfl, hx, hy, q⟩ := q1
  obtain ⟨u1, us', e1⟩ : ∃ u1 us', us = u1 :: us' := by cases rr; exact ⟨_, _, rfl⟩
  subst e1
  cases rr with
  | cons r rr =>
    obtain ⟨u2, us'', e1⟩ : ∃ u1 us'', us' = u1 :: us'' := by cases rr; exact ⟨_, _, rfl⟩
    subst e1
    cases rr with
    | cons r' rr =>
      cases rr
      cases r
      cases r'
      obtain ⟨w1, v1, p1, n1⟩ := I1.tuple hx
      obtain ⟨w2, v2, p2, n2⟩ := I1.tuple hy
      obtain ⟨o1, g1, _⟩ := id p1
      obtain ⟨o2, g2, _⟩ := id p2
      have l1 := Heap.lt_size g1
      have l2 := Heap.lt_size g2
      refine call_zipT (show s1.heap.IsTuple a w1.toArray from p1) (show s1.heap.IsTuple b w2.toArray from p2) fun h' hz hTI hTO h1 h2 hsz hk => ?_
      have I2 : Inv X pins σ H1 { s1 with heap := h' } := I1.kept (t' := s1.toks) hk
      have fr : ∀ c, s1.heap.objs.size ≤ c → FpOk X pins H1 c := fun c hc => I1.fpOk hc (I1.hok.fresh hc)
      have q1 : IsTup s1.heap a w1.toArray := p1
      have q2 : IsTup s1.heap b w2.toArray := p2
      refine ⟨a, b, xs, ys, H1, q, ⟨⟨s1.heap.objs.size + 4, s1.heap.objs.size + 2, s1.heap.objs.size + 3, s1.heap.objs.size, s1.heap.objs.size + 1, w1, w2, rfl, PySem.W.ktu_apart s1.heap.objs.size a b l1 l2, v1, v2, ⟨.inl ⟨rfl, hz, _, _, hTO⟩, hTI, h1, h2, ?_, ?_⟩, hz, fun c hc => ?_, ?_, ?_, ?_⟩, I2, n1⟩⟩
      · exact (show s1.heap.IsTuple a w1.toArray from p1).at fun o e => hk a o e
      · exact (show s1.heap.IsTuple b w2.toArray from p2).at fun o e => hk b o e
      · have e' : c = s1.heap.objs.size + 4 ∨ c = s1.heap.objs.size + 3 ∨ c = s1.heap.objs.size ∨ c = s1.heap.objs.size + 1 := by simpa using hc
        have b1 : s1.heap.objs.size ≤ c ∧ c < s1.heap.objs.size + 5 := by
          rcases e' with z | z | z | z <;> rw [z]
          · exact ⟨Nat.le_add_right _ _, Nat.add_lt_add_left (by decide) _⟩
          · exact ⟨Nat.le_add_right _ _, Nat.add_lt_add_left (by decide) _⟩
          · exact ⟨Nat.le_refl _, Nat.lt_add_of_pos_right (by decide)⟩
          · exact ⟨Nat.le_add_right _ _, Nat.add_lt_add_left (by decide) _⟩
        refine ⟨fr c b1.1, ?_⟩
        show c < h'.objs.size
        rw [hsz]
        exact b1.2
      · show _ < h'.objs.size
        rw [hsz]
        exact Nat.add_lt_add_left (by decide) _
      · show _ < h'.objs.size
        rw [hsz]
        exact Nat.lt_of_lt_of_le l1 (Nat.le_add_right _ _)
      · show _ < h'.objs.size
        rw [hsz]
        exact Nat.lt_of_lt_of_le l2 (Nat.le_add_right _ _)
def tTupZip (K : PySem.W.Frag) (ta : TA) : TE := fun σ H Q => tZip2 K ta (fun _ _ xs ys H1 => xs.length = ys.length ∧ ∀ H2 ps, Zps H1 xs ys H2 ps → ps.length = xs.length → ∀ q, H2 q = none → Q (.ref q) (upd H2 q (.tup ps))) σ H
/-- tuple(zip(a, b)) -/
theorem pe_tupZip {X : Cx} {e e2 : Expr} {ta : TA} {p p2 pos pos2 : Pos} (hc : X.calm = true) (hg : Gl X "tuple") (hm : X.mg "tuple" = none) (hg2 : Gl X "zip") (hm2 : X.mg "zip" = none) (ha : PA X [e, e2] ta)
    (hs : starEach [e, e2] X.env = (false, eval e X.env) :: starEach [e2] X.env := by rfl) (hpl : (backTo pos2 (starEach [e2] X.env)).any (·.1) = false := by rfl)
    (na : starEach [.Call (.Name "zip" p2) [e, e2] [] pos2] X.env = (false, eval (.Call (.Name "zip" p2) [e, e2] [] pos2) X.env) :: starEach [] X.env := by rfl) : PE X (.Call (.Name "tuple" p) [.Call (.Name "zip" p2) [e, e2] [] pos2] [] pos) (tTupZip X.K ta) := by
  refine ⟨fun pins s σ H Q I h => ?_⟩
  refine Call_ (ld_blt I hg hm boot_tuple (PyProof.Rows.callWith_type1 (args_cons (thn (run_zip2 I hg2 hm2 ha hs hpl h) fun u s1 ⟨a, b, xs, ys, H1, ⟨el, q⟩, Z⟩ => args_nil ?_) na) na))
  obtain ⟨⟨z, TI, TO, i1, i2, us1, us2, eu, D, v1, v2, zt, hz, hf, lTI, l1, l2⟩, I1, zs⟩ := Z
  subst eu
  refine zt_tuple (n := xs.length) (I1.ok.hd hc) D v1 v2 rfl el.symm zs I1 zt hz hf ⟨lTI, l1, l2⟩ fun us s' ⟨H', ps, I', r, lp, zp⟩ => ?_
  have I3 : Inv X pins σ (upd H' s'.heap.objs.size (.tup ps)) { s' with heap := s'.heap.push { cls := .type "tuple", data := .seq us.toArray } } :=
    I'.laid (t' := s'.toks) (fun c o e => Heap.get?_push_of_some _ e) (Nat.le_refl _) (show ObjOk X.prog X.w _ _ _ (.tup ps) from ⟨by rw [lp]; exact zs, us, r, IsTup.new _ _⟩)
  exact ⟨.ref s'.heap.objs.size, upd H' s'.heap.objs.size (.tup ps), I3, rfl, q H' ps zp lp _ (I'.hok.fresh (Nat.le_refl _))⟩
end Mn

/-! Mn52: tuple(zip(a, b)), by data. -/
namespace Mn
open PySem PySem.Spec PyProof.Rows L2 RZ
def zipD (xs ys : List Dv) : List Dv := (xs.zip ys).map fun p => .tup [p.1, p.2]
def zipK (Q : Dv → Th → Prop) : List Dv → Th → Prop := fun ds θ1 => ∃ xs ys, ds = [.tup xs, .tup ys] ∧ xs.length = ys.length ∧ Q (.tup (zipD xs ys)) θ1
def mTupZip (ms : DEnv → MX (List Dv)) : ME := fun ρ E θ Q => ms ρ E θ (zipK Q)
theorem x_tupZip {E : Exn → Th → Prop} {θ : Th} {ρ : DEnv} {ms : DEnv → MX (List Dv)} {Q : Dv → Th → Prop} : mTupZip ms ρ E θ Q = ms ρ E θ (zipK Q) := (rfl)
theorem x_zipK {θ : Th} {xs ys : List Dv} {Q : Dv → Th → Prop} (h : xs.length = ys.length) (q : Q (.tup (zipD xs ys)) θ) : zipK Q [.tup xs, .tup ys] θ := ⟨xs, ys, rfl, h, q⟩
section
variable {K : PySem.W.Frag}
theorem zps_data {H1 H2 : Hp} {α : List Addr} {θ : Th} {xs ys : List Dv} {vs us ps : List V} (ok : Okk K H1 α θ) (rx : Rps K H1 α xs vs) (ry : Rps K H1 α ys us) (z : Zps H1 vs us H2 ps) : Okk K H2 α θ ∧ Nx K H1 α H2 α ∧ Rps K H2 α ((zipD xs ys).take ps.length) ps := by
  induction z with
  | nil => exact ⟨ok, Nx.refl, by rw [List.length_nil, List.take_zero]; exact Rps.nil⟩
  | @snoc H ps q x y z hq hx hy ih =>
    obtain ⟨o1, n1, r1⟩ := ih
    obtain ⟨dx, ex, qx⟩ := rx.get' hx
    obtain ⟨dy, ey, qy⟩ := ry.get' hy
    have nA : Nx K H α (upd H q (.tup [x, y])) α := Nx.new0 hq
    refine ⟨o1.new0 hq, n1.trans nA, ?_⟩
    have e1 : (zipD xs ys)[ps.length]? = some (.tup [dx, dy]) := by
      unfold zipD
      have e0 : (xs.zip ys)[ps.length]? = some (dx, dy) := List.getElem?_zip_eq_some.mpr ⟨ex, ey⟩
      rw [List.getElem?_map, e0]
      rfl
    rw [List.length_append, List.length_singleton, List.take_add_one, e1]
    refine (r1.mono nA).append (Rps.cons ?_ Rps.nil)
    unfold Rp
    exact ⟨q, [x, y], rfl, upd_same, Rps.cons (qx.mono (n1.trans nA)) (Rps.cons (qy.mono (n1.trans nA)) Rps.nil)⟩
end
section
variable {X : Cx} {W : Wd X.K X.mg}
theorem pm_tupZip {e e2 : Expr} {p p2 pos pos2 : Pos} {ms : DEnv → MX (List Dv)} (c : Cf X) (hm : X.mg "tuple" = none) (hm2 : X.mg "zip" = none) (ha : PA X [e, e2] (tMs W ms)) (hg : Gl X "tuple" := by rfl) (hg2 : Gl X "zip" := by rfl)
    (hs : starEach [e, e2] X.env = (false, eval e X.env) :: starEach [e2] X.env := by rfl) (hpl : (backTo pos2 (starEach [e2] X.env)).any (·.1) = false := by rfl)
    (na : starEach [.Call (.Name "zip" p2) [e, e2] [] pos2] X.env = (false, eval (.Call (.Name "zip" p2) [e, e2] [] pos2) X.env) :: starEach [] X.env := by rfl) : PE X (.Call (.Name "tuple" p) [.Call (.Name "zip" p2) [e, e2] [] pos2] [] pos) (tM W (mTupZip ms)) :=
  pe_w (pe_tupZip c.calm hg hm hg2 hm2 ha hs hpl na) fun σ H Q ⟨ρ, α, θ, Qm, at', rs, q, u⟩ => ⟨ρ, α, θ, _, at', rs, q, fun ds θ1 α1 H1 vs q1 ok1 nx1 r1 => by
    obtain ⟨xs, ys, rfl, el, q1⟩ := q1
    obtain ⟨v1, r2, rfl, g1, g2⟩ := r1
    obtain ⟨v2, r3, rfl, g3, g4⟩ := g2
    obtain rfl : r3 = [] := g4
    obtain ⟨a, as, rfl, ha1, ra⟩ := rp_tup g1
    obtain ⟨b, bs, rfl, hb1, rb⟩ := rp_tup g3
    have l1 := ra.length
    have l2 := rb.length
    refine ⟨a, b, as, bs, rfl, SqT.of ha1, SqT.of hb1, by omega, fun H2 ps z lp q0 hq0 => ?_⟩
    obtain ⟨ok2, nx2, r4⟩ := zps_data ok1 ra rb z
    have e9 : (zipD xs ys).take ps.length = zipD xs ys := List.take_of_length_le (by unfold zipD; rw [List.length_map, List.length_zip]; omega)
    rw [e9] at r4
    exact up_tup (W := W) (u.mono (nx1.trans nx2)) ⟨ok2, (at'.nx.trans nx1).trans nx2⟩ q1 r4 q0 hq0⟩
end
end Mn

/-! Mn53: displayed tuples known bare, and their sums. -/
namespace Mn
open PySem PySem.Spec PyProof.Rows L2
section
variable {X : Cx} {W : Wd X.K X.mg}
end
end Mn

/-! Mn54: (a, b) > (c, d), tuples of ints. -/
namespace Mn
open PySem PySem.Spec PyProof.Rows L2
section
variable {X : Cx} {W : Wd X.K X.mg}
end
end Mn

/-! Cm20: mirrors of k25. -/
namespace Cm20
open PySem PySem.Spec PyProof.Rows L2 Mn
def m_inside : MS := (sRet (mCall (k1 tupD) (msCons (mLc (srcEn (msCons (mVar 0) msNil)) (.tp [(.nm 1), (.nm 2)]) (bB (mBin oGe (mVar 2) (mC (.int 0)))) (mVar 1) [1, 2]) msNil)))
def c_inside : List Dv → MX Dv := defM 2 m_inside
def m_parts : MS := (sSeq (sSet 2 (mLc (srcV (mCallU 1 Cm20.c_inside (msCons (mVar 0) msNil))) (.nm 3) bYes (mBin oIx (mVar 1) (mVar 3)) [3])) (sRet (mAnd (mBin oIn (mC (.bl true)) (mVar 2)) (mBin oIn (mC (.bl false)) (mVar 2)))))
def c_parts : List Dv → MX Dv := defM 2 m_parts
def m_Search_ways : MS := (sSeq (sSet 2 (mFld "Search" "step" (mVar 0))) (sRet (mLc (srcV (mFld "Search" "marked" (mVar 0))) (.tp [(.nm 3), (.nm 4)]) (bB (mCallU 2 Cm20.c_parts (msCons (mVar 1) (msCons (mVar 4) msNil)))) (mTup (msCons (mVar 3) (msCons (mCallF 2 "taken" 3 Cm.c_taken (msCons (mVar 1) (msCons (mVar 4) (msCons (mC (.str "broken")) msNil)))) (msCons (mCallF 2 "taken" 3 Cm.c_taken (msCons (mVar 1) (msCons (mVar 4) (msCons (mC (.str "works")) msNil)))) msNil)))) [3, 4])))
def c_Search_ways : List Dv → MX Dv := defM 3 m_Search_ways
def m_Search_worth : MS := (sRet (mBin oAdd (mC (.int 1)) (mCall (max2) (msCons (mVar 3) (msCons (mVar 4) msNil)))))
def c_Search_worth : List Dv → MX Dv := defM 0 m_Search_worth
def m_Search_best (C : List Dv → MX Dv) : MS := (sSeq (sIf (bB (mBin oNotIn (mVar 1) (mFld "Search" "known" (mVar 0)))) (sSeq (sSet 2 (mLst msNil)) (sSeq (sFor (srcV (mMeth "Search" "ways" 1 Cm20.c_Search_ways (mVar 0) (msCons (mVar 1) msNil))) (.tp [(.nm 3), (.nm 4), (.nm 5)]) (sDrop (mMth "list" appendD (mVar 2) (msCons (mTup (msCons (mMeth "Search" "worth" 4 Cm20.c_Search_worth (mVar 0) (msCons (mVar 1) (msCons (mVar 3) (msCons (mBin oIx (mMeth "Search" "best" 1 C (mVar 0) (msCons (mVar 4) msNil)) (mC (.int 0))) (msCons (mBin oIx (mMeth "Search" "best" 1 C (mVar 0) (msCons (mVar 5) msNil)) (mC (.int 0))) msNil))))) (msCons (mVar 3) msNil))) msNil)))) (sPut (mFld "Search" "known" (mVar 0)) (mVar 1) (mMinD (mVar 2) (mTup (msCons (mC (.int 0)) (msCons (mUn oNeg (mC (.int 1))) msNil))))))) sNil) (sRet (mBin oIx (mFld "Search" "known" (mVar 0)) (mVar 1))))
def c_Search_best : Nat → List Dv → MX Dv
  | 0 => fun _ => MX.stuck
  | n + 1 => defM 4 (m_Search_best (c_Search_best n))
def m_Search_needed : MS := (sRet (mBin oIx (mMeth "Search" "best" 1 (Cm20.c_Search_best 12) (mVar 0) (msCons (mVar 1) msNil)) (mC (.int 0))))
def c_Search_needed : List Dv → MX Dv := defM 0 m_Search_needed
def m_marked_tests : MS := (sSeq (sSet 2 (mCallU 2 Cm.c_tests (msCons (mVar 0) (msCons (mVar 1) msNil)))) (sRet (mTupZip (msCons (mVar 2) (msCons (mCallU 3 Cm.c_marks (msCons (mVar 0) (msCons (mVar 1) (msCons (mVar 2) msNil)))) msNil)))))
def c_marked_tests : List Dv → MX Dv := defM 1 m_marked_tests
def m_Search___init__ : MS := (sSeq (sFldM "Search" "marked" (mVar 0) (mCallU 2 Cm20.c_marked_tests (msCons (mVar 1) (msCons (mVar 2) msNil)))) (sSeq (sFldM "Search" "step" (mVar 0) (mVar 3)) (sFldM "Search" "known" (mVar 0) mDT)))
def c_Search___init__ : List Dv → MX Dv := defM 0 m_Search___init__
def m_check_size : MS := (sSeq (sSet 1 (mBin oAdd (mCall (k1 (onInts maxL)) (msCons (mLst (msCons (mC (.int 0)) (msStar (mVar 0) msNil))) msNil)) (mC (.int 2)))) (sSeq (sSet 2 (mC (.int 1))) (sSeq (sFor (srcV (mVar 0)) (.nm 3) (sAug 2 oMulI (mVar 1))) (sIf (bB (mBin oGt (mVar 2) (mC (.int 20000)))) (sRaise "TooGreat") sNil))))
def c_check_size : List Dv → MX Dv := defM 3 m_check_size
def m_fewest_from : MS := (sSeq (sDrop (mCallU 1 Cm20.c_check_size (msCons (mVar 2) msNil))) (sRet (mMeth "Search" "needed" 1 Cm20.c_Search_needed (mMake "Search" 3 Cm20.c_Search___init__ (msCons (mVar 0) (msCons (mVar 1) (msCons (mFnV "taken") msNil)))) (msCons (mVar 2) msNil))))
def c_fewest_from : List Dv → MX Dv := defM 0 m_fewest_from
def m_fewest : MS := (sRet (mCallU 3 Cm20.c_fewest_from (msCons (mVar 0) (msCons (mVar 1) (msCons (mCallU 3 Cm.c_start (msCons (mVar 0) (msCons (mVar 1) (msCons (mVar 2) msNil)))) msNil)))))
def c_fewest : List Dv → MX Dv := defM 0 m_fewest
def m_fewest_by_make : MS := (sRet (mBin oMul (mCallU 2 Cm2.c_most_tests (msCons (mVar 2) (msCons (mVar 3) msNil))) (mCallU 3 Cm20.c_fewest (msCons (mVar 0) (msCons (mVar 1) (msCons (mC (.int 0)) msNil))))))
def c_fewest_by_make : List Dv → MX Dv := defM 0 m_fewest_by_make
def m__law_skips : MS := (sRet (mCall (k1 tupD) (msCons (mLc (rng1 (msCons (mCall (k1 lenD) (msCons (mBin oIx (mVar 1) (mC (.int 1))) msNil)) msNil)) (.nm 2) (bB (mBin oEq (mCallU 2 Cm.c__law_draw (msCons (mVar 0) (msCons (mC (.int 7)) msNil))) (mC (.int 0)))) (mVar 2) [2]) msNil)))
def c__law_skips : List Dv → MX Dv := defM 1 m__law_skips
end Cm20

/-! Mn55: l.count(x) of a list; != of a bare tuple. -/
namespace Mn
open PySem PySem.Spec PyProof.Rows L2
section
variable {X : Cx} {W : Wd X.K X.mg}
end
end Mn

/-! Cm21: mirrors of k24. -/
namespace Cm21
open PySem PySem.Spec PyProof.Rows L2 Mn
end Cm21

/-! Mn56: dicts whose keys are tuples of ints and of such tuples. -/
namespace Mn
open PySem PySem.Spec PyProof.Rows L2
section
variable {P : Program} {w : World} {H : Hp} {h : Heap}
mutual
theorem nk_is (ok : HOk P w H h) : ∀ (k : NestedKey) (v : V) (u : Value), NkH H k v → RelV v u → NestedIs h k u
  | .none, _, _, q, _ => by cases q
  | .num i, _, _, q, r => by
    cases q
    obtain ⟨t, rfl⟩ := r
    exact .int i t
  | .text x, _, _, q, _ => by cases q
  | .tup ks, _, _, q, r => by
    cases q with
    | tup h1 h2 =>
      cases r
      obtain ⟨_, its, rv, ob, e1, e2, n, e3⟩ := (show ObjOk P w H h _ (.tup _) from ok _ _ h1)
      exact .tup e1 e2 e3 (nks_is ok ks _ _ h2 rv)
theorem nks_is (ok : HOk P w H h) : ∀ (ks : List NestedKey) (vs : List V) (us : List Value), NkHs H ks vs → Vals vs us → NestedAll h ks us
  | [], _, _, q, r => by
    cases q
    cases r
    exact .nil
  | k :: ks, _, _, q, r => by
    cases q with
    | cons h1 h2 =>
      cases r with
      | cons r1 r2 => exact .cons (nk_is ok k _ _ h1 r1) (nks_is ok ks _ _ h2 r2)
end
mutual
theorem nk_hash : ∀ (k : NestedKey) (v : V), NkH H k v → k.hash w = nkHash k
  | .none, _, q => by cases q
  | .num i, _, q => by simp only [NestedKey.hash, nkHash]
  | .text x, _, q => by cases q
  | .tup ks, _, q => by
    cases q with
    | tup h1 h2 => simp only [NestedKey.hash, nkHash, nks_hash ks _ h2]
theorem nks_hash : ∀ (ks : List NestedKey) (vs : List V), NkHs H ks vs → NestedKey.hashes w ks = nkHashes ks
  | [], _, _ => by simp only [NestedKey.hashes, nkHashes]
  | k :: ks, _, q => by
    cases q with
    | cons h1 h2 => simp only [NestedKey.hashes, nkHashes, nk_hash k _ h1, nks_hash ks _ h2]
end
/-- keys, values, and where they stand in the heap -/
abbrev NdX (vs : List (NestedKey × V)) (xs : List (NestedKey × Addr × Value)) : Prop := Paired (fun (a : NestedKey × V) (b : NestedKey × Addr × Value) => a.1 = b.1 ∧ RelV a.2 b.2.2) vs xs
theorem nd_keys (ok : HOk P w H h) : ∀ {vs : List (NestedKey × V)} {bs : List Addr} {xs : List (NestedKey × Addr × Value)}, NdKs H vs bs → NdX vs xs → xs.map (·.2.1) = bs → ∀ x ∈ xs, (nestedKind P w).is h x.1 x.2.1 ∧ x.1.hash w = nkHash x.1
  | _, _, _, .nil, .nil, _, x, hx => by cases hx
  | _, _, _, .cons k ks, .cons r rs, e, x, hx => by
    rw [List.map_cons, List.cons.injEq] at e
    rcases List.mem_cons.mp hx with rfl | hx
    · have k1 := k.1
      rw [r.1, ← e.1] at k1
      have k2 := k.2
      rw [r.1] at k2
      exact ⟨⟨nk_is ok _ _ _ k1 rfl, k2⟩, nk_hash _ _ k1⟩
    · exact nd_keys ok ks rs e.2 x hx
theorem nd_rd {p : Addr} {vs : List (NestedKey × V)} {bs : List Addr} (ok : HOk P w H h) (e : H p = some (.ext (NdOk p vs bs))) (ks : NdKs H vs bs) : vs.length ≤ sizeLine ∧ (p == sysModules) = false ∧ ∃ xs, NdX vs xs ∧ xs.map (·.2.1) = bs ∧ h.DictOfH (nestedKind P w) p xs := by
  obtain ⟨⟨z, y, xs, r, eb, o, es, ep, h1, h2, h3, h4, h5⟩, _⟩ := (show ObjOk P w H h p (.ext _) from ok p _ e)
  refine ⟨z, y, xs, r, eb, o, es, ep, h1, h2, h3, ?_, fun x hx => (nd_keys ok ks r eb x hx).1, h5⟩
  rw [h4]
  refine List.map_congr_left fun x hx => ?_
  unfold entryOfKey
  rw [show (nestedKind P w).hash x.1 = x.1.hash w from rfl, (nd_keys ok ks r eb x hx).2]
theorem ndx_val (k : NestedKey) : ∀ {vs : List (NestedKey × V)} {xs : List (NestedKey × Addr × Value)}, NdX vs xs → RelO (valV vs k) ((atKey xs k).map (·.2))
  | _, _, .nil => trivial
  | _, _, .cons (a := a) (b := b) r rs => by
    have ih := ndx_val k rs
    unfold valV atKey at ih ⊢
    rw [List.find?_cons, List.find?_cons]
    by_cases e : b.1 = k
    · rw [decide_eq_true (r.1.trans e), decide_eq_true e]
      exact r.2
    · rw [decide_eq_false (fun z => e (r.1.symm.trans z)), decide_eq_false e]
      exact ih
theorem ndx_any (k : NestedKey) {vs : List (NestedKey × V)} {xs : List (NestedKey × Addr × Value)} (r : NdX vs xs) : (vs.any fun kv => decide (kv.1 = k)) = (atKey xs k).isSome := by
  rw [valV_any, (ndx_val k r).isSome_eq, Option.isSome_map]
theorem NdX.repl (k : NestedKey) {y : V} {u : Value} (ry : RelV y u) : ∀ {vs : List (NestedKey × V)} {xs : List (NestedKey × Addr × Value)}, NdX vs xs → NdX (vs.map fun kv => if kv.1 = k then (kv.1, y) else kv) (xs.map (putAt k u))
  | _, _, .nil => .nil
  | _, _, .cons (a := a) (b := b) r rs => by
    rw [List.map_cons, List.map_cons]
    refine .cons ?_ (NdX.repl k ry rs)
    unfold putAt
    by_cases e : a.1 = k
    · rw [if_pos e, if_pos (r.1.symm.trans e)]
      exact ⟨r.1, ry⟩
    · rw [if_neg e, if_neg (fun z => e (r.1.trans z))]
      exact r
theorem NdX.put (k : NestedKey) (b : Addr) {y : V} {u : Value} (ry : RelV y u) {vs : List (NestedKey × V)} {xs : List (NestedKey × Addr × Value)} (r : NdX vs xs) : NdX (putK vs k y) (storedH xs k b u) := by
  unfold putK storedH
  rw [ndx_any k r]
  by_cases q : (atKey xs k).isSome = true
  · rw [if_pos q, if_pos q]
    exact r.repl k ry
  · rw [if_neg q, if_neg q]
    exact Paired.snoc r ⟨rfl, ry⟩
theorem NdKs.repl (k : NestedKey) (y : V) : ∀ {vs : List (NestedKey × V)} {bs : List Addr}, NdKs H vs bs → NdKs H (vs.map fun kv => if kv.1 = k then (kv.1, y) else kv) bs
  | _, _, .nil => .nil
  | _, _, .cons (a := a) (b := b) r rs => by
    rw [List.map_cons]
    refine .cons ?_ (NdKs.repl k y rs)
    split
    · exact r
    · exact r
theorem NdKs.put {k : NestedKey} {b : Addr} (y : V) (u : Value) (hb : NkH H k (.ref b)) (hd : k.depth ≤ 8) {vs : List (NestedKey × V)} {bs : List Addr} {xs : List (NestedKey × Addr × Value)} (ks : NdKs H vs bs) (r : NdX vs xs) (e : xs.map (·.2.1) = bs) : NdKs H (putK vs k y) ((storedH xs k b u).map (·.2.1)) := by
  unfold putK storedH
  rw [ndx_any k r]
  by_cases q : (atKey xs k).isSome = true
  · rw [if_pos q, if_pos q, List.map_map]
    have e2 : xs.map ((fun x => x.2.1) ∘ putAt k u) = bs := by
      rw [← e]
      refine List.map_congr_left fun x _ => ?_
      show (putAt k u x).2.1 = x.2.1
      unfold putAt
      split <;> rfl
    rw [e2]
    exact ks.repl k y
  · rw [if_neg q, if_neg q, List.map_append, e]
    exact Paired.snoc ks ⟨hb, hd⟩
theorem nd_new {p : Addr} {vs : List (NestedKey × V)} {xs : List (NestedKey × Addr × Value)} {H' : Hp} {h' : Heap} (z : vs.length ≤ sizeLine) (hd : (p == sysModules) = false) (r : NdX vs xs) (hh : ∀ x ∈ xs, x.1.hash w = nkHash x.1) (dd : h'.DictOfH (nestedKind P w) p xs) : ObjOk P w H' h' p (.ext (NdOk p vs (xs.map (·.2.1)))) := by
  obtain ⟨o, es, ep, h1, h2, h3, h4, _, h5⟩ := dd
  refine ⟨⟨z, hd, xs, r, rfl, o, es, ep, h1, h2, h3, ?_, h5⟩, ⟨o, h1⟩, fun k1 k2 ⟨z, hd, xs, r, e, o, es, ep, h1, h⟩ t => ⟨z, hd, xs, r, e, o, es, ep, t _ h1, h⟩⟩
  rw [h4]
  refine List.map_congr_left fun x hx => ?_
  unfold entryOfKey
  rw [show (nestedKind P w).hash x.1 = x.1.hash w from rfl, hh x hx]
theorem stored_hash {k : NestedKey} {b : Addr} {u : Value} {xs : List (NestedKey × Addr × Value)} (h : ∀ x ∈ xs, x.1.hash w = nkHash x.1) (hk : k.hash w = nkHash k) : ∀ x ∈ storedH xs k b u, x.1.hash w = nkHash x.1 := by
  intro x hx
  unfold storedH at hx
  split at hx
  · obtain ⟨y, hy, rfl⟩ := List.mem_map.mp hx
    unfold putAt
    split
    · exact h y hy
    · exact h y hy
  · rcases List.mem_append.mp hx with hx | hx
    · exact h x hx
    · rw [List.mem_singleton.mp hx]
      exact hk
end
section
variable {X : Cx} {pins : List (Addr × Obj)} {σ : L2.St} {H : Hp} {s : Shared} {p b : Addr} {vs : List (NestedKey × V)} {bs : List Addr} {k : NestedKey} {A : Around} {E : Value → Shared → Prop}
theorem nd_getItem {v : V} {Q : Value → Shared → Prop} (hu : A.units + 20 < cLine) (I : Inv X pins σ H s) (e : H p = some (.ext (NdOk p vs bs))) (ks : NdKs H vs bs) (hk : NkH H k (.ref b)) (hd : k.depth ≤ 8) (l : valV vs k = some v) (h : ∀ w' s', Inv X pins σ H s' → RelV v w' → Q w' s') :
    wpAny (model X.prog X.w) A (getItem (.ref p) (.ref b)) Q E s := by
  obtain ⟨z, hs, xs, r, eb, dd⟩ := nd_rd I.hok e ks
  obtain ⟨w', hw, rw'⟩ := RelO.some_of (v := v) (o := (atKey xs k).map (·.2)) (by rw [← l]; exact ndx_val k r)
  obtain ⟨q, hp, hp2⟩ := Option.map_eq_some_iff.mp hw
  refine wpAny_getItem_heap (knd := nestedKind X.prog X.w) (show A.in1.units + 8 < cLine by rw [Around.in1_units]; omega) ⟨nk_is I.hok _ _ _ hk rfl, hd⟩ dd hp ?_
  rw [hp2]
  exact h w' _ (I.tok _) rw'
theorem nd_in {Q : Value → Shared → Prop} (hu : A.units + 20 < cLine) (I : Inv X pins σ H s) (e : H p = some (.ext (NdOk p vs bs))) (ks : NdKs H vs bs) (hk : NkH H k (.ref b)) (hd : k.depth ≤ 8) (h : ∀ s', Inv X pins σ H s' → Q (.bool (valV vs k).isSome) s') :
    wpAny (model X.prog X.w) A (compareOp .In (.ref b) (.ref p)) Q E s := by
  obtain ⟨z, hs, xs, r, eb, dd⟩ := nd_rd I.hok e ks
  refine wpAny_in_heap (knd := nestedKind X.prog X.w) (show A.in1.units + 8 < cLine by rw [Around.in1_units]; omega) ⟨nk_is I.hok _ _ _ hk rfl, hd⟩ hs dd ?_
  have q := (ndx_val k r).isSome_eq
  rw [Option.isSome_map] at q
  rw [← q]
  exact h _ (I.tok _)
theorem nd_setItem {v : V} {u : Value} {Q : Unit → Shared → Prop} (hu : A.units + 20 < cLine) (I : Inv X pins σ H s) (e : H p = some (.ext (NdOk p vs bs))) (ks : NdKs H vs bs) (hk : NkH H k (.ref b)) (hd : k.depth ≤ 8) (hl : vs.length < sizeLine) (rv : RelV v u)
    (h : ∀ bs' s', NdKs H (putK vs k v) bs' → Inv X pins σ (upd H p (.ext (NdOk p (putK vs k v) bs'))) s' → Q () s') : wpAny (model X.prog X.w) A (setItem (.ref p) (.ref b) u) Q E s := by
  obtain ⟨z, hs, xs, r, eb, dd⟩ := nd_rd I.hok e ks
  have hz : xs.length ≤ sizeLine := by rw [← Paired.length r]; exact z
  have hl2 : (putK vs k v).length ≤ sizeLine := by have := length_putK vs k v; omega
  refine wpAny_setItem_heap (knd := nestedKind X.prog X.w) (hsz := hz) (show A.in1.units + 8 < cLine by rw [Around.in1_units]; omega) ⟨nk_is I.hok _ _ _ hk rfl, hd⟩ dd fun h' dd' hsb => ?_
  have hex : ∃ q, h'.get? p = some q := let ⟨q, _, _, hq, _⟩ := dd'; ⟨q, hq⟩
  refine h _ _ (ks.put v u hk hd r eb) (d_write I (by rw [e]; exact True.intro) hsb hex ?_)
  exact nd_new hl2 hs (r.put k b rv) (stored_hash (fun x hx => (nd_keys I.hok ks r eb x hx).2) (nk_hash _ _ hk)) dd'
end
section
variable {X : Cx}
theorem nd_empty {P : Program} {w : World} {H : Hp} (h : Heap) (hb : sysModules < h.objs.size) : ObjOk P w H (h.push { cls := .type "dict", data := .dict #[] }) h.objs.size (.ext (NdOk h.objs.size [] [])) :=
  nd_new (xs := []) (Nat.zero_le _) (beq_eq_false_iff_ne.mpr (Ne.symm (Nat.ne_of_lt hb))) .nil (fun x hx => by cases hx) (Heap.DictOfH.new h)
def tDNewN : TE := fun _ H Q => ∀ p, H p = none → Q (.ref p) (upd H p (.ext (NdOk p [] [])))
theorem pe_dnewN {pos : Pos} : PE X (.Dict [] [] pos) tDNewN := ⟨fun pins s σ H Q I h =>
  wpAny_Dict_empty ⟨.ref s.heap.objs.size, _, I.laid (a := s.heap.objs.size) (o := .ext (NdOk s.heap.objs.size [] [])) (t' := s.toks) (fun _ _ q => Heap.get?_push_of_some _ q) (Nat.le_refl _) (nd_empty s.heap I.big), rfl, h _ (I.hok.fresh (Nat.le_refl _))⟩⟩
/-- the key at hand -/
def NdAt (H : Hp) (x y : V) (p b : Addr) (vs : List (NestedKey × V)) (bs : List Addr) (k : NestedKey) : Prop := x = .ref p ∧ y = .ref b ∧ H p = some (.ext (NdOk p vs bs)) ∧ NdKs H vs bs ∧ NkH H k (.ref b) ∧ k.depth ≤ 8
def rInN (neg : Bool) : R2 := fun y x H Q => ∃ p b vs bs k, NdAt H x y p b vs bs k ∧ Q (.bl (if neg then !(valV vs k).isSome else (valV vs k).isSome)) H
theorem op_inN (hu : X.A.units + 20 < cLine) : OpR X (compareOp .In) (rInN false) := by
  intro pins s σ H x y v u Q I rx ry ⟨p, b, vs, bs, k, ⟨e1, e2, h1, h2, h3, h4⟩, q⟩
  subst e1 e2
  cases rx
  cases ry
  exact nd_in hu I h1 h2 h3 h4 fun s' I' => ⟨.bl (valV vs k).isSome, H, I', rfl, q⟩
def rIxN : R2 := fun x y H Q => ∃ p b vs bs k v, NdAt H x y p b vs bs k ∧ valV vs k = some v ∧ Q v H
theorem ix_N (hu : X.A.units + 20 < cLine) : IxR X rIxN := fun va sl pins s σ H x y v u Q I rx ry ⟨p, b, vs, bs, k, z, ⟨e1, e2, h1, h2, h3, h4⟩, l, q⟩ hs => by
  subst e1 e2
  cases rx
  cases ry
  obtain ⟨_, _, xs, _, _, dd⟩ := nd_rd I.hok h1 h2
  exact tail_any dd.typeIs PySem.F.slot_dict_getitem.lookup (nd_getItem hu I h1 h2 h3 h4 l fun w' s' I' rw' => ⟨z, H, I', rw', q⟩) hs
def rSetN : TSet := fun o i v H Q => ∃ p b vs bs k, NdAt H o i p b vs bs k ∧ vs.length < sizeLine ∧ ∀ bs', NdKs H (putK vs k v) bs' → Q (upd H p (.ext (NdOk p (putK vs k v) bs')))
theorem set_N (hu : X.A.units + 20 < cLine) : PSet X rSetN := fun pins s σ H o i v ov iv u Q I r1 r2 r3 ⟨p, b, vs, bs, k, ⟨e1, e2, h1, h2, h3, h4⟩, hl, q⟩ => by
  subst e1 e2
  cases r1
  cases r2
  exact nd_setItem hu I h1 h2 h3 h4 hl r3 fun bs' s' k' I' => ⟨_, I', q bs' k'⟩
end
/-! ### data as keys -/
mutual
def nKeyD : Dv → Option NestedKey
  | .int i => some (.num i)
  | .tup ds => (nKeyDs ds).map .tup
  | _ => none
def nKeyDs : List Dv → Option (List NestedKey)
  | [] => some []
  | d :: ds => match nKeyD d, nKeyDs ds with
    | some k, some ks => some (k :: ks)
    | _, _ => none
end
section
variable {K : PySem.W.Frag} {H : Hp} {α : List Addr}
mutual
theorem nKeyD_h : ∀ (d : Dv) (v : V) (k : NestedKey), nKeyD d = some k → Rp K H α d v → NkH H k v
  | .int i, v, k, e, r => by
    unfold nKeyD at e
    cases e
    unfold Rp at r
    subst r
    exact .int i
  | .tup ds, v, k, e, r => by
    unfold nKeyD at e
    obtain ⟨ks, e1, rfl⟩ := Option.map_eq_some_iff.mp e
    unfold Rp at r
    obtain ⟨p, vs, rfl, h1, h2⟩ := r
    exact .tup h1 (nKeyDs_h ds vs ks e1 h2)
  | .non, _, _, e, _ => by unfold nKeyD at e; cases e
  | .bl _, _, _, e, _ => by unfold nKeyD at e; cases e
  | .str _, _, _, e, _ => by unfold nKeyD at e; cases e
  | .obj _, _, _, e, _ => by unfold nKeyD at e; cases e
  | .rf _, _, _, e, _ => by unfold nKeyD at e; cases e
  | .scr _, _, _, e, _ => by unfold nKeyD at e; cases e
  | .pt _, _, _, e, _ => by unfold nKeyD at e; cases e
  | .fn _, _, _, e, _ => by unfold nKeyD at e; cases e
  | .st _, _, _, e, _ => by unfold nKeyD at e; cases e
theorem nKeyDs_h : ∀ (ds : List Dv) (vs : List V) (ks : List NestedKey), nKeyDs ds = some ks → Rps K H α ds vs → NkHs H ks vs
  | [], vs, ks, e, r => by
    unfold nKeyDs at e
    cases e
    unfold Rps at r
    subst r
    exact .nil
  | d :: ds, vs, ks, e, r => by
    unfold nKeyDs at e
    split at e
    · rename_i k ks' e1 e2
      cases e
      unfold Rps at r
      obtain ⟨v, us, rfl, h1, h2⟩ := r
      exact .cons (nKeyD_h d v k e1 h1) (nKeyDs_h ds us ks' e2 h2)
    · cases e
end
end
def nKeyT (d : Dv) : Option NestedKey := match d with
  | .tup ds => (match nKeyDs ds with
    | some ks => if (NestedKey.tup ks).depth ≤ 8 then some (.tup ks) else none
    | none => none)
  | _ => none
theorem nKeyT_h {K : PySem.W.Frag} {H : Hp} {α : List Addr} {d : Dv} {v : V} {k : NestedKey} (e : nKeyT d = some k) (r : Rp K H α d v) : ∃ b, v = .ref b ∧ NkH H k (.ref b) ∧ k.depth ≤ 8 := by
  unfold nKeyT at e
  split at e
  · rename_i ds
    split at e
    · rename_i ks e1
      split at e
      · rename_i hd
        cases e
        have r1 := r
        unfold Rp at r
        obtain ⟨p, vs, rfl, h1, h2⟩ := r
        exact ⟨p, rfl, .tup h1 (nKeyDs_h ds vs ks e1 h2), hd⟩
      · cases e
    · cases e
  · cases e
def inNO (f : Bool → Bool) (x y : Dv) : MX Dv := fun _ θ Q => match y with
  | .obj j => (match θ[j]? with
    | some (.dN kvs) => (match nKeyT x with
      | some k => Q (.bl (f (lookD kvs k).isSome)) θ
      | none => False)
    | _ => False)
  | _ => False
def oInN : Dv → Dv → MX Dv := inNO id
def oIxN : Dv → Dv → MX Dv := fun x y _ θ Q => match x with
  | .obj j => (match θ[j]? with
    | some (.dN kvs) => (match nKeyT y with
      | some k => (match lookD kvs k with
        | some d => Q d θ
        | none => False)
      | none => False)
    | _ => False)
  | _ => False
def setON (x y v : Dv) : MX Unit := fun _ θ Q => match x with
  | .obj j => (match θ[j]? with
    | some (.dN kvs) => (match nKeyT y with
      | some k => kvs.length < sizeLine ∧ Q () (θ.set j (.dN (putD kvs k v)))
      | none => False)
    | _ => False)
  | _ => False
def sPutN (o i e : ME) : MS := fun ρ => do
  let v ← e ρ
  let x ← o ρ
  let y ← i ρ
  setON x y v
  pure (.nx ρ)
def mDN : ME := fun _ _ θ Q => Q (.obj θ.length) (θ ++ [.dN []])
section
variable {X : Cx} {W : Wd X.K X.mg} {pos : Pos}
theorem inN_up {neg : Bool} {f : Bool → Bool} (hf : ∀ b, f b = if neg then !b else b) {H : Hp} {α : List Addr} {θ : Th} {dx dy : Dv} {x y : V} {Qm : Dv → Th → Prop} {Q : VK} (a : At W H α θ) (r1 : Rp X.K H α dx x) (r2 : Rp X.K H α dy y) (q : inNO f dx dy W.En θ Qm) (u : Up X.K H α Qm Q) : rInN neg x y H Q := by
  unfold inNO at q
  split at q
  · rename_i j
    unfold Rp at r2
    obtain ⟨p, ep, rfl⟩ := r2
    split at q
    · rename_i kvs e2
      split at q
      · rename_i k hk
        obtain ⟨vs, bs, h1, h2, h3⟩ := a.ok.ob j p _ ep e2
        obtain ⟨b, rfl, hb, hd⟩ := nKeyT_h hk r1
        refine ⟨p, b, vs, bs, k, ⟨rfl, rfl, h1, h2, hb, hd⟩, up_same u a q ?_⟩
        have lk := h3.look k
        have : (valV vs k).isSome = (lookD kvs k).isSome := by
          cases e : lookD kvs k with
          | none => rw [e] at lk; rw [lk]; rfl
          | some d => rw [e] at lk; obtain ⟨v, lk, _⟩ := lk; rw [lk]; rfl
        rw [hf, this]
        cases neg <;> exact rp_bl
      · exact q.elim
    · exact q.elim
  · exact q.elim
theorem om_inN (c : Cf X) : OpM W (compareOp .In) oInN := opm_of (op_inN (by have := c.un; omega)) fun {H α θ dx dy x y Qm Q} a r1 r2 q u => inN_up (neg := false) (f := id) (fun b => rfl) a r1 r2 q u
theorem pm_ixN {a b : Expr} {ma mb : ME} {pos : Pos} (c : Cf X) (ha : PE X a (tM W ma)) (hb : PE X b (tM W mb)) (hs : PlainIx b := by exact fun _ _ => rfl) : PE X (.Subscript a b pos) (tM W (mBin oIxN ma mb)) := by
  refine pe_w (pe_ix (IxR.w (ix_N (by have := c.un; omega)) ?_) ha hb hs) tm_bin
  rintro x y H Q ⟨α, θ, dx, dy, Qm, a, r1, r2, q, u⟩
  unfold oIxN at q
  split at q
  · rename_i j
    unfold Rp at r1
    obtain ⟨p, ep, rfl⟩ := r1
    split at q
    · rename_i kvs e2
      split at q
      · rename_i k hk
        split at q
        · rename_i d hd2
          obtain ⟨vs, bs, h1, h2, h3⟩ := a.ok.ob j p _ ep e2
          obtain ⟨b, rfl, hb, hd⟩ := nKeyT_h hk r2
          have lk := h3.look k
          rw [hd2] at lk
          obtain ⟨v, lk, rv⟩ := lk
          exact ⟨p, b, vs, bs, k, v, ⟨rfl, rfl, h1, h2, hb, hd⟩, lk, up_same u a q rv⟩
        · exact q.elim
      · exact q.elim
    · exact q.elim
  · exact q.elim
def rSetMN (W : Wd X.K X.mg) : TSet := fun o i v H Q => ∃ α θ dx dy dv Qm, At W H α θ ∧ Rp X.K H α dx o ∧ Rp X.K H α dy i ∧ Rp X.K H α dv v ∧ setON dx dy dv W.En θ Qm ∧ ∀ θ' H', Qm () θ' → Okk X.K H' α θ' → Nx X.K H α H' α → Q H'
theorem set_anyN (c : Cf X) : PSet X (rSetMN W) := PSet.w (set_N (by have := c.un; omega)) fun o i v H Q ⟨α, θ, dx, dy, dv, Qm, a, r1, r2, r3, q, k⟩ => by
  unfold setON at q
  split at q
  · rename_i j
    unfold Rp at r1
    obtain ⟨p, ep, rfl⟩ := r1
    split at q
    · rename_i kvs e2
      split at q
      · rename_i key hk
        obtain ⟨vs, bs, h1, h2, h3⟩ := a.ok.ob j p _ ep e2
        obtain ⟨b, rfl, hb, hd⟩ := nKeyT_h hk r2
        refine ⟨p, b, vs, bs, key, ⟨rfl, rfl, h1, h2, hb, hd⟩, by rw [h3.length]; exact q.1, fun bs' ks' => ?_⟩
        have nx := Nx.chg (o := .ext (NdOk p (putK vs key v) bs')) (a.ok.ob j p _ ep e2)
        exact k _ _ q.2 (a.ok.chg ep e2 (ob := .dN (putD kvs key dv)) ⟨_, _, upd_same, ks'.mono nx.tup, (h3.put key r3).mono nx⟩) nx
      · exact q.elim
    · exact q.elim
  · exact q.elim
theorem sm_putN {st : Stmt} {o i e : Expr} {mo mi m : ME} {pos' : Pos} (c : Cf X) (he : PE X e (tM W m)) (ho : PE X o (tM W mo)) (hi : PE X i (tM W mi))
    (pg : ∀ t, PSet X t → PG X (.Subscript o i pos') (gSub (tM W mo) (tM W mi) t)) (ps : ∀ g, PG X (.Subscript o i pos') g → PS X st (tAsg (tM W m) g)) : PS X st (tS W (sPutN mo mi m)) :=
  ps_w (ps _ (pg _ (set_anyN (W := W) c))) fun D σ H ⟨ρ, α, θ, Qm, at', rs, q, u⟩ => ⟨ρ, α, θ, _, at', rs, q, fun d θ1 α1 H1 v q1 ok1 nx1 r1 =>
    ⟨ρ, α1, θ1, _, ⟨ok1, at'.nx.trans nx1⟩, rs.mono nx1, q1, fun d2 θ2 α2 H2 v2 q2 ok2 nx2 r2 => ⟨ρ, α2, θ2, _, ⟨ok2, (at'.nx.trans nx1).trans nx2⟩, rs.mono (nx1.trans nx2), q2, fun d3 θ3 α3 H3 v3 q3 ok3 nx3 r3 =>
      ⟨α3, θ3, d2, d3, d, _, ⟨ok3, ((at'.nx.trans nx1).trans nx2).trans nx3⟩, r2.mono nx3, r3, r1.mono (nx2.trans nx3), q3, fun θ4 H4 q4 ok4 nx4 =>
        u _ θ4 α3 H4 q4 ok4 (((nx1.trans nx2).trans nx3).trans nx4) σ (rs.mono (((nx1.trans nx2).trans nx3).trans nx4))⟩⟩⟩⟩
theorem sm_ptN {o i e : Expr} {mo mi m : ME} {pos' pos : Pos} (c : Cf X) (he : PE X e (tM W m)) (ho : PE X o (tM W mo)) (hi : PE X i (tM W mi))
    (hg : ∀ g, PE X e (tM W m) → PG X (.Subscript o i pos') g → PS X (.Assign [.Subscript o i pos'] e pos) (tAsg (tM W m) g) := by exact fun g h1 h2 => ps_asg h1 h2)
    (hp : ∀ t, PE X o (tM W mo) → PE X i (tM W mi) → PSet X t → PG X (.Subscript o i pos') (gSub (tM W mo) (tM W mi) t) := by exact fun t h1 h2 h => pg_sub h1 h2 h) : PS X (.Assign [.Subscript o i pos'] e pos) (tS W (sPutN mo mi m)) := sm_putN c he ho hi (fun t h => hp t ho hi h) fun g h => hg g he h
theorem pm_dN {pos : Pos} : PE X (.Dict [] [] pos) (tM W mDN) := pe_w pe_dnewN fun σ H Q ⟨ρ, α, θ, Qm, at', rs, q, u⟩ p hp => by
  have nx : Nx X.K H α (upd H p (.ext (NdOk p [] []))) (α ++ [p]) := Nx.new hp _
  exact u _ _ _ _ _ q (at'.ok.new hp (ob := .dN []) ⟨[], [], upd_same, .nil, by unfold RpK; rfl⟩) nx (rp_obj (by rw [← at'.ok.len]; simp))
end
section
variable {E : Exn → Th → Prop} {θ : Th} {ρ : DEnv}
theorem x_dN {Q : Dv → Th → Prop} : mDN ρ E θ Q = Q (.obj θ.length) (θ ++ [.dN []]) := (rfl)
theorem x_putN {o i e : ME} {Q : Out → Th → Prop} : sPutN o i e ρ E θ Q = e ρ E θ fun v θ1 => o ρ E θ1 fun x θ2 => i ρ E θ2 fun y θ3 => setON x y v E θ3 fun _ θ4 => Q (.nx ρ) θ4 := (rfl)
theorem in_N {f : Bool → Bool} {x : Dv} {j : Nat} {kvs : List (NestedKey × Dv)} {k : NestedKey} {Q : Dv → Th → Prop} (hj : θ[j]? = some (.dN kvs)) (hk : nKeyT x = some k) (hQ : Q (.bl (f (lookD kvs k).isSome)) θ) : inNO f x (.obj j) E θ Q := by
  unfold inNO
  simp only [hj, hk]
  exact hQ
theorem ix_dN {y d : Dv} {j : Nat} {kvs : List (NestedKey × Dv)} {k : NestedKey} {Q : Dv → Th → Prop} (hj : θ[j]? = some (.dN kvs)) (hk : nKeyT y = some k) (hd : lookD kvs k = some d) (hQ : Q d θ) : oIxN (.obj j) y E θ Q := by
  unfold oIxN
  simp only [hj, hk, hd]
  exact hQ
theorem set_dN {y v : Dv} {j : Nat} {kvs : List (NestedKey × Dv)} {k : NestedKey} {Q : Unit → Th → Prop} (hj : θ[j]? = some (.dN kvs)) (hk : nKeyT y = some k) (hl : kvs.length < sizeLine) (hQ : Q () (θ.set j (.dN (putD kvs k v)))) : setON (.obj j) y v E θ Q := by
  unfold setON
  simp only [hj, hk]
  exact ⟨hl, hQ⟩
end
end Mn

/-! Cm22: mirrors of k03. -/
namespace Cm22
open PySem PySem.Spec PyProof.Rows L2 Mn
def m_Search_needed : MS := (sRet (mBin oIx (mMeth "Search" "best" 1 (Cm20.c_Search_best 20) (mVar 0) (msCons (mVar 1) msNil)) (mC (.int 0))))
def c_Search_needed : List Dv → MX Dv := defM 0 m_Search_needed
def m_fewest_from : MS := (sSeq (sDrop (mCallU 1 Cm20.c_check_size (msCons (mVar 2) msNil))) (sRet (mMeth "Search" "needed" 1 Cm22.c_Search_needed (mMake "Search" 3 Cm20.c_Search___init__ (msCons (mVar 0) (msCons (mVar 1) (msCons (mFnV "taken") msNil)))) (msCons (mVar 2) msNil))))
def c_fewest_from : List Dv → MX Dv := defM 0 m_fewest_from
def m__law_told : MS := (sTryAs [("TooGreat", true)] 3 (sRet (mCallU 3 Cm22.c_fewest_from (msCons (mVar 0) (msCons (mVar 1) (msCons (mVar 2) msNil))))) (fun a x => (sRet (mIsX 3 a x [("TooGreat", false)]))))
def c__law_told : List Dv → MX Dv := defM 1 m__law_told
def m_fewest : MS := (sRet (mCallU 3 Cm22.c_fewest_from (msCons (mVar 0) (msCons (mVar 1) (msCons (mCallU 3 Cm.c_start (msCons (mVar 0) (msCons (mVar 1) (msCons (mVar 2) msNil)))) msNil)))))
def c_fewest : List Dv → MX Dv := defM 0 m_fewest
end Cm22

/-! Mn57: for k in d, dict(d), sorted(d). -/
namespace Mn
open PySem PySem.Spec PyProof.Rows L2
theorem b_dict : bootBuiltins "dict" = some (.type "dict") := by decide +kernel
def keyDv : Key → Dv
  | .inl i => .int i
  | .inr x => .str x
def kk_ (d : Dv) : MX Src := fun _ θ Q => match d with
  | .obj k => (match θ[k]? with
    | some (.dKf kvs) => Q (.sd (.T (kvs.map fun kv => keyDv kv.1))) θ
    | _ => False)
  | _ => False
def srcKeys (a : ME) : DEnv → MX Src := fun ρ => do kk_ (← a ρ)
theorem RpK.keys {κ : Type} {K : PySem.W.Frag} {H : Hp} {α : List Addr} : ∀ {ds : List (κ × Dv)} {vs : List (κ × V)}, RpK K H α ds vs → ds.map (·.1) = vs.map (·.1)
  | [], _, h => by unfold RpK at h; subst h; rfl
  | (k, d) :: ds, _, h => by
    unfold RpK at h
    obtain ⟨v, r, rfl, h1, h2⟩ := h
    rw [List.map_cons, List.map_cons, RpK.keys h2]
def sLock (i : Nat) (m : MS) : MS := fun ρ E θ Q => match ρ.getD i none with
  | some (.obj k) => match θ[k]? with
    | some o => match lockOb o with
      | some f => m ρ E (θ.set k f) fun out θ' => θ'[k]? = some f ∧ Q out (θ'.set k o)
      | none => False
    | none => False
  | _ => False
section
variable {X : Cx} {W : Wd X.K X.mg}
theorem pim_keys {tg e : Expr} {a : ME} (he : PE X e (tM W a)) : PI X tg e (tIm W (srcKeys a)) := pi_w (pi_keys he) fun σ H R ⟨ρ, α, θ, Qm, at', rs, q, k⟩ => ⟨ρ, α, θ, _, at', rs, q, fun d θ1 α1 H1 v q1 ok1 nx1 r1 => by
  change kk_ d W.En θ1 Qm at q1
  unfold kk_ at q1
  split at q1
  · rename_i j
    split at q1
    · rename_i kvs e2
      unfold Rp at r1
      obtain ⟨p, ep, rfl⟩ := r1
      obtain ⟨vs, o, h1, h2⟩ := ok1.ob j p _ ep e2
      refine ⟨p, o, rfl, .inl ⟨vs, h1, k _ θ1 α1 H1 q1 ok1 nx1 _ ?_⟩⟩
      intro H2 α2 θ2 nx2 ok2 i r e
      have hz := nx2.fz p o _ h1
      have e : some ((kvs.map fun kv => keyDv kv.1)[i]?) = some r := e
      have ek := h2.keys
      have el : kvs.length = vs.length := h2.length.symm
      injection e with e
      subst e
      rw [List.getElem?_map]
      cases c : kvs[i]? with
      | none =>
        refine ⟨hz, ?_⟩
        rw [← el]
        exact List.getElem?_eq_none_iff.mp c
      | some kv =>
        have hi : i < kvs.length := (List.getElem?_eq_some_iff.mp c).1
        refine ⟨⟨hz, by omega⟩, fun x H3 ⟨e3, k', v', e4, e5⟩ => ?_⟩
        subst e3 e5
        refine ⟨ok2, .refl, ?_⟩
        have e6 := congrArg (fun l => l[i]?) ek
        simp only [List.getElem?_map, c, e4, Option.map_some, Option.some.injEq] at e6
        show Rp X.K H3 α2 (keyDv kv.1) (kV k')
        rw [e6]
        cases k' with
        | inl z => exact rp_int
        | inr z => exact rp_str
    · exact q1.elim
  · exact q1.elim⟩
theorem RS.monoW {H H' : Hp} {α α' : List Addr} {K : PySem.W.Frag} {σ : L2.St} {ρ : DEnv} (h : RS K H α σ ρ) (a : Nw H α H' α') : RS K H' α' σ ρ := ⟨h.1, fun i d e => let ⟨v, e1, r⟩ := h.2 i d e; ⟨v, e1, r.monoW a⟩⟩
theorem sm_lock {st : Stmt} {i : Nat} {m : MS} (h : PS X st (tS W m)) : PS X st (tS W (sLock i m)) := ps_w (ps_lock h) fun D σ H ⟨ρ, α, θ, Qm, at', rs, q, u⟩ => by
  unfold sLock at q
  split at q
  · rename_i k ei
    split at q
    · rename_i o eo
      split at q
      · rename_i f hl
        obtain ⟨p, ep⟩ := at'.ok.addr eo
        obtain ⟨uo, hu⟩ := (at'.ok.ob k p o ep eo).some
        have hm : Mut (some uo) := by
          have r := at'.ok.ob k p o ep eo
          cases o with
          | dK kvs => obtain ⟨vs, h1, _⟩ := r; rw [hu] at h1; cases h1; trivial
          | dT kvs => obtain ⟨vs, h1, _⟩ := r; rw [hu] at h1; cases h1; trivial
          | _ => cases hl
        refine ⟨p, uo, hu, hm, fun od => ?_⟩
        obtain ⟨ok1, nx1⟩ := okk_lock (od := od) at'.ok ep eo hl hu hm
        refine ⟨ρ, α, _, _, ⟨ok1, at'.nx.trans nx1⟩, rs.mono nx1, q, fun out θ2 α2 H2 q2 ok2 nx2 => ?_⟩
        have hz : H2 p = some (.frz od uo) := nx2.fz p od uo upd_same
        have ep2 := nx2.at ep
        obtain ⟨e2, q2⟩ := q2
        have nw : Nw H2 α2 (upd H2 p uo) α2 := ⟨⟨[], by simp⟩, fun q us h => by rw [upd_ne (fun z => by subst z; rw [hz] at h; cases h)]; exact h, fun q o' us h => by
          rw [upd_ne (fun z => by
            subst z
            rw [hz] at h
            cases h
            cases o with
            | dK kvs => obtain ⟨vs, h1, _⟩ := at'.ok.ob k _ _ ep eo; rw [hu] at h1; cases h1
            | dT kvs => obtain ⟨vs, h1, _⟩ := at'.ok.ob k _ _ ep eo; rw [hu] at h1; cases h1
            | _ => cases hl)]
          exact h, fun q o' us h => by
          rw [upd_ne (fun z => by
            subst z
            rw [hz] at h
            cases h
            cases o with
            | dK kvs => obtain ⟨vs, h1, _⟩ := at'.ok.ob k _ _ ep eo; rw [hu] at h1; cases h1
            | dT kvs => obtain ⟨vs, h1, _⟩ := at'.ok.ob k _ _ ep eo; rw [hu] at h1; cases h1
            | _ => cases hl)]
          exact h⟩
        have ok3 : Okk X.K (upd H2 p uo) α2 (θ2.set k o) := by
          refine ⟨by simp [ok2.len], ok2.nd, fun j q w f1 f2 => ?_⟩
          by_cases hj : k = j
          · subst hj
            rw [List.getElem?_set_self (List.getElem?_eq_some_iff.mp e2).1] at f2
            rw [ep2] at f1
            cases f1
            cases f2
            have r := ok2.ob k p f ep2 e2
            cases o with
            | dK kvs =>
              cases hl
              obtain ⟨vs, o', h1, h2⟩ := r
              rw [hz] at h1
              cases h1
              exact ⟨vs, upd_same, h2.monoW nw⟩
            | dT kvs =>
              cases hl
              obtain ⟨vs, o', h1, h2⟩ := r
              rw [hz] at h1
              cases h1
              exact ⟨vs, upd_same, h2.monoW nw⟩
            | _ => cases hl
          · rw [List.getElem?_set_ne hj] at f2
            refine (ok2.ob j q w f1 f2).monoW nw (upd_ne fun z => ?_)
            subst z
            obtain ⟨a1, b1⟩ := List.getElem?_eq_some_iff.mp ep2
            obtain ⟨a2, b2⟩ := List.getElem?_eq_some_iff.mp f1
            exact hj ((List.getElem_inj ok2.nd).mp (b1.trans b2.symm))
        have nx12 := nx1.trans nx2
        have nx3 : Nx X.K H α (upd H2 p uo) α2 := ⟨nx12.ext, fun q us h => by
            rw [upd_ne (fun z => by subst z; rw [hu] at h; cases h; exact hm)]
            exact nx12.tup q us h, fun q fs h => by
            rw [upd_ne (fun z => by subst z; rw [hu] at h; cases h; exact hm)]
            exact nx12.xd q fs h, fun q o' w h => by
            rw [upd_ne (fun z => by subst z; rw [hu] at h; cases h; exact hm)]
            exact nx12.fz q o' w h⟩
        have uu := u out _ α2 _ q2 ok3 nx3
        cases out with
        | nx ρ2 => exact fun σ2 rs2 => ⟨hz, uu σ2 (rs2.monoW nw)⟩
        | ct ρ2 => exact fun σ2 rs2 => ⟨hz, uu σ2 (rs2.monoW nw)⟩
        | bk ρ2 => exact fun σ2 rs2 => ⟨hz, uu σ2 (rs2.monoW nw)⟩
        | rt d => exact fun v r => ⟨hz, uu v (r.monoW nw)⟩
      · exact q.elim
    · exact q.elim
  · exact q.elim
/-! ### dict(d), sorted(d) -/
def dictCpD (d : Dv) : MX Dv := fun _ θ Q => match d with
  | .obj k => (match θ[k]? with
    | some (.dK kvs) => Q (.obj θ.length) (θ ++ [.dK kvs])
    | _ => False)
  | _ => False
theorem cm_dictCp : CallM W (.type "dict") (k1 dictCpD) := cm_of call_dictD fun {H α θ ds xs Qm Q} a r q u => by
  unfold k1 at q
  split at q
  · rename_i d
    obtain ⟨x, rfl, rx⟩ := one_of r
    unfold dictCpD at q
    split at q
    · rename_i k
      split at q
      · rename_i kvs e2
        unfold Rp at rx
        obtain ⟨p, ep, rfl⟩ := rx
        obtain ⟨vs, h1, h2⟩ := a.ok.ob k p _ ep e2
        refine ⟨p, vs, rfl, .inl h1, fun p' hp' => ?_⟩
        have nx : Nx X.K H α (upd H p' (.dK vs)) (α ++ [p']) := Nx.new hp' _
        exact u _ _ _ _ _ q (a.ok.new hp' ⟨vs, upd_same, h2.mono nx⟩) nx (rp_obj (by rw [← a.ok.len]; simp))
      · exact q.elim
    · exact q.elim
  · exact False.elim q
def sortKD (d : Dv) : MX Dv := fun _ θ Q => match d with
  | .obj k => (match θ[k]? with
    | some (.dK kvs) => ∃ ks : List Int, kvs.map (·.1) = ks.map Sum.inl ∧ ks.length < 64 ∧ ∀ ys : List Int, ys.Perm ks → ys.Pairwise (· ≤ ·) → Q (.obj θ.length) (θ ++ [.lst (ys.map Dv.int)])
    | _ => False)
  | _ => False
theorem rps_intsK {K : PySem.W.Frag} {H : Hp} {α : List Addr} : ∀ ys : List Int, Rps K H α (ys.map Dv.int) (ys.map V.int)
  | [] => Rps.nil
  | y :: ys => by
    rw [List.map_cons, List.map_cons]
    exact Rps.cons rp_int (rps_intsK ys)
theorem cm_sortK (c : Cf X) : CallM W (.builtin "sorted") (k1 sortKD) := cm_of (call_sortedDI c.calm) fun {H α θ ds xs Qm Q} a r q u => by
  unfold k1 at q
  split at q
  · rename_i d
    obtain ⟨x, rfl, rx⟩ := one_of r
    unfold sortKD at q
    split at q
    · rename_i k
      split at q
      · rename_i kvs e2
        unfold Rp at rx
        obtain ⟨p, ep, rfl⟩ := rx
        obtain ⟨vs, h1, h2⟩ := a.ok.ob k p _ ep e2
        obtain ⟨ks, hk, h64, q⟩ := q
        refine ⟨p, vs, ks, rfl, .inl h1, by rw [← h2.keys]; exact hk, h64, fun ys p' hp hs hn => ?_⟩
        have nx : Nx X.K H α (upd H p' (.lst (ys.map V.int))) (α ++ [p']) := Nx.new hn _
        exact u _ _ _ _ _ (q ys hp hs) (a.ok.new hn ⟨_, upd_same, rps_intsK ys⟩) nx (rp_obj (by rw [← a.ok.len]; simp))
      · exact q.elim
    · exact q.elim
  · exact False.elim q
end
section
variable {E : Exn → Th → Prop} {θ : Th} {ρ : DEnv}
theorem x_srcKeys {a : ME} {R : Src → Th → Prop} : srcKeys a ρ E θ R = a ρ E θ fun d θ1 => kk_ d E θ1 R := (rfl)
theorem kk_is {k : Nat} {kvs : List (Key × Dv)} {R : Src → Th → Prop} (h : θ[k]? = some (.dKf kvs)) (q : R (.sd (.T (kvs.map fun kv => keyDv kv.1))) θ) : kk_ (.obj k) E θ R := by
  unfold kk_
  simp only [h]
  exact q
theorem s_lockK {i k : Nat} {m : MS} {kvs : List (Key × Dv)} {Q : Out → Th → Prop} (hi : ρ.getD i none = some (.obj k)) (h : θ[k]? = some (.dK kvs)) (q : m ρ E (θ.set k (.dKf kvs)) fun out θ' => θ'[k]? = some (.dKf kvs) ∧ Q out (θ'.set k (.dK kvs))) : sLock i m ρ E θ Q := by
  unfold sLock
  simp only [hi, h]
  exact q
theorem dict_cp {k : Nat} {kvs : List (Key × Dv)} {Q : Dv → Th → Prop} (h : θ[k]? = some (.dK kvs)) (q : Q (.obj θ.length) (θ ++ [.dK kvs])) : dictCpD (.obj k) E θ Q := by
  unfold dictCpD
  simp only [h]
  exact q
theorem sort_k {k : Nat} {kvs : List (Key × Dv)} {ks : List Int} {Q : Dv → Th → Prop} (h : θ[k]? = some (.dK kvs)) (hk : kvs.map (·.1) = ks.map Sum.inl) (h64 : ks.length < 64) (q : ∀ ys : List Int, ys.Perm ks → ys.Pairwise (· ≤ ·) → Q (.obj θ.length) (θ ++ [.lst (ys.map Dv.int)])) : sortKD (.obj k) E θ Q := by
  unfold sortKD
  simp only [h]
  exact ⟨ks, hk, h64, q⟩
end
end Mn

/-! Mn58: d[k] while d is walked. -/
namespace Mn
open PySem PySem.Spec PyProof.Rows L2
def oIxF (x y : Dv) : MX Dv := fun _ θ Q => match x with
  | .obj k => (match θ[k]? with
    | some (.dKf kvs) => (match fKey y with
      | some q => optW (lookD kvs q) θ Q
      | none => False)
    | _ => False)
  | _ => False
section
variable {X : Cx} {W : Wd X.K X.mg}
theorem pm_ixF {a b : Expr} {ma mb : ME} {pos : Pos} (c : Cf X) (ha : PE X a (tM W ma)) (hb : PE X b (tM W mb)) (hs : PlainIx b := by exact fun _ _ => rfl) : PE X (.Subscript a b pos) (tM W (mBin oIxF ma mb)) := by
  refine pe_w (pe_ix (IxR.w (ix_dct c) ?_) ha hb hs) tm_bin
  rintro x y H Q ⟨α, θ, dx, dy, Qm, a, r1, r2, q, u⟩
  unfold oIxF at q
  split at q
  · rename_i k
    unfold Rp at r1
    obtain ⟨p, e1, rfl⟩ := r1
    split at q
    · rename_i kvs e2
      split at q
      · rename_i k' hk
        obtain ⟨vs, o, h1, h2⟩ := a.ok.ob k p _ e1 e2
        have ex := fKey_v hk r2
        subst ex
        have lk := h2.look k'
        cases e : lookD kvs k' with
        | none => rw [e] at q; exact False.elim q
        | some d =>
          rw [e] at q lk
          obtain ⟨v, lk, rv⟩ := lk
          exact ⟨p, v, rfl, .inl ⟨vs, k', .inr ⟨o, h1⟩, rfl, lk.symm⟩, up_same u a q rv⟩
      · exact q.elim
    · exact q.elim
  · exact q.elim
end
section
variable {E : Exn → Th → Prop} {θ : Th}
theorem ix_dKf {y d : Dv} {j : Nat} {kvs : List (Key × Dv)} {k : Key} {Q : Dv → Th → Prop} (hj : θ[j]? = some (.dKf kvs)) (hk : fKey y = some k) (hd : lookD kvs k = some d) (hQ : Q d θ) : oIxF (.obj j) y E θ Q := by
  unfold oIxF
  simp only [hj, hk, hd]
  exact hQ
end
end Mn

/-! Cm23: mirrors of k26. -/
namespace Cm23
open PySem PySem.Spec PyProof.Rows L2 Mn
def m_fewest_by_make : MS := (sRet (mBin oMul (mCallU 2 Cm2.c_most_tests (msCons (mVar 2) (msCons (mVar 3) msNil))) (mCallU 3 Cm22.c_fewest (msCons (mVar 0) (msCons (mVar 1) (msCons (mC (.int 0)) msNil))))))
def c_fewest_by_make : List Dv → MX Dv := defM 0 m_fewest_by_make
def m__law_long_chain : MS := (sSeq (sSet 1 (mC (.str "abcdefghijklmnopqrstuvwxyz"))) (sRet (mTup (msCons (mC (.str "history")) (msCons (mCall (k1 tupD) (msCons (mLc (rng1 (msCons (mVar 0) msNil)) (.nm 2) bYes (mTup (msCons (mBin oIx (mVar 1) (mVar 2)) (msCons (mCall (k1 tupD) (msCons (mBin oMul (mLst (msCons (mBin oSub (mVar 2) (mC (.int 1))) msNil)) (mCall (k1 intD) (msCons (mBin oGt (mVar 2) (mC (.int 0))) msNil))) msNil)) msNil))) [2]) msNil)) msNil)))))
def c__law_long_chain : List Dv → MX Dv := defM 2 m__law_long_chain
def m__law_asked : MS := (sTry [("TooGreat", true)] (sRet (mCallU 4 Cm23.c_fewest_by_make (msCons (mCallU 1 Cm23.c__law_long_chain (msCons (mVar 0) msNil)) (msCons (mTup msNil) (msCons (mVar 1) (msCons (mVar 2) msNil)))))) (sRet (mUn oNeg (mC (.int 1)))))
def c__law_asked : List Dv → MX Dv := defM 0 m__law_asked
def m__law_alive : MS := (sSeq (sSet 5 (mC (.int 0))) (sSeq (sFor (srcV (mVar 1)) (.nm 6) (sSeq (sSet 7 (mC (.bl true))) (sSeq (sLock 2 (sFor (srcKeys (mVar 2)) (.nm 8) (sSeq (sAsg (.tp [(.nm 9), (.nm 10)]) (mBin oIxF (mVar 2) (mVar 8))) (sIf (bOr (bAnd (bB (mBin oIx (mBin oIx (mVar 0) (mBin oIx (mVar 6) (mC (.int 0)))) (mVar 8))) (bB (mBin oGt (mVar 9) (mVar 3)))) (bAnd (bNot (bB (mBin oIx (mBin oIx (mVar 0) (mBin oIx (mVar 6) (mC (.int 0)))) (mVar 8)))) (bB (mBin oGt (mVar 10) (mBin oIx (mLst (msCons (mVar 3) (msCons (mC (.int 0)) msNil))) (mCall (k1 intD) (msCons (mBin oEq (mVar 4) (mC (.str "one"))) msNil))))))) (sSet 7 (mC (.bl false))) sNil)))) (sSet 5 (mBin oAdd (mVar 5) (mCall (k1 intD) (msCons (mVar 7) msNil))))))) (sRet (mVar 5))))
def c__law_alive : List Dv → MX Dv := defM 6 m__law_alive
def m__law_key : MS := (sRet (mTup (msCons (mCall (k1 tupD) (msCons (mLc (srcV (mCall (k1 sortKD) (msCons (mVar 0) msNil))) (.nm 2) bYes (mBin oIx (mVar 0) (mVar 2)) [2]) msNil)) (msCons (mVar 1) msNil))))
def c__law_key : List Dv → MX Dv := defM 1 m__law_key
def m__law_told (C : List Dv → MX Dv) : MS := (sSeq (sSet 7 (mCallU 2 Cm23.c__law_key (msCons (mVar 2) (msCons (mVar 5) msNil)))) (sSeq (sIf (bB (mBin oInN (mVar 7) (mVar 6))) (sRet (mBin oIxN (mVar 6) (mVar 7))) sNil) (sSeq (sSet 8 (mBin oLt (mCallU 5 Cm23.c__law_alive (msCons (mVar 0) (msCons (mVar 1) (msCons (mVar 2) (msCons (mVar 3) (msCons (mVar 4) msNil)))))) (mC (.int 2)))) (sSeq (sIf (bAnd (bNot (bTru (mVar 8))) (bB (mBin oGt (mVar 5) (mC (.int 0))))) (sFor (srcV (mCall (k1 sortKD) (msCons (mVar 2) msNil))) (.nm 9) (sSeq (sAsg (.tp [(.nm 10), (.nm 11)]) (mBin oIx (mVar 2) (mVar 9))) (sIf (bAnd (bB (mBin oLe (mVar 10) (mVar 3))) (bAnd (bB (mBin oLe (mVar 11) (mBin oIx (mLst (msCons (mVar 3) (msCons (mC (.int 0)) msNil))) (mCall (k1 intD) (msCons (mBin oEq (mVar 4) (mC (.str "one"))) msNil))))) (bNot (bTru (mVar 8))))) (sSeq (sSet 12 (mCall (k1 dictCpD) (msCons (mVar 2) msNil))) (sSeq (sPut (mVar 12) (mVar 9) (mTup (msCons (mBin oAdd (mVar 10) (mC (.int 1))) (msCons (mVar 11) msNil)))) (sSeq (sSet 13 (mCall (k1 dictCpD) (msCons (mVar 2) msNil))) (sSeq (sPut (mVar 13) (mVar 9) (mTup (msCons (mVar 10) (msCons (mBin oAdd (mVar 11) (mC (.int 1))) msNil)))) (sSeq (sSet 8 (mCallU 7 C (msCons (mVar 0) (msCons (mVar 1) (msCons (mVar 12) (msCons (mVar 3) (msCons (mVar 4) (msCons (mBin oSub (mVar 5) (mC (.int 1))) (msCons (mVar 6) msNil))))))))) (sSet 8 (mAnd (mVar 8) (mCallU 7 C (msCons (mVar 0) (msCons (mVar 1) (msCons (mVar 13) (msCons (mVar 3) (msCons (mVar 4) (msCons (mBin oSub (mVar 5) (mC (.int 1))) (msCons (mVar 6) msNil))))))))))))))) sNil))) sNil) (sSeq (sPutN (mVar 6) (mVar 7) (mVar 8)) (sRet (mVar 8)))))))
def c__law_told : Nat → List Dv → MX Dv
  | 0 => fun _ => MX.stuck
  | n + 1 => defM 7 (m__law_told (c__law_told n))
end Cm23

/-! Su2: in how many ways so many are chosen. -/
namespace Mn
open PySem PySem.Spec PyProof.Rows L2
def mxD := And.intro @x_var0 (And.intro @x_varS (And.intro @x_c (And.intro @x_bin (And.intro @x_un (And.intro @x_and (And.intro @x_or (And.intro @x_andK (And.intro @x_orK (And.intro @x_not (And.intro @x_if (And.intro @x_tup (And.intro @x_lst (And.intro @x_sl (And.intro @x_call (And.intro @x_callU (And.intro @x_mth (And.intro @x_isi (And.intro @x_chain (And.intro @x_chK (And.intro @x_k1 (And.intro @x_tupRg (And.intro @x_lstRg (And.intro @x_lc (And.intro @x_addI (And.intro @x_addS (And.intro @x_addT (And.intro @x_subI (And.intro @x_mulI (And.intro @x_fdiv (And.intro @x_mod (And.intro @x_pow (And.intro @x_lt (And.intro @x_le (And.intro @x_gt (And.intro @x_ge (And.intro @x_eqI (And.intro @x_eqB (And.intro @x_eqS (And.intro @x_neI (And.intro @x_neB (And.intro @x_isB (And.intro @x_isnB (And.intro @x_neg (And.intro @x_int (And.intro @x_intB (And.intro @x_lenT (And.intro @x_lenS (And.intro @x_tupT (And.intro @x_lstT (And.intro @x_ixT (And.intro @x_ixR (And.intro @x_optW (And.intro @x_nil (And.intro @x_cons (And.intro @x_bB (And.intro @x_boolK (And.intro @x_bAnd (And.intro @x_bOr (And.intro @x_bNot (And.intro @x_bYes (And.intro @x_pNo (And.intro @x_pSo (And.intro @x_part (And.intro @x_rng1 (And.intro @x_rng2 (And.intro @x_rng3 (And.intro @x_rk1 (And.intro @x_rk2 (And.intro @x_rk3 (And.intro @x_srcEn (And.intro @x_srcZp (And.intro @x_ekT (And.intro @x_zkT (And.intro @x_srcV (And.intro @x_srcT (And.intro @x_seq (And.intro @x_seqN (And.intro @x_seqR (And.intro @x_seqB (And.intro @x_seqC (And.intro @x_sNil (And.intro @x_set (And.intro @x_drop (And.intro @x_ret (And.intro @x_retN (And.intro @x_sIf (And.intro @x_brk (And.intro @x_ct (And.intro @x_put (And.intro @x_for (And.intro @x_def (And.intro @x_defR (And.intro @x_defN (And.intro @x_ixP (And.intro @x_ixL (And.intro @x_lenP (And.intro @x_lenL (And.intro @x_tupP (And.intro @x_tupL (And.intro @x_tupKK (And.intro @x_lstP (And.intro @x_lstL (And.intro @x_appP (And.intro @x_appL (And.intro @x_tyP (And.intro @x_tyL (And.intro @x_tyK (And.intro @x_tyT (And.intro @x_putP (And.intro @x_putL (And.intro @x_putI (And.intro @x_putKK (And.intro @x_srcP (And.intro @x_srcL (And.intro @x_srcPt (And.intro @x_lenPt (And.intro @x_asg (And.intro @x_asgQ (And.intro @x_asgT2 (And.intro @x_cnt (And.intro @x_sumT2 (And.intro @x_tupPD (And.intro @x_tupPL (And.intro @x_and1 (And.intro @x_bTru (And.intro @x_truB (And.intro @x_truI (And.intro @x_truS (And.intro @x_slP (And.intro @x_slL (And.intro @x_slTu (And.intro @x_addP (And.intro @x_addL (And.intro @x_slPt (And.intro @x_slPu (And.intro @x_strI (And.intro @x_joinO (And.intro @x_joinT (And.intro @x_joinL (And.intro @x_fmt (And.intro @x_fmtS (And.intro @x_fmtI (And.intro @x_js0 (And.intro @x_js (And.intro @x_jsK (@x_index))))))))))))))))))))))))))))))))))))))))))))))))))))))))))))))))))))))))))))))))))))))))))))))))))))))))))))))))))))))))))))))))))))))))))))))))))
def mxDN := And.intro @x_var0 (And.intro @x_varS (And.intro @x_c (And.intro @x_bin (And.intro @x_un (And.intro @x_and (And.intro @x_or (And.intro @x_andK (And.intro @x_orK (And.intro @x_not (And.intro @x_if (And.intro @x_tup (And.intro @x_lst (And.intro @x_sl (And.intro @x_call (And.intro @x_callU (And.intro @x_mth (And.intro @x_isi (And.intro @x_chain (And.intro @x_chK (And.intro @x_k1 (And.intro @x_tupRg (And.intro @x_lstRg (And.intro @x_lc (And.intro @x_addI (And.intro @x_addS (And.intro @x_addT (And.intro @x_subI (And.intro @x_mulI (And.intro @x_fdiv (And.intro @x_mod (And.intro @x_pow (And.intro @x_lt (And.intro @x_le (And.intro @x_gt (And.intro @x_ge (And.intro @x_eqI (And.intro @x_eqB (And.intro @x_eqS (And.intro @x_neI (And.intro @x_neB (And.intro @x_isB (And.intro @x_isnB (And.intro @x_neg (And.intro @x_int (And.intro @x_intB (And.intro @x_lenT (And.intro @x_lenS (And.intro @x_tupT (And.intro @x_lstT (And.intro @x_ixT (And.intro @x_ixR (And.intro @x_optW (And.intro @x_nil (And.intro @x_cons (And.intro @x_bB (And.intro @x_boolK (And.intro @x_bAnd (And.intro @x_bOr (And.intro @x_bNot (And.intro @x_bYes (And.intro @x_pNo (And.intro @x_pSo (And.intro @x_part (And.intro @x_rng1 (And.intro @x_rng2 (And.intro @x_rng3 (And.intro @x_rk1 (And.intro @x_rk2 (And.intro @x_rk3 (And.intro @x_srcEn (And.intro @x_srcZp (And.intro @x_ekT (And.intro @x_zkT (And.intro @x_srcV (And.intro @x_srcT (And.intro @x_seq (And.intro @x_seqR (And.intro @x_seqB (And.intro @x_seqC (And.intro @x_sNil (And.intro @x_set (And.intro @x_drop (And.intro @x_ret (And.intro @x_retN (And.intro @x_sIf (And.intro @x_brk (And.intro @x_ct (And.intro @x_put (And.intro @x_for (And.intro @x_def (And.intro @x_defR (And.intro @x_defN (And.intro @x_ixP (And.intro @x_ixL (And.intro @x_lenP (And.intro @x_lenL (And.intro @x_tupP (And.intro @x_tupL (And.intro @x_tupKK (And.intro @x_lstP (And.intro @x_lstL (And.intro @x_appP (And.intro @x_appL (And.intro @x_tyP (And.intro @x_tyL (And.intro @x_tyK (And.intro @x_tyT (And.intro @x_putP (And.intro @x_putL (And.intro @x_putI (And.intro @x_putKK (And.intro @x_srcP (And.intro @x_srcL (And.intro @x_srcPt (And.intro @x_lenPt (And.intro @x_asg (And.intro @x_asgQ (And.intro @x_asgT2 (And.intro @x_cnt (And.intro @x_sumT2 (And.intro @x_tupPD (And.intro @x_tupPL (And.intro @x_and1 (And.intro @x_bTru (And.intro @x_truB (And.intro @x_truI (And.intro @x_truS (And.intro @x_slP (And.intro @x_slL (And.intro @x_slTu (And.intro @x_addP (And.intro @x_addL (And.intro @x_slPt (And.intro @x_slPu (And.intro @x_strI (And.intro @x_joinO (And.intro @x_joinT (And.intro @x_joinL (And.intro @x_fmt (And.intro @x_fmtS (And.intro @x_fmtI (And.intro @x_js0 (And.intro @x_js (And.intro @x_jsK (@x_index)))))))))))))))))))))))))))))))))))))))))))))))))))))))))))))))))))))))))))))))))))))))))))))))))))))))))))))))))))))))))))))))))))))))))))))))))
def mxC := And.intro @x_var0 (And.intro @x_varS (And.intro @x_c (And.intro @x_bin (And.intro @x_un (And.intro @x_and (And.intro @x_or (And.intro @x_andK (And.intro @x_orK (And.intro @x_not (And.intro @x_if (And.intro @x_tup (And.intro @x_lst (And.intro @x_sl (And.intro @x_call (And.intro @x_callU (And.intro @x_mth (And.intro @x_isi (And.intro @x_chain (And.intro @x_chK (And.intro @x_k1 (And.intro @x_tupRg (And.intro @x_lstRg (And.intro @x_lc (And.intro @x_addI (And.intro @x_addS (And.intro @x_addT (And.intro @x_subI (And.intro @x_mulI (And.intro @x_fdiv (And.intro @x_mod (And.intro @x_pow (And.intro @x_lt (And.intro @x_le (And.intro @x_gt (And.intro @x_ge (And.intro @x_eqI (And.intro @x_eqB (And.intro @x_eqS (And.intro @x_neI (And.intro @x_neB (And.intro @x_isB (And.intro @x_isnB (And.intro @x_neg (And.intro @x_int (And.intro @x_intB (And.intro @x_lenT (And.intro @x_lenS (And.intro @x_tupT (And.intro @x_lstT (And.intro @x_ixT (And.intro @x_ixR (And.intro @x_optW (And.intro @x_nil (And.intro @x_cons (And.intro @x_bB (And.intro @x_boolK (And.intro @x_bAnd (And.intro @x_bOr (And.intro @x_bNot (And.intro @x_bYes (And.intro @x_pNo (And.intro @x_pSo (And.intro @x_part (And.intro @x_rng1 (And.intro @x_rng2 (And.intro @x_rng3 (And.intro @x_rk1 (And.intro @x_rk2 (And.intro @x_rk3 (And.intro @x_srcEn (And.intro @x_srcZp (And.intro @x_ekT (And.intro @x_zkT (And.intro @x_srcV (And.intro @x_srcT (And.intro @x_seq (And.intro @x_seqN (And.intro @x_seqR (And.intro @x_seqB (And.intro @x_seqC (And.intro @x_sNil (And.intro @x_set (And.intro @x_drop (And.intro @x_ret (And.intro @x_retN (And.intro @x_sIf (And.intro @x_brk (And.intro @x_ct (And.intro @x_put (And.intro @x_for (And.intro @x_def (And.intro @x_defR (And.intro @x_defN (And.intro @x_ixP (And.intro @x_ixL (And.intro @x_lenP (And.intro @x_lenL (And.intro @x_tupP (And.intro @x_tupL (And.intro @x_tupKK (And.intro @x_lstP (And.intro @x_lstL (And.intro @x_appP (And.intro @x_appL (And.intro @x_tyP (And.intro @x_tyL (And.intro @x_tyK (And.intro @x_tyT (And.intro @x_putP (And.intro @x_putL (And.intro @x_putI (And.intro @x_putKK (And.intro @x_srcP (And.intro @x_srcL (And.intro @x_srcPt (And.intro @x_lenPt (And.intro @x_asg (And.intro @x_asgQ (And.intro @x_asgT2 (And.intro @x_cnt (And.intro @x_sumT2 (And.intro @x_tupPD (And.intro @x_tupPL (And.intro @x_and1 (And.intro @x_bTru (And.intro @x_truB (And.intro @x_truI (And.intro @x_truS (And.intro @x_slP (And.intro @x_slL (And.intro @x_slTu (And.intro @x_addP (And.intro @x_addL (And.intro @x_slPt (@x_slPu)))))))))))))))))))))))))))))))))))))))))))))))))))))))))))))))))))))))))))))))))))))))))))))))))))))))))))))))))))))))))))))))))))))))
def mxCN := And.intro @x_var0 (And.intro @x_varS (And.intro @x_c (And.intro @x_bin (And.intro @x_un (And.intro @x_and (And.intro @x_or (And.intro @x_andK (And.intro @x_orK (And.intro @x_not (And.intro @x_if (And.intro @x_tup (And.intro @x_lst (And.intro @x_sl (And.intro @x_call (And.intro @x_callU (And.intro @x_mth (And.intro @x_isi (And.intro @x_chain (And.intro @x_chK (And.intro @x_k1 (And.intro @x_tupRg (And.intro @x_lstRg (And.intro @x_lc (And.intro @x_addI (And.intro @x_addS (And.intro @x_addT (And.intro @x_subI (And.intro @x_mulI (And.intro @x_fdiv (And.intro @x_mod (And.intro @x_pow (And.intro @x_lt (And.intro @x_le (And.intro @x_gt (And.intro @x_ge (And.intro @x_eqI (And.intro @x_eqB (And.intro @x_eqS (And.intro @x_neI (And.intro @x_neB (And.intro @x_isB (And.intro @x_isnB (And.intro @x_neg (And.intro @x_int (And.intro @x_intB (And.intro @x_lenT (And.intro @x_lenS (And.intro @x_tupT (And.intro @x_lstT (And.intro @x_ixT (And.intro @x_ixR (And.intro @x_optW (And.intro @x_nil (And.intro @x_cons (And.intro @x_bB (And.intro @x_boolK (And.intro @x_bAnd (And.intro @x_bOr (And.intro @x_bNot (And.intro @x_bYes (And.intro @x_pNo (And.intro @x_pSo (And.intro @x_part (And.intro @x_rng1 (And.intro @x_rng2 (And.intro @x_rng3 (And.intro @x_rk1 (And.intro @x_rk2 (And.intro @x_rk3 (And.intro @x_srcEn (And.intro @x_srcZp (And.intro @x_ekT (And.intro @x_zkT (And.intro @x_srcV (And.intro @x_srcT (And.intro @x_seq (And.intro @x_seqR (And.intro @x_seqB (And.intro @x_seqC (And.intro @x_sNil (And.intro @x_set (And.intro @x_drop (And.intro @x_ret (And.intro @x_retN (And.intro @x_sIf (And.intro @x_brk (And.intro @x_ct (And.intro @x_put (And.intro @x_for (And.intro @x_def (And.intro @x_defR (And.intro @x_defN (And.intro @x_ixP (And.intro @x_ixL (And.intro @x_lenP (And.intro @x_lenL (And.intro @x_tupP (And.intro @x_tupL (And.intro @x_tupKK (And.intro @x_lstP (And.intro @x_lstL (And.intro @x_appP (And.intro @x_appL (And.intro @x_tyP (And.intro @x_tyL (And.intro @x_tyK (And.intro @x_tyT (And.intro @x_putP (And.intro @x_putL (And.intro @x_putI (And.intro @x_putKK (And.intro @x_srcP (And.intro @x_srcL (And.intro @x_srcPt (And.intro @x_lenPt (And.intro @x_asg (And.intro @x_asgQ (And.intro @x_asgT2 (And.intro @x_cnt (And.intro @x_sumT2 (And.intro @x_tupPD (And.intro @x_tupPL (And.intro @x_and1 (And.intro @x_bTru (And.intro @x_truB (And.intro @x_truI (And.intro @x_truS (And.intro @x_slP (And.intro @x_slL (And.intro @x_slTu (And.intro @x_addP (And.intro @x_addL (And.intro @x_slPt (@x_slPu))))))))))))))))))))))))))))))))))))))))))))))))))))))))))))))))))))))))))))))))))))))))))))))))))))))))))))))))))))))))))))))))))))))
def mxA := And.intro @x_var0 (And.intro @x_varS (And.intro @x_c (And.intro @x_bin (And.intro @x_un (And.intro @x_and (And.intro @x_or (And.intro @x_andK (And.intro @x_orK (And.intro @x_not (And.intro @x_if (And.intro @x_tup (And.intro @x_lst (And.intro @x_sl (And.intro @x_call (And.intro @x_callU (And.intro @x_mth (And.intro @x_isi (And.intro @x_chain (And.intro @x_chK (And.intro @x_k1 (And.intro @x_tupRg (And.intro @x_lstRg (And.intro @x_lc (And.intro @x_addI (And.intro @x_addS (And.intro @x_addT (And.intro @x_subI (And.intro @x_mulI (And.intro @x_fdiv (And.intro @x_mod (And.intro @x_pow (And.intro @x_lt (And.intro @x_le (And.intro @x_gt (And.intro @x_ge (And.intro @x_eqI (And.intro @x_eqB (And.intro @x_eqS (And.intro @x_neI (And.intro @x_neB (And.intro @x_isB (And.intro @x_isnB (And.intro @x_neg (And.intro @x_int (And.intro @x_intB (And.intro @x_lenT (And.intro @x_lenS (And.intro @x_tupT (And.intro @x_lstT (And.intro @x_ixT (And.intro @x_ixR (And.intro @x_optW (And.intro @x_nil (And.intro @x_cons (And.intro @x_bB (And.intro @x_boolK (And.intro @x_bAnd (And.intro @x_bOr (And.intro @x_bNot (And.intro @x_bYes (And.intro @x_pNo (And.intro @x_pSo (And.intro @x_part (And.intro @x_rng1 (And.intro @x_rng2 (And.intro @x_rng3 (And.intro @x_rk1 (And.intro @x_rk2 (And.intro @x_rk3 (And.intro @x_srcEn (And.intro @x_srcZp (And.intro @x_ekT (And.intro @x_zkT (And.intro @x_srcV (And.intro @x_srcT (And.intro @x_seq (And.intro @x_seqN (And.intro @x_seqR (And.intro @x_seqB (And.intro @x_seqC (And.intro @x_sNil (And.intro @x_set (And.intro @x_drop (And.intro @x_ret (And.intro @x_retN (And.intro @x_sIf (And.intro @x_brk (And.intro @x_ct (And.intro @x_put (And.intro @x_for (And.intro @x_def (And.intro @x_defR (And.intro @x_defN (And.intro @x_ixP (And.intro @x_ixL (And.intro @x_lenP (And.intro @x_lenL (And.intro @x_tupP (And.intro @x_tupL (And.intro @x_tupKK (And.intro @x_lstP (And.intro @x_lstL (And.intro @x_appP (And.intro @x_appL (And.intro @x_tyP (And.intro @x_tyL (And.intro @x_tyK (And.intro @x_tyT (And.intro @x_putP (And.intro @x_putL (And.intro @x_putI (And.intro @x_putKK (And.intro @x_srcP (@x_srcL))))))))))))))))))))))))))))))))))))))))))))))))))))))))))))))))))))))))))))))))))))))))))))))))))))))))))))))))))
def mxAN := And.intro @x_var0 (And.intro @x_varS (And.intro @x_c (And.intro @x_bin (And.intro @x_un (And.intro @x_and (And.intro @x_or (And.intro @x_andK (And.intro @x_orK (And.intro @x_not (And.intro @x_if (And.intro @x_tup (And.intro @x_lst (And.intro @x_sl (And.intro @x_call (And.intro @x_callU (And.intro @x_mth (And.intro @x_isi (And.intro @x_chain (And.intro @x_chK (And.intro @x_k1 (And.intro @x_tupRg (And.intro @x_lstRg (And.intro @x_lc (And.intro @x_addI (And.intro @x_addS (And.intro @x_addT (And.intro @x_subI (And.intro @x_mulI (And.intro @x_fdiv (And.intro @x_mod (And.intro @x_pow (And.intro @x_lt (And.intro @x_le (And.intro @x_gt (And.intro @x_ge (And.intro @x_eqI (And.intro @x_eqB (And.intro @x_eqS (And.intro @x_neI (And.intro @x_neB (And.intro @x_isB (And.intro @x_isnB (And.intro @x_neg (And.intro @x_int (And.intro @x_intB (And.intro @x_lenT (And.intro @x_lenS (And.intro @x_tupT (And.intro @x_lstT (And.intro @x_ixT (And.intro @x_ixR (And.intro @x_optW (And.intro @x_nil (And.intro @x_cons (And.intro @x_bB (And.intro @x_boolK (And.intro @x_bAnd (And.intro @x_bOr (And.intro @x_bNot (And.intro @x_bYes (And.intro @x_pNo (And.intro @x_pSo (And.intro @x_part (And.intro @x_rng1 (And.intro @x_rng2 (And.intro @x_rng3 (And.intro @x_rk1 (And.intro @x_rk2 (And.intro @x_rk3 (And.intro @x_srcEn (And.intro @x_srcZp (And.intro @x_ekT (And.intro @x_zkT (And.intro @x_srcV (And.intro @x_srcT (And.intro @x_seq (And.intro @x_seqR (And.intro @x_seqB (And.intro @x_seqC (And.intro @x_sNil (And.intro @x_set (And.intro @x_drop (And.intro @x_ret (And.intro @x_retN (And.intro @x_sIf (And.intro @x_brk (And.intro @x_ct (And.intro @x_put (And.intro @x_for (And.intro @x_def (And.intro @x_defR (And.intro @x_defN (And.intro @x_ixP (And.intro @x_ixL (And.intro @x_lenP (And.intro @x_lenL (And.intro @x_tupP (And.intro @x_tupL (And.intro @x_tupKK (And.intro @x_lstP (And.intro @x_lstL (And.intro @x_appP (And.intro @x_appL (And.intro @x_tyP (And.intro @x_tyL (And.intro @x_tyK (And.intro @x_tyT (And.intro @x_putP (And.intro @x_putL (And.intro @x_putI (And.intro @x_putKK (And.intro @x_srcP (@x_srcL)))))))))))))))))))))))))))))))))))))))))))))))))))))))))))))))))))))))))))))))))))))))))))))))))))))))))))))))))
end Mn
namespace Sp
def cho : Nat → Nat → Nat
  | _, 0 => 1
  | 0, _ + 1 => 0
  | n + 1, k + 1 => cho n k + cho n (k + 1)
theorem cho_0 (n : Nat) : cho n 0 = 1 := by cases n <;> rfl
theorem cho_ss (n k : Nat) : cho (n + 1) (k + 1) = cho n k + cho n (k + 1) := rfl
/-- at most m - 1 of q -/
def chs (q : Nat) : Nat → Nat
  | 0 => 0
  | m + 1 => chs q m + cho q m
theorem chs_s (q : Nat) : ∀ m : Nat, chs (q + 1) (m + 1) = chs q (m + 1) + chs q m
  | 0 => by simp [chs, cho_0]
  | m + 1 => by
    show chs (q + 1) (m + 1) + cho (q + 1) (m + 1) = chs q (m + 1) + cho q (m + 1) + (chs q m + cho q m)
    rw [chs_s q m, cho_ss]
    show chs q m + cho q m + chs q m + (cho q m + cho q (m + 1)) = chs q m + cho q m + cho q (m + 1) + (chs q m + cho q m)
    omega
theorem chs_mono {q : Nat} {m n : Nat} (h : m ≤ n) : chs q m ≤ chs q n := by
  induction h with
  | refl => exact Nat.le_refl _
  | step h ih => exact Nat.le_trans ih (Nat.le_add_right _ _)
theorem chs_two (q m : Nat) : chs (q + 1) m ≤ 2 * chs q m := by
  cases m with
  | zero => simp [chs]
  | succ m =>
    rw [chs_s]
    have := chs_mono (q := q) (show m ≤ m + 1 by omega)
    omega
/-- the weight of a state -/
def wt (q : Nat) (st : List Int) : Nat := (st.map fun x => chs q (x + 1).toNat).sum
theorem wt_cons (q : Nat) (x : Int) (st : List Int) : wt q (x :: st) = chs q (x + 1).toNat + wt q st := rfl
theorem wt_two (q : Nat) : ∀ st : List Int, wt (q + 1) st ≤ 2 * wt q st
  | [] => by simp [wt]
  | x :: st => by
    rw [wt_cons, wt_cons]
    have h1 := chs_two q (x + 1).toNat
    have h2 := wt_two q st
    omega
/-- light once, light ever after -/
theorem wt_light {q : Nat} {st : List Int} (h : wt q st ≤ 2 ^ q) : ∀ d, wt (q + d) st ≤ 2 ^ (q + d)
  | 0 => h
  | d + 1 => by
    have h1 := wt_light h d
    have h2 := wt_two (q + d) st
    rw [← Nat.add_assoc, Nat.pow_succ]
    omega
end Sp

/-! Sp1: what the laws' helpers do. -/
namespace Sp
open PySem PySem.Spec PyProof.Rows L2 Mn
variable {E : Exn → Th → Prop} {θ : Th} {Q : Dv → Th → Prop}
/-- the store of a law: the digits, the box -/
def bx (ds : List Int) (at_ : Nat) : Th := [.lst (ds.map Dv.int), .lst [.obj 0, .int at_]]
theorem bx0 {ds : List Int} {a : Nat} {g : Th} : (bx ds a ++ g)[0]? = some (.lst (ds.map Dv.int)) := rfl
theorem bx1 {ds : List Int} {a : Nat} {g : Th} : (bx ds a ++ g)[1]? = some (.lst [.obj 0, .int a]) := rfl
theorem bx_set {ds : List Int} {a : Nat} {g : Th} : (bx ds a ++ g).set 1 (.lst [.obj 0, .int ((a : Int) + 1)]) = bx ds (a + 1) ++ g := rfl
theorem ix12 {x y : Dv} : ixN [x, y].length 1 = some 1 := rfl
theorem s_draw {ds : List Int} {a : Nat} {g : Th} {many : Int} (hm : 0 < many) (hQ : ∀ v : Int, 0 ≤ v → v < many → Q (.int v) (bx ds (a + 1) ++ g)) : Cm.c__law_draw [.obj 1, .int many] E (bx ds a ++ g) Q := by
  unfold Cm.c__law_draw Cm.m__law_draw
  simp only [mxA, List.map_cons, List.map_nil, List.replicate, List.cons_append, List.nil_append, List.set_cons_zero, List.set_cons_succ, bx1, bx0, at_0, at_1, ix12, bx_set, List.length_map]
  by_cases h : a < ds.length
  · rw [if_pos (decide_eq_true (by omega))]
    have e : atI (ds.map Dv.int) (a : Int) = some (.int ds[a]) := at_nat (by simp [h])
    simp only [mxA, List.map_cons, List.map_nil, List.replicate, List.cons_append, List.nil_append, List.set_cons_zero, List.set_cons_succ, e]
    exact ⟨hm, end_same (hQ _ (Int.emod_nonneg _ (by omega)) (Int.emod_lt_of_pos _ hm))⟩
  · rw [if_neg (by simpa using h)]
    exact end_same (hQ 0 (by omega) hm)
theorem s_cell {ns : List Int} {k : Int} (h0 : 0 ≤ k) (hQ : ∀ v : Int, Q (.int v) θ) : Cm.c__law_cell [.scr ns, .int k] E θ Q := by
  unfold Cm.c__law_cell Cm.m__law_cell
  simp only [mxA, List.map_cons, List.map_nil, List.replicate, List.cons_append, List.nil_append, List.set_cons_zero, List.set_cons_succ]
  by_cases h : k < ns.length
  · rw [if_pos (decide_eq_true h)]
    have h4 : k.toNat < ns.length := by omega
    have e : atI ns k = some ns[k.toNat] := at_int h0 (by simp [h4])
    simp only [mxA, List.map_cons, List.map_nil, List.replicate, List.cons_append, List.nil_append, List.set_cons_zero, List.set_cons_succ, e, Option.map_some]
    exact end_same (hQ _)
  · rw [if_neg (by simpa using h)]
    exact end_same (hQ 0)
theorem rng_at {lo c : Int} {n i : Nat} {θ : Th} (h : i < n) : (Src.rng lo c n).at θ i = some (some (.int (lo + (i : Nat) * c))) := by simp only [Src.at, if_pos h]
theorem rng_end {lo c : Int} {n : Nat} {θ : Th} : (Src.rng lo c n).at θ n = some none := by simp only [Src.at, if_neg (Nat.lt_irrefl n)]
theorem th_app {o o' : Ob} : (θ ++ [o]).set θ.length o' = θ ++ [o'] := th_set_mid
theorem th_last {o : Ob} : (θ ++ [o])[θ.length]? = some o := th_mid
theorem map_snoc {ds : List Int} {v : Int} : ds.map Dv.int ++ [.int v] = (ds ++ [v]).map Dv.int := by simp
/-- the digits: some ints, in a new list -/
theorem s_digits {ns : List Int} {a b : Nat} (ha : a ≤ b) (hb : b ≤ 1000) (hQ : ∀ ds : List Int, Q (.obj θ.length) (θ ++ [.lst (ds.map Dv.int)])) : Cm.c__law_digits [.scr ns, .int a, .int b] E θ Q := by
  unfold Cm.c__law_digits Cm.m__law_digits
  simp only [mxA, List.map_cons, List.map_nil, List.replicate, List.cons_append, List.nil_append, List.set_cons_zero, List.set_cons_succ]
  refine ⟨by simp, ⟨by omega, by omega, by omega, by omega⟩, ?_⟩
  refine for_rule (b - a : Int).toNat (fun i ρ θ' => ∃ x4 x5 x6 x7, ∃ ds : List Int, ρ = [some (.scr ns), some (.int a), some (.int b), some (.obj θ.length), x4, x5, x6, x7] ∧ θ' = θ ++ [.lst (ds.map Dv.int)] ∧ ds.length ≤ i * 60) ⟨none, none, none, none, [], rfl, rfl, by simp⟩ ?_ ?_
  · rintro i ρ θ' hi ⟨x4, x5, x6, x7, ds, rfl, rfl, hl⟩
    refine ⟨.int (a + i * 1), _, rng_at hi, rfl, fun K LK => ?_⟩
    simp only [mxAN, List.map_cons, List.map_nil, List.replicate, List.cons_append, List.nil_append, List.set_cons_zero, List.set_cons_succ]
    refine ⟨rfl, s_cell (by omega) fun v => ?_⟩
    rw [x_seqN]
    simp only [mxAN, List.map_cons, List.map_nil, List.replicate, List.cons_append, List.nil_append, List.set_cons_zero, List.set_cons_succ]
    generalize hT : seqK _ E K = T
    have key : ∀ w : Int, T (.nx [some (.scr ns), some (.int a), some (.int b), some (.obj θ.length), some (.int (a + i * 1)), some (.int w), x6, x7]) (θ ++ [.lst (ds.map Dv.int)]) := by
      intro w
      subst hT
      simp only [mxA, List.map_cons, List.map_nil, List.replicate, List.cons_append, List.nil_append, List.set_cons_zero, List.set_cons_succ]
      refine ⟨by unfold CPow; omega, ?_⟩
      by_cases hw : (10 : Int) ^ (18 : Int).toNat ≤ w
      · rw [if_pos (decide_eq_true hw)]
        refine ⟨⟨by omega, by omega⟩, ?_⟩
        refine for_rule 60 (fun j ρ θ' => ∃ x6 x7, ∃ (w : Int) (es : List Int), ρ = [some (.scr ns), some (.int a), some (.int b), some (.obj θ.length), some (.int (a + i * 1)), some (.int w), x6, x7] ∧ θ' = θ ++ [.lst (es.map Dv.int)] ∧ es.length ≤ ds.length + j) ⟨x6, x7, w, ds, rfl, rfl, by omega⟩ ?_ ?_
        · rintro j ρ θ' hj ⟨x6, x7, w, es, rfl, rfl, he⟩
          refine ⟨.int (0 + j * 1), _, rng_at hj, rfl, fun K LK => ?_⟩
          simp only [mxA, List.map_cons, List.map_nil, List.replicate, List.cons_append, List.nil_append, List.set_cons_zero, List.set_cons_succ]
          by_cases hw : 0 < w
          · rw [if_pos (decide_eq_true hw)]
            simp only [th_last, mxA, List.map_cons, List.map_nil, List.replicate, List.cons_append, List.nil_append, List.set_cons_zero, List.set_cons_succ, th_app, map_snoc]
            exact ⟨trivial, by omega, by rw [List.length_map, sizeLine_eq]; omega, ⟨by omega, by omega⟩, LK.nx _ _ ⟨_, rfl, _, _, _, _, rfl, rfl, by rw [List.length_append, List.length_singleton]; omega⟩⟩
          · rw [if_neg (by simpa using hw)]
            exact LK.nx _ _ ⟨_, rfl, _, _, _, _, rfl, rfl, by omega⟩
        · rintro ρ θ' ⟨x6, x7, w, es, rfl, rfl, he⟩
          exact ⟨rng_end, LK.nx _ _ ⟨_, rfl, _, _, _, _, _, rfl, rfl, by omega⟩⟩
      · rw [if_neg (by simpa using hw)]
        refine ⟨.inr ⟨by omega, by omega⟩, .inr ⟨by omega, by omega⟩, by omega, ⟨by omega, by omega⟩, ?_⟩
        refine for_rule 12 (fun j ρ θ' => ∃ x6, ∃ (w z : Int) (es : List Int), ρ = [some (.scr ns), some (.int a), some (.int b), some (.obj θ.length), some (.int (a + i * 1)), some (.int w), x6, some (.int z)] ∧ θ' = θ ++ [.lst (es.map Dv.int)] ∧ es.length ≤ ds.length + j) ⟨x6, w, _, ds, rfl, rfl, by omega⟩ ?_ ?_
        · rintro j ρ θ' hj ⟨x6, w, z, es, rfl, rfl, he⟩
          refine ⟨.int (0 + j * 1), _, rng_at hj, rfl, fun K LK => ?_⟩
          simp only [mxA, List.map_cons, List.map_nil, List.replicate, List.cons_append, List.nil_append, List.set_cons_zero, List.set_cons_succ, th_last, th_app, map_snoc]
          exact ⟨.inr ⟨by omega, by omega⟩, .inl ⟨by omega, by omega⟩, by omega, trivial, ⟨by omega, by omega⟩, by omega, by rw [List.length_map, sizeLine_eq]; omega, LK.nx _ _ ⟨_, rfl, _, _, _, _, rfl, rfl, by rw [List.length_append, List.length_singleton]; omega⟩⟩
        · rintro ρ θ' ⟨x6, w, z, es, rfl, rfl, he⟩
          exact ⟨rng_end, LK.nx _ _ ⟨_, rfl, _, _, _, _, _, rfl, rfl, by omega⟩⟩
    by_cases hv : v < 0
    · rw [if_pos (decide_eq_true hv)]
      exact ⟨.inl ⟨by omega, by omega⟩, key _⟩
    · rw [if_neg (by simpa using hv)]
      exact key _
  · rintro ρ θ' ⟨x4, x5, x6, x7, ds, rfl, rfl, hl⟩
    refine ⟨by simp [Src.at], ?_⟩
    simp only [mxA, List.map_cons, List.map_nil, List.replicate, List.cons_append, List.nil_append, List.set_cons_zero, List.set_cons_succ]
    exact end_same (hQ ds)
end Sp

/-! Sp2: histories, ancestors. -/
namespace Sp
open PySem PySem.Spec PyProof.Rows L2 Mn
abbrev Hist := List (Str × List Nat)
def mk (x : Str × List Nat) : Dv := .tup [.str x.1, .tup (x.2.map fun p => .int (p : Nat))]
def hD (h : Hist) : Dv := .tup [.str "history", .tup (h.map mk)]
def par (h : Hist) (k : Nat) : List Nat := match h[k]? with
  | some x => x.2
  | none => []
/-- reached from m, no make below t gone on from -/
inductive Rc (h : Hist) (m t : Nat) : Nat → Prop where
  | self : Rc h m t m
  | step {k p : Nat} : Rc h m t k → t ≤ k → p ∈ par h k → Rc h m t p
abbrev Anc (h : Hist) (m j : Nat) : Prop := Rc h m 0 j
/-- parents stand ahead -/
def Ahead (h : Hist) : Prop := ∀ k p, p ∈ par h k → p < k
theorem Rc.start {h : Hist} {m j : Nat} (a : Ahead h) : Rc h m (m + 1) j ↔ j = m := by
  constructor
  · intro r
    induction r with
    | self => rfl
    | step r h1 h2 ih => omega
  · rintro rfl
    exact .self
theorem Rc.mono {h : Hist} {m t u j : Nat} (hl : u ≤ t) (r : Rc h m t j) : Rc h m u j := by
  induction r with
  | self => exact .self
  | step r h1 h2 ih => exact .step ih (by omega) h2
theorem Rc.down {h : Hist} {m t j : Nat} (a : Ahead h) : Rc h m t j ↔ Rc h m (t + 1) j ∨ (Rc h m (t + 1) t ∧ j ∈ par h t) := by
  constructor
  · intro r
    induction r with
    | self => exact .inl .self
    | @step k p r h1 h2 ih =>
      by_cases e : k = t
      · subst e
        rcases ih with ih | ⟨_, ih⟩
        · exact .inr ⟨ih, h2⟩
        · exact absurd (a _ _ ih) (Nat.lt_irrefl _)
      · rcases ih with ih | ⟨_, ih⟩
        · exact .inl (.step ih (by omega) h2)
        · have := a _ _ ih; omega
  · rintro (r | ⟨r, hp⟩)
    · exact r.mono (Nat.le_succ _)
    · exact .step (r.mono (Nat.le_succ _)) (Nat.le_refl _) hp
theorem Rc.le {h : Hist} {m t j : Nat} (a : Ahead h) (r : Rc h m t j) : j ≤ m := by
  induction r with
  | self => exact Nat.le_refl _
  | step r h1 h2 ih => have := a _ _ h2; omega
/-- a row of bools -/
def bl (n : Nat) (f : Nat → Bool) : List Dv := (List.range n).map fun j => Dv.bl (f j)
theorem bl_len {n : Nat} {f : Nat → Bool} : (bl n f).length = n := by unfold bl; simp
theorem bl_get {n j : Nat} {f : Nat → Bool} (h : j < n) : (bl n f)[j]? = some (.bl (f j)) := by unfold bl; simp [h]
theorem bl_set {n p : Nat} {f : Nat → Bool} {v : Bool} : (bl n f).set p (.bl v) = bl n (fun j => if j = p then v else f j) := by
  unfold bl
  apply List.ext_getElem?
  intro i
  by_cases hi : i < n
  · by_cases hp : p = i
    · subst hp
      rw [List.getElem?_set_self (by simp [hi])]
      simp [hi]
    · rw [List.getElem?_set_ne hp]
      simp [hi, show ¬ i = p from fun e => hp e.symm]
  · rw [List.getElem?_eq_none (by simp; omega), List.getElem?_eq_none (by simp; omega)]
theorem bl_congr {n : Nat} {f g : Nat → Bool} (h : ∀ j, j < n → f j = g j) : bl n f = bl n g := by
  unfold bl
  apply List.map_congr_left
  intro j hj
  rw [h j (by simpa using hj)]
open Classical in
noncomputable def anc (h : Hist) (m j : Nat) : Bool := decide (Anc h m j)
theorem anc_iff {h : Hist} {m j : Nat} : anc h m j = true ↔ Anc h m j := by unfold anc; simp
theorem h_get {h : Hist} {k : Nat} (hk : k < h.length) : atI (h.map mk) (k : Int) = some (mk h[k]) := at_nat (by simp [hk])
theorem par_get {h : Hist} {k : Nat} (hk : k < h.length) : h[k].2 = par h k := by unfold par; rw [List.getElem?_eq_getElem hk]
mutual
theorem low_mono {n n' : Nat} (h : n ≤ n') : ∀ {d : Dv}, d.low n = true → d.low n' = true
  | .non, _ => rfl
  | .bl _, _ => rfl
  | .int _, _ => rfl
  | .str _, _ => rfl
  | .rf _, _ => rfl
  | .fn _, _ => rfl
  | .scr _, _ => rfl
  | .obj k, e => by
    unfold Dv.low at e ⊢
    exact decide_eq_true (by have := of_decide_eq_true e; omega)
  | .tup ds, e => by
    unfold Dv.low at e ⊢
    exact lows_mono h e
  | .pt ds, e => by
    unfold Dv.low at e ⊢
    exact lows_mono h e
  | .st ds, e => by
    unfold Dv.low at e ⊢
    exact lows_mono h e
theorem lows_mono {n n' : Nat} (h : n ≤ n') : ∀ {ds : List Dv}, Dv.lows n ds = true → Dv.lows n' ds = true
  | [], _ => rfl
  | d :: ds, e => by
    unfold Dv.lows at e ⊢
    rw [Bool.and_eq_true] at e ⊢
    exact ⟨low_mono h e.1, lows_mono h e.2⟩
end
theorem lowK_mono {κ : Type} {n n' : Nat} (h : n ≤ n') {kvs : List (κ × Dv)} (e : lowK n kvs = true) : lowK n' kvs = true := by
  unfold lowK at e ⊢
  rw [List.all_eq_true] at e ⊢
  exact fun x hx => low_mono h (e x hx)
theorem ob_mono {n n' : Nat} (h : n ≤ n') {o : Ob} (e : o.low n = true) : o.low n' = true := by
  cases o with
  | lst ds => exact lows_mono h e
  | dK ds => exact lowK_mono h e
  | dT ds => exact lowK_mono h e
  | dKf ds => exact lowK_mono h e
  | dTf ds => exact lowK_mono h e
  | ins C fs => exact lowK_mono h e
  | dN ds => exact lowK_mono h e
/-- data without objects -/
def Flat (ds : List Dv) : Prop := Dv.lows 0 ds = true
theorem flat_cons {d : Dv} {ds : List Dv} (h : d.low 0 = true) (r : Flat ds) : Flat (d :: ds) := by
  unfold Flat Dv.lows
  rw [h, r]
  rfl
theorem flat_map {β : Type} {f : β → Dv} (h : ∀ x, (f x).low 0 = true) : ∀ (l : List β), Flat (l.map f)
  | [] => rfl
  | x :: l => flat_cons (h x) (flat_map h l)
theorem flat_low {ds : List Dv} (f : Flat ds) (n : Nat) : (Dv.tup ds).low n = true := by
  unfold Dv.low
  exact lows_mono (Nat.zero_le _) f
variable {E : Exn → Th → Prop} {θ : Th} {Q : Dv → Th → Prop}
theorem x_h1 {h : Hist} {R : Dv → Th → Prop} : oIx (hD h) (.int 1) E θ R = R (.tup (h.map mk)) θ := (rfl)
theorem x_mk1 {x : Str × List Nat} {R : Dv → Th → Prop} : oIx (mk x) (.int 1) E θ R = R (.tup (x.2.map fun p => .int (p : Nat))) θ := (rfl)
end Sp

/-! Sp3: words, skipped makes, drawn histories. -/
namespace Sp
open PySem PySem.Spec PyProof.Rows L2 Mn
variable {E : Exn → Th → Prop} {θ : Th} {Q : Dv → Th → Prop}
theorem x_intsP {f : List Int → MX Dv} {k : Nat} {ds : List Dv} {ns : List Int} (h : θ[k]? = some (.lst ds)) (hn : intsD ds = some ns) : onInts f (.obj k) E θ Q = f ns E θ Q := by
  unfold onInts
  simp only [h, hn]
theorem flat_ints (l : List Nat) : (l.map fun p => Dv.int (p : Nat)).all isFlat = true := by
  rw [List.all_map, List.all_eq_true]
  intro x _
  rfl
theorem inF_ints {v : Nat} (l : List Nat) : inF (.int v) (l.map fun p => Dv.int (p : Nat)) = decide (v ∈ l) := by
  unfold inF
  rw [List.any_map, Bool.eq_iff_iff, List.any_eq_true, decide_eq_true_eq]
  constructor
  · rintro ⟨x, hx, e⟩
    have : ((x : Int) == (v : Int)) = true := e
    have := eq_of_beq this
    have : x = v := by omega
    rw [← this]
    exact hx
  · exact fun h => ⟨v, h, by show ((v : Int) == (v : Int)) = true; simp⟩
theorem notin_ints {v k : Nat} {l : List Nat} (h : θ[k]? = some (.lst (l.map fun p => Dv.int (p : Nat)))) (hq : Q (.bl (!decide (v ∈ l))) θ) : oNotIn (.int v) (.obj k) E θ Q := by
  unfold oNotIn inO
  simp only [h]
  exact .inl ⟨flat_ints l, rfl, by rw [inF_ints]; exact hq⟩
theorem notin_intsT {v : Nat} {l : List Nat} (hq : Q (.bl (!decide (v ∈ l))) θ) : oNotIn (.int v) (.tup (l.map fun p => Dv.int (p : Nat))) E θ Q := by
  unfold oNotIn inO
  exact ⟨⟨rfl, flat_ints l⟩, by rw [inF_ints]; exact hq⟩
/-! the end with the box -/
theorem flat_ints' (l : List Int) : Flat (l.map Dv.int) := flat_map (fun _ => rfl) l
theorem bx_clo (ds : List Int) (a : Nat) : Clo (bx ds a) := by
  intro o ho
  rcases List.mem_cons.mp ho with rfl | ho
  · exact lows_mono (Nat.zero_le _) (flat_ints' ds)
  · obtain rfl := List.mem_singleton.mp ho
    rfl
theorem end_bx {ds : List Int} {a a' : Nat} {g : Th} {d : Dv} (hd : ∀ n, d.low n = true) (h : Q d (bx ds a')) : endQ (bx ds a) Q d (bx ds a' ++ g) :=
  .inr ⟨bx ds a', g, rfl, Nat.le_refl _, fun _ => ⟨bx_clo ds a', hd _⟩, h⟩
theorem low_nats (l : List Nat) (n : Nat) : (Dv.tup (l.map fun p => Dv.int (p : Nat))).low n = true := flat_low (flat_map (fun _ => rfl) l) n
/-! words -/
theorem letters : (("abcdefghijklmnopqrstuvwxyz" : Str)).cps.toList = (List.range 26).map (97 + ·) := by decide +kernel
end Sp

/-! Sp4: drawn histories. -/
namespace Sp
open PySem PySem.Spec PyProof.Rows L2 Mn
variable {E : Exn → Th → Prop} {θ : Th} {Q : Dv → Th → Prop}
abbrev nd (l : List Nat) : List Dv := l.map fun p => Dv.int (p : Nat)
def pl (n : Nat) : List Dv := (List.range n).map fun j => Dv.obj (j + 3)
def hsX (n : Nat) (P : Nat → List Nat) (g : Th) : Th := .lst (pl n) :: ((List.range n).map (fun j => Ob.lst (nd (P j))) ++ g)
def setP (P : Nat → List Nat) (j : Nat) (xs : List Nat) : Nat → List Nat := fun i => if i = j then xs else P i
section
variable {ds : List Int} {a n j : Nat} {P : Nat → List Nat} {g : Th}
theorem hs2 : (bx ds a ++ hsX n P g)[2]? = some (.lst (pl n)) := rfl
end
structure G (n i : Nat) (P : Nat → List Nat) : Prop where
  nd : ∀ j, j < n → (P j).Nodup
  lt : ∀ j p, j < n → p ∈ P j → p < j ∧ p < i
  l3 : ∀ j, j < n → (P j).length ≤ 3
  l2 : ∀ j, j < n → i < j → (P j).length ≤ 2
  up : ∀ k, k < i → ∃ j, j < n ∧ k ∈ P j
theorem G.step {n i c : Nat} {P : Nat → List Nat} (g : G n i P) (h1 : i < c) (h2 : c < n) (h3 : (P c).length ≤ 1 ∨ c = i + 1) : G n (i + 1) (setP P c (P c ++ [i])) := by
  have hc : (P c).length ≤ 2 := g.l2 c h2 h1
  refine ⟨fun j hj => ?_, fun j p hj hp => ?_, fun j hj => ?_, fun j hj h => ?_, fun k hk => ?_⟩
  · unfold setP
    by_cases e : j = c
    · rw [if_pos e, List.nodup_append]
      exact ⟨g.nd c h2, by simp, fun x hx y hy e => by
        have := (g.lt c x h2 hx).2
        simp at hy
        omega⟩
    · rw [if_neg e]; exact g.nd j hj
  · unfold setP at hp
    by_cases e : j = c
    · rw [if_pos e] at hp
      rcases List.mem_append.mp hp with hp | hp
      · have := g.lt c p h2 hp; omega
      · simp at hp; omega
    · rw [if_neg e] at hp
      have := g.lt j p hj hp; omega
  · unfold setP
    by_cases e : j = c
    · rw [if_pos e, List.length_append, List.length_singleton]; omega
    · rw [if_neg e]; exact g.l3 j hj
  · unfold setP
    by_cases e : j = c
    · rw [if_pos e, List.length_append, List.length_singleton]
      rcases h3 with h3 | h3 <;> omega
    · rw [if_neg e]; exact g.l2 j hj (by omega)
  · by_cases e : k = i
    · exact ⟨c, h2, by unfold setP; rw [if_pos rfl, e]; simp⟩
    · obtain ⟨j, hj, hm⟩ := g.up k (by omega)
      refine ⟨j, hj, ?_⟩
      unfold setP
      by_cases e : j = c
      · rw [if_pos e, List.mem_append]; rw [e] at hm; exact .inl hm
      · rw [if_neg e]; exact hm
structure G2 (n : Nat) (P : Nat → List Nat) : Prop where
  nd : ∀ j, j < n → (P j).Nodup
  lt : ∀ j p, j < n → p ∈ P j → p < j
  l4 : ∀ j, j < n → (P j).length ≤ 4
  up : ∀ k, k + 1 < n → ∃ j, j < n ∧ k ∈ P j
theorem G2.step {n c p : Nat} {P : Nat → List Nat} (g : G2 n P) (h1 : p < c) (h2 : c < n) (h3 : (P c).length < 4) (h4 : p ∉ P c) : G2 n (setP P c (P c ++ [p])) := by
  refine ⟨fun j hj => ?_, fun j q hj hp => ?_, fun j hj => ?_, fun k hk => ?_⟩
  · unfold setP
    by_cases e : j = c
    · rw [if_pos e, List.nodup_append]
      exact ⟨g.nd c h2, by simp, fun x hx y hy e => by
        simp at hy
        subst hy
        subst e
        exact h4 hx⟩
    · rw [if_neg e]; exact g.nd j hj
  · unfold setP at hp
    by_cases e : j = c
    · rw [if_pos e] at hp
      rcases List.mem_append.mp hp with hp | hp
      · have := g.lt c q h2 hp; omega
      · simp at hp; omega
    · rw [if_neg e] at hp
      exact g.lt j q hj hp
  · unfold setP
    by_cases e : j = c
    · rw [if_pos e, List.length_append, List.length_singleton]; omega
    · rw [if_neg e]; exact g.l4 j hj
  · obtain ⟨j, hj, hm⟩ := g.up k (by omega)
    refine ⟨j, hj, ?_⟩
    unfold setP
    by_cases e : j = c
    · rw [if_pos e, List.mem_append]; rw [e] at hm; exact .inl hm
    · rw [if_neg e]; exact hm
def srt (l : List Nat) : List Nat := (PySem.W.sortI (l.map fun p : Nat => (p : Int))).map Int.toNat
theorem mk_low (x : Str × List Nat) (n : Nat) : (mk x).low n = true := by
  have h := low_nats x.2 n
  unfold mk Dv.low Dv.lows Dv.lows
  rw [h]
  rfl
theorem hD_low (h : Hist) (n : Nat) : (hD h).low n = true := by
  have e : ∀ l : List (Str × List Nat), Dv.lows n (l.map mk) = true := by
    intro l
    induction l with
    | nil => rfl
    | cons x l ih =>
      rw [List.map_cons]
      unfold Dv.lows
      rw [mk_low, ih]
      rfl
  have e2 : (Dv.tup (h.map mk)).low n = true := by
    unfold Dv.low
    exact e h
  unfold hD Dv.low Dv.lows Dv.lows
  rw [e2]
  rfl
end Sp

/-! Sp5: the program's offspring. -/
namespace Sp
open PySem PySem.Spec PyProof.Rows L2 Mn
variable {E : Exn → Th → Prop} {θ : Th} {ρ : DEnv} {Q : Dv → Th → Prop}
def dict1K (x y : Dv) (k : Nat) (θ2 : Th) (Q : Dv → Th → Prop) : Prop := match fKey x with
  | some q => Q (.obj k) (θ2.set k (.dK [(q, y)]))
  | none => False
theorem x_dict1 {a b : ME} : mDict1 a b ρ E θ Q = a ρ E (θ ++ [.dK []]) fun x θ1 => b ρ E θ1 fun y θ2 => θ2[θ.length]? = some (.dK []) ∧ dict1K x y θ.length θ2 Q := (rfl)
theorem x_dict1K {i : Int} {y : Dv} {k : Nat} : dict1K (.int i) y k θ Q = Q (.obj k) (θ.set k (.dK [(.inl i, y)])) := (rfl)
theorem en_at {ds : List Dv} {i : Nat} {d : Dv} (h : ds[i]? = some d) : (Src.en (.T ds)).at θ i = some (some (.tup [.int (i : Nat), d])) := by
  have := (List.getElem?_eq_some_iff.mp h).1
  simp only [Src.at, Sd.items, enAt, if_pos (Nat.le_of_lt this), h, Option.map_some]
theorem en_end {ds : List Dv} : (Src.en (.T ds)).at θ ds.length = some none := by
  simp only [Src.at, Sd.items, enAt, if_pos (Nat.le_refl _), List.getElem?_eq_none (Nat.le_refl _), Option.map_none]
theorem sdT_at {ds : List Dv} {i : Nat} {d : Dv} (h : ds[i]? = some d) : (Src.sd (.T ds)).at θ i = some (some d) := by
  simp only [Src.at, Sd.items, Option.map_some, h]
theorem sdT_end {ds : List Dv} : (Src.sd (.T ds)).at θ ds.length = some none := by
  simp only [Src.at, Sd.items, Option.map_some, List.getElem?_eq_none (Nat.le_refl _)]
theorem bools_of (l : List Bool) : boolsD (l.map Dv.bl) = some l := by
  induction l with
  | nil => rfl
  | cons p l ih =>
    show (boolsD (l.map Dv.bl)).map (p :: ·) = _
    rw [ih]
    rfl
theorem x_boolsP {f : List Bool → MX Dv} {k : Nat} {ds : List Dv} {ns : List Bool} (h : θ[k]? = some (.lst ds)) (hn : boolsD ds = some ns) : onBools f (.obj k) E θ Q = f ns E θ Q := by
  unfold onBools
  simp only [h, hn]
theorem x_anyL {bs : List Bool} : anyL bs E θ Q = Q (.bl (bs.any id)) θ := (rfl)
/-! dicts of ints -/
def kd (ks : List Nat) : List (Key × Dv) := ks.map fun j : Nat => ((.inl (j : Int) : Key), Dv.bl true)
theorem kd_look {ks : List Nat} {p : Nat} : (lookD (kd ks) (.inl (p : Int))).isSome = decide (p ∈ ks) := by
  unfold lookD kd
  rw [Option.isSome_map, Bool.eq_iff_iff, List.find?_isSome, decide_eq_true_eq]
  constructor
  · rintro ⟨x, hx, e⟩
    obtain ⟨j, hj, rfl⟩ := List.mem_map.mp hx
    have e := of_decide_eq_true e
    have : (j : Int) = (p : Int) := Sum.inl.inj e
    have : j = p := by omega
    rw [← this]
    exact hj
  · exact fun h => ⟨(.inl (p : Int), .bl true), List.mem_map.mpr ⟨p, h, rfl⟩, by simp⟩
theorem kd_put {ks : List Nat} {p : Nat} (h : p ∉ ks) : putD (kd ks) (.inl (p : Int)) (.bl true) = kd (ks ++ [p]) := by
  unfold putD
  rw [if_neg]
  · unfold kd
    rw [List.map_append]
    rfl
  · intro e
    rw [List.any_eq_true] at e
    obtain ⟨x, hx, e⟩ := e
    unfold kd at hx
    obtain ⟨j, hj, rfl⟩ := List.mem_map.mp hx
    have e := of_decide_eq_true e
    have : (j : Int) = (p : Int) := Sum.inl.inj e
    have : j = p := by omega
    exact h (this ▸ hj)
theorem in_kd {p k : Nat} {ks : List Nat} (h : θ[k]? = some (.dK (kd ks))) (hq : Q (.bl (decide (p ∈ ks))) θ) : oIn (.int p) (.obj k) E θ Q := by
  unfold oIn inO
  simp only [h, fKey, kd_look]
  exact hq
/-! ancestors from the other side -/
theorem Anc.head {h : Hist} {i m : Nat} : Anc h i m ↔ m = i ∨ ∃ p, p ∈ par h i ∧ Anc h p m := by
  constructor
  · intro r
    induction r with
    | self => exact .inl rfl
    | @step k p r _ h2 ih =>
      rcases ih with rfl | ⟨q, hq, ih⟩
      · exact .inr ⟨p, h2, .self⟩
      · exact .inr ⟨q, hq, .step ih (Nat.zero_le _) h2⟩
  · rintro (rfl | ⟨p, hp, r⟩)
    · exact .self
    · induction r with
      | self => exact .step .self (Nat.zero_le _) hp
      | step r h1 h2 ih => exact .step ih (Nat.zero_le _) h2
noncomputable def offs (h : Hist) (m : Nat) : List Nat := (List.range h.length).filter fun j => anc h j m
theorem offs_keys {h : Hist} {m : Nat} (a : Ahead h) : ∀ n, m < n → m :: ((List.range n).filter fun j => decide (m < j) && anc h j m) = (List.range n).filter fun j => anc h j m := by
  have e0 : ∀ n, n ≤ m → ((List.range n).filter fun j => anc h j m) = [] ∧ ((List.range n).filter fun j => decide (m < j) && anc h j m) = [] := by
    intro n hn
    constructor
    · rw [List.filter_eq_nil_iff]
      intro j hj
      rw [List.mem_range] at hj
      rw [anc_iff]
      intro r
      have := Rc.le a r
      omega
    · rw [List.filter_eq_nil_iff]
      intro j hj
      rw [List.mem_range] at hj
      simp
      omega
  intro n
  induction n with
  | zero => intro h; omega
  | succ n ih =>
    intro hm
    rw [List.range_succ, List.filter_append, List.filter_append]
    by_cases e : n = m
    · subst e
      rw [(e0 n (Nat.le_refl _)).1, (e0 n (Nat.le_refl _)).2]
      have : anc h n n = true := anc_iff.mpr .self
      simp [this]
    · have : decide (m < n) = true := decide_eq_true (by omega)
      have e3 : List.filter (fun j => decide (m < j) && anc h j m) [n] = List.filter (fun j => anc h j m) [n] := by simp [List.filter_cons, this]
      rw [← ih (by omega), List.cons_append, e3]
theorem keys_iff {h : Hist} {i m : Nat} (a : Ahead h) : (∃ p, p ∈ par h i ∧ p ∈ m :: ((List.range i).filter fun j => decide (m < j) && anc h j m)) ↔ m < i ∧ Anc h i m := by
  constructor
  · rintro ⟨p, hp, hk⟩
    have := a _ _ hp
    rcases List.mem_cons.mp hk with rfl | hk
    · exact ⟨this, Anc.head.mpr (.inr ⟨p, hp, .self⟩)⟩
    · rw [List.mem_filter, Bool.and_eq_true, decide_eq_true_eq, anc_iff] at hk
      exact ⟨by omega, Anc.head.mpr (.inr ⟨p, hp, hk.2.2⟩)⟩
  · rintro ⟨hm, r⟩
    rcases Anc.head.mp r with e | ⟨p, hp, r⟩
    · omega
    · refine ⟨p, hp, ?_⟩
      have h1 := a _ _ hp
      have h2 := Rc.le a r
      by_cases e : p = m
      · rw [e]; exact List.mem_cons_self
      · refine List.mem_cons_of_mem _ ?_
        rw [List.mem_filter, Bool.and_eq_true, decide_eq_true_eq, anc_iff, List.mem_range]
        exact ⟨h1, by omega, r⟩
theorem nd_keys (ks : List Nat) : (kd ks).map (fun kv => keyD kv.1) = nd ks := by
  unfold kd
  rw [List.map_map]
  rfl
theorem s_offspring {h : Hist} {m : Nat} (a : Ahead h) (hm : m < h.length) (hl : h.length ≤ 1000) (hw : ∀ k, (par h k).length ≤ 1000) (hQ : Q (.tup (nd (offs h m))) θ) : Cm.c_offspring [hD h, .int m] E θ Q := by
  unfold Cm.c_offspring Cm.m_offspring
  simp only [mxAN, List.map_cons, List.map_nil, List.replicate, List.cons_append, List.nil_append, List.set_cons_zero, List.set_cons_succ, wipeE, x_dict1, x_dict1K, x_h1]
  refine ⟨by simp, ?_⟩
  rw [th_app, x_seqN]
  simp only [mxAN, List.map_cons, List.map_nil, List.replicate, List.cons_append, List.nil_append, List.set_cons_zero, List.set_cons_succ, wipeE, x_h1]
  have el : (h.map mk).length = h.length := by simp
  rw [← el] at hl
  refine for_rule (h.map mk).length (fun i ρ θ' => ∃ x3 x4 x5 x6 g, ρ = [some (hD h), some (.int m), some (.obj θ.length), x3, x4, x5, x6] ∧ θ' = θ ++ .dK (kd (m :: ((List.range i).filter fun j => decide (m < j) && anc h j m))) :: g) ⟨none, none, none, none, [], rfl, rfl⟩ ?_ ?_
  · rintro i ρ θ' hi ⟨x3, x4, x5, x6, g, rfl, rfl⟩
    rw [el] at hi
    refine ⟨_, [some (hD h), some (.int m), some (.obj θ.length), some (.int i), some (.str h[i].1), some (.tup (nd (par h i))), x6], en_at (d := mk h[i]) (by simp [hi]), ?_, fun K LK => ?_⟩
    · rw [← par_get hi]; rfl
    · generalize hks : (m :: ((List.range i).filter fun j => decide (m < j) && anc h j m)) = ks
      simp only [mxAN, List.map_cons, List.map_nil, List.replicate, List.cons_append, List.nil_append, List.set_cons_zero, List.set_cons_succ, wipeE]
      refine lc_pure (θ0 := θ ++ .dK (kd ks) :: g) (par h i).length (fun _ => true) (fun t => .bl (decide ((par h i).getD t 0 ∈ ks))) (by rw [sizeLine_eq]; have := hw i; omega) ?_ ?_ ?_
      · intro t acc g' ht
        have e1 : (nd (par h i))[t]? = some (.int ((par h i)[t] : Nat)) := by simp [ht]
        refine ⟨_, _, sdT_at e1, rfl, fun K2 hK => ?_⟩
        simp only [mxA, List.map_cons, List.map_nil, List.replicate, List.cons_append, List.nil_append, List.set_cons_zero, List.set_cons_succ]
        refine hK g' fun _ K3 h2 => ?_
        simp only [mxAN, List.map_cons, List.map_nil, List.replicate, List.cons_append, List.nil_append, List.set_cons_zero, List.set_cons_succ]
        refine in_kd (ks := ks) (th_left th_mid) ?_
        have e2 : (par h i).getD t 0 = (par h i)[t] := by simp [List.getD, ht]
        rw [e2] at h2
        exact h2 g'
      · intro acc g'
        have e : (nd (par h i)).length = (par h i).length := by simp
        rw [← e]
        exact sdT_end
      · intro g'
        have e3 : ((List.range (par h i).length).filter fun _ => true).map (fun t => Dv.bl (decide ((par h i).getD t 0 ∈ ks))) = ((List.range (par h i).length).map fun t => decide ((par h i).getD t 0 ∈ ks)).map Dv.bl := by
          rw [List.filter_eq_self.mpr fun _ _ => rfl, List.map_map]
          rfl
        rw [e3, x_boolsP th_mid (bools_of _), x_anyL, x_boolK]
        have e4 : (((List.range (par h i).length).map fun t => decide ((par h i).getD t 0 ∈ ks)).any id = true) ↔ (m < i ∧ Anc h i m) := by
          rw [← keys_iff a, hks, List.any_map, List.any_eq_true]
          constructor
          · rintro ⟨t, ht, hd⟩
            rw [List.mem_range] at ht
            have e2 : (par h i).getD t 0 = (par h i)[t] := by simp [List.getD, ht]
            have hd : decide ((par h i).getD t 0 ∈ ks) = true := hd
            rw [e2] at hd
            exact ⟨_, List.getElem_mem ht, of_decide_eq_true hd⟩
          · rintro ⟨p, hp, hk⟩
            obtain ⟨t, ht, e⟩ := List.mem_iff_getElem.mp hp
            refine ⟨t, List.mem_range.mpr ht, ?_⟩
            have e2 : (par h i).getD t 0 = p := by simp [List.getD, ht, e]
            show decide ((par h i).getD t 0 ∈ ks) = true
            rw [e2]
            exact decide_eq_true hk
        by_cases c : m < i ∧ Anc h i m
        · rw [if_pos (e4.mpr c), th_left th_mid]
          have hni : i ∉ ks := by
            rw [← hks]
            intro hmem
            rcases List.mem_cons.mp hmem with e | hmem
            · omega
            · rw [List.mem_filter, List.mem_range] at hmem
              omega
          rw [x_putKK, kd_put hni, List.append_assoc, List.cons_append, th_set_mid]
          have e5 : (List.range i).filter (fun j => decide (m < j) && anc h j m) ++ [i] = (List.range (i + 1)).filter (fun j => decide (m < j) && anc h j m) := by
            rw [List.range_succ, List.filter_append]
            simp [decide_eq_true c.1, anc_iff.mpr c.2]
          have e7 : ks ++ [i] = m :: (List.range (i + 1)).filter (fun j => decide (m < j) && anc h j m) := by
            rw [← hks, List.cons_append, e5]
          rw [e7]
          refine ⟨?_, LK.nx _ _ ⟨_, rfl, _, _, _, _, _, rfl, rfl⟩⟩
          · rw [← hks]
            unfold kd
            rw [List.length_map, List.length_cons, sizeLine_eq]
            have := List.length_filter_le (fun j => decide (m < j) && anc h j m) (List.range i)
            rw [List.length_range] at this
            omega
        · rw [if_neg (fun z => c (e4.mp z))]
          rw [List.append_assoc, List.cons_append]
          have e5 : (List.range (i + 1)).filter (fun j => decide (m < j) && anc h j m) = (List.range i).filter (fun j => decide (m < j) && anc h j m) := by
            rw [List.range_succ, List.filter_append]
            have e6 : List.filter (fun j => decide (m < j) && anc h j m) [i] = [] := by
              rw [List.filter_eq_nil_iff]
              intro j hj
              obtain rfl := List.mem_singleton.mp hj
              rw [Bool.and_eq_true, decide_eq_true_eq, anc_iff]
              exact c
            rw [e6, List.append_nil]
          rw [← hks, ← e5]
          exact LK.nx _ _ ⟨_, rfl, _, _, _, _, _, rfl, rfl⟩
  · rintro ρ θ' ⟨x3, x4, x5, x6, g, rfl, rfl⟩
    refine ⟨en_end, ?_⟩
    rw [x_seqN, el, offs_keys a _ hm]
    simp only [mxAN, List.map_cons, List.map_nil, List.replicate, List.cons_append, List.nil_append, List.set_cons_zero, List.set_cons_succ, th_mid]
    rw [nd_keys]
    exact end_drop hQ fun n => low_nats _ n
end Sp

/-! Sp6: the program's small questions, tests, check_skipped. -/
namespace Sp
open PySem PySem.Spec PyProof.Rows L2 Mn
variable {E : Exn → Th → Prop} {θ : Th} {ρ : DEnv} {Q : Dv → Th → Prop}
/-- data that are looked at -/
inductive Plain (θ : Th) : Dv → Prop where
  | non : Plain θ .non
  | bl (b : Bool) : Plain θ (.bl b)
  | int (i : Int) : Plain θ (.int i)
  | str (s : Str) : Plain θ (.str s)
  | tup (ds : List Dv) : Plain θ (.tup ds)
  | lst (k : Nat) (ds : List Dv) (h : θ[k]? = some (.lst ds)) : Plain θ (.obj k)
theorem s_tests {h : Hist} {sk : List Nat} (hl : h.length ≤ 1000) (hQ : Q (.tup (nd ((List.range (h.length - 1)).filter fun m => !decide (m ∈ sk)))) θ) : Cm.c_tests [hD h, .tup (nd sk)] E θ Q := by
  unfold Cm.c_tests Cm.m_tests
  simp only [mxA, List.map_cons, List.map_nil, List.replicate, List.cons_append, List.nil_append, List.set_cons_zero, List.set_cons_succ, x_h1, List.length_map, wipeE]
  refine ⟨⟨by omega, by omega⟩, ?_⟩
  have en : ((h.length : Int) - 1).toNat = h.length - 1 := by omega
  rw [en]
  refine lc_pure (h.length - 1) (fun m => !decide (m ∈ sk)) (fun m => .int (m : Nat)) (by rw [sizeLine_eq]; omega) ?_ ?_ ?_
  · intro i acc g hi
    have e : (0 : Int) + (i : Nat) * 1 = ((i : Nat) : Int) := by omega
    refine ⟨.int (i : Nat), _, by rw [rng_at hi, e], rfl, fun K hK => ?_⟩
    simp only [mxA, List.map_cons, List.map_nil, List.replicate, List.cons_append, List.nil_append, List.set_cons_zero, List.set_cons_succ]
    refine notin_intsT ?_
    rw [x_boolK]
    refine hK g fun _ K2 h2 => ?_
    simp only [mxA, List.map_cons, List.map_nil, List.replicate, List.cons_append, List.nil_append, List.set_cons_zero, List.set_cons_succ]
    exact h2 g
  · intro acc g
    exact rng_end
  · intro g
    rw [th_mid, x_tupL]
    exact end_drop hQ fun n => low_nats _ n
/-! rows of ints -/
theorem intsD_map (ns : List Int) : intsD (ns.map Dv.int) = some ns := by
  induction ns with
  | nil => rfl
  | cons n ns ih =>
    show (intsD (ns.map Dv.int)).map (n :: ·) = _
    rw [ih]
    rfl
theorem zp_at {ds es : List Dv} {i : Nat} {d e : Dv} (h1 : ds[i]? = some d) (h2 : es[i]? = some e) : (Src.zp (.T ds) (.T es)).at θ i = some (some (.tup [d, e])) := by
  have := (List.getElem?_eq_some_iff.mp h1).1
  have := (List.getElem?_eq_some_iff.mp h2).1
  simp only [Src.at, Sd.items, zpAt, if_pos (show i < min ds.length es.length by omega), h1, h2, pairO]
theorem zp_end {ds es : List Dv} {n : Nat} (h : n = min ds.length es.length) : (Src.zp (.T ds) (.T es)).at θ n = some none := by
  subst h
  simp only [Src.at, Sd.items, zpAt, if_neg (Nat.lt_irrefl _), if_true]
/-- each less than the next -/
def asc (ns : List Int) : Bool := ((List.range (ns.length - 1)).map fun i => decide (ns.getD i 0 < ns.getD (i + 1) 0)).all id
end Sp

/-! Sp7: the program's classes. -/
namespace Sp
open PySem PySem.Spec PyProof.Rows L2 Mn
variable {E : Exn → Th → Prop} {θ : Th} {ρ : DEnv} {Q : Dv → Th → Prop}
def addP (tl : Nat → List Nat) (ps : List (List Nat)) (c : Nat) : List (List Nat) :=
  if (ps.any fun p => decide (tl (p.headD 0) = tl c)) = true then ps.map (fun p => if tl (p.headD 0) = tl c then p ++ [c] else p) else ps ++ [[c]]
def cls (tl : Nat → List Nat) (n : Nat) : List (List Nat) := (List.range n).foldl (addP tl) []
theorem cls_succ (tl : Nat → List Nat) (n : Nat) : cls tl (n + 1) = addP tl (cls tl n) n := by
  unfold cls
  rw [List.range_succ, List.foldl_append]
  rfl
def kt (l : List Nat) : List Key := l.map fun m : Nat => (.inl (m : Int) : Key)
theorem tKey_nd (l : List Nat) : tKey (.tup (nd l)) = some (kt l) := by
  show allSome fKey (nd l) = _
  induction l with
  | nil => rfl
  | cons x l ih =>
    have e : nd (x :: l) = .int (x : Int) :: nd l := rfl
    rw [e]
    unfold allSome
    rw [ih]
    rfl
theorem kt_inj {l l' : List Nat} (h : kt l = kt l') : l = l' := by
  induction l generalizing l' with
  | nil => cases l' with
    | nil => rfl
    | cons y l' => cases h
  | cons x l ih => cases l' with
    | nil => cases h
    | cons y l' =>
      unfold kt at h
      rw [List.map_cons, List.map_cons] at h
      obtain ⟨h1, h2⟩ := List.cons.inj h
      have h1 : (x : Int) = (y : Int) := Sum.inl.inj h1
      rw [ih h2, show x = y by omega]
abbrev Part := List Nat × Nat
def kvT (L : Nat) (tl : Nat → List Nat) (qs : List Part) : List (List Key × Dv) := qs.map fun q => (kt (tl (q.1.headD 0)), .obj (L + 1 + q.2))
theorem kvT_look {L : Nat} {tl : Nat → List Nat} {t : List Nat} : ∀ {qs : List Part}, lookD (kvT L tl qs) (kt t) = (qs.find? fun q => decide (tl (q.1.headD 0) = t)).map fun q => .obj (L + 1 + q.2)
  | [] => rfl
  | q :: qs => by
    have ih := kvT_look (L := L) (tl := tl) (t := t) (qs := qs)
    unfold lookD kvT at ih ⊢
    rw [List.map_cons, List.find?_cons, List.find?_cons]
    by_cases e : tl (q.1.headD 0) = t
    · have e1 : decide (kt (tl (q.1.headD 0)) = kt t) = true := decide_eq_true (by rw [e])
      have e2 : decide (tl (q.1.headD 0) = t) = true := decide_eq_true e
      simp only [e1, e2]
      rfl
    · have e1 : decide (kt (tl (q.1.headD 0)) = kt t) = false := decide_eq_false (fun z => e (kt_inj z))
      have e2 : decide (tl (q.1.headD 0) = t) = false := decide_eq_false e
      simp only [e1, e2]
      exact ih
theorem kvT_put {L : Nat} {tl : Nat → List Nat} {t : List Nat} {qs : List Part} {v : Dv} (h : (qs.find? fun q => decide (tl (q.1.headD 0) = t)) = none) : putD (kvT L tl qs) (kt t) v = kvT L tl qs ++ [(kt t, v)] := by
  unfold putD
  rw [if_neg]
  intro e
  rw [List.any_eq_true] at e
  obtain ⟨x, hx, e⟩ := e
  unfold kvT at hx
  obtain ⟨q, hq, rfl⟩ := List.mem_map.mp hx
  have e := kt_inj (of_decide_eq_true e)
  exact List.find?_eq_none.mp h q hq (decide_eq_true e)
structure CI (tl : Nat → List Nat) (qs : List Part) (R : Th) : Prop where
  at' : ∀ q, q ∈ qs → q.1 ≠ [] ∧ R[q.2]? = some (.lst (nd q.1))
  nd : (qs.map (·.2)).Nodup
  kn : (qs.map fun q => tl (q.1.headD 0)).Nodup
theorem headD_snoc {p : List Nat} {c : Nat} (h : p ≠ []) : (p ++ [c]).headD 0 = p.headD 0 := by
  cases p with
  | nil => exact absurd rfl h
  | cons x p => rfl
def upP (tl : Nat → List Nat) (c : Nat) (q : Part) : Part := if tl (q.1.headD 0) = tl c then (q.1 ++ [c], q.2) else q
theorem upP_2 (tl : Nat → List Nat) (c : Nat) (q : Part) : (upP tl c q).2 = q.2 := by unfold upP; split <;> rfl
theorem upP_h (tl : Nat → List Nat) (c : Nat) (q : Part) (h : q.1 ≠ []) : (upP tl c q).1.headD 0 = q.1.headD 0 := by
  unfold upP
  split
  · exact headD_snoc h
  · rfl
theorem nodup_inj {β γ : Type} {f : β → γ} : ∀ {l : List β}, (l.map f).Nodup → ∀ x y, x ∈ l → y ∈ l → f x = f y → x = y
  | [], _, _, _, h, _, _ => by simp at h
  | z :: l, n, x, y, hx, hy, e => by
    rw [List.map_cons, List.nodup_cons] at n
    rcases List.mem_cons.mp hx with h1 | h1
    · rcases List.mem_cons.mp hy with h2 | h2
      · rw [h1, h2]
      · exact absurd (List.mem_map.mpr ⟨y, h2, by rw [← e, h1]⟩) n.1
    · rcases List.mem_cons.mp hy with h2 | h2
      · exact absurd (List.mem_map.mpr ⟨x, h1, by rw [e, h2]⟩) n.1
      · exact nodup_inj n.2 x y h1 h2 e
theorem CI.more {tl : Nat → List Nat} {qs : List Part} {R g : Th} (h : CI tl qs R) : CI tl qs (R ++ g) := ⟨fun q hq => ⟨(h.at' q hq).1, th_left (h.at' q hq).2⟩, h.nd, h.kn⟩
theorem CI.found {tl : Nat → List Nat} {qs : List Part} {R : Th} {q : Part} {c : Nat} (h : CI tl qs R) (hq : q ∈ qs) (hk : tl (q.1.headD 0) = tl c) : CI tl (qs.map (upP tl c)) (R.set q.2 (.lst (Sp.nd (q.1 ++ [c])))) := by
  refine ⟨fun q' hq' => ?_, ?_, ?_⟩
  · obtain ⟨u, hu, rfl⟩ := List.mem_map.mp hq'
    have hu0 := h.at' u hu
    unfold upP
    by_cases e : tl (u.1.headD 0) = tl c
    · rw [if_pos e]
      have : u = q := nodup_inj h.kn u q hu hq (e.trans hk.symm)
      subst this
      exact ⟨by simp, List.getElem?_set_self (List.getElem?_eq_some_iff.mp hu0.2).1⟩
    · rw [if_neg e]
      refine ⟨hu0.1, ?_⟩
      rw [List.getElem?_set_ne]
      · exact hu0.2
      · intro z
        have : q = u := nodup_inj h.nd q u hq hu z
        subst this
        exact e hk
  · rw [List.map_map]
    have : qs.map ((·.2) ∘ upP tl c) = qs.map (·.2) := List.map_congr_left fun u _ => upP_2 tl c u
    rw [this]
    exact h.nd
  · rw [List.map_map]
    have : qs.map ((fun q => tl (q.1.headD 0)) ∘ upP tl c) = qs.map fun q => tl (q.1.headD 0) := List.map_congr_left fun u hu => by
      show tl ((upP tl c u).1.headD 0) = _
      rw [upP_h tl c u (h.at' u hu).1]
    rw [this]
    exact h.kn
theorem CI.new {tl : Nat → List Nat} {qs : List Part} {R : Th} {c : Nat} (h : CI tl qs R) (hk : (qs.find? fun q => decide (tl (q.1.headD 0) = tl c)) = none) : CI tl (qs ++ [([c], R.length)]) (R ++ [.lst (Sp.nd [c])]) := by
  refine ⟨fun q hq => ?_, ?_, ?_⟩
  · rcases List.mem_append.mp hq with hq | hq
    · exact ⟨(h.at' q hq).1, th_left (h.at' q hq).2⟩
    · obtain rfl := List.mem_singleton.mp hq
      exact ⟨by simp, th_last⟩
  · rw [List.map_append, List.nodup_append]
    refine ⟨h.nd, by simp, fun a ha b hb e => ?_⟩
    simp at hb
    obtain ⟨q, hq, rfl⟩ := List.mem_map.mp ha
    have := (List.getElem?_eq_some_iff.mp (h.at' q hq).2).1
    omega
  · rw [List.map_append, List.nodup_append]
    refine ⟨h.kn, by simp, fun a ha b hb e => ?_⟩
    simp at hb
    obtain ⟨q, hq, rfl⟩ := List.mem_map.mp ha
    exact List.find?_eq_none.mp hk q hq (decide_eq_true (by rw [e, hb]))
theorem addP_found {tl : Nat → List Nat} {qs : List Part} {q : Part} {c : Nat} (hq : q ∈ qs) (hk : tl (q.1.headD 0) = tl c) : addP tl (qs.map (·.1)) c = (qs.map (upP tl c)).map (·.1) := by
  unfold addP
  rw [if_pos, List.map_map, List.map_map]
  · apply List.map_congr_left
    intro u _
    show (if tl (u.1.headD 0) = tl c then u.1 ++ [c] else u.1) = (upP tl c u).1
    unfold upP
    split <;> rfl
  · rw [List.any_eq_true]
    exact ⟨q.1, List.mem_map.mpr ⟨q, hq, rfl⟩, decide_eq_true hk⟩
theorem addP_new {tl : Nat → List Nat} {qs : List Part} {c j : Nat} (hk : (qs.find? fun q => decide (tl (q.1.headD 0) = tl c)) = none) : addP tl (qs.map (·.1)) c = (qs ++ [([c], j)]).map (·.1) := by
  unfold addP
  rw [if_neg, List.map_append]
  · rfl
  · intro e
    rw [List.any_eq_true] at e
    obtain ⟨p, hp, e⟩ := e
    obtain ⟨q, hq, rfl⟩ := List.mem_map.mp hp
    exact List.find?_eq_none.mp hk q hq e
theorem x_lock {i k : Nat} {m : ME} {o f : Ob} (h1 : ρ.getD i none = some (.obj k)) (h2 : θ[k]? = some o) (h3 : lockOb o = some f) (hq : m ρ E (θ.set k f) fun d θ' => θ'[k]? = some f ∧ Q d (θ'.set k o)) : mLock i m ρ E θ Q := by
  unfold mLock
  simp only [h1, h2, h3]
  exact hq
theorem x_dT : mDT ρ E θ Q = Q (.obj θ.length) (θ ++ [.dT []]) := (rfl)
theorem th_off {o : Ob} {R : Th} {j : Nat} : (θ ++ o :: R)[θ.length + 1 + j]? = R[j]? := by
  rw [List.getElem?_append_right (by omega), show θ.length + 1 + j - θ.length = j + 1 by omega, List.getElem?_cons_succ]
theorem th_set_off {o o' : Ob} {R : Th} {j : Nat} : (θ ++ o :: R).set (θ.length + 1 + j) o' = θ ++ o :: R.set j o' := by
  rw [List.set_append_right _ _ (by omega), show θ.length + 1 + j - θ.length = j + 1 by omega, List.set_cons_succ]
noncomputable def tell (h : Hist) (sk : List Nat) (c : Nat) : List Nat := (offs h c).filter fun m => !decide (m ∈ sk)
theorem x_vals {a : ME} {R : Src → Th → Prop} : srcVals a ρ E θ R = a ρ E θ fun d θ1 => vk d E θ1 R := (rfl)
def vkK (o : Option Ob) (k : Nat) (θ : Th) (R : Src → Th → Prop) : Prop := match o with
  | some (.dKf _) => R (.vals k) θ
  | some (.dTf _) => R (.vals k) θ
  | _ => False
theorem x_vkP {k : Nat} {R : Src → Th → Prop} : vk (.obj k) E θ R = vkK θ[k]? k θ R := (rfl)
theorem x_vkT {k : Nat} {kvs : List (List Key × Dv)} {R : Src → Th → Prop} : vkK (some (.dTf kvs)) k θ R = R (.vals k) θ := (rfl)
theorem setd_new {k : Nat} {kvs : List (List Key × Dv)} {y z : Dv} {t : List Key} (h : θ[k]? = some (.dT kvs)) (ht : tKey y = some t) (hl : kvs.length < sizeLine) (hn : lookD kvs t = none) (hq : Q z (θ.set k (.dT (putD kvs t z)))) : setdD (.obj k) [y, z] E θ Q := by
  unfold setdD
  simp only [h, ht, hn]
  exact ⟨hl, hq⟩
theorem setd_old {k : Nat} {kvs : List (List Key × Dv)} {y z v : Dv} {t : List Key} (h : θ[k]? = some (.dT kvs)) (ht : tKey y = some t) (hl : kvs.length < sizeLine) (hn : lookD kvs t = some v) (hq : Q v θ) : setdD (.obj k) [y, z] E θ Q := by
  unfold setdD
  simp only [h, ht, hn]
  exact ⟨hl, hq⟩
theorem addP_len (tl : Nat → List Nat) (ps : List (List Nat)) (c : Nat) : (addP tl ps c).length ≤ ps.length + 1 := by
  unfold addP
  split <;> simp
theorem cls_len (tl : Nat → List Nat) : ∀ n, (cls tl n).length ≤ n
  | 0 => Nat.le_refl _
  | n + 1 => by
    rw [cls_succ]
    have := addP_len tl (cls tl n) n
    have := cls_len tl n
    omega
theorem addP_part (tl : Nat → List Nat) (ps : List (List Nat)) (c b : Nat) (h : ∀ p, p ∈ ps → p.length ≤ b) : ∀ p, p ∈ addP tl ps c → p.length ≤ b + 1 := by
  intro p hp
  unfold addP at hp
  split at hp
  · obtain ⟨q, hq, rfl⟩ := List.mem_map.mp hp
    have := h q hq
    split <;> simp <;> omega
  · rcases List.mem_append.mp hp with hp | hp
    · have := h p hp; omega
    · obtain rfl := List.mem_singleton.mp hp
      simp
theorem cls_part (tl : Nat → List Nat) : ∀ n p, p ∈ cls tl n → p.length ≤ n
  | 0, p, h => by simp [cls] at h
  | n + 1, p, h => by
    rw [cls_succ] at h
    exact addP_part tl _ n n (cls_part tl n) p h
def rows (ps : List (List Nat)) : Dv := .tup (ps.map fun p => .tup (nd p))
theorem rows_low (ps : List (List Nat)) (n : Nat) : (rows ps).low n = true := by
  unfold rows Dv.low
  induction ps with
  | nil => rfl
  | cons p ps ih =>
    rw [List.map_cons]
    unfold Dv.lows
    rw [ih, low_nats]
    rfl
theorem filt_range (l : List Nat) (p : Nat → Bool) : ((List.range l.length).filter fun t => p (l.getD t 0)).map (fun t => l.getD t 0) = l.filter p := by
  have e : (List.range l.length).map (fun t => l.getD t 0) = l := by
    apply List.ext_getElem?
    intro i
    by_cases hi : i < l.length
    · simp [hi, List.getD]
    · rw [List.getElem?_eq_none (by simp; omega), List.getElem?_eq_none (by omega)]
  conv => rhs; rw [← e]
  rw [List.filter_map]
  rfl
/-- a row of makes, whatever it is, that knows what is not in it -/
def NinS (d : Dv) (sk : List Nat) : Prop := ∀ {E : Exn → Th → Prop} {θ : Th} {R : Dv → Th → Prop} {v : Nat}, R (.bl (!decide (v ∈ sk))) θ → oNotIn (.int v) d E θ R
theorem s_classesD {h : Hist} {sk : List Nat} {d : Dv} (hd : NinS d sk) (a : Ahead h) (hl : h.length ≤ 1000) (hw : ∀ k, (par h k).length ≤ 1000) (hQ : Q (rows (cls (tell h sk) h.length)) θ) : Cm.c_classes [hD h, d] E θ Q := by
  unfold Cm.c_classes Cm.m_classes
  simp only [mxAN, List.map_cons, List.map_nil, List.replicate, List.cons_append, List.nil_append, List.set_cons_zero, List.set_cons_succ, wipeE, x_dT]
  rw [x_seqN]
  simp only [mxAN, List.map_cons, List.map_nil, List.replicate, List.cons_append, List.nil_append, List.set_cons_zero, List.set_cons_succ, wipeE, x_h1, List.length_map]
  refine ⟨⟨by omega, by omega⟩, ?_⟩
  refine for_rule h.length (fun i ρ θ' => ∃ x3 x4 x5 x6 R qs, ρ = [some (hD h), some d, some (.obj θ.length), x3, x4, x5, x6] ∧ θ' = θ ++ .dT (kvT θ.length (tell h sk) qs) :: R ∧ CI (tell h sk) qs R ∧ qs.map (·.1) = cls (tell h sk) i) ⟨none, none, none, none, [], [], rfl, rfl, ⟨fun q hq => (by simp at hq), by simp, by simp⟩, rfl⟩ ?_ ?_
  · rintro c ρ θ' hc ⟨x3, x4, x5, x6, R, qs, rfl, rfl, ci, hqs⟩
    have e : (0 : Int) + (c : Nat) * 1 = ((c : Nat) : Int) := by omega
    refine ⟨.int (c : Nat), _, by rw [show ((h.length : Nat) : Int).toNat = h.length from rfl, rng_at hc, e], rfl, fun K LK => ?_⟩
    simp only [mxAN, List.map_cons, List.map_nil, List.replicate, List.cons_append, List.nil_append, List.set_cons_zero, List.set_cons_succ, wipeE]
    refine ⟨rfl, s_offspring a hc hl hw ?_⟩
    simp only [mxAN, List.map_cons, List.map_nil, List.replicate, List.cons_append, List.nil_append, List.set_cons_zero, List.set_cons_succ, wipeE]
    refine lc_pure (offs h c).length (fun t => !decide ((offs h c).getD t 0 ∈ sk)) (fun t => .int ((offs h c).getD t 0 : Nat)) ?_ ?_ ?_ ?_
    · have := List.length_filter_le (fun j => anc h j c) (List.range h.length)
      rw [List.length_range] at this
      unfold offs
      rw [sizeLine_eq]
      omega
    · intro t acc g ht
      have e1 : (nd (offs h c))[t]? = some (.int ((offs h c).getD t 0 : Nat)) := by simp [ht, List.getD]
      refine ⟨_, _, sdT_at e1, rfl, fun K hK => ?_⟩
      simp only [mxA, List.map_cons, List.map_nil, List.replicate, List.cons_append, List.nil_append, List.set_cons_zero, List.set_cons_succ]
      refine hd ?_
      rw [x_boolK]
      refine hK g fun _ K2 h2 => ?_
      simp only [mxA, List.map_cons, List.map_nil, List.replicate, List.cons_append, List.nil_append, List.set_cons_zero, List.set_cons_succ]
      exact h2 g
    · intro acc g
      have el : (nd (offs h c)).length = (offs h c).length := by simp
      rw [← el]
      exact sdT_end
    · intro g
      rw [th_mid, x_tupL]
      have e3 : ((List.range (offs h c).length).filter fun t => !decide ((offs h c).getD t 0 ∈ sk)).map (fun t => Dv.int ((offs h c).getD t 0 : Nat)) = nd (tell h sk c) := by
        unfold tell
        rw [← filt_range (offs h c) (fun m => !decide (m ∈ sk))]
        simp only [nd, List.map_map]
        rfl
      rw [e3, List.append_assoc, List.cons_append]
      have ci2 : CI (tell h sk) qs (R ++ .lst (nd (tell h sk c)) :: g) := ci.more
      generalize (R ++ .lst (nd (tell h sk c)) :: g) = R2 at ci2
      clear ci e3
      have ql : qs.length ≤ 1000 := by
        have e := cls_len (tell h sk) c
        rw [← hqs, List.length_map] at e
        omega
      rw [x_seqN]
      simp only [mxAN, List.map_cons, List.map_nil, List.replicate, List.cons_append, List.nil_append, List.set_cons_zero, List.set_cons_succ, th_mid]
      refine ⟨trivial, by rw [sizeLine_eq]; simp, ?_⟩
      rw [List.append_assoc, List.cons_append]
      have kl : (kvT θ.length (tell h sk) qs).length < sizeLine := by
        unfold kvT
        rw [List.length_map, sizeLine_eq]
        omega
      have pl : ∀ q, q ∈ qs → q.1.length ≤ 1000 := fun q hq => by
        have := cls_part (tell h sk) c q.1 (by rw [← hqs]; exact List.mem_map.mpr ⟨q, hq, rfl⟩)
        omega
      cases hf : qs.find? fun q => decide (tell h sk (q.1.headD 0) = tell h sk c) with
      | some q =>
        have hq := List.mem_of_find?_eq_some hf
        have hk : tell h sk (q.1.headD 0) = tell h sk c := of_decide_eq_true (List.find?_some (p := fun q : Part => decide (tell h sk (q.1.headD 0) = tell h sk c)) hf)
        have ci3 := ci2.more (g := [.lst []])
        refine setd_old th_mid (tKey_nd _) kl (v := .obj (θ.length + 1 + q.2)) (by rw [kvT_look, hf]; rfl) ?_
        simp only [mxAN, List.map_cons, List.map_nil, List.replicate, List.cons_append, List.nil_append, List.set_cons_zero, List.set_cons_succ, th_off, (ci3.at' q hq).2]
        refine ⟨trivial, ?_, ?_⟩
        · rw [List.length_map, sizeLine_eq]
          have := pl q hq
          omega
        · have e : nd q.1 ++ [Dv.int (c : Nat)] = nd (q.1 ++ [c]) := by simp
          rw [e, th_set_off]
          have ek : kvT θ.length (tell h sk) qs = kvT θ.length (tell h sk) (qs.map (upP (tell h sk) c)) := by
            unfold kvT
            rw [List.map_map]
            apply List.map_congr_left
            intro u hu
            show _ = (kt (tell h sk ((upP (tell h sk) c u).1.headD 0)), Dv.obj (θ.length + 1 + (upP (tell h sk) c u).2))
            rw [upP_h _ _ _ (ci2.at' u hu).1, upP_2]
          rw [ek]
          refine LK.nx _ _ ⟨_, rfl, _, _, _, _, _, _, rfl, rfl, ci3.found hq hk, ?_⟩
          rw [cls_succ, ← hqs, addP_found hq hk]
      | none =>
        refine setd_new th_mid (tKey_nd _) kl (by rw [kvT_look, hf]; rfl) ?_
        rw [kvT_put hf, th_set_mid]
        have eN : (θ ++ Ob.dT (kvT θ.length (tell h sk) qs) :: R2).length = θ.length + 1 + R2.length := by
          rw [List.length_append, List.length_cons]
          omega
        rw [eN]
        simp only [mxAN, List.map_cons, List.map_nil, List.replicate, List.cons_append, List.nil_append, List.set_cons_zero, List.set_cons_succ, th_off, th_last]
        refine ⟨trivial, by rw [sizeLine_eq]; simp, ?_⟩
        rw [th_set_off, th_app]
        have ek : kvT θ.length (tell h sk) qs ++ [(kt (tell h sk c), Dv.obj (θ.length + 1 + R2.length))] = kvT θ.length (tell h sk) (qs ++ [([c], R2.length)]) := by
          unfold kvT
          rw [List.map_append]
          rfl
        rw [ek]
        refine LK.nx _ _ ⟨_, rfl, _, _, _, _, _, _, rfl, rfl, ci2.new hf, ?_⟩
        rw [cls_succ, ← hqs, addP_new hf]
  · rintro ρ θ' ⟨x3, x4, x5, x6, R, qs, rfl, rfl, ci, hqs⟩
    refine ⟨rng_end, ?_⟩
    rw [x_seqN]
    simp only [mxAN, List.map_cons, List.map_nil, List.replicate, List.cons_append, List.nil_append, List.set_cons_zero, List.set_cons_succ, wipeE]
    refine x_lock rfl th_mid rfl ?_
    rw [th_set_mid]
    simp only [mxAN, List.map_cons, List.map_nil, List.replicate, List.cons_append, List.nil_append, List.set_cons_zero, List.set_cons_succ, wipeE, x_vals, x_vkP, x_vkT, th_mid]
    have ql : qs.length = (cls (tell h sk) h.length).length := by rw [← hqs, List.length_map]
    refine lc_pure qs.length (fun _ => true) (fun t => .tup (nd ((cls (tell h sk) h.length).getD t []))) (by rw [ql, sizeLine_eq]; have := cls_len (tell h sk) h.length; omega) ?_ ?_ ?_
    · intro t acc g ht
      have hq : qs[t] ∈ qs := List.getElem_mem ht
      have e1 : (Src.vals θ.length).at (θ ++ .dTf (kvT θ.length (tell h sk) qs) :: R ++ .lst acc :: g) t = some (some (.obj (θ.length + 1 + qs[t].2))) := by
        simp only [Src.at, th_left th_mid, vlAt]
        unfold kvT
        simp [ht]
      refine ⟨_, _, e1, rfl, fun K hK => ?_⟩
      simp only [mxA, List.map_cons, List.map_nil, List.replicate, List.cons_append, List.nil_append, List.set_cons_zero, List.set_cons_succ]
      refine hK g fun _ K2 h2 => ?_
      have e2 : ∀ gg : Th, (θ ++ .dTf (kvT θ.length (tell h sk) qs) :: R ++ gg)[θ.length + 1 + qs[t].2]? = some (.lst (nd qs[t].1)) := fun gg => th_left (by rw [th_off]; exact (ci.at' _ hq).2)
      simp only [mxAN, List.map_cons, List.map_nil, List.replicate, List.cons_append, List.nil_append, List.set_cons_zero, List.set_cons_succ, e2]
      have e3 : (cls (tell h sk) h.length).getD t [] = qs[t].1 := by
        rw [← hqs]
        simp [List.getD, ht]
      rw [e3] at h2
      exact h2 g
    · intro acc g
      simp only [Src.at, th_left th_mid, vlAt]
      unfold kvT
      simp
    · intro g
      refine ⟨th_left th_mid, ?_⟩
      have e3 : ((List.range qs.length).filter fun _ => true).map (fun t => Dv.tup (nd ((cls (tell h sk) h.length).getD t []))) = (cls (tell h sk) h.length).map fun p => .tup (nd p) := by
        rw [List.filter_eq_self.mpr fun _ _ => rfl, ql]
        apply List.ext_getElem?
        intro i
        by_cases hi : i < (cls (tell h sk) h.length).length
        · simp [hi, List.getD]
        · rw [List.getElem?_eq_none (by simp; omega), List.getElem?_eq_none (by simp; omega)]
      rw [e3]
      have eN : (θ ++ Ob.dTf (kvT θ.length (tell h sk) qs) :: R).length = θ.length + 1 + R.length := by
        rw [List.length_append, List.length_cons]
        omega
      rw [eN, List.append_assoc, List.cons_append, th_set_mid, th_off, th_mid, x_tupL]
      exact end_drop hQ fun n => rows_low _ n
theorem s_classes {h : Hist} {sk : List Nat} (a : Ahead h) (hl : h.length ≤ 1000) (hw : ∀ k, (par h k).length ≤ 1000) (hQ : Q (rows (cls (tell h sk) h.length)) θ) : Cm.c_classes [hD h, .tup (nd sk)] E θ Q := s_classesD (fun h => notin_intsT h) a hl hw hQ
end Sp

/-! Sp8: equal by repr. -/
namespace Sp
open PySem PySem.Spec PyProof.Rows L2 Mn
variable {E : Exn → Th → Prop} {θ : Th} {ρ : DEnv} {Q : Dv → Th → Prop}
theorem allSome_map {β γ δ : Type} {f : γ → Option δ} {g : β → γ} {k : β → δ} (h : ∀ x, f (g x) = some (k x)) : ∀ l : List β, allSome f (l.map g) = some (l.map k)
  | [] => rfl
  | x :: l => by
    rw [List.map_cons]
    unfold allSome
    rw [h, allSome_map h l]
    rfl
/-! what is small is shown -/
end Sp

/-! Sp9: equal lists; the law's classes. -/
namespace Sp
open PySem PySem.Spec PyProof.Rows L2 Mn
variable {E : Exn → Th → Prop} {θ : Th} {ρ : DEnv} {Q : Dv → Th → Prop}
theorem canLay_bools : ∀ bs : List Bool, PyData.canLayAll0 (bs.map PyData.bool) = true
  | [] => by simp [PyData.canLayAll0]
  | b :: bs => by
    rw [List.map_cons]
    simp [PyData.canLayAll0, PyData.canLay0, canLay_bools bs]
theorem depth_bools : ∀ bs : List Bool, PyData.depthAll (bs.map PyData.bool) = 0
  | [] => by simp [PyData.depthAll]
  | b :: bs => by
    rw [List.map_cons]
    simp [PyData.depthAll, PyData.depth, depth_bools bs]
theorem eqv_bools : ∀ bs cs : List Bool, PyData.eqvAll (bs.map PyData.bool) (cs.map PyData.bool) = decide (bs = cs)
  | [], [] => by simp [PyData.eqvAll]
  | [], _ :: _ => by simp [PyData.eqvAll]
  | _ :: _, [] => by simp [PyData.eqvAll]
  | b :: bs, c :: cs => by
    rw [List.map_cons, List.map_cons]
    simp only [PyData.eqvAll, PyData.eqv, eqv_bools bs cs, List.cons.injEq]
    cases b <;> cases c <;> simp
theorem toPy_bools {n k : Nat} {bs : List Bool} (h : θ[k]? = some (.lst (bs.map Dv.bl))) : toPy θ (n + 1) (.obj k) = some (.list (bs.map PyData.bool)) := by
  unfold toPy
  simp only [h]
  rw [allSome_map (k := PyData.bool) (fun x => by cases n <;> rfl)]
  rfl
theorem shaped_bools (bs : List Bool) : SeqAt.shaped (.list (bs.map PyData.bool)) = true := by
  unfold SeqAt.shaped
  rw [Bool.and_eq_true]
  refine ⟨by simpa [PyData.canLay0] using canLay_bools bs, decide_eq_true ?_⟩
  simp only [PyData.depth, depth_bools]
  omega
theorem eq_bools {j k : Nat} {bs cs : List Bool} (h1 : θ[j]? = some (.lst (bs.map Dv.bl))) (h2 : θ[k]? = some (.lst (cs.map Dv.bl))) (hQ : Q (.bl (decide (bs = cs))) θ) : oEq (.obj j) (.obj k) E θ Q := by
  show eqPy (.obj j) (.obj k) id E θ Q
  unfold eqPy
  simp only [toPy_bools h1, toPy_bools h2]
  refine ⟨shaped_bools bs, shaped_bools cs, ?_⟩
  simp only [PyData.eqv, eqv_bools]
  exact hQ
end Sp

/-! Sq1: answers, counted. -/
namespace Sp
open PySem PySem.Spec PyProof.Rows L2 Mn
variable {E : Exn → Th → Prop} {θ : Th} {Q : Dv → Th → Prop}
def word (b : Bool) : Str := if b then "broken" else "works"
def an (x : Bool × Nat) : Dv := .tup [.str (word x.1), .int (x.2 : Nat)]
theorem two_line {a b : Dv} : [a, b].length ≤ sizeLine := by
  show 2 ≤ sizeLine
  rw [sizeLine_eq]
  decide
end Sp

/-! Sq2: settled makes, holding back. -/
namespace Sp
open PySem PySem.Spec PyProof.Rows L2 Mn
variable {E : Exn → Th → Prop} {θ : Th} {Q : Dv → Th → Prop}
def rl (two : Bool) : Str := if two then "two" else "one"
theorem rl_two (two : Bool) : decide (rl two = "two") = two := by cases two <;> decide
theorem rl_one (two : Bool) : decide (rl two = "one") = !two := by cases two <;> decide
/-- settled as broken -/
def isBr (two : Bool) (k b : Nat) : Bool := decide ((if two then k else 0) < b)
def stl (two : Bool) (k w b : Nat) : Str := if k < w then (if isBr two k b then "both" else "works") else (if isBr two k b then "broken" else "")
def hld (two : Bool) (k w b : Nat) : Str := if (if two then 2 * k else k) ≤ w + b then "" else if two && decide ((w + b) % 2 = 1) then "broken" else "works"
def mst (two : Bool) (k : Nat) : Nat := if two then 2 * k + 1 else k + 1
theorem s_most {k : Nat} {two : Bool} (hk : k ≤ 1000) (hQ : Q (.int ((mst two k : Nat) : Int)) θ) : Cm2.c_most_tests [.int k, .str (rl two)] E θ Q := by
  unfold Cm2.c_most_tests Cm2.m_most_tests
  simp only [mxC, List.map_cons, List.map_nil, List.replicate, List.cons_append, List.nil_append, List.set_cons_zero, List.set_cons_succ, rl_two]
  unfold mst at hQ
  cases two
  · rw [if_neg Bool.false_ne_true] at hQ ⊢
    exact end_same (by rw [show ((k : Nat) : Int) + 1 = ((k + 1 : Nat) : Int) by omega]; exact hQ)
  · rw [if_pos rfl] at hQ ⊢
    exact ⟨.inl ⟨by omega, by omega⟩, end_same (by rw [show 2 * ((k : Nat) : Int) + 1 = ((2 * k + 1 : Nat) : Int) by omega]; exact hQ)⟩
end Sp

/-! Sp10: the law's classes. -/
namespace Sp
open PySem PySem.Spec PyProof.Rows L2 Mn
variable {E : Exn → Th → Prop} {θ : Th} {ρ : DEnv} {Q : Dv → Th → Prop}
/-- the makes that can be tested -/
def Ts (n : Nat) (sk : List Nat) : List Nat := (List.range n).filter fun m => !decide (m ∈ sk)
theorem tell_eq (h : Hist) (sk : List Nat) (c : Nat) : tell h sk c = (Ts h.length sk).filter fun t => anc h t c := by
  unfold tell offs Ts
  rw [List.filter_filter, List.filter_filter]
  apply List.filter_congr
  intro x _
  exact Bool.and_comm _ _
/-- rows: a make and the place of its list -/
abbrev RQ := Nat × Nat
def ro (L : Nat) (qs : List RQ) : List Dv := qs.map fun q => .obj (L + 1 + q.2)
def RI (n : Nat) (h : Hist) (qs : List RQ) (R : Th) : Prop := ∀ q, q ∈ qs → R[q.2]? = some (.lst (bl n (anc h q.1)))
theorem RI.more {n : Nat} {h : Hist} {qs : List RQ} {R g : Th} (r : RI n h qs R) : RI n h qs (R ++ g) := fun q hq => th_left (r q hq)
theorem cls_mem (tl : Nat → List Nat) : ∀ n p, p ∈ cls tl n → ∀ x, x ∈ p → x < n
  | 0, p, h, _, _ => by simp [cls] at h
  | n + 1, p, h, x, hx => by
    rw [cls_succ] at h
    unfold addP at h
    split at h
    · obtain ⟨q, hq, rfl⟩ := List.mem_map.mp h
      split at hx
      · rcases List.mem_append.mp hx with hx | hx
        · have := cls_mem tl n q hq x hx; omega
        · have := List.mem_singleton.mp hx; omega
      · have := cls_mem tl n q hq x hx; omega
    · rcases List.mem_append.mp h with h | h
      · have := cls_mem tl n p h x hx; omega
      · obtain rfl := List.mem_singleton.mp h
        have := List.mem_singleton.mp hx; omega
def po (L : Nat) (ps : List Part) : List Dv := ps.map fun q => .obj (L + 1 + q.2)
end Sp

/-! Sp11: what is known of drawn histories, of classes. -/
namespace Sp
open PySem PySem.Spec PyProof.Rows L2 Mn
section
variable {n w : Nat} {P : Nat → List Nat}
end
/-- each make has its class -/
theorem cls_has (tl : Nat → List Nat) : ∀ n m, m < n → ∃ p, p ∈ cls tl n ∧ p ≠ [] ∧ tl (p.headD 0) = tl m
  | 0, _, h => absurd h (Nat.not_lt_zero _)
  | n + 1, m, h => by
    rw [cls_succ]
    unfold addP
    by_cases e : m < n
    · obtain ⟨p, hp, hne, ht⟩ := cls_has tl n m e
      split
      · by_cases z : tl (p.headD 0) = tl n
        · exact ⟨p ++ [n], List.mem_map.mpr ⟨p, hp, by rw [if_pos z]⟩, by simp, by rw [headD_snoc hne]; exact ht⟩
        · exact ⟨p, List.mem_map.mpr ⟨p, hp, by rw [if_neg z]⟩, hne, ht⟩
      · exact ⟨p, List.mem_append_left _ hp, hne, ht⟩
    · have e : m = n := by omega
      subst e
      split
      · rename_i ha
        rw [List.any_eq_true] at ha
        obtain ⟨p, hp, hd⟩ := ha
        have hd := of_decide_eq_true hd
        refine ⟨p ++ [m], List.mem_map.mpr ⟨p, hp, by rw [if_pos hd]⟩, by simp, ?_⟩
        cases p with
        | nil =>
          exact rfl
        | cons x p => exact hd
      · exact ⟨[m], List.mem_append_right _ List.mem_cons_self, by simp, rfl⟩
theorem cls_ne (tl : Nat → List Nat) : ∀ n p, p ∈ cls tl n → p ≠ []
  | 0, p, h => by simp [cls] at h
  | n + 1, p, h => by
    rw [cls_succ] at h
    unfold addP at h
    split at h
    · obtain ⟨q, hq, rfl⟩ := List.mem_map.mp h
      split
      · simp
      · exact cls_ne tl n q hq
    · rcases List.mem_append.mp h with h | h
      · exact cls_ne tl n p h
      · obtain rfl := List.mem_singleton.mp h
        simp
end Sp

/-! Sp12: the law's tests. -/
namespace Sp
open PySem PySem.Spec PyProof.Rows L2 Mn
variable {E : Exn → Th → Prop} {θ : Th} {ρ : DEnv} {Q : Dv → Th → Prop}
section
variable {h : Hist} {sk : List Nat}
end
end Sp

/-! Sp13: the law's tests, told. -/
namespace Sp
open PySem PySem.Spec PyProof.Rows L2 Mn
variable {E : Exn → Th → Prop} {θ : Th} {ρ : DEnv} {Q : Dv → Th → Prop}
end Sp

/-! Sp14: without skipped makes, with all of them; right and wrong rows of skipped makes. -/
namespace Sp
open PySem PySem.Spec PyProof.Rows L2 Mn
theorem tell_nil_inj {h : Hist} (a : Ahead h) {c d : Nat} (hc : c < h.length) (hd : d < h.length) (e : tell h [] c = tell h [] d) : c = d := by
  have key : ∀ x y, x < h.length → tell h [] x = tell h [] y → y ≤ x := fun x y hx e => by
    have : x ∈ tell h [] x := by
      rw [tell_eq, List.mem_filter]
      exact ⟨by unfold Ts; simp [hx], anc_iff.mpr .self⟩
    rw [e, tell_eq, List.mem_filter] at this
    exact Rc.le a (anc_iff.mp this.2)
  have h1 := key c d hc e
  have h2 := key d c hd e.symm
  omega
theorem cls_one {tl : Nat → List Nat} {N : Nat} (inj : ∀ c d, c < N → d < N → tl c = tl d → c = d) : ∀ n, n ≤ N → cls tl n = (List.range n).map fun c => [c]
  | 0, _ => rfl
  | n + 1, h => by
    rw [cls_succ, cls_one inj n (by omega)]
    unfold addP
    rw [if_neg]
    · rw [List.range_succ, List.map_append]
      rfl
    · intro e
      rw [List.any_eq_true] at e
      obtain ⟨p, hp, hd⟩ := e
      obtain ⟨c, hc, rfl⟩ := List.mem_map.mp hp
      rw [List.mem_range] at hc
      have := inj c n (by omega) (by omega) (of_decide_eq_true hd)
      omega
theorem cls_nil {h : Hist} (a : Ahead h) : cls (tell h []) h.length = (List.range h.length).map fun c => [c] := cls_one (fun _ _ => tell_nil_inj a) _ (Nat.le_refl _)
/-! rows of skipped makes -/
end Sp

/-! Sq3: drawn histories of the other kind, drawn answers. -/
namespace Sp
open PySem PySem.Spec PyProof.Rows L2 Mn
variable {E : Exn → Th → Prop} {θ : Th} {Q : Dv → Th → Prop}
theorem clo_bx {ds : List Int} {a a' : Nat} {g : Th} (c : Clo (bx ds a ++ g)) : Clo (bx ds a' ++ g) := by
  intro o ho
  have el : (bx ds a' ++ g).length = (bx ds a ++ g).length := rfl
  rw [el]
  rcases List.mem_append.mp ho with h | h
  · exact ob_mono (by rw [List.length_append]; exact Nat.le_add_right _ _) (bx_clo ds a' o h)
  · exact c o (List.mem_append.mpr (.inr h))
theorem end_bxg {ds : List Int} {a a' : Nat} {g g2 : Th} {d : Dv} (hd : ∀ n, d.low n = true) (h : Q d (bx ds a' ++ g)) : endQ (bx ds a ++ g) Q d (bx ds a' ++ g ++ g2) :=
  .inr ⟨bx ds a' ++ g, g2, rfl, Nat.le_refl _, fun c => ⟨clo_bx c, hd _⟩, h⟩
theorem end_bxs {ds : List Int} {a a' : Nat} {g : Th} {d : Dv} (h : Q d (bx ds a' ++ g)) : endQ (bx ds a ++ g) Q d (bx ds a' ++ g) := end_same h
theorem cut_nd (l : List Nat) (lo hi : Option Int) : ∃ P : List Nat, Mn.cutD (nd l) lo hi = nd P ∧ P.Sublist l := by
  unfold Mn.cutD nd
  refine ⟨(l.drop (HT.sIx (l.map fun p => Dv.int (p : Nat)).length 0 lo)).take (HT.sIx (l.map fun p => Dv.int (p : Nat)).length (l.map fun p => Dv.int (p : Nat)).length hi - HT.sIx (l.map fun p => Dv.int (p : Nat)).length 0 lo), ?_, ?_⟩
  · rw [List.map_take, List.map_drop]
  · exact (List.take_sublist _ _).trans (List.drop_sublist _ _)
theorem back_nat {k : Nat} : ∀ {ns : List Int}, (∀ z ∈ ns, 0 ≤ z ∧ z < (k : Nat)) → ns.Pairwise (· < ·) → ∃ P : List Nat, ns = P.map (fun p : Nat => (p : Int)) ∧ P.Pairwise (· < ·) ∧ ∀ p ∈ P, p < k := by
  intro ns h1 h2
  refine ⟨ns.map Int.toNat, ?_, ?_, ?_⟩
  · rw [List.map_map]
    conv => lhs; rw [← List.map_id ns]
    apply List.map_congr_left
    intro z hz
    have := h1 z hz
    show z = ((z.toNat : Nat) : Int)
    omega
  · rw [List.pairwise_map]
    refine h2.imp_of_mem fun {a b} ha hb h => ?_
    have := h1 a ha
    have := h1 b hb
    omega
  · intro p hp
    obtain ⟨z, hz, rfl⟩ := List.mem_map.mp hp
    have := h1 z hz
    omega
/-! ### histories -/
def nmV (i : Nat) : Str := ("v" : Str) ++ (⟨#[97 + i]⟩ : Str)
theorem letters24 : (("abcdefghijklmnopqrstuvwx" : Str)).cps.toList = (List.range 24).map (97 + ·) := by decide +kernel
structure GV (i : Nat) (hs : Hist) : Prop where
  len : hs.length = i
  nm : hs.map (·.1) = (List.range i).map nmV
  srt : ∀ x ∈ hs, x.2.Pairwise (· < ·)
  ahead : Ahead hs
theorem par_app {hs : Hist} {x : Str × List Nat} {k : Nat} : par (hs ++ [x]) k = if k = hs.length then x.2 else par hs k := by
  unfold par
  by_cases h : k < hs.length
  · rw [if_neg (by omega), List.getElem?_append_left h]
  · by_cases h2 : k = hs.length
    · subst h2
      rw [if_pos rfl]
      simp
    · rw [if_neg h2, List.getElem?_eq_none (by simp; omega), List.getElem?_eq_none (by omega)]
theorem GV.step {i : Nat} {hs : Hist} {P : List Nat} (g : GV i hs) (h1 : P.Pairwise (· < ·)) (h2 : ∀ p ∈ P, p < i) : GV (i + 1) (hs ++ [(nmV i, P)]) := by
  refine ⟨by simp [g.len], by rw [List.map_append, g.nm, List.range_succ, List.map_append]; rfl, fun x hx => ?_, fun k p hp => ?_⟩
  · rcases List.mem_append.mp hx with hx | hx
    · exact g.srt x hx
    · rw [List.mem_singleton.mp hx]; exact h1
  · rw [par_app] at hp
    by_cases e : k = hs.length
    · rw [if_pos e] at hp
      have := h2 p hp
      have := g.len
      omega
    · rw [if_neg e] at hp
      exact g.ahead k p hp
theorem rng_filter (q : Nat → Bool) (f : Nat → Dv) (l : List Nat) : ((List.range l.length).filter (fun i => q (l.getD i 0))).map (fun i => f (l.getD i 0)) = (l.filter q).map f := by
  have e : l = (List.range l.length).map (fun i => l.getD i 0) := by
    apply List.ext_getElem?
    intro i
    by_cases h : i < l.length
    · simp [h, List.getD_eq_getElem?_getD]
    · rw [List.getElem?_eq_none (by omega), List.getElem?_eq_none (by simp; omega)]
  conv => rhs; rw [e]
  rw [List.filter_map, List.map_map]
  rfl
theorem src_L {θ : Th} {k : Nat} {ds : List Dv} (h : θ[k]? = some (.lst ds)) (i : Nat) : (Src.sd (.L k)).at θ i = some ds[i]? := by
  simp only [Src.at, Sd.items, lstAt, h]
  rfl
/-! ### answers -/
end Sp

/-! Sq4: ancestors as a tuple. -/
namespace Sp
open PySem PySem.Spec PyProof.Rows L2 Mn
variable {E : Exn → Th → Prop} {θ : Th} {Q : Dv → Th → Prop}
def mulK (o : Option Ob) (k : Int) (θ : Th) (Q : Dv → Th → Prop) : Prop := match o with
  | some (.lst a) => -(2 ^ 63) ≤ k ∧ k < 2 ^ 63 ∧ a.length * k.toNat ≤ sizeLine ∧ Q (.obj θ.length) (θ ++ [.lst (List.replicate k.toNat a).flatten])
  | _ => False
theorem x_mulP {j : Nat} {k : Int} : oMul (.obj j) (.int k) E θ Q = mulK θ[j]? k θ Q := (rfl)
theorem x_mulL {a : List Dv} {k : Int} : mulK (some (.lst a)) k θ Q = (-(2 ^ 63) ≤ k ∧ k < 2 ^ 63 ∧ a.length * k.toNat ≤ sizeLine ∧ Q (.obj θ.length) (θ ++ [.lst (List.replicate k.toNat a).flatten])) := (rfl)
def ekK (o : Option Ob) (k : Nat) (θ : Th) (R : Src → Th → Prop) : Prop := match o with
  | some (.lst _) => R (.en (.L k)) θ
  | _ => False
theorem x_ekP {k : Nat} {R : Src → Th → Prop} : ek [.obj k] E θ R = ekK θ[k]? k θ R := (rfl)
theorem x_ekL {k : Nat} {ds : List Dv} {R : Src → Th → Prop} : ekK (some (.lst ds)) k θ R = R (.en (.L k)) θ := (rfl)
theorem src_E {θ : Th} {k : Nat} {ds : List Dv} (h : θ[k]? = some (.lst ds)) {i : Nat} (hi : i ≤ ds.length) : (Src.en (.L k)).at θ i = some (ds[i]?.map fun d => .tup [.int (i : Nat), d]) := by
  simp only [Src.at, Sd.items, lstAt, h, enAt, if_pos hi]
noncomputable def ancL (h : Hist) (m : Nat) : List Nat := (List.range (m + 1)).filter (anc h m)
theorem mem_ancL {h : Hist} {m c : Nat} (a : Ahead h) : c ∈ ancL h m ↔ Anc h m c := by
  unfold ancL
  rw [List.mem_filter, List.mem_range, anc_iff]
  exact ⟨fun x => x.2, fun x => ⟨by have := Rc.le a x; omega, x⟩⟩
theorem s_ancestors {h : Hist} {m : Nat} (a : Ahead h) (hm : m < h.length) (hl : h.length ≤ 1000) (hQ : Q (.tup (nd (ancL h m))) θ) : Cm.c_ancestors [hD h, .int m] E θ Q := by
  unfold Cm.c_ancestors Cm.m_ancestors
  simp only [mxCN, List.map_cons, List.map_nil, List.replicate, List.cons_append, List.nil_append, List.set_cons_zero, List.set_cons_succ, x_h1, List.length_map, wipeE]
  rw [x_seqN]
  simp only [mxCN, List.map_cons, List.map_nil, List.replicate, List.cons_append, List.nil_append, List.set_cons_zero, List.set_cons_succ, wipeE]
  refine ⟨by show 1 ≤ sizeLine; rw [sizeLine_eq]; decide, ?_⟩
  rw [x_mulP, th_last, x_mulL]
  refine ⟨by omega, by omega, by rw [sizeLine_eq]; show 1 * _ ≤ _; omega, ?_⟩
  simp only [mxCN, List.map_cons, List.map_nil, List.replicate, List.cons_append, List.nil_append, List.set_cons_zero, List.set_cons_succ]
  refine ⟨by show 1 ≤ sizeLine; rw [sizeLine_eq]; decide, ?_⟩
  rw [th_last, th_left th_last, x_addL]
  have er : (List.replicate (m : Int).toNat [Dv.bl false]).flatten ++ [Dv.bl true] = bl (m + 1) (fun j => decide (j = m)) := by
    rw [show (m : Int).toNat = m from rfl]
    unfold bl
    rw [List.range_succ, List.map_append]
    congr 1
    · have : ∀ k : Nat, (List.replicate k [Dv.bl false]).flatten = List.replicate k (Dv.bl false) := fun k => by
        induction k with
        | zero => rfl
        | succ k ih => rw [List.replicate_succ, List.flatten_cons, ih]; rfl
      rw [this]
      apply List.ext_getElem?
      intro i
      by_cases hi : i < m
      · simp [hi, show ¬ i = m by omega]
      · rw [List.getElem?_eq_none (by simp; omega), List.getElem?_eq_none (by simp; omega)]
    · simp
  rw [er]
  refine ⟨by simp [sizeLine_eq]; omega, ?_⟩
  generalize hB : θ ++ [Ob.lst [Dv.bl false]] ++ [Ob.lst (List.replicate (m : Int).toNat [Dv.bl false]).flatten] ++ [Ob.lst [Dv.bl true]] = B
  have hB2 : ∃ g, B = θ ++ g := ⟨[Ob.lst [Dv.bl false]] ++ [Ob.lst (List.replicate (m : Int).toNat [Dv.bl false]).flatten] ++ [Ob.lst [Dv.bl true]], by rw [← hB]; simp⟩
  clear hB er
  rw [x_seqN]
  simp only [mxCN, List.map_cons, List.map_nil, List.replicate, List.cons_append, List.nil_append, List.set_cons_zero, List.set_cons_succ]
  refine ⟨⟨by omega, by omega, by omega, by omega, trivial⟩, ?_⟩
  have en : ((m : Int) - -1).toNat = m + 1 := by omega
  rw [en]
  refine for_rule (m + 1) (fun i ρ θ' => ∃ x4 x5 f, ρ = [some (hD h), some (.int m), some (.tup (h.map mk)), some (.obj B.length), x4, x5, none] ∧ θ' = B ++ [.lst (bl (m + 1) f)] ∧ ∀ j, j < m + 1 → (f j = true ↔ Rc h m (m + 1 - i) j)) ⟨none, none, _, rfl, rfl, fun j hj => ?_⟩ ?_ ?_
  · rw [Nat.sub_zero, Rc.start a]
    simp
  · rintro i ρ θ' hi ⟨x4, x5, f, rfl, rfl, hf⟩
    refine ⟨_, _, rng_at hi, rfl, fun K LK => ?_⟩
    have ek : (m : Int) + (i : Nat) * -1 = ((m - i : Nat) : Int) := by omega
    have hk : m - i < m + 1 := by omega
    rw [ek]
    have et : m + 1 - i = m - i + 1 := by omega
    have et2 : m + 1 - (i + 1) = m - i := by omega
    rw [et] at hf
    generalize m - i = k at hk hf et2
    have e1 : atI (bl (m + 1) f) (k : Int) = some (.bl (f k)) := at_nat (bl_get hk)
    have hkl : k < h.length := by omega
    simp only [mxCN, List.map_cons, List.map_nil, List.replicate, List.cons_append, List.nil_append, List.set_cons_zero, List.set_cons_succ, th_last, e1]
    by_cases c : f k = true
    · rw [if_pos c]
      simp only [mxCN, List.map_cons, List.map_nil, List.replicate, List.cons_append, List.nil_append, List.set_cons_zero, List.set_cons_succ, h_get hkl, x_mk1, par_get hkl]
      refine for_rule (par h k).length (fun i ρ θ' => ∃ x5 f2, ρ = [some (hD h), some (.int m), some (.tup (h.map mk)), some (.obj B.length), some (.int k), x5, none] ∧ θ' = B ++ [.lst (bl (m + 1) f2)] ∧ ∀ j, j < m + 1 → (f2 j = true ↔ (f j = true ∨ j ∈ (par h k).take i))) ⟨x5, f, rfl, rfl, fun j hj => by simp⟩ ?_ ?_
      · rintro i2 ρ θ' hi2 ⟨x5, f2, rfl, rfl, hf2⟩
        refine ⟨.int ((par h k)[i2] : Nat), _, by simp [Src.at, Sd.items, hi2], rfl, fun K LK => ?_⟩
        have hp : (par h k)[i2] < k := a _ _ (List.getElem_mem _)
        generalize hpp : (par h k)[i2] = p at hp
        simp only [mxC, List.map_cons, List.map_nil, List.replicate, List.cons_append, List.nil_append, List.set_cons_zero, List.set_cons_succ, th_last, ix_nat (show p < (bl (m + 1) f2).length by rw [bl_len]; omega), th_app, bl_set]
        refine LK.nx _ _ ⟨_, rfl, _, _, rfl, rfl, fun j hj => ?_⟩
        have e3 : (par h k).take (i2 + 1) = (par h k).take i2 ++ [p] := by rw [List.take_add_one, List.getElem?_eq_getElem hi2, hpp]; rfl
        rw [e3, List.mem_append]
        by_cases ej : j = p
        · simp [ej]
        · rw [if_neg ej, hf2 j hj]
          simp [ej]
      · rintro ρ θ' ⟨x5, f2, rfl, rfl, hf2⟩
        refine ⟨by simp [Src.at, Sd.items], LK.nx _ _ ⟨_, rfl, _, _, f2, rfl, rfl, fun j hj => ?_⟩⟩
        rw [hf2 j hj, List.take_length, et2, Rc.down a, hf j hj]
        have := (hf k hk).mp c
        exact ⟨fun z => z.imp id fun z => ⟨this, z⟩, fun z => z.imp id fun z => z.2⟩
    · rw [if_neg c]
      refine LK.nx _ _ ⟨_, rfl, _, _, f, rfl, rfl, fun j hj => ?_⟩
      rw [et2, Rc.down a, hf j hj]
      have := fun z => c ((hf k hk).mpr z)
      exact ⟨.inl, fun z => z.elim id fun z => (this z.1).elim⟩
  · rintro ρ θ' ⟨x4, x5, f, rfl, rfl, hf⟩
    refine ⟨rng_end, ?_⟩
    rw [x_seqN]
    simp only [mxCN, List.map_cons, List.map_nil, List.replicate, List.cons_append, List.nil_append, List.set_cons_zero, List.set_cons_succ, wipeE]
    rw [x_ekP, th_last, x_ekL]
    have ef : ∀ j, j < m + 1 → f j = anc h m j := fun j hj => by rw [Bool.eq_iff_iff, hf j hj, anc_iff, Nat.sub_self]
    have eb : bl (m + 1) f = bl (m + 1) (anc h m) := bl_congr ef
    rw [eb]
    refine lc_pure (m + 1) (anc h m) (fun i => .int (i : Nat)) (by rw [sizeLine_eq]; omega) ?_ ?_ ?_
    · intro i acc g hi
      have e0 : (B ++ [Ob.lst (bl (m + 1) (anc h m))] ++ Ob.lst acc :: g)[B.length]? = some (.lst (bl (m + 1) (anc h m))) := th_left th_last
      refine ⟨.tup [.int (i : Nat), .bl (anc h m i)], _, by rw [src_E e0 (by rw [bl_len]; omega), bl_get hi]; rfl, rfl, fun K hK => ?_⟩
      simp only [mxC, List.map_cons, List.map_nil, List.replicate, List.cons_append, List.nil_append, List.set_cons_zero, List.set_cons_succ]
      refine hK g fun _ K2 h2 => ?_
      simp only [mxC, List.map_cons, List.map_nil, List.replicate, List.cons_append, List.nil_append, List.set_cons_zero, List.set_cons_succ]
      exact h2 g
    · intro acc g
      have e0 : (B ++ [Ob.lst (bl (m + 1) (anc h m))] ++ Ob.lst acc :: g)[B.length]? = some (.lst (bl (m + 1) (anc h m))) := th_left th_last
      rw [src_E e0 (by rw [bl_len]; omega), List.getElem?_eq_none (by rw [bl_len]; omega)]
      rfl
    · intro g
      rw [th_mid, x_tupL]
      obtain ⟨gB, rfl⟩ := hB2
      rw [List.append_assoc, List.append_assoc]
      exact end_drop hQ (low_nats _)
end Sp

/-! Sq5: ancestors as a list, who can be it. -/
namespace Sp
open PySem PySem.Spec PyProof.Rows L2 Mn
variable {E : Exn → Th → Prop} {θ : Th} {Q : Dv → Th → Prop}
theorem in_intsT {v : Nat} {l : List Nat} (hq : Q (.bl (decide (v ∈ l))) θ) : oIn (.int v) (.tup (nd l)) E θ Q := by
  unfold oIn inO
  exact ⟨⟨rfl, flat_ints l⟩, by rw [inF_ints]; exact hq⟩
theorem in_ints {v k : Nat} {l : List Nat} (h : θ[k]? = some (.lst (nd l))) (hq : Q (.bl (decide (v ∈ l))) θ) : oIn (.int v) (.obj k) E θ Q := by
  unfold oIn inO
  simp only [h]
  exact .inl ⟨flat_ints l, rfl, by rw [inF_ints]; exact hq⟩
theorem nodup_len : ∀ (n : Nat) {l : List Nat}, l.Nodup → (∀ x ∈ l, x < n) → l.length ≤ n
  | 0, [], _, _ => Nat.le_refl _
  | 0, x :: l, _, h => absurd (h x (by simp)) (by omega)
  | n + 1, l, hn, h => by
    have ih := nodup_len n (l := l.erase n) (hn.erase _) fun x hx => by
      have h1 := (hn.mem_erase_iff.mp hx)
      have := h x h1.2
      have := h1.1
      omega
    have := List.length_erase (a := n) (l := l)
    split at this <;> omega
/-- histories whose parents stand ahead, once each -/
structure AN (h : Hist) : Prop where
  ahead : Ahead h
  nd : ∀ k, (par h k).Nodup
theorem GV.an {n : Nat} {h : Hist} (g : GV n h) : AN h := ⟨g.ahead, fun k => by
  unfold par
  cases e : h[k]? with
  | none => exact .nil
  | some x => exact (g.srt x (List.mem_of_getElem? e)).imp fun h => Nat.ne_of_lt h⟩
theorem s_above2 {h : Hist} {m : Nat} (a : AN h) (hm : m < h.length) (hl : h.length ≤ 1000) (hQ : ∀ (F : List Nat) (g : Th) (k : Nat), (θ ++ g)[k]? = some (.lst (nd F)) → (∀ j, j ∈ F ↔ Anc h m j) → Q (.obj k) (θ ++ g)) : Cm3.c__law_above [hD h, .int m] E θ Q := by
  unfold Cm3.c__law_above Cm3.m__law_above
  simp only [mxCN, List.map_cons, List.map_nil, List.replicate, List.cons_append, List.nil_append, List.set_cons_zero, List.set_cons_succ, wipeE]
  refine ⟨by show 1 ≤ sizeLine; rw [sizeLine_eq]; decide, ?_⟩
  rw [x_seqN]
  simp only [mxCN, List.map_cons, List.map_nil, List.replicate, List.cons_append, List.nil_append, List.set_cons_zero, List.set_cons_succ]
  refine ⟨⟨by omega, by omega, by omega, by omega, trivial⟩, ?_⟩
  have en : ((m : Int) - -1).toNat = m + 1 := by omega
  rw [en]
  refine for_rule (m + 1) (fun i ρ θ' => ∃ x3 x4 g k F, ρ = [some (hD h), some (.int m), some (.obj k), x3, x4] ∧ θ' = θ ++ g ∧ (θ ++ g)[k]? = some (.lst (nd F)) ∧ F.Nodup ∧ ∀ j, j ∈ F ↔ Rc h m (m + 1 - i) j)
    ⟨none, none, [.lst [.int m]], θ.length, [m], rfl, rfl, th_last, by simp, fun j => by rw [Nat.sub_zero, Rc.start a.ahead]; simp⟩ ?_ ?_
  · rintro i ρ θ' hi ⟨x3, x4, g, e, F, rfl, rfl, hg, hn, hF⟩
    refine ⟨_, _, rng_at hi, rfl, fun K LK => ?_⟩
    have ek : (m : Int) + (i : Nat) * -1 = ((m - i : Nat) : Int) := by omega
    have hk : m - i < m + 1 := by omega
    rw [ek]
    have et : m + 1 - i = m - i + 1 := by omega
    have et2 : m + 1 - (i + 1) = m - i := by omega
    rw [et] at hF
    generalize m - i = k at hk hF et2
    have hkl : k < h.length := by omega
    simp only [mxCN, List.map_cons, List.map_nil, List.replicate, List.cons_append, List.nil_append, List.set_cons_zero, List.set_cons_succ, wipeE]
    refine in_ints hg ?_
    rw [x_boolK]
    by_cases c : k ∈ F
    · rw [if_pos (decide_eq_true c)]
      simp only [mxCN, List.map_cons, List.map_nil, List.replicate, List.cons_append, List.nil_append, List.set_cons_zero, List.set_cons_succ, x_h1, h_get hkl, x_mk1, par_get hkl]
      refine lc_pure (par h k).length (fun j => !decide ((par h k).getD j 0 ∈ F)) (fun j => .int ((par h k).getD j 0 : Nat)) ?_ ?_ ?_ ?_
      · have := nodup_len k (a.nd k) (fun p hp => a.ahead k p hp)
        rw [sizeLine_eq]; omega
      · intro j acc g' hj
        refine ⟨.int ((par h k).getD j 0 : Nat), _, ?_, rfl, fun K hK => ?_⟩
        · simp [Src.at, Sd.items, hj, List.getD_eq_getElem?_getD]
        · simp only [mxC, List.map_cons, List.map_nil, List.replicate, List.cons_append, List.nil_append, List.set_cons_zero, List.set_cons_succ]
          refine notin_ints (th_left hg) (hK g' fun _ K2 h2 => ?_)
          simp only [mxC, List.map_cons, List.map_nil, List.replicate, List.cons_append, List.nil_append, List.set_cons_zero, List.set_cons_succ]
          exact h2 g'
      · intro acc g'
        simp [Src.at, Sd.items]
      · intro g'
        rw [rng_filter (fun p => !decide (p ∈ F)) (fun p => .int (p : Nat))]
        generalize hE : (par h k).filter (fun p => !decide (p ∈ F)) = N
        have z1 : N.Nodup := by rw [← hE]; exact (a.nd k).filter _
        have z2 : ∀ p, p ∈ N ↔ p ∈ par h k ∧ p ∉ F := fun p => by rw [← hE, List.mem_filter]; simp
        have z3 : F.length ≤ m + 1 := nodup_len _ hn fun x hx => by have := Rc.le a.ahead ((hF x).mp hx); omega
        have z4 : N.length ≤ m + 1 := nodup_len _ z1 fun x hx => by have := a.ahead k x ((z2 x).mp hx).1; omega
        rw [th_left hg, th_mid, x_addL]
        refine ⟨by rw [List.length_map, List.length_map, sizeLine_eq]; omega, ?_⟩
        have ea : nd F ++ (N.map fun p => Dv.int (p : Nat)) = nd (F ++ N) := by simp
        rw [ea]
        refine LK.nx _ _ ⟨_, rfl, _, _, g ++ .lst (N.map fun p => Dv.int (p : Nat)) :: g' ++ [.lst (nd (F ++ N))], _, F ++ N, rfl, by simp, ?_, ?_, fun j => ?_⟩
        · rw [show θ ++ (g ++ Ob.lst (N.map fun p => Dv.int (p : Nat)) :: g' ++ [Ob.lst (nd (F ++ N))]) = (θ ++ g ++ Ob.lst (N.map fun p => Dv.int (p : Nat)) :: g') ++ [Ob.lst (nd (F ++ N))] by simp]
          exact th_last
        · rw [List.nodup_append]
          exact ⟨hn, z1, fun x hx y hy e => ((z2 y).mp hy).2 (e ▸ hx)⟩
        · rw [List.mem_append, z2, et2, Rc.down a.ahead, ← hF j, ← hF k]
          constructor
          · rintro (z | z)
            · exact .inl z
            · exact .inr ⟨c, z.1⟩
          · rintro (z | z)
            · exact .inl z
            · by_cases y : j ∈ F
              · exact .inl y
              · exact .inr ⟨z.2, y⟩
    · rw [if_neg (by simpa using c)]
      refine LK.nx _ _ ⟨_, rfl, _, _, g, e, F, rfl, rfl, hg, hn, fun j => ?_⟩
      rw [et2, Rc.down a.ahead, ← hF j, ← hF k]
      exact ⟨.inl, fun z => z.elim id fun z => (c z.1).elim⟩
  · rintro ρ θ' ⟨x3, x4, g, e, F, rfl, rfl, hg, hn, hF⟩
    refine ⟨rng_end, ?_⟩
    rw [x_seqN]
    simp only [mxCN, List.map_cons, List.map_nil, List.replicate, List.cons_append, List.nil_append, List.set_cons_zero, List.set_cons_succ]
    exact end_same (hQ F g e hg fun j => by rw [hF j, Nat.sub_self])
theorem s_breaks {h : Hist} {m c : Nat} (a : AN h) (hm : m < h.length) (hl : h.length ≤ 1000) (hQ : Q (.bl (anc h m c)) θ) : Cm3.c__law_breaks [hD h, .int c, .int m] E θ Q := by
  unfold Cm3.c__law_breaks Cm3.m__law_breaks
  simp only [mxCN, List.map_cons, List.map_nil, List.replicate, List.cons_append, List.nil_append, List.set_cons_zero, List.set_cons_succ]
  refine ⟨rfl, s_above2 a hm hl fun F g k hk hF => ?_⟩
  refine in_ints hk ?_
  have e : decide (c ∈ F) = anc h m c := by rw [Bool.eq_iff_iff, decide_eq_true_eq, hF, anc_iff]
  rw [e]
  exact end_drop hQ fun _ => rfl
end Sp

/-! Sq6: who can be it by make. -/
namespace Sp
open PySem PySem.Spec PyProof.Rows L2 Mn
variable {E : Exn → Th → Prop} {θ : Th} {Q : Dv → Th → Prop}
abbrev Ans := List (Bool × Nat)
/-- make m lets candidate c -/
noncomputable def okm (h : Hist) (l : Ans) (k : Nat) (two : Bool) (c m : Nat) : Bool := !(anc h m c && decide (k < l.count (false, m))) && !(!anc h m c && isBr two k (l.count (true, m)))
noncomputable def okc (h : Hist) (l : Ans) (k : Nat) (two : Bool) (i c : Nat) : Bool := (List.range i).all (okm h l k two c)
noncomputable def canL (h : Hist) (l : Ans) (k : Nat) (two : Bool) (i : Nat) : List Nat := (List.range h.length).filter (okc h l k two i)
abbrev rowW (b : Bool) : Str := if b then "broken" else "works"
theorem stl_ok {h : Hist} {l : Ans} {k : Nat} {two : Bool} {c m : Nat} : (stl two k (l.count (false, m)) (l.count (true, m)) = "" → okm h l k two c m = true) ∧ (stl two k (l.count (false, m)) (l.count (true, m)) ≠ "" → okm h l k two c m = decide (stl two k (l.count (false, m)) (l.count (true, m)) = rowW (anc h m c))) := by
  unfold stl okm
  by_cases h1 : k < l.count (false, m) <;> cases isBr two k (l.count (true, m)) <;> cases anc h m c <;> simp only [h1, if_true, if_false, decide_true, decide_false, Bool.false_eq_true] <;> refine ⟨?_, ?_⟩ <;> decide
end Sp

/-! Sq7: who can be it by make: the program. -/
namespace Sp
open PySem PySem.Spec PyProof.Rows L2 Mn
variable {E : Exn → Th → Prop} {θ : Th} {Q : Dv → Th → Prop}
variable {h : Hist} {l : Ans} {k : Nat} {two : Bool}
end Sp

/-! Sq8: the candidates that agree. -/
namespace Sp
open PySem PySem.Spec PyProof.Rows L2 Mn
variable {E : Exn → Th → Prop} {θ : Th} {Q : Dv → Th → Prop} {h : Hist} {l : Ans} {k : Nat} {two : Bool}
abbrev st (l : Ans) (k : Nat) (two : Bool) (m : Nat) : Str := stl two k (l.count (false, m)) (l.count (true, m))
end Sp

/-! Sr1: trees. -/
namespace Sp
open PySem PySem.Spec PyProof.Rows L2 Mn
variable {E : Exn → Th → Prop} {θ : Th} {Q : Dv → Th → Prop}
inductive Tr where
  | nob | found (c : Nat) | ask (m : Nat) (b w : Tr)
def dp : Tr → Nat
  | .ask _ b w => 1 + max (dp b) (dp w)
  | _ => 0
def below (n : Nat) : Tr → Prop
  | .ask m b w => m < n ∧ below n b ∧ below n w
  | _ => True
end Sp

/-! Sr2: places in trees. -/
namespace Sp
open PySem PySem.Spec PyProof.Rows L2 Mn
variable {E : Exn → Th → Prop} {θ : Th} {Q : Dv → Th → Prop} {l : Ans} {k : Nat} {two : Bool}
theorem n1 : ("nobody" : Str) ≠ "ask" := by decide
theorem n2 : ("found" : Str) ≠ "ask" := by decide
theorem n3 : ("nobody" : Str) ≠ "found" := by decide
/-- the part that settled makes lead to -/
def pl_ (l : Ans) (k : Nat) (two : Bool) : Tr → Tr
  | .ask m b w => if st l k two m = "" then .ask m b w else if st l k two m = "works" then pl_ l k two w else pl_ l k two b
  | t => t
theorem pl_ask {m : Nat} {b w : Tr} : pl_ l k two (.ask m b w) = if st l k two m = "" then .ask m b w else if st l k two m = "works" then pl_ l k two w else pl_ l k two b := rfl
end Sp

/-! Sr3: the tests that are still needed. -/
namespace Sp
open PySem PySem.Spec PyProof.Rows L2 Mn
variable {E : Exn → Th → Prop} {θ : Th} {Q : Dv → Th → Prop} {l : Ans} {k : Nat} {two : Bool}
theorem x_max2 {i j : Int} : max2 [.int i, .int j] E θ Q = Q (.int (if j > i then j else i)) θ := (rfl)
def more (l : Ans) (k : Nat) (two : Bool) (m : Nat) : Int := (mst two k : Nat) - ((l.count (false, m) : Nat) + (l.count (true, m) : Nat) : Int)
/-- the tests still needed -/
def nn (l : Ans) (k : Nat) (two : Bool) : Tr → Int
  | .ask m b w => if st l k two m = "" then more l k two m + max (nn l k two b) (nn l k two w) else if st l k two m = "works" then nn l k two w else nn l k two b
  | _ => 0
theorem nn_ask {m : Nat} {b w : Tr} : nn l k two (.ask m b w) = if st l k two m = "" then more l k two m + max (nn l k two b) (nn l k two w) else if st l k two m = "works" then nn l k two w else nn l k two b := rfl
theorem nn_pl : ∀ t, nn l k two (pl_ l k two t) = nn l k two t ∧ dp (pl_ l k two t) ≤ dp t ∧ ∀ m b w, pl_ l k two t = .ask m b w → st l k two m = ""
  | .nob => ⟨rfl, Nat.le_refl _, fun _ _ _ h => by cases h⟩
  | .found c => ⟨rfl, Nat.le_refl _, fun _ _ _ h => by cases h⟩
  | .ask m b w => by
    have hb := nn_pl b
    have hw := nn_pl w
    rw [pl_ask, nn_ask]
    by_cases h1 : st l k two m = ""
    · rw [if_pos h1, if_pos h1, nn_ask, if_pos h1]
      exact ⟨rfl, Nat.le_refl _, fun m' b' w' e => by cases e; exact h1⟩
    · rw [if_neg h1, if_neg h1]
      by_cases h2 : st l k two m = "works"
      · rw [if_pos h2, if_pos h2]
        exact ⟨hw.1, by have := hw.2.1; simp only [dp]; omega, hw.2.2⟩
      · rw [if_neg h2, if_neg h2]
        exact ⟨hb.1, by have := hb.2.1; simp only [dp]; omega, hb.2.2⟩
end Sp

/-! Ss1: who contradicts whom. -/
namespace Sp
open PySem PySem.Spec PyProof.Rows L2 Mn
variable {E : Exn → Th → Prop} {θ : Th} {Q : Dv → Th → Prop} {h : Hist} {l : Ans}
/-- an answer contradicts a candidate -/
noncomputable def ag (h : Hist) (c : Nat) (x : Bool × Nat) : Bool := anc h x.2 c != x.1
noncomputable def plc (h : Hist) (l : Ans) (c : Nat) : List Nat := (List.range l.length).filter fun i => match l[i]? with
  | some x => ag h c x
  | none => false
end Sp

/-! Ss2: the law's counting; verdicts. -/
namespace Sp
open PySem PySem.Spec PyProof.Rows L2 Mn
variable {E : Exn → Th → Prop} {θ : Th} {Q : Dv → Th → Prop} {h : Hist} {l : Ans}
theorem cls_iff (tl : Nat → List Nat) : ∀ n p, p ∈ cls tl n → ∀ c, c ∈ p ↔ (c < n ∧ tl c = tl (p.headD 0))
  | 0, p, h, _ => by simp [cls] at h
  | n + 1, p, h, c => by
    rw [cls_succ] at h
    unfold addP at h
    by_cases ha : ((cls tl n).any fun p => decide (tl (p.headD 0) = tl n)) = true
    · rw [if_pos ha] at h
      obtain ⟨q, hq, rfl⟩ := List.mem_map.mp h
      have ih := cls_iff tl n q hq c
      have hne := cls_ne tl n q hq
      by_cases e : tl (q.headD 0) = tl n
      · rw [if_pos e]
        have eh : (q ++ [n]).headD 0 = q.headD 0 := by
          cases q with
          | nil => exact absurd rfl hne
          | cons x q => rfl
        rw [eh, List.mem_append, ih, List.mem_singleton, e]
        constructor
        · rintro (⟨h1, h2⟩ | rfl)
          · exact ⟨by omega, h2⟩
          · exact ⟨by omega, rfl⟩
        · rintro ⟨h1, h2⟩
          by_cases hc : c = n
          · exact .inr hc
          · exact .inl ⟨by omega, h2⟩
      · rw [if_neg e, ih]
        constructor
        · exact fun ⟨h1, h2⟩ => ⟨by omega, h2⟩
        · rintro ⟨h1, h2⟩
          refine ⟨?_, h2⟩
          by_cases hc : c = n
          · subst hc; exact absurd h2.symm e
          · omega
    · rw [if_neg ha] at h
      have none_ : ∀ q, q ∈ cls tl n → tl (q.headD 0) ≠ tl n := fun q hq e => ha (List.any_eq_true.mpr ⟨q, hq, decide_eq_true e⟩)
      rcases List.mem_append.mp h with h | h
      · have ih := cls_iff tl n p h c
        rw [ih]
        constructor
        · exact fun ⟨h1, h2⟩ => ⟨by omega, h2⟩
        · rintro ⟨h1, h2⟩
          refine ⟨?_, h2⟩
          by_cases hc : c = n
          · subst hc; exact absurd h2.symm (none_ p h)
          · omega
      · rw [List.mem_singleton.mp h, List.mem_singleton]
        constructor
        · rintro rfl
          exact ⟨by omega, rfl⟩
        · rintro ⟨h1, h2⟩
          by_cases hc : c = n
          · exact hc
          · obtain ⟨q, hq, _, e⟩ := cls_has tl n c (by omega)
            exact absurd (e.trans h2) (none_ q hq)
end Sp

/-! Ss3: verdicts. -/
namespace Sp
open PySem PySem.Spec PyProof.Rows L2 Mn
variable {E : Exn → Th → Prop} {θ : Th} {Q : Dv → Th → Prop} {h : Hist} {l : Ans}
theorem one_line {a : Dv} : [a].length ≤ sizeLine := by
  show 1 ≤ sizeLine
  rw [sizeLine_eq]
  decide
theorem hd_at {row : List Nat} (hr : row ≠ []) : atI (nd row) 0 = some (.int (row.headD 0 : Nat)) := by
  cases row with
  | nil => exact absurd rfl hr
  | cons x r => exact at_0
end Sp

/-! Ss4: the law's verdicts. -/
namespace Sp
open PySem PySem.Spec PyProof.Rows L2 Mn
variable {E : Exn → Th → Prop} {θ : Th} {Q : Dv → Th → Prop} {h : Hist} {l : Ans}
theorem rng_filterG {α : Type} (d : α) (q : α → Bool) (f : α → Dv) (l : List α) : ((List.range l.length).filter (fun i => q (l.getD i d))).map (fun i => f (l.getD i d)) = (l.filter q).map f := by
  have e : l = (List.range l.length).map (fun i => l.getD i d) := by
    apply List.ext_getElem?
    intro i
    by_cases h : i < l.length
    · simp [h, List.getD_eq_getElem?_getD]
    · rw [List.getElem?_eq_none (by omega), List.getElem?_eq_none (by simp; omega)]
  conv => rhs; rw [e]
  rw [List.filter_map, List.map_map]
  rfl
end Sp

/-! Ss5: papers. -/
namespace Sp
open PySem PySem.Spec PyProof.Rows L2 Mn
variable {E : Exn → Th → Prop} {θ : Th} {Q : Dv → Th → Prop} {h : Hist} {l : Ans} {k c : Nat}
end Sp

/-! Su3: choices, weights. -/
namespace Sp
open PySem PySem.Spec PyProof.Rows L2 Mn
variable {E : Exn → Th → Prop} {θ : Th} {Q : Dv → Th → Prop}
abbrev id_ (ns : List Int) : List Dv := ns.map Dv.int
theorem x_shl {i j : Int} : oShl (.int i) (.int j) E θ Q = (CPow i j ∧ Q (.int (i * 2 ^ j.toNat)) θ) := (rfl)
end Sp

/-! Su4: the first state, what answers make of states. -/
namespace Sp
open PySem PySem.Spec PyProof.Rows L2 Mn
variable {E : Exn → Th → Prop} {θ : Th} {Q : Dv → Th → Prop} {h : Hist} {sk : List Nat}
theorem rep_map {α β : Type} (f : α → β) (x : β) : ∀ l : List α, (∀ y ∈ l, f y = x) → l.map f = List.replicate l.length x
  | [], _ => rfl
  | y :: l, h => by
    rw [List.map_cons, h y List.mem_cons_self, rep_map f x l fun z hz => h z (List.mem_cons_of_mem _ hz)]
    rfl
noncomputable def nc (h : Hist) (sk : List Nat) : Nat := (cls (tell h sk) h.length).length
noncomputable def fr (h : Hist) (sk : List Nat) : List Nat := (cls (tell h sk) h.length).map (·.headD 0)
theorem fr_len : (fr h sk).length = nc h sk := by unfold fr nc; simp
theorem fr_lt {c : Nat} (hc : c ∈ fr h sk) : c < h.length := by
  obtain ⟨p, hp, rfl⟩ := List.mem_map.mp hc
  have ne := cls_ne _ _ p hp
  refine cls_mem _ _ p hp _ ?_
  cases p with
  | nil => exact absurd rfl ne
  | cons x r => exact List.mem_cons_self
theorem nc_le : nc h sk ≤ h.length := cls_len _ _
theorem s_start {k : Int} (a : Ahead h) (hl : h.length ≤ 1000) (hw : ∀ k, (par h k).length ≤ 1000) (hQ : Q (.tup (id_ (List.replicate (nc h sk) k))) θ) : Cm.c_start [hD h, .tup (nd sk), .int k] E θ Q := by
  unfold Cm.c_start Cm.m_start
  simp only [mxCN, List.map_cons, List.map_nil, List.replicate, List.cons_append, List.nil_append, List.set_cons_zero, List.set_cons_succ, wipeE]
  refine ⟨rfl, s_classes a hl hw ?_⟩
  have nl := nc_le (h := h) (sk := sk)
  unfold nc at nl hQ
  generalize cls (tell h sk) h.length = cs at hQ nl
  refine lc_pure cs.length (fun _ => true) (fun i => .int k) (by rw [sizeLine_eq]; omega) ?_ ?_ ?_
  · intro i acc g hi
    refine ⟨.tup (nd (cs.getD i [])), _, by simp [rows, Src.at, Sd.items, hi, List.getD_eq_getElem?_getD], rfl, fun K hK => ?_⟩
    simp only [mxC, List.map_cons, List.map_nil, List.replicate, List.cons_append, List.nil_append, List.set_cons_zero, List.set_cons_succ]
    refine hK g fun _ K2 h2 => ?_
    simp only [mxC, List.map_cons, List.map_nil, List.replicate, List.cons_append, List.nil_append, List.set_cons_zero, List.set_cons_succ]
    exact h2 g
  · intro acc g
    simp [rows, Src.at, Sd.items]
  · intro g
    rw [List.filter_eq_self.mpr fun _ _ => rfl, th_mid, x_tupL]
    have e : (List.range cs.length).map (fun _ => Dv.int k) = id_ (List.replicate cs.length k) := by
      rw [rep_map (fun _ => Dv.int k) (Dv.int k) _ fun _ _ => rfl]
      unfold id_
      simp
    rw [e]
    exact end_drop hQ (fun n => flat_low (flat_map (fun _ => rfl) _) n)
theorem s_which {j : Nat} {fs row : List Nat} (hj : θ[j]? = some (.lst (nd fs))) (hf : fs.length ≤ 1000) (hQ : Q (.tup (fs.map fun c => .bl (decide (c ∈ row)))) θ) : Cm.c_which_are_in [.obj j, .tup (nd row)] E θ Q := by
  unfold Cm.c_which_are_in Cm.m_which_are_in
  simp only [mxCN, List.map_cons, List.map_nil, List.replicate, List.cons_append, List.nil_append, List.set_cons_zero, List.set_cons_succ, wipeE]
  rw [hj, x_srcL]
  refine lc_pure fs.length (fun _ => true) (fun i => .bl (decide (fs.getD i 0 ∈ row))) (by rw [sizeLine_eq]; omega) ?_ ?_ ?_
  · intro i acc g hi
    refine ⟨.int (fs.getD i 0 : Nat), _, ?_, rfl, fun K hK => ?_⟩
    · rw [src_L (th_left hj)]
      simp [hi, List.getD_eq_getElem?_getD]
    · simp only [mxC, List.map_cons, List.map_nil, List.replicate, List.cons_append, List.nil_append, List.set_cons_zero, List.set_cons_succ]
      refine hK g fun _ K2 h2 => ?_
      simp only [mxC, List.map_cons, List.map_nil, List.replicate, List.cons_append, List.nil_append, List.set_cons_zero, List.set_cons_succ]
      exact in_intsT (h2 g)
  · intro acc g
    rw [src_L (th_left hj), List.getElem?_eq_none (by simp)]
  · intro g
    rw [List.filter_eq_self.mpr fun _ _ => rfl, th_mid, x_tupL]
    have e : (List.range fs.length).map (fun i => Dv.bl (decide (fs.getD i 0 ∈ row))) = fs.map fun c => .bl (decide (c ∈ row)) := by
      apply List.ext_getElem?
      intro i
      by_cases hi : i < fs.length
      · simp [hi, List.getD_eq_getElem?_getD]
      · rw [List.getElem?_eq_none (by simp; omega), List.getElem?_eq_none (by simp; omega)]
    rw [e]
    exact end_drop hQ (fun n => flat_low (flat_map (fun _ => rfl) _) n)
/-- one less, if a and in -/
def dn (a : Bool) (y : Int) : Int := if (a && decide (0 ≤ y)) = true then y - 1 else y
def dns (as : List Bool) (st : List Int) : List Int := (List.range st.length).map fun i => dn (as.getD i false) (st.getD i 0)
end Sp

/-! Su5: what answers make of states. -/
namespace Sp
open PySem PySem.Spec PyProof.Rows L2 Mn
variable {E : Exn → Th → Prop} {θ : Th} {Q : Dv → Th → Prop} {h : Hist} {sk : List Nat} {st : List Int}
theorem dns_len (as : List Bool) : (dns as st).length = st.length := by unfold dns; simp
theorem dns_id (as : List Bool) (n : Nat) (hn : st.length = n) : (List.range n).map (fun i => Dv.int (dn (as.getD i false) (st.getD i 0))) = id_ (dns as st) := by
  subst hn
  unfold dns id_
  rw [List.map_map]
  rfl
theorem getD_bls {bs : List Bool} {i : Nat} (hi : i < bs.length) : (bs.map Dv.bl)[i]? = some (.bl (bs.getD i false)) := by
  rw [List.getElem?_map, List.getElem?_eq_getElem hi, List.getD_eq_getElem?_getD, List.getElem?_eq_getElem hi]
  rfl
theorem getD_ids {i : Nat} (hi : i < st.length) : (id_ st)[i]? = some (.int (st.getD i 0)) := by
  unfold id_
  rw [List.getElem?_map, List.getElem?_eq_getElem hi, List.getD_eq_getElem?_getD, List.getElem?_eq_getElem hi]
  rfl
theorem s_taken {b : Bool} {bs : List Bool} (hb : bs.length = st.length) (hl : st.length ≤ 1000) (hQ : Q (.tup (id_ (dns (bs.map (· != b)) st))) θ) : Cm.c_taken [.tup (id_ st), .tup (bs.map Dv.bl), .str (word b)] E θ Q := by
  unfold Cm.c_taken Cm.m_taken
  simp only [mxCN, List.map_cons, List.map_nil, List.replicate, List.cons_append, List.nil_append, List.set_cons_zero, List.set_cons_succ, wipeE]
  have low : ∀ n, (Dv.tup (id_ (dns (bs.map (· != b)) st))).low n = true := fun n => flat_low (flat_map (fun _ => rfl) _) n
  have eg : ∀ i, i < st.length → (bs.map (· != b)).getD i false = (bs.getD i false != b) := fun i hi => by
    rw [List.getD_eq_getElem?_getD, List.getElem?_map, List.getElem?_eq_getElem (by omega), List.getD_eq_getElem?_getD, List.getElem?_eq_getElem (by omega)]
    rfl
  have fin := dns_id (st := st) (bs.map (· != b)) st.length rfl
  generalize dns (bs.map (· != b)) st = R at hQ low fin
  cases b with
  | true =>
    rw [if_pos (by decide)]
    refine lc_pure st.length (fun _ => true) (fun i => .int (dn ((bs.map (· != true)).getD i false) (st.getD i 0))) (by rw [sizeLine_eq]; omega) ?_ ?_ ?_
    · intro i acc g hi
      refine ⟨.tup [.int (st.getD i 0), .bl (bs.getD i false)], _, zp_at (getD_ids hi) (getD_bls (by omega)), rfl, fun K hK => ?_⟩
      simp only [mxC, List.map_cons, List.map_nil, List.replicate, List.cons_append, List.nil_append, List.set_cons_zero, List.set_cons_succ]
      refine hK g fun _ K2 h2 => ?_
      rw [eg i hi] at h2
      have h3 := h2 g
      generalize bs.getD i false = mk at h3 ⊢
      generalize st.getD i 0 = y at h3 ⊢
      simp only [mxC, List.map_cons, List.map_nil, List.replicate, List.cons_append, List.nil_append, List.set_cons_zero, List.set_cons_succ]
      cases mk with
      | true => exact h3
      | false =>
        rw [if_neg Bool.false_ne_true]
        unfold dn at h3
        by_cases hy : y < 0
        · rw [decide_eq_true hy, if_pos rfl]
          rw [decide_eq_false (by omega)] at h3
          exact h3
        · rw [decide_eq_false hy, if_neg Bool.false_ne_true]
          rw [decide_eq_true (by omega)] at h3
          exact h3
    · intro acc g
      exact zp_end (by simp; omega)
    · intro g
      rw [List.filter_eq_self.mpr fun _ _ => rfl, th_mid, x_tupL, fin]
      exact end_drop hQ low
  | false =>
    rw [if_neg (by decide), x_seqN]
    simp only [mxCN, List.map_cons, List.map_nil, List.replicate, List.cons_append, List.nil_append, List.set_cons_zero, List.set_cons_succ, wipeE]
    refine lc_pure st.length (fun _ => true) (fun i => .int (dn ((bs.map (· != false)).getD i false) (st.getD i 0))) (by rw [sizeLine_eq]; omega) ?_ ?_ ?_
    · intro i acc g hi
      refine ⟨.tup [.int (st.getD i 0), .bl (bs.getD i false)], _, zp_at (getD_ids hi) (getD_bls (by omega)), rfl, fun K hK => ?_⟩
      simp only [mxC, List.map_cons, List.map_nil, List.replicate, List.cons_append, List.nil_append, List.set_cons_zero, List.set_cons_succ]
      refine hK g fun _ K2 h2 => ?_
      rw [eg i hi] at h2
      have h3 := h2 g
      generalize bs.getD i false = mk at h3 ⊢
      generalize st.getD i 0 = y at h3 ⊢
      simp only [mxC, List.map_cons, List.map_nil, List.replicate, List.cons_append, List.nil_append, List.set_cons_zero, List.set_cons_succ]
      cases mk with
      | false => exact h3
      | true =>
        rw [if_pos rfl]
        unfold dn at h3
        by_cases hy : 0 ≤ y
        · rw [decide_eq_true hy, if_pos rfl]
          rw [decide_eq_true hy] at h3
          exact h3
        · rw [decide_eq_false hy, if_neg Bool.false_ne_true]
          rw [decide_eq_false hy] at h3
          exact h3
    · intro acc g
      exact zp_end (by simp; omega)
    · intro g
      rw [List.filter_eq_self.mpr fun _ _ => rfl, th_mid, x_tupL, fin]
      exact end_drop hQ low
end Sp

/-! Ss6: the judge's look at one entry. -/
namespace Sp
open PySem PySem.Spec PyProof.Rows L2 Mn
variable {E : Exn → Th → Prop} {θ : Th} {Q : Dv → Th → Prop} {h : Hist} {l : Ans} {k o : Nat}
end Sp

/-! Ss7: the judge of papers. -/
namespace Sp
open PySem PySem.Spec PyProof.Rows L2 Mn
variable {E : Exn → Th → Prop} {θ : Th} {Q : Dv → Th → Prop} {h : Hist} {l : Ans} {k c : Nat}
def oth (h : Hist) (c : Nat) : List Nat := (List.range h.length).filter fun o => decide (o ≠ c)
end Sp

/-! Ss8: entries, good and bad. -/
namespace Sp
open PySem PySem.Spec PyProof.Rows L2 Mn
variable {E : Exn → Th → Prop} {θ : Th} {Q : Dv → Th → Prop} {h : Hist} {l : Ans} {k c o : Nat}
section
variable (a : Ahead h) (hl : h.length ≤ 1000) (hx : ∀ x ∈ l, x.2 < h.length)
include a hl hx
end
abbrev cI (P : List Nat) : List Int := P.map fun p : Nat => (p : Int)
end Sp

/-! Ss9: good papers. -/
namespace Sp
open PySem PySem.Spec PyProof.Rows L2 Mn
variable {E : Exn → Th → Prop} {θ : Th} {Q : Dv → Th → Prop} {h : Hist} {l : Ans} {k c o : Nat}
end Sp

/-! Va0: comprehensions over lists of anything; stores that grow. -/
namespace Sp
open PySem PySem.Spec PyProof.Rows L2 Mn
variable {E : Exn → Th → Prop} {θ θ' θ0 θ1 θ2 : Th} {Q : Dv → Th → Prop}
/-- a store that has grown -/
def Ext (θ θ' : Th) : Prop := ∃ g, θ' = θ ++ g
theorem Ext.refl : Ext θ θ := ⟨[], by simp⟩
theorem Ext.app {g : Th} : Ext θ (θ ++ g) := ⟨g, rfl⟩
theorem Ext.trans (a : Ext θ θ1) (b : Ext θ1 θ2) : Ext θ θ2 := by
  obtain ⟨g, rfl⟩ := a
  obtain ⟨g2, rfl⟩ := b
  exact ⟨g ++ g2, by rw [List.append_assoc]⟩
theorem Ext.left {g : Th} (a : Ext (θ ++ g) θ') : Ext θ θ' := Ext.trans .app a
theorem Ext.at (a : Ext θ θ') {k : Nat} {o : Ob} (h : θ[k]? = some o) : θ'[k]? = some o := by
  obtain ⟨g, rfl⟩ := a
  exact th_left h
theorem Ext.snoc {o : Ob} (a : Ext θ θ') : Ext θ (θ' ++ [o]) := a.trans .app
theorem end_ext {d : Dv} (h : Q d θ) (e : Ext θ θ') (hd : ∀ n, d.low n = true) : endQ θ Q d θ' := by
  obtain ⟨g, rfl⟩ := e
  exact end_drop h hd
/-- what a source gives -/
def SrcIs (src : Src) (θ : Th) (ds : List Dv) : Prop := ∀ θ', Ext θ θ' → ∀ i, i ≤ ds.length → src.at θ' i = some ds[i]?
theorem srcT {ds : List Dv} : SrcIs (.sd (.T ds)) θ ds := fun θ' _ i _ => rfl
theorem srcL {ds : List Dv} {k : Nat} (h : θ[k]? = some (.lst ds)) : SrcIs (.sd (.L k)) θ ds := fun θ' e i _ => src_L (e.at h) i
theorem srcR {n : Nat} : SrcIs (.rng 0 1 n) θ ((List.range n).map fun i => .int (i : Nat)) := fun θ' _ i hi => by
  rw [List.length_map, List.length_range] at hi
  by_cases h : i < n
  · rw [rng_at h]
    simp [h]
  · obtain rfl : i = n := by omega
    rw [rng_end]
    simp
theorem enAt_is {ds : List Dv} {i : Nat} (hi : i ≤ ds.length) : enAt (some ds) i = some ((ds.zipIdx.map fun x => Dv.tup [.int (x.2 : Nat), x.1])[i]?) := by
  simp only [enAt, if_pos hi]
  by_cases h : i < ds.length
  · simp [h]
  · rw [List.getElem?_eq_none (by omega), List.getElem?_eq_none (by simp; omega)]
    rfl
theorem srcE {s : Sd} {ds : List Dv} (h : ∀ θ', Ext θ θ' → s.items θ' = some ds) : SrcIs (.en s) θ (ds.zipIdx.map fun x => Dv.tup [.int (x.2 : Nat), x.1]) := fun θ' e i hi => by
  rw [List.length_map, List.length_zipIdx] at hi
  show enAt (s.items θ') i = _
  rw [h θ' e, enAt_is hi]
theorem srcET {ds : List Dv} : SrcIs (.en (.T ds)) θ (ds.zipIdx.map fun x => Dv.tup [.int (x.2 : Nat), x.1]) := srcE fun _ _ => rfl
theorem lc_list {β : Type} {src : Src} {T : Tg} {cond : DEnv → MX Bool} {elt : ME} {ρ : DEnv} {QT : Th → Prop} (l : List β) (dv : β → Dv) (p : β → Bool) (f : β → Dv) (hn : l.length < sizeLine) (hsrc : SrcIs src θ0 (l.map dv))
    (hs : ∀ x ∈ l, ∀ θ', Ext θ0 θ' → ∃ ρ1, asgT T (dv x) ρ = some ρ1 ∧ ∀ K : Bool → Th → Prop, (∀ θ1, Ext θ' θ1 → (p x = true → ∀ K2 : Dv → Th → Prop, (∀ θ2, Ext θ1 θ2 → K2 (f x) θ2) → elt ρ1 (fun _ _ => False) θ1 K2) → K (p x) θ1) → cond ρ1 (fun _ _ => False) θ' K)
    (q : ∀ θ2, Ext θ0 θ2 → θ2[θ0.length]? = some (.lst ((l.filter p).map f)) → QT θ2) : ∃ m, lcGo src T cond elt θ0.length ρ m 0 (θ0 ++ [.lst []]) QT := by
  refine lc_rule l.length (fun i θ => ∃ g, θ = θ0 ++ .lst (((l.take i).filter p).map f) :: g) ⟨[], by simp⟩ ?_ ?_
  · rintro i θ hi ⟨g, rfl⟩
    obtain ⟨ρ1, h2, h3⟩ := hs l[i] (List.getElem_mem hi) _ ⟨_, rfl⟩
    have et : l.take (i + 1) = l.take i ++ [l[i]] := by rw [List.take_add_one, List.getElem?_eq_getElem hi]; rfl
    refine ⟨dv l[i], ρ1, ?_, h2, fun K k0 k1 => h3 K fun θ1 e1 he => ?_⟩
    · rw [hsrc _ ⟨_, rfl⟩ i (by rw [List.length_map]; omega)]
      simp [hi]
    · obtain ⟨g', rfl⟩ := e1
      rw [List.append_assoc, List.cons_append] at he ⊢
      cases hp : p l[i] with
      | false =>
        refine k0 _ ⟨g ++ g', ?_⟩
        rw [et, List.filter_append]
        simp [hp]
      | true =>
        refine k1 _ fun K2 h4 => he hp K2 fun θ2 e2 => ?_
        obtain ⟨g2, rfl⟩ := e2
        rw [List.append_assoc, List.cons_append]
        refine h4 _ _ (((l.take i).filter p).map f) (by simp) ?_ ⟨g ++ g' ++ g2, ?_⟩
        · rw [List.length_map]
          refine Nat.lt_of_le_of_lt (List.length_filter_le _ _) ?_
          rw [List.length_take]
          omega
        · rw [et, List.filter_append]
          simp [hp]
  · rintro θ ⟨g, rfl⟩
    refine ⟨?_, q _ ⟨_, rfl⟩ ?_⟩
    · rw [hsrc _ ⟨_, rfl⟩ _ (by rw [List.length_map]; exact Nat.le_refl _)]
      simp
    · rw [List.take_length]
      exact th_mid
/-- without a test -/
theorem lc_all1 {β : Type} {src : Src} {T : Tg} {elt : ME} {ρ : DEnv} {QT : Th → Prop} (l : List β) (dv : β → Dv) (f : β → Dv) (hn : l.length < sizeLine) (hsrc : SrcIs src θ0 (l.map dv))
    (hs : ∀ x ∈ l, ∀ θ', Ext θ0 θ' → ∃ ρ1, asgT T (dv x) ρ = some ρ1 ∧ ∀ K2 : Dv → Th → Prop, (∀ θ2, Ext θ' θ2 → K2 (f x) θ2) → elt ρ1 (fun _ _ => False) θ' K2)
    (q : ∀ θ2, Ext θ0 θ2 → θ2[θ0.length]? = some (.lst (l.map f)) → QT θ2) : ∃ m, lcGo src T bYes elt θ0.length ρ m 0 (θ0 ++ [.lst []]) QT := by
  refine lc_list l dv (fun _ => true) f hn hsrc (fun x hx θ' e => ?_) fun θ2 e h => q θ2 e ?_
  · obtain ⟨ρ1, h1, h2⟩ := hs x hx θ' e
    refine ⟨ρ1, h1, fun K hK => ?_⟩
    rw [x_bYes]
    exact hK θ' .refl fun _ K2 h => h2 K2 h
  · rw [h, List.filter_eq_self.mpr fun _ _ => rfl]
theorem lt_line {n : Nat} (h : n ≤ 1000) : n < sizeLine := by rw [sizeLine_eq]; omega
end Sp

/-! Va1: standings. -/
namespace Sp
open PySem PySem.Spec PyProof.Rows L2 Mn
variable {E : Exn → Th → Prop} {θ : Th} {Q : Dv → Th → Prop} {h : Hist} {l : Ans} {k : Nat}
abbrev iD (l : List Int) : List Dv := l.map fun p => Dv.int p
/-- how many answers contradict -/
noncomputable def cn (h : Hist) (l : Ans) (c : Nat) : Nat := (plc h l c).length
/-- where a candidate goes away -/
noncomputable def en (h : Hist) (l : Ans) (k c : Nat) : Nat := if k < (plc h l c).length then (plc h l c).getD k 0 else l.length
end Sp

/-! Va2: standings: rivals, ranking. -/
namespace Sp
open PySem PySem.Spec PyProof.Rows L2 Mn
variable {E : Exn → Th → Prop} {θ : Th} {Q : Dv → Th → Prop} {h : Hist} {l : Ans} {k : Nat}
theorem toPy_iD {n : Nat} (ns : List Int) : allSome (toPy θ (n + 1)) (iD ns) = some (ns.map PyData.int) := allSome_map (f := toPy θ (n + 1)) (g := fun p : Int => Dv.int p) (k := fun p : Int => PyData.int p) (fun x => rfl) ns
theorem depth_iPI : ∀ ns : List Int, PyData.depthAll (ns.map PyData.int) = 0
  | [] => by simp [PyData.depthAll]
  | p :: ns => by
    rw [List.map_cons, PyData.depthAll, depth_iPI ns]
    simp [PyData.depth]
theorem x_minD {a b : ME} {ρ : DEnv} : mMinD a b ρ E θ Q = a ρ E θ fun x θ1 => b ρ E θ1 fun d θ2 => minDt x d E θ2 Q := (rfl)
end Sp

/-! Va3: standings: the order, the text; tellings; the law's counting. -/
namespace Sp
open PySem PySem.Spec PyProof.Rows L2 Mn
variable {E : Exn → Th → Prop} {θ : Th} {Q : Dv → Th → Prop} {h : Hist} {l : Ans} {k : Nat}
abbrev prP (x y : Nat) : PyData := .tuple [.int (x : Nat), .int (y : Nat)]
theorem prs_depth {β : Type} {f g : β → Nat} : ∀ xs : List β, PyData.depthAll (xs.map fun x => prP (f x) (g x)) ≤ 1
  | [] => by simp [PyData.depthAll]
  | x :: xs => by
    have := prs_depth (f := f) (g := g) xs
    rw [List.map_cons, PyData.depthAll]
    have e : (prP (f x) (g x)).depth ≤ 1 := by simp [PyData.depth, PyData.depthAll]
    omega
abbrev prD (x y : Nat) : Dv := .tup [.int (x : Nat), .int (y : Nat)]
/-- candidates by how many answers contradict them -/
noncomputable def rk (h : Hist) (l : Ans) : List Nat := (List.range h.length).mergeSort fun a b => !PySem.W.dataLt (prP (cn h l b) b) (prP (cn h l a) a)
/-- the name of a make -/
def nmA (h : Hist) (c : Nat) : Str := (h.getD c (Str.empty, [])).1
/-! tellings -/
end Sp

/-! Va4: equality of rows of ints; drawn answers as a plain tuple. -/
namespace Sp
open PySem PySem.Spec PyProof.Rows L2 Mn
variable {E : Exn → Th → Prop} {θ : Th} {Q : Dv → Th → Prop} {h : Hist} {l : Ans} {k : Nat}
theorem eqPy_of {x y : Dv} {p q : PyData} {f : Bool → Bool} (hx : toPy θ 66 x = some p) (hy : toPy θ 66 y = some q) (sp : SeqAt.shaped p = true) (sq : SeqAt.shaped q = true) (hQ : Q (.bl (f (PyData.eqv p q))) θ) : eqPy x y f E θ Q := by
  unfold eqPy
  simp only [hx, hy]
  exact ⟨sp, sq, hQ⟩
theorem lay_iI : ∀ ns : List Int, PyData.canLayAll0 (ns.map PyData.int) = true
  | [] => by simp [PyData.canLayAll0]
  | p :: ns => by
    rw [List.map_cons]
    simp [PyData.canLayAll0, PyData.canLay0, lay_iI ns]
theorem eqv_iI : ∀ ns ms : List Int, PyData.eqvAll (ns.map PyData.int) (ms.map PyData.int) = decide (ns = ms)
  | [], [] => by simp [PyData.eqvAll]
  | [], _ :: _ => by simp [PyData.eqvAll]
  | _ :: _, [] => by simp [PyData.eqvAll]
  | n :: ns, m :: ms => by
    rw [List.map_cons, List.map_cons]
    simp only [PyData.eqvAll, PyData.eqv, eqv_iI ns ms]
    rw [Bool.eq_iff_iff]
    simp
theorem sh_lI (ns : List Int) : SeqAt.shaped (.list (ns.map PyData.int)) = true := by
  unfold SeqAt.shaped
  rw [Bool.and_eq_true]
  refine ⟨by simpa [PyData.canLay0] using lay_iI ns, decide_eq_true ?_⟩
  simp only [PyData.depth, depth_iPI]
  omega
theorem toPy_lI {n j : Nat} {ns : List Int} (hj : θ[j]? = some (.lst (iD ns))) : toPy θ (n + 2) (.obj j) = some (.list (ns.map PyData.int)) := by
  unfold toPy
  simp only [hj]
  rw [toPy_iD]
  rfl
theorem eqv_lI (ns ms : List Int) : PyData.eqv (.list (ns.map PyData.int)) (.list (ms.map PyData.int)) = decide (ns = ms) := by simp only [PyData.eqv, eqv_iI]
theorem eq_lI {i j : Nat} {a b : List Int} (hi : θ[i]? = some (.lst (iD a))) (hj : θ[j]? = some (.lst (iD b))) (hQ : Q (.bl (decide (a = b))) θ) : oEq (.obj i) (.obj j) E θ Q :=
  eqPy_of (E := E) (toPy_lI hi) (toPy_lI hj) (sh_lI a) (sh_lI b) (by rw [eqv_lI]; exact hQ)
abbrev nI (l : List Nat) : List Int := l.map fun p : Nat => (p : Int)
theorem nd_iD (l : List Nat) : nd l = iD (nI l) := by unfold nd iD nI; rw [List.map_map]; rfl
theorem nI_inj {a b : List Nat} : nI a = nI b ↔ a = b := by
  constructor
  · intro e
    induction a generalizing b with
    | nil => cases b with
      | nil => rfl
      | cons y b => cases e
    | cons x a ih => cases b with
      | nil => cases e
      | cons y b =>
        unfold nI at e
        rw [List.map_cons, List.map_cons, List.cons.injEq] at e
        rw [ih (b := b) e.2, Int.ofNat.inj e.1]
  · rintro rfl
    rfl
theorem eq_lN {i j : Nat} {a b : List Nat} (hi : θ[i]? = some (.lst (nd a))) (hj : θ[j]? = some (.lst (nd b))) (hQ : Q (.bl (decide (a = b))) θ) : oEq (.obj i) (.obj j) E θ Q := by
  rw [nd_iD] at hi hj
  exact eq_lI hi hj (by rw [decide_eq_decide.mpr (nI_inj (a := a) (b := b))]; exact hQ)
/-! answers -/
end Sp

/-! Vi1: searches: the classes that are in, tests that part them, marked tests. -/
namespace Sp
open PySem PySem.Spec PyProof.Rows L2 Mn
variable {E : Exn → Th → Prop} {θ : Th} {Q : Dv → Th → Prop} {h : Hist} {sk : List Nat} {st : List Int}
/-- the classes that are in -/
def insL (st : List Int) : List Nat := (List.range st.length).filter fun i => decide (0 ≤ st.getD i 0)
theorem en_ids : (id_ st).zipIdx.map (fun x => Dv.tup [.int (x.2 : Nat), x.1]) = (List.range st.length).map fun i => Dv.tup [.int (i : Nat), .int (st.getD i 0)] := by
  refine List.ext_getElem (by simp [id_]) fun i h1 h2 => ?_
  have hi : i < st.length := by simpa [id_] using h1
  simp only [List.getElem_map, List.getElem_zipIdx, List.getElem_range, Nat.zero_add, id_]
  rw [List.getD_eq_getElem?_getD, List.getElem?_eq_getElem hi]
  rfl
theorem srcIds : SrcIs (.en (.T (id_ st))) θ ((List.range st.length).map fun i => Dv.tup [.int (i : Nat), .int (st.getD i 0)]) := by
  rw [← en_ids]
  exact srcET
theorem s_insideT (hl : st.length ≤ 1000) (hQ : Q (.tup (nd (insL st))) θ) : Cm20.c_inside [.tup (id_ st)] E θ Q := by
  unfold Cm20.c_inside Cm20.m_inside
  simp only [mxDN, List.map_cons, List.map_nil, List.replicate, List.cons_append, List.nil_append, List.set_cons_zero, List.set_cons_succ, wipeE]
  refine lc_list (List.range st.length) (fun i => Dv.tup [.int (i : Nat), .int (st.getD i 0)]) (fun i => decide (0 ≤ st.getD i 0)) (fun i => .int (i : Nat)) (lt_line (by rw [List.length_range]; exact hl)) srcIds ?_ ?_
  · intro i hi θ' e
    refine ⟨_, rfl, fun K hK => ?_⟩
    simp only [mxDN, List.map_cons, List.map_nil, List.replicate, List.cons_append, List.nil_append, List.set_cons_zero, List.set_cons_succ]
    refine hK _ .refl fun _ K2 h2 => ?_
    simp only [mxDN, List.map_cons, List.map_nil, List.replicate, List.cons_append, List.nil_append, List.set_cons_zero, List.set_cons_succ]
    exact h2 _ .refl
  · intro θ2 e h3
    rw [h3, x_tupL]
    exact end_ext hQ e (low_nats _)
/-- whether a test parts what is in -/
def prtB (st : List Int) (bs : List Bool) : Bool := (insL st).any (fun i => bs.getD i false) && (insL st).any fun i => !(bs.getD i false)
theorem in_bls {b : Bool} {j : Nat} {l : List Bool} (hj : θ[j]? = some (.lst (l.map Dv.bl))) {R : Dv → Th → Prop} (hR : R (.bl (l.any (· == b))) θ) : oIn (.bl b) (.obj j) E θ R := by
  unfold oIn inO
  simp only [hj]
  refine .inl ⟨?_, rfl, ?_⟩
  · rw [List.all_map, List.all_eq_true]
    intro y _
    rfl
  · have e1 : inF (.bl b) (l.map Dv.bl) = l.any (· == b) := by
      unfold inF
      rw [List.any_map]
      rfl
    rw [e1]
    exact hR
theorem s_parts25 {bs : List Bool} (hb : bs.length = st.length) (hl : st.length ≤ 1000) (hQ : Q (.bl (prtB st bs)) θ) : Cm20.c_parts [.tup (id_ st), .tup (bs.map Dv.bl)] E θ Q := by
  unfold Cm20.c_parts Cm20.m_parts
  simp only [mxDN, List.map_cons, List.map_nil, List.replicate, List.cons_append, List.nil_append, List.set_cons_zero, List.set_cons_succ, wipeE]
  refine ⟨rfl, s_insideT hl ?_⟩
  have li : (insL st).length ≤ 1000 := by unfold insL; have := List.length_filter_le (fun i => decide (0 ≤ st.getD i 0)) (List.range st.length); rw [List.length_range] at this; omega
  have hin : ∀ i ∈ insL st, i < bs.length := fun i hi => by
    rw [hb]
    exact List.mem_range.mp (List.mem_filter.mp hi).1
  simp only [mxDN, List.map_cons, List.map_nil, List.replicate, List.cons_append, List.nil_append, List.set_cons_zero, List.set_cons_succ]
  refine lc_all1 (insL st) (fun i => .int (i : Nat)) (fun i => .bl (bs.getD i false)) (lt_line li) srcT ?_ ?_
  · intro i hi θ' e
    refine ⟨_, rfl, fun K2 h2 => ?_⟩
    simp only [mxDN, List.map_cons, List.map_nil, List.replicate, List.cons_append, List.nil_append, List.set_cons_zero, List.set_cons_succ]
    rw [show atI (bs.map Dv.bl) (i : Int) = some (.bl (bs.getD i false)) from at_nat (getD_bls (hin i hi)), x_optW]
    exact h2 _ .refl
  · intro θ2 e h3
    rw [x_seqN]
    have e3 : (insL st).map (fun i => Dv.bl (bs.getD i false)) = ((insL st).map fun i => bs.getD i false).map Dv.bl := by rw [List.map_map]; rfl
    rw [e3] at h3
    simp only [mxDN, List.map_cons, List.map_nil, List.replicate, List.cons_append, List.nil_append, List.set_cons_zero, List.set_cons_succ]
    refine in_bls h3 ?_
    unfold prtB at hQ
    rw [List.any_map]
    have a1 : (insL st).any ((fun x => x == true) ∘ fun i => bs.getD i false) = (insL st).any fun i => bs.getD i false := by congr 1; funext i; simp
    rw [a1]
    simp only [mxDN, List.map_cons, List.map_nil, List.replicate, List.cons_append, List.nil_append, List.set_cons_zero, List.set_cons_succ]
    cases hA : (insL st).any (fun i => bs.getD i false) with
    | false =>
      rw [hA, Bool.false_and] at hQ
      rw [if_neg Bool.false_ne_true]
      exact end_ext hQ e fun _ => rfl
    | true =>
      rw [hA, Bool.true_and] at hQ
      rw [if_pos rfl]
      refine in_bls h3 ?_
      rw [List.any_map]
      have a2 : (insL st).any ((fun x => x == false) ∘ fun i => bs.getD i false) = (insL st).any fun i => !(bs.getD i false) := by congr 1; funext i; simp
      rw [a2]
      exact end_ext hQ e fun _ => rfl
theorem flat_map_bl (l : List Bool) : Flat (l.map Dv.bl) := flat_map (fun _ => rfl) l
/-- the marks of a make -/
noncomputable def mkB (h : Hist) (sk : List Nat) (m : Nat) : List Bool := (fr h sk).map fun c => anc h m c
noncomputable def mkT (h : Hist) (sk : List Nat) (m : Nat) : Dv := .tup ((mkB h sk m).map Dv.bl)
theorem mkB_len {m : Nat} : (mkB h sk m).length = nc h sk := by unfold mkB; rw [List.length_map, fr_len]
theorem fr_list (a : Ahead h) (hl : h.length ≤ 1000) (hw : ∀ k, (par h k).length ≤ 1000) : rows (cls (tell h sk) h.length) = .tup ((cls (tell h sk) h.length).map fun p => .tup (nd p)) := rfl
theorem s_marksL {ms : List Nat} (a : Ahead h) (hm : ∀ m ∈ ms, m < h.length) (hms : ms.length ≤ 1000) (hl : h.length ≤ 1000) (hw : ∀ k, (par h k).length ≤ 1000) (hQ : Q (.tup (ms.map (mkT h sk))) θ) : Cm.c_marks [hD h, .tup (nd sk), .tup (nd ms)] E θ Q := by
  unfold Cm.c_marks Cm.m_marks
  simp only [mxDN, List.map_cons, List.map_nil, List.replicate, List.cons_append, List.nil_append, List.set_cons_zero, List.set_cons_succ, wipeE]
  refine ⟨rfl, s_classes a hl hw ?_⟩
  have nl := nc_le (h := h) (sk := sk)
  unfold nc at nl
  have ne := fun p hp => cls_ne (tell h sk) h.length p hp
  rw [fr_list a hl hw]
  simp only [mxDN, List.map_cons, List.map_nil, List.replicate, List.cons_append, List.nil_append, List.set_cons_zero, List.set_cons_succ]
  refine lc_all1 (cls (tell h sk) h.length) (fun p => .tup (nd p)) (fun p => .int (p.headD 0 : Nat)) (lt_line (by omega)) srcT ?_ ?_
  · intro p hp θ' e
    refine ⟨_, rfl, fun K2 h2 => ?_⟩
    simp only [mxDN, List.map_cons, List.map_nil, List.replicate, List.cons_append, List.nil_append, List.set_cons_zero, List.set_cons_succ, hd_at (ne p hp)]
    exact h2 _ .refl
  · intro θ2 e h3
    have e3 : (cls (tell h sk) h.length).map (fun p => Dv.int (p.headD 0 : Nat)) = nd (fr h sk) := by unfold fr nd; rw [List.map_map]; rfl
    rw [e3] at h3
    rw [x_seqN]
    simp only [mxDN, List.map_cons, List.map_nil, List.replicate, List.cons_append, List.nil_append, List.set_cons_zero, List.set_cons_succ, wipeE]
    have lf : (fr h sk).length ≤ 1000 := by have := fr_len (h := h) (sk := sk); unfold nc at this; omega
    refine lc_all1 ms (fun m => .int (m : Nat)) (mkT h sk) (lt_line hms) srcT ?_ ?_
    · intro m hmm θ' e4
      refine ⟨_, rfl, fun K2 h2 => ?_⟩
      simp only [mxDN, List.map_cons, List.map_nil, List.replicate, List.cons_append, List.nil_append, List.set_cons_zero, List.set_cons_succ]
      refine ⟨rfl, s_ancestors a (hm m hmm) hl ⟨rfl, s_which (e4.at h3) lf ?_⟩⟩
      have e5 : ((fr h sk).map fun c => Dv.bl (decide (c ∈ ancL h m))) = (mkB h sk m).map Dv.bl := by
        unfold mkB
        rw [List.map_map]
        refine List.map_congr_left fun c _ => ?_
        have e1 : decide (c ∈ ancL h m) = anc h m c := by rw [Bool.eq_iff_iff, decide_eq_true_eq, mem_ancL a, anc_iff]
        rw [e1]
        rfl
      rw [e5]
      exact h2 _ .refl
    · intro θ3 e4 h4
      rw [h4, x_tupL]
      exact end_ext hQ (e.trans e4) fun n => flat_low (flat_map (fun m => flat_low (flat_map_bl _) 0) _) n
/-- the tests -/
def tsL (h : Hist) (sk : List Nat) : List Nat := (List.range (h.length - 1)).filter fun m => !decide (m ∈ sk)
theorem ts_lt {m : Nat} (hm : m ∈ tsL h sk) : m < h.length := by
  have := List.mem_range.mp (List.mem_filter.mp hm).1
  omega
theorem ts_len : (tsL h sk).length ≤ h.length := by
  unfold tsL
  have := List.length_filter_le (fun m => !decide (m ∈ sk)) (List.range (h.length - 1))
  rw [List.length_range] at this
  omega
/-- the tests with their marks -/
noncomputable def mtD (h : Hist) (sk : List Nat) : Dv := .tup ((tsL h sk).map fun m => .tup [.int (m : Nat), mkT h sk m])
theorem s_marked (a : Ahead h) (hl : h.length ≤ 1000) (hw : ∀ k, (par h k).length ≤ 1000) (hQ : Q (mtD h sk) θ) : Cm20.c_marked_tests [hD h, .tup (nd sk)] E θ Q := by
  have tl := ts_len (h := h) (sk := sk)
  unfold Cm20.c_marked_tests Cm20.m_marked_tests
  simp only [mxDN, List.map_cons, List.map_nil, List.replicate, List.cons_append, List.nil_append, List.set_cons_zero, List.set_cons_succ]
  refine ⟨rfl, s_tests hl ?_⟩
  rw [x_seqN, show (List.range (h.length - 1)).filter (fun m => !decide (m ∈ sk)) = tsL h sk from rfl]
  simp only [mxDN, List.map_cons, List.map_nil, List.replicate, List.cons_append, List.nil_append, List.set_cons_zero, List.set_cons_succ, x_tupZip]
  refine ⟨rfl, s_marksL a (fun m hm => ts_lt hm) (by omega) hl hw ?_⟩
  refine x_zipK (by simp [nd]) (end_same ?_)
  have e : zipD (nd (tsL h sk)) ((tsL h sk).map (mkT h sk)) = (tsL h sk).map fun m => Dv.tup [.int (m : Nat), mkT h sk m] := by
    unfold zipD nd
    generalize tsL h sk = l
    induction l with
    | nil => rfl
    | cons m l ih => simp only [List.map_cons, List.zip_cons_cons]; rw [ih]
  rw [e]
  exact hQ
end Sp

/-! Vi2: the ways of a search. -/
namespace Sp
open PySem PySem.Spec PyProof.Rows L2 Mn
variable {E : Exn → Th → Prop} {θ : Th} {Q : Dv → Th → Prop} {h : Hist} {sk : List Nat} {st : List Int}
/-- the state behind an answer of a test -/
noncomputable def bhS (h : Hist) (sk : List Nat) (st : List Int) (m : Nat) (b : Bool) : List Int := dns ((mkB h sk m).map (· != b)) st
theorem bhS_len {m : Nat} {b : Bool} : (bhS h sk st m b).length = st.length := dns_len _
/-- the useful tests -/
noncomputable def usL (h : Hist) (sk : List Nat) (st : List Int) : List Nat := (tsL h sk).filter fun m => prtB st (mkB h sk m)
noncomputable def wayD (h : Hist) (sk : List Nat) (st : List Int) (m : Nat) : Dv := .tup [.int (m : Nat), .tup (id_ (bhS h sk st m true)), .tup (id_ (bhS h sk st m false))]
/-- a search in the store, with what it knows -/
structure SeA (θ : Th) (d kk : Nat) (h : Hist) (sk : List Nat) (kvs : List (List Key × Dv)) : Prop where
  hd : θ[d]? = some (.ins "Search" [("marked", mtD h sk), ("step", .fn "taken"), ("known", .obj kk)])
  hk : θ[kk]? = some (.dT kvs)
theorem SeA.ext {θ' : Th} {d kk : Nat} {kvs : List (List Key × Dv)} (a : SeA θ d kk h sk kvs) (e : Ext θ θ') : SeA θ' d kk h sk kvs := ⟨e.at a.hd, e.at a.hk⟩
section
variable {d kk : Nat} {kvs : List (List Key × Dv)} {R : Dv → Th → Prop}
theorem se_marked (a : SeA θ d kk h sk kvs) (hR : R (mtD h sk) θ) : fldK "Search" "marked" R (.obj d) θ := ⟨_, mtD h sk, by rw [a.hd]; exact flds_ins, rfl, hR⟩
theorem se_step (a : SeA θ d kk h sk kvs) (hR : R (.fn "taken") θ) : fldK "Search" "step" R (.obj d) θ := ⟨_, .fn "taken", by rw [a.hd]; exact flds_ins, rfl, hR⟩
theorem se_known (a : SeA θ d kk h sk kvs) (hR : R (.obj kk) θ) : fldK "Search" "known" R (.obj d) θ := ⟨_, .obj kk, by rw [a.hd]; exact flds_ins, rfl, hR⟩
theorem se_meth {n : Nat} {m : Str} {c : List Dv → MX Dv} {as : DEnv → MX (List Dv)} {ρ : DEnv} (a : SeA θ d kk h sk kvs) (hm : (m == ("marked" : Str)) = false ∧ (m == ("step" : Str)) = false ∧ (m == ("known" : Str)) = false) (hR : as ρ E θ fun ds θ2 => ds.length = n ∧ c (.obj d :: ds) E θ2 R) : methK "Search" m n c as ρ E R (.obj d) θ :=
  ⟨_, by rw [a.hd]; exact flds_ins, by rw [List.lookup_cons, hm.1, List.lookup_cons, hm.2.1, List.lookup_cons, hm.2.2]; rfl, hR⟩
theorem s_ways25 (a : SeA θ d kk h sk kvs) (hs : st.length = nc h sk) (hl : h.length ≤ 1000) (hQ : ∀ θ' p, Ext θ θ' → θ'[p]? = some (.lst ((usL h sk st).map (wayD h sk st))) → Q (.obj p) θ') : Cm20.c_Search_ways [.obj d, .tup (id_ st)] E θ Q := by
  have nl := nc_le (h := h) (sk := sk)
  have tl := ts_len (h := h) (sk := sk)
  have b1 : ∀ m, (mkB h sk m).length = st.length := fun m => by rw [mkB_len, hs]
  unfold Cm20.c_Search_ways Cm20.m_Search_ways
  simp only [mxDN, List.map_cons, List.map_nil, List.replicate, List.cons_append, List.nil_append, List.set_cons_zero, List.set_cons_succ, x_fld, wipeE]
  refine se_step a ?_
  rw [x_seqN]
  simp only [mxDN, List.map_cons, List.map_nil, List.replicate, List.cons_append, List.nil_append, List.set_cons_zero, List.set_cons_succ, x_fld, wipeE]
  refine se_marked a ?_
  unfold mtD
  simp only [mxDN, List.map_cons, List.map_nil, List.replicate, List.cons_append, List.nil_append, List.set_cons_zero, List.set_cons_succ]
  refine lc_list (tsL h sk) (fun m => .tup [.int (m : Nat), mkT h sk m]) (fun m => prtB st (mkB h sk m)) (wayD h sk st) (lt_line (by omega)) srcT ?_ ?_
  · intro m hm θ' e
    refine ⟨_, rfl, fun K hK => ?_⟩
    simp only [mxDN, List.map_cons, List.map_nil, List.replicate, List.cons_append, List.nil_append, List.set_cons_zero, List.set_cons_succ]
    refine ⟨rfl, s_parts25 (b1 m) (by omega) ?_⟩
    rw [x_boolK]
    refine hK _ .refl fun _ K2 h2 => ?_
    simp only [mxDN, List.map_cons, List.map_nil, List.replicate, List.cons_append, List.nil_append, List.set_cons_zero, List.set_cons_succ, x_callF]
    refine ⟨rfl, rfl, s_taken (b := true) (b1 m) (by omega) ?_⟩
    refine ⟨rfl, rfl, s_taken (b := false) (b1 m) (by omega) ?_⟩
    exact ⟨by rw [sizeLine_eq]; simp, h2 _ .refl⟩
  · intro θ2 e h3
    exact end_same (hQ θ2 _ e h3)
end
end Sp

/-! Tq0: what sorting gives. -/
namespace Sp
open PySem PySem.Spec PyProof.Rows L2 Mn
variable {E : Exn → Th → Prop} {θ : Th} {Q : Dv → Th → Prop}
theorem perm_srt : ∀ {a b : List Int}, a.Perm b → a.Pairwise (· ≤ ·) → b.Pairwise (· ≤ ·) → a = b
  | [], b, h, _, _ => (List.Perm.nil_eq h)
  | x :: a, [], h, _, _ => by have := h.length_eq; simp at this
  | x :: a, y :: b, h, ha, hb => by
    have h1 : x ≤ y := by
      have : y ∈ x :: a := h.symm.subset List.mem_cons_self
      rcases List.mem_cons.mp this with e | m
      · omega
      · exact (List.pairwise_cons.mp ha).1 y m
    have h2 : y ≤ x := by
      have : x ∈ y :: b := h.subset List.mem_cons_self
      rcases List.mem_cons.mp this with e | m
      · omega
      · exact (List.pairwise_cons.mp hb).1 x m
    have e : x = y := by omega
    subst e
    rw [perm_srt (List.Perm.cons_inv h) (List.pairwise_cons.mp ha).2 (List.pairwise_cons.mp hb).2]
theorem ints_nd : ∀ l : List Nat, intsD (nd l) = some (l.map fun p : Nat => (p : Int))
  | [] => rfl
  | p :: l => by
    show (intsD (nd l)).map _ = _
    rw [ints_nd l]
    rfl
end Sp

/-! Vb1: desks: what is on one, what it tells of it. -/
namespace Sp
open PySem PySem.Spec PyProof.Rows L2 Mn
variable {E : Exn → Th → Prop} {θ : Th} {Q : Dv → Th → Prop} {h : Hist} {k : Nat}
/-- what is on a desk: answers with their numbers, skipped makes, the next number -/
structure DM where
  rows : List (Nat × (Bool × Nat))
  sk : List Nat
  nx : Nat
abbrev DM.ans (m : DM) : Ans := m.rows.map (·.2)
def rD (x : Nat × (Bool × Nat)) : Dv := .tup [.int (x.1 : Nat), an x.2]
/-- the program's word of it -/
structure ThR (m : DM) (d dr ds : Dv) : Prop where
  e : d = .tup [dr, ds, .int (m.nx : Nat)] ∨ d = .st [dr, ds, .int (m.nx : Nat)]
  r : dr = .tup (m.rows.map rD) ∨ m.rows = [] ∧ dr = .st []
  s : ds = .tup (nd m.sk) ∨ m.sk = [] ∧ ds = .st []
theorem rD_low (x : Nat × (Bool × Nat)) (n : Nat) : (rD x).low n = true := rfl
theorem rowsD_low (l : List (Nat × (Bool × Nat))) (n : Nat) : (Dv.tup (l.map rD)).low n = true := flat_low (flat_map (fun x => rD_low x 0) l) n
theorem ThR.dr_low {m : DM} {d dr ds : Dv} (t : ThR m d dr ds) (n : Nat) : dr.low n = true := by
  rcases t.r with e | ⟨_, e⟩ <;> rw [e]
  · exact rowsD_low _ n
  · rfl
theorem ThR.ds_low {m : DM} {d dr ds : Dv} (t : ThR m d dr ds) (n : Nat) : ds.low n = true := by
  rcases t.s with e | ⟨_, e⟩ <;> rw [e]
  · exact low_nats _ n
  · rfl
theorem ThR.low {m : DM} {d dr ds : Dv} (t : ThR m d dr ds) (n : Nat) : d.low n = true := by
  have h1 := t.dr_low n
  have h2 := t.ds_low n
  rcases t.e with e | e <;> rw [e] <;> unfold Dv.low Dv.lows Dv.lows Dv.lows Dv.lows <;> rw [h1, h2] <;> rfl
theorem ThR.src {m : DM} {d dr ds : Dv} (t : ThR m d dr ds) {R : Src → Th → Prop} : srcK E R dr θ = R (.sd (.T (m.rows.map rD))) θ := by
  rcases t.r with e | ⟨e0, e⟩
  · rw [e]; rfl
  · rw [e, e0]; rfl
theorem ThR.len {m : DM} {d dr ds : Dv} (t : ThR m d dr ds) {R : Dv → Th → Prop} : lenD dr E θ R = R (.int (m.rows.length : Nat)) θ := by
  rcases t.r with e | ⟨e0, e⟩
  · rw [e]
    show R (.int ((m.rows.map rD).length : Nat)) θ = _
    rw [List.length_map]
  · rw [e, e0]; rfl
/-! deeds -/
inductive Deed where
  | ans (b : Bool) (x : Str) | take (n : Int) | skip (x : Str) | unskip (x : Str)
def dD : Deed → Dv
  | .ans b x => .tup [.str "answer", .str (word b), .str x]
  | .take n => .tup [.str "take", .int n]
  | .skip x => .tup [.str "skip", .str x]
  | .unskip x => .tup [.str "unskip", .str x]
open Classical in
/-- a desk in the store -/
structure DkA (θ : Th) (d i j : Nat) (h : Hist) (k : Nat) (r : Str) (D : List Deed) (ms : List Dv) : Prop where
  hd : θ[d]? = some (.ins "Desk" [("_history", hD h), ("_k", .int (k : Nat)), ("_rule", .str r), ("_deeds", .obj i), ("_moments", .obj j)])
  hi : θ[i]? = some (.lst (D.map dD))
  hj : θ[j]? = some (.lst ms)
theorem DkA.ext {θ' : Th} {d i j : Nat} {r : Str} {D : List Deed} {ms : List Dv} (a : DkA θ d i j h k r D ms) (e : Ext θ θ') : DkA θ' d i j h k r D ms := ⟨e.at a.hd, e.at a.hi, e.at a.hj⟩
section
variable {d i j : Nat} {r : Str} {D : List Deed} {ms : List Dv} {R : Dv → Th → Prop}
/-! what a desk tells -/
variable {m : DM} {dm dr ds : Dv}
end
end Sp

/-! Vb2: the law's classes (of the drawn kind by digits). -/
namespace Sp
open PySem PySem.Spec PyProof.Rows L2 Mn
variable {E : Exn → Th → Prop} {θ : Th} {Q : Dv → Th → Prop} {h : Hist} {k : Nat}
abbrev Pt4 := List Nat × (Nat × Nat × Nat)
structure CJ (tl : Nat → List Nat) (row : Nat → List Bool) (θ : Th) (J : Nat) (qs : List Pt4) : Prop where
  hJ : θ[J]? = some (.lst (qs.map fun q => .obj q.2.1))
  at' : ∀ q, q ∈ qs → q.1 ≠ [] ∧ θ[q.2.1]? = some (.lst [.obj q.2.2.1, .obj q.2.2.2]) ∧ θ[q.2.2.1]? = some (.lst ((row (q.1.headD 0)).map Dv.bl)) ∧ θ[q.2.2.2]? = some (.lst (nd q.1))
  gt : ∀ q, q ∈ qs → J < q.2.1 ∧ J < q.2.2.1 ∧ J < q.2.2.2
  kn : (qs.map fun q => tl (q.1.headD 0)).Nodup
  ndM : (qs.map fun q => q.2.2.2).Nodup
theorem CJ.ext {tl : Nat → List Nat} {row : Nat → List Bool} {θ θ' : Th} {J : Nat} {qs : List Pt4} (c : CJ tl row θ J qs) (e : Ext θ θ') : CJ tl row θ' J qs :=
  ⟨e.at c.hJ, fun q hq => ⟨(c.at' q hq).1, e.at (c.at' q hq).2.1, e.at (c.at' q hq).2.2.1, e.at (c.at' q hq).2.2.2⟩, c.gt, c.kn, c.ndM⟩
theorem nd_cons {l : List Nat} (h : l ≠ []) : ∃ x r, nd l = .int (x : Nat) :: r := by
  cases l with
  | nil => exact absurd rfl h
  | cons x r => exact ⟨x, nd r, rfl⟩
def upJ (tl : Nat → List Nat) (c : Nat) (q : Pt4) : Pt4 := if tl (q.1.headD 0) = tl c then (q.1 ++ [c], q.2) else q
theorem upJ_2 (tl : Nat → List Nat) (c : Nat) (q : Pt4) : (upJ tl c q).2 = q.2 := by unfold upJ; split <;> rfl
theorem upJ_h (tl : Nat → List Nat) (c : Nat) (q : Pt4) (h : q.1 ≠ []) : (upJ tl c q).1.headD 0 = q.1.headD 0 := by
  unfold upJ
  split
  · exact headD_snoc h
  · rfl
theorem CJ.found {tl : Nat → List Nat} {row : Nat → List Bool} {θ : Th} {J : Nat} {qs : List Pt4} {q : Pt4} {c : Nat} (C : CJ tl row θ J qs) (hq : q ∈ qs) (hk : tl (q.1.headD 0) = tl c) : CJ tl row (θ.set q.2.2.2 (.lst (nd (q.1 ++ [c])))) J (qs.map (upJ tl c)) := by
  obtain ⟨hq0, _, _, hqm⟩ := C.at' q hq
  obtain ⟨x, r, hx⟩ := nd_cons hq0
  have ne : ∀ {a : Nat} {o : Ob}, θ[a]? = some o → (∀ r, o ≠ .lst (.int (x : Nat) :: r)) → (θ.set q.2.2.2 (.lst (nd (q.1 ++ [c]))))[a]? = some o := fun {a o} ha hn => by
    rw [List.getElem?_set_ne]
    · exact ha
    · intro e
      rw [e, ha, hx] at hqm
      exact hn r (Option.some.inj hqm)
  refine ⟨?_, fun q' hq' => ?_, fun q' hq' => ?_, ?_, ?_⟩
  · rw [List.map_map]
    have e : (fun q : Pt4 => Dv.obj q.2.1) ∘ upJ tl c = fun q => Dv.obj q.2.1 := by
      funext u
      show Dv.obj (upJ tl c u).2.1 = _
      rw [upJ_2]
    rw [e]
    refine ne C.hJ fun r z => ?_
    have z := Ob.lst.inj z
    cases qs with
    | nil => cases hq
    | cons u us => cases z
  · obtain ⟨u, hu, rfl⟩ := List.mem_map.mp hq'
    obtain ⟨u0, u1, u2, u3⟩ := C.at' u hu
    rw [upJ_h _ _ _ u0, upJ_2]
    refine ⟨?_, ne u1 (fun r z => by cases z), ne u2 (fun r z => ?_), ?_⟩
    · unfold upJ
      split
      · simp
      · exact u0
    · have z := Ob.lst.inj z
      cases hr : row (u.1.headD 0) with
      | nil => rw [hr] at z; cases z
      | cons b bs => rw [hr] at z; cases z
    · unfold upJ
      by_cases e : tl (u.1.headD 0) = tl c
      · have : u = q := nodup_inj C.kn u q hu hq (e.trans hk.symm)
        subst this
        rw [if_pos e]
        exact List.getElem?_set_self (List.getElem?_eq_some_iff.mp u3).1
      · rw [if_neg e, List.getElem?_set_ne]
        · exact u3
        · intro z
          have : u = q := nodup_inj C.ndM u q hu hq z.symm
          subst this
          exact e hk
  · obtain ⟨u, hu, rfl⟩ := List.mem_map.mp hq'
    rw [upJ_2]
    exact C.gt u hu
  · rw [List.map_map]
    have e : qs.map ((fun q : Pt4 => tl (q.1.headD 0)) ∘ upJ tl c) = qs.map fun q => tl (q.1.headD 0) := by
      apply List.map_congr_left
      intro u hu
      show tl ((upJ tl c u).1.headD 0) = _
      rw [upJ_h _ _ _ (C.at' u hu).1]
    rw [e]
    exact C.kn
  · rw [List.map_map]
    have e : (fun q : Pt4 => q.2.2.2) ∘ upJ tl c = fun q => q.2.2.2 := by
      funext u
      show (upJ tl c u).2.2.2 = _
      rw [upJ_2]
    rw [e]
    exact C.ndM
theorem addJ_found {tl : Nat → List Nat} {qs : List Pt4} {q : Pt4} {c : Nat} (hq : q ∈ qs) (hk : tl (q.1.headD 0) = tl c) : addP tl (qs.map (·.1)) c = (qs.map (upJ tl c)).map (·.1) := by
  unfold addP
  rw [if_pos, List.map_map, List.map_map]
  · apply List.map_congr_left
    intro u _
    show (if tl (u.1.headD 0) = tl c then u.1 ++ [c] else u.1) = (upJ tl c u).1
    unfold upJ
    split <;> rfl
  · rw [List.any_eq_true]
    exact ⟨q.1, List.mem_map_of_mem hq, decide_eq_true hk⟩
theorem addJ_new {tl : Nat → List Nat} {qs : List Pt4} {c : Nat} {j : Nat × Nat × Nat} (hk : ∀ q ∈ qs, tl (q.1.headD 0) ≠ tl c) : addP tl (qs.map (·.1)) c = (qs ++ [([c], j)]).map (·.1) := by
  unfold addP
  rw [if_neg, List.map_append]
  · rfl
  · intro e
    rw [List.any_eq_true] at e
    obtain ⟨p, hp, e⟩ := e
    obtain ⟨q, hq, rfl⟩ := List.mem_map.mp hp
    exact hk q hq (of_decide_eq_true e)
theorem CJ.new {tl : Nat → List Nat} {row : Nat → List Bool} {θ : Th} {J : Nat} {qs : List Pt4} {c p r m : Nat} (C : CJ tl row θ J qs) (hk : ∀ q ∈ qs, tl (q.1.headD 0) ≠ tl c) (h1 : θ[p]? = some (.lst [.obj r, .obj m])) (h2 : θ[r]? = some (.lst ((row c).map Dv.bl))) (h3 : θ[m]? = some (.lst (nd [c])))
    (g1 : J < p) (g2 : J < r) (g3 : J < m) (hm : ∀ q ∈ qs, q.2.2.2 ≠ m) : CJ tl row (θ.set J (.lst (qs.map (fun q => Dv.obj q.2.1) ++ [.obj p]))) J (qs ++ [([c], (p, r, m))]) := by
  have ne : ∀ {a : Nat} {o : Ob}, θ[a]? = some o → J < a → (θ.set J (.lst (qs.map (fun q => Dv.obj q.2.1) ++ [.obj p])))[a]? = some o := fun {a o} ha hn => by
    rw [List.getElem?_set_ne (by omega)]
    exact ha
  refine ⟨?_, fun q hq => ?_, fun q hq => ?_, ?_, ?_⟩
  · rw [List.map_append]
    exact List.getElem?_set_self (List.getElem?_eq_some_iff.mp C.hJ).1
  · rcases List.mem_append.mp hq with hq | hq
    · obtain ⟨u0, u1, u2, u3⟩ := C.at' q hq
      obtain ⟨v1, v2, v3⟩ := C.gt q hq
      exact ⟨u0, ne u1 v1, ne u2 v2, ne u3 v3⟩
    · rw [List.mem_singleton.mp hq]
      exact ⟨by simp, ne h1 g1, ne h2 g2, ne h3 g3⟩
  · rcases List.mem_append.mp hq with hq | hq
    · exact C.gt q hq
    · rw [List.mem_singleton.mp hq]
      exact ⟨g1, g2, g3⟩
  · rw [List.map_append, List.nodup_append]
    refine ⟨C.kn, by simp, fun x hx y hy e => ?_⟩
    obtain ⟨q, hq, rfl⟩ := List.mem_map.mp hx
    simp at hy
    subst hy
    exact hk q hq e
  · rw [List.map_append, List.nodup_append]
    refine ⟨C.ndM, by simp, fun x hx y hy e => ?_⟩
    obtain ⟨q, hq, rfl⟩ := List.mem_map.mp hx
    simp at hy
    subst hy
    exact hm q hq e
/-- the makes that can be tested -/
def unsk (h : Hist) (sk : List Nat) : List Nat := (List.range h.length).filter fun m => !decide (m ∈ sk)
noncomputable def rowB (h : Hist) (sk : List Nat) (c : Nat) : List Bool := (unsk h sk).map fun m => anc h m c
theorem rowB_iff {sk : List Nat} {c d : Nat} : rowB h sk c = rowB h sk d ↔ tell h sk c = tell h sk d := by
  have e : ∀ c, tell h sk c = (unsk h sk).filter fun m => anc h m c := fun c => by
    unfold tell unsk offs
    rw [List.filter_filter, List.filter_filter]
    apply List.filter_congr
    intro m _
    rw [Bool.and_comm]
  rw [e, e]
  unfold rowB
  generalize unsk h sk = U
  constructor
  · intro hh
    have key : ∀ U : List Nat, U.map (fun m => anc h m c) = U.map (fun m => anc h m d) → U.filter (fun m => anc h m c) = U.filter fun m => anc h m d := by
      intro U
      induction U with
      | nil => intro _; rfl
      | cons x U ih =>
        intro e
        rw [List.map_cons, List.map_cons, List.cons.injEq] at e
        rw [List.filter_cons, List.filter_cons, e.1, ih e.2]
    exact key U hh
  · intro hh
    apply List.map_congr_left
    intro m hm
    have h1 : m ∈ U.filter (fun m => anc h m c) ↔ m ∈ U.filter fun m => anc h m d := by rw [hh]
    rw [List.mem_filter, List.mem_filter] at h1
    rw [Bool.eq_iff_iff]
    exact ⟨fun z => (h1.mp ⟨hm, z⟩).2, fun z => (h1.mpr ⟨hm, z⟩).2⟩
theorem flt_one {β : Type} {p : β → Bool} {x : β} : ∀ {l : List β}, x ∈ l → p x = true → l.Nodup → (∀ y ∈ l, p y = true → y = x) → l.filter p = [x]
  | y :: l, hx, hp, hn, hu => by
    obtain ⟨n1, n2⟩ := List.nodup_cons.mp hn
    rcases List.mem_cons.mp hx with rfl | hx
    · rw [List.filter_cons_of_pos hp]
      congr 1
      rw [List.filter_eq_nil_iff]
      intro y hy z
      have := hu y (.tail _ hy) z
      subst this
      exact n1 hy
    · rw [List.filter_cons_of_neg]
      · exact flt_one hx hp n2 fun y hy => hu y (.tail _ hy)
      · intro z
        have := hu y (.head _) z
        subst this
        exact n1 hx
end Sp

/-! Vb3: the law's classes, what they are. -/
namespace Sp
open PySem PySem.Spec PyProof.Rows L2 Mn
variable {E : Exn → Th → Prop} {θ : Th} {Q : Dv → Th → Prop} {h : Hist} {k : Nat}
theorem toPy_bls {n j : Nat} {bs : List Bool} (hj : θ[j]? = some (.lst (bs.map Dv.bl))) : toPy θ (n + 1) (.obj j) = some (.list (bs.map PyData.bool)) := toPy_bools hj
theorem toPy_ndL {n j : Nat} {l : List Nat} (hj : θ[j]? = some (.lst (nd l))) : toPy θ (n + 2) (.obj j) = some (.list ((nI l).map PyData.int)) := by
  rw [nd_iD] at hj
  exact toPy_lI hj
theorem lay_bls : ∀ bs : List Bool, PyData.canLayAll0 (bs.map PyData.bool) = true
  | [] => by simp [PyData.canLayAll0]
  | b :: bs => by
    rw [List.map_cons]
    simp [PyData.canLayAll0, PyData.canLay0, lay_bls bs]
theorem depth_bls : ∀ bs : List Bool, PyData.depthAll (bs.map PyData.bool) = 0
  | [] => by simp [PyData.depthAll]
  | b :: bs => by
    rw [List.map_cons, PyData.depthAll, depth_bls bs]
    simp [PyData.depth]
/-- [part] == [] -/
theorem eq_partnil {J K p r m : Nat} {bs : List Bool} {l : List Nat} (hJ : θ[J]? = some (.lst [.obj p])) (hK : θ[K]? = some (.lst [])) (hp : θ[p]? = some (.lst [.obj r, .obj m])) (hr : θ[r]? = some (.lst (bs.map Dv.bl))) (hm : θ[m]? = some (.lst (nd l))) (hQ : Q (.bl false) θ) : oEq (.obj J) (.obj K) E θ Q := by
  have t1 : toPy θ 66 (.obj J) = some (.list [.list [.list (bs.map PyData.bool), .list ((nI l).map PyData.int)]]) := by
    unfold toPy
    simp only [hJ]
    have e1 : toPy θ 65 (.obj p) = some (.list [.list (bs.map PyData.bool), .list ((nI l).map PyData.int)]) := by
      unfold toPy
      simp only [hp]
      unfold allSome
      rw [toPy_bls hr]
      unfold allSome
      rw [toPy_ndL hm]
      rfl
    unfold allSome
    rw [e1]
    rfl
  have t2 : toPy θ 66 (.obj K) = some (.list []) := by
    unfold toPy
    simp only [hK]
    rfl
  have lay : PyData.canLayAll0 [PyData.list (bs.map PyData.bool), PyData.list ((nI l).map PyData.int)] = true := by
    simp only [PyData.canLayAll0, PyData.canLay0, lay_bls, lay_iI]
    rfl
  refine eqPy_of (E := E) t1 t2 ?_ (by decide +kernel) ?_
  · unfold SeqAt.shaped
    rw [Bool.and_eq_true]
    refine ⟨?_, decide_eq_true ?_⟩
    · simp only [PyData.canLayAll0, PyData.canLay0, lay_bls, lay_iI]
      rfl
    · simp only [PyData.depth, PyData.depthAll, depth_bls, depth_iPI]
      decide
  · have e : PyData.eqv (.list [.list [.list (bs.map PyData.bool), .list ((nI l).map PyData.int)]]) (.list []) = false := by simp [PyData.eqv, PyData.eqvAll]
    rw [e]
    exact hQ
theorem eq_nilnil2 {J K : Nat} (hJ : θ[J]? = some (.lst [])) (hK : θ[K]? = some (.lst [])) (hQ : Q (.bl true) θ) : oEq (.obj J) (.obj K) E θ Q :=
  eq_lN (a := []) (b := []) hJ hK (by rw [decide_eq_true rfl]; exact hQ)
theorem s_lcls {sk : List Nat} (a : AN h) (hl : h.length ≤ 1000) (hQ : ∀ θ' j, Ext θ θ' → θ'[j]? = some (.lst ((cls (tell h sk) h.length).map fun p => .tup (nd p))) → Q (.obj j) θ') : Cm13.c__law_classes [hD h, .tup (nd sk)] E θ Q := by
  unfold Cm13.c__law_classes Cm13.m__law_classes
  simp only [mxDN, List.map_cons, List.map_nil, List.replicate, List.cons_append, List.nil_append, List.set_cons_zero, List.set_cons_succ]
  refine ⟨by rw [sizeLine_eq]; simp, ?_⟩
  rw [x_seqN]
  simp only [mxDN, List.map_cons, List.map_nil, List.replicate, List.cons_append, List.nil_append, List.set_cons_zero, List.set_cons_succ, x_h1, List.length_map]
  refine ⟨⟨by omega, by omega⟩, ?_⟩
  rw [show ((h.length : Int)).toNat = h.length from rfl]
  refine for_rule h.length (fun i ρ θ' => ∃ x3 x4 x5 x6 x7 qs, ρ = [some (hD h), some (.tup (nd sk)), some (.obj θ.length), x3, x4, x5, x6, x7] ∧ Ext θ θ' ∧ CJ (tell h sk) (rowB h sk) θ' θ.length qs ∧ qs.map (·.1) = cls (tell h sk) i) ⟨none, none, none, none, none, [], rfl, .app, ⟨th_last, (fun q hq => by cases hq), (fun q hq => by cases hq), .nil, .nil⟩, rfl⟩ ?_ ?_
  · rintro c ρ θ' hc ⟨x3, x4, x5, x6, x7, qs, rfl, e, C, hqs⟩
    have ql : qs.length ≤ 1000 := by
      have e := cls_len (tell h sk) c
      rw [← hqs, List.length_map] at e
      omega
    have hlen : θ.length < θ'.length := (List.getElem?_eq_some_iff.mp C.hJ).1
    refine ⟨.int (c : Nat), _, by rw [rng_at hc]; simp, rfl, fun K LK => ?_⟩
    simp only [mxDN, List.map_cons, List.map_nil, List.replicate, List.cons_append, List.nil_append, List.set_cons_zero, List.set_cons_succ, wipeE, x_h1, List.length_map]
    refine ⟨⟨by omega, by omega⟩, ?_⟩
    rw [show ((h.length : Int)).toNat = h.length from rfl]
    refine lc_list (List.range h.length) (fun i => .int (i : Nat)) (fun m => !decide (m ∈ sk)) (fun m => .bl (anc h m c)) (by rw [List.length_range]; exact lt_line hl) srcR ?_ ?_
    · intro m hm θ2 e2
      rw [List.mem_range] at hm
      refine ⟨_, rfl, fun K hK => ?_⟩
      simp only [mxD, List.map_cons, List.map_nil, List.replicate, List.cons_append, List.nil_append, List.set_cons_zero, List.set_cons_succ]
      refine notin_intsT ?_
      rw [x_boolK]
      refine hK θ2 .refl fun _ K2 h2 => ?_
      simp only [mxD, List.map_cons, List.map_nil, List.replicate, List.cons_append, List.nil_append, List.set_cons_zero, List.set_cons_succ]
      exact ⟨rfl, s_breaks a hm hl (h2 _ .refl)⟩
    intro θ2 e2 h4
    have h4' : θ2[θ'.length]? = some (.lst ((rowB h sk c).map Dv.bl)) := by
      rw [h4]
      unfold rowB unsk
      rw [List.map_map]
      rfl
    clear h4
    have C2 := C.ext e2
    rw [x_seqN]
    simp only [mxDN, List.map_cons, List.map_nil, List.replicate, List.cons_append, List.nil_append, List.set_cons_zero, List.set_cons_succ, wipeE, C2.hJ]
    refine lc_list qs (fun q => .obj q.2.1) (fun q => decide (tell h sk (q.1.headD 0) = tell h sk c)) (fun q => .obj q.2.1) (lt_line ql) (srcL C2.hJ) ?_ ?_
    · intro q hq θ3 e3
      refine ⟨_, rfl, fun K hK => ?_⟩
      obtain ⟨u0, u1, u2, u3⟩ := (C2.ext e3).at' q hq
      simp only [mxD, List.map_cons, List.map_nil, List.replicate, List.cons_append, List.nil_append, List.set_cons_zero, List.set_cons_succ, u1]
      rw [show atI [Dv.obj q.2.2.1, Dv.obj q.2.2.2] 0 = some (.obj q.2.2.1) from rfl, x_optW]
      refine eq_bools u2 (e3.at h4') ?_
      rw [x_boolK, decide_eq_decide.mpr rowB_iff]
      refine hK θ3 .refl fun _ K2 h2 => ?_
      simp only [mxD, List.map_cons, List.map_nil, List.replicate, List.cons_append, List.nil_append, List.set_cons_zero, List.set_cons_succ]
      exact h2 _ .refl
    intro θ3 e3 h6
    have C3 := C2.ext e3
    rw [x_seqN]
    simp only [mxDN, List.map_cons, List.map_nil, List.replicate, List.cons_append, List.nil_append, List.set_cons_zero, List.set_cons_succ]
    refine ⟨by rw [sizeLine_eq]; simp, ?_⟩
    by_cases hf : ∃ q ∈ qs, tell h sk (q.1.headD 0) = tell h sk c
    · obtain ⟨q, hq, hk⟩ := hf
      have eF : qs.filter (fun q => decide (tell h sk (q.1.headD 0) = tell h sk c)) = [q] := flt_one hq (decide_eq_true hk) (List.Pairwise.of_map (fun q : Pt4 => tell h sk (q.1.headD 0)) (fun a b hne e => hne (by rw [e])) C.kn) fun u hu hd => nodup_inj C.kn u q hu hq ((of_decide_eq_true hd).trans hk.symm)
      rw [eF] at h6
      obtain ⟨u0, u1, u2, u3⟩ := C3.at' q hq
      have ap : ∀ {x : Nat} {o : Ob}, θ3[x]? = some o → (θ3 ++ [Ob.lst []])[x]? = some o := fun h => th_left h
      refine eq_partnil (ap h6) th_last (ap u1) (ap u2) (ap u3) ?_
      rw [x_boolK, if_neg Bool.false_ne_true]
      have C4 := C3.ext (θ' := θ3 ++ [Ob.lst []]) .app
      have h6' := ap h6
      obtain ⟨u0, u1, u2, u3⟩ := C4.at' q hq
      have E4 : Ext θ (θ3 ++ [Ob.lst []]) := e.trans (e2.trans (e3.trans .app))
      generalize θ3 ++ [Ob.lst []] = θ4 at C4 h6' u1 u2 u3 E4
      have eat : atI [Dv.obj q.2.1] 0 = some (.obj q.2.1) := rfl
      have eat2 : atI [Dv.obj q.2.2.1, Dv.obj q.2.2.2] 1 = some (.obj q.2.2.2) := rfl
      simp only [mxDN, List.map_cons, List.map_nil, List.replicate, List.cons_append, List.nil_append, List.set_cons_zero, List.set_cons_succ, h6', eat, u1, eat2, u3]
      refine ⟨trivial, ?_, ?_⟩
      · rw [List.length_map, sizeLine_eq]
        have := cls_part (tell h sk) c q.1 (by rw [← hqs]; exact List.mem_map_of_mem hq)
        omega
      · have e5 : nd q.1 ++ [Dv.int (c : Nat)] = nd (q.1 ++ [c]) := by simp
        rw [e5]
        refine LK.nx _ _ ⟨_, rfl, _, _, _, _, _, qs.map (upJ (tell h sk) c), rfl, ?_, C4.found hq hk, ?_⟩
        · obtain ⟨g, rfl⟩ := E4
          have hgt := (C4.gt q hq).2.2
          exact ⟨g.set (q.2.2.2 - θ.length) (.lst (nd (q.1 ++ [c]))), by rw [List.set_append_right _ _ (by omega)]⟩
        · rw [cls_succ, ← hqs, addJ_found hq hk]
    · have hk : ∀ q ∈ qs, tell h sk (q.1.headD 0) ≠ tell h sk c := fun q hq z => hf ⟨q, hq, z⟩
      have eF : qs.filter (fun q => decide (tell h sk (q.1.headD 0) = tell h sk c)) = [] := by
        rw [List.filter_eq_nil_iff]
        intro q hq z
        exact hk q hq (of_decide_eq_true z)
      rw [eF] at h6
      refine eq_nilnil2 (th_left h6) th_last ?_
      rw [x_boolK, if_pos rfl]
      have C4 := C3.ext (θ' := θ3 ++ [Ob.lst []]) .app
      have h4' : (θ3 ++ [Ob.lst []])[θ'.length]? = some (.lst ((rowB h sk c).map Dv.bl)) := th_left (e3.at h4')
      have E4 : Ext θ (θ3 ++ [Ob.lst []]) := e.trans (e2.trans (e3.trans .app))
      have hlen4 : θ.length < (θ3 ++ [Ob.lst []]).length := (List.getElem?_eq_some_iff.mp C4.hJ).1
      have mlt : ∀ q ∈ qs, q.2.2.2 < (θ3 ++ [Ob.lst []]).length := fun q hq => (List.getElem?_eq_some_iff.mp (C4.at' q hq).2.2.2).1
      generalize θ3 ++ [Ob.lst []] = θ4 at C4 h4' E4 hlen4 mlt
      simp only [mxDN, List.map_cons, List.map_nil, List.replicate, List.cons_append, List.nil_append, List.set_cons_zero, List.set_cons_succ, C4.hJ]
      refine ⟨trivial, by rw [sizeLine_eq]; simp, by rw [sizeLine_eq]; simp, ?_⟩
      have C5 := (C4.ext (θ' := θ4 ++ [Ob.lst [.int (c : Nat)]]) .app).ext (θ' := θ4 ++ [Ob.lst [.int (c : Nat)]] ++ [Ob.lst [.obj θ'.length, .obj θ4.length]]) .app
      have m1 : (θ4 ++ [Ob.lst [Dv.int (c : Nat)]] ++ [Ob.lst [.obj θ'.length, .obj θ4.length]])[θ4.length]? = some (.lst (nd [c])) := th_left th_last
      have E5 : Ext θ (θ4 ++ [Ob.lst [Dv.int (c : Nat)]] ++ [Ob.lst [.obj θ'.length, .obj θ4.length]]) := E4.trans (.trans .app .app)
      have hr := (Ext.trans (Ext.app (θ := θ4) (g := [Ob.lst [Dv.int (c : Nat)]])) (.app (g := [Ob.lst [.obj θ'.length, .obj θ4.length]]))).at h4'
      have hp : (θ4 ++ [Ob.lst [Dv.int (c : Nat)]] ++ [Ob.lst [.obj θ'.length, .obj θ4.length]])[(θ4 ++ [Ob.lst [Dv.int (c : Nat)]]).length]? = some (.lst [.obj θ'.length, .obj θ4.length]) := th_last
      have hpl : (θ4 ++ [Ob.lst [Dv.int (c : Nat)]]).length = θ4.length + 1 := by simp
      rw [hpl] at hp ⊢
      generalize θ4 ++ [Ob.lst [Dv.int (c : Nat)]] ++ [Ob.lst [.obj θ'.length, .obj θ4.length]] = θ5 at C5 m1 E5 hr hp ⊢
      rw [C5.hJ, x_appL]
      refine ⟨by rw [List.length_map, sizeLine_eq]; omega, ?_⟩
      refine LK.nx _ _ ⟨_, rfl, _, _, _, _, _, qs ++ [([c], (θ4.length + 1, θ'.length, θ4.length))], rfl, ?_, C5.new hk hp hr m1 (by omega) (by omega) (by omega) (fun q hq => by have := mlt q hq; omega), ?_⟩
      · obtain ⟨g, rfl⟩ := E5
        exact ⟨g.set (θ.length - θ.length) _, by rw [List.set_append_right _ _ (Nat.le_refl _)]⟩
      · rw [cls_succ, ← hqs, addJ_new hk]
  · rintro ρ θ' ⟨x3, x4, x5, x6, x7, qs, rfl, e, C, hqs⟩
    refine ⟨rng_end, ?_⟩
    rw [x_seqN]
    have ql : qs.length ≤ 1000 := by
      have e := cls_len (tell h sk) h.length
      rw [← hqs, List.length_map] at e
      omega
    simp only [mxDN, List.map_cons, List.map_nil, List.replicate, List.cons_append, List.nil_append, List.set_cons_zero, List.set_cons_succ, wipeE, C.hJ]
    refine lc_all1 qs (fun q => .obj q.2.1) (fun q => .tup (nd q.1)) (lt_line ql) (srcL C.hJ) ?_ ?_
    · intro q hq θ2 e2
      obtain ⟨u0, u1, u2, u3⟩ := (C.ext e2).at' q hq
      refine ⟨_, rfl, fun K2 h2 => ?_⟩
      have eat2 : atI [Dv.obj q.2.2.1, Dv.obj q.2.2.2] 1 = some (.obj q.2.2.2) := rfl
      simp only [mxD, List.map_cons, List.map_nil, List.replicate, List.cons_append, List.nil_append, List.set_cons_zero, List.set_cons_succ, u1, eat2, u3]
      exact h2 _ .refl
    · intro θ2 e2 h3
      refine end_same (hQ θ2 _ (e.trans e2) ?_)
      rw [h3, ← hqs, List.map_map]
      rfl
end Sp

/-! Va5: where candidates go away; what is drawn with a test. -/
namespace Sp
open PySem PySem.Spec PyProof.Rows L2 Mn
variable {E : Exn → Th → Prop} {θ : Th} {Q : Dv → Th → Prop} {h : Hist} {l : Ans} {k : Nat}
end Sp

/-! Vb4: the law's desk: who can be it, the state, the evenest test. -/
namespace Sp
open PySem PySem.Spec PyProof.Rows L2 Mn
variable {E : Exn → Th → Prop} {θ : Th} {Q : Dv → Th → Prop}
variable {h : Hist} {k : Nat} {m : DM}
/-- the law's word of what is on a desk -/
def lD (x : Nat × (Bool × Nat)) : Dv := .tup [.int (x.1 : Nat), .str (word x.2.1), .int (x.2.2 : Nat)]
def MdA (θ : Th) (q : Nat) (m : DM) : Prop := θ[q]? = some (.lst [.tup (m.rows.map lD), .tup (nd m.sk), .int (m.nx : Nat)])
theorem MdA.ext {θ' : Th} {q : Nat} (a : MdA θ q m) (e : Ext θ θ') : MdA θ' q m := e.at a
section
variable {d i j : Nat} {D : List Deed} {ms : List Dv} {dm dr ds : Dv} {r : Option Bool}
end
section
variable {d i j : Nat} {D : List Deed} {ms : List Dv} {dm dr ds : Dv} {r : Option Bool}
end
end Sp

/-! Vb5: the evenest test; all that a desk tells. -/
namespace Sp
open PySem PySem.Spec PyProof.Rows L2 Mn
variable {E : Exn → Th → Prop} {θ : Th} {Q : Dv → Th → Prop} {h : Hist} {k : Nat} {m : DM}
abbrev pr2 (x : Nat × Nat) : Dv := prD x.1 x.2
abbrev pp2 (x : Nat × Nat) : PyData := prP x.1 x.2
theorem pp2_inj {x y : Nat × Nat} (e : pp2 x = pp2 y) : x = y := by
  obtain ⟨a, b⟩ := x
  obtain ⟨c, d⟩ := y
  simp only [PyData.tuple.injEq, List.cons.injEq, PyData.int.injEq, and_true] at e
  obtain ⟨e1, e2⟩ := e
  have : a = c := by omega
  have : b = d := by omega
  subst_vars
  rfl
theorem fold_minD {β : Type} (f : β → PyData) (x : β) : ∀ xs : List β, ∃ y ∈ x :: xs, (xs.map f).foldl (fun a y => if PySem.W.dataLt y a then y else a) (f x) = f y
  | [] => ⟨x, .head _, rfl⟩
  | z :: xs => by
    rw [List.map_cons, List.foldl_cons]
    by_cases c : PySem.W.dataLt (f z) (f x) = true
    · rw [if_pos c]
      obtain ⟨y, hy, e⟩ := fold_minD f z xs
      exact ⟨y, .tail _ hy, e⟩
    · rw [if_neg c]
      obtain ⟨y, hy, e⟩ := fold_minD f x xs
      refine ⟨y, ?_, e⟩
      rcases List.mem_cons.mp hy with rfl | hy
      · exact .head _
      · exact .tail _ (.tail _ hy)
/-- the least of a list of pairs -/
theorem mn_ex (xs : List (Nat × Nat)) (hne : xs ≠ []) : ∃ y ∈ xs, ∀ p ps, xs.map pp2 = p :: ps → PySem.W.minD p ps = pp2 y := by
  cases xs with
  | nil => exact absurd rfl hne
  | cons x r =>
    obtain ⟨y, hy, e⟩ := fold_minD pp2 x r
    refine ⟨y, hy, fun p ps e2 => ?_⟩
    rw [List.map_cons, List.cons.injEq] at e2
    obtain ⟨rfl, rfl⟩ := e2
    exact e
noncomputable def mnP (xs : List (Nat × Nat)) : Nat × Nat := open Classical in if hne : xs ≠ [] then Classical.choose (mn_ex xs hne) else (0, 0)
theorem mnP_mem {xs : List (Nat × Nat)} (hne : xs ≠ []) : mnP xs ∈ xs := by
  unfold mnP
  rw [dif_pos hne]
  exact (Classical.choose_spec (mn_ex xs hne)).1
theorem mnP_is {xs : List (Nat × Nat)} (hne : xs ≠ []) : ∀ p ps, xs.map pp2 = p :: ps → PySem.W.minD p ps = pp2 (mnP xs) := by
  unfold mnP
  rw [dif_pos hne]
  exact (Classical.choose_spec (mn_ex xs hne)).2
section
variable {d i j : Nat} {D : List Deed} {ms : List Dv} {dm dr ds : Dv} {r : Option Bool}
end
end Sp

/-! Vi3: the fewest tests, by the definition. -/
namespace Sp
open PySem PySem.Spec PyProof.Rows L2 Mn
variable {h : Hist} {sk : List Nat} {st : List Int}
/-- how much a state can lose -/
def muS (st : List Int) : Nat := ((List.range st.length).map fun i => (st.getD i 0 + 1).toNat).sum
theorem sum_lt {l : List Nat} {f g : Nat → Nat} (hle : ∀ i ∈ l, f i ≤ g i) {j : Nat} (hj : j ∈ l) (hlt : f j < g j) : (l.map f).sum < (l.map g).sum := by
  induction l with
  | nil => cases hj
  | cons x l ih =>
    rw [List.map_cons, List.map_cons, List.sum_cons, List.sum_cons]
    have hx := hle x List.mem_cons_self
    have hl : ∀ i ∈ l, f i ≤ g i := fun i hi => hle i (List.mem_cons_of_mem _ hi)
    rcases List.mem_cons.mp hj with rfl | hj
    · have : (l.map f).sum ≤ (l.map g).sum := by
        clear ih hle hj hlt hx
        induction l with
        | nil => exact Nat.le_refl _
        | cons y l ih2 =>
          rw [List.map_cons, List.map_cons, List.sum_cons, List.sum_cons]
          have h1 := hl y List.mem_cons_self
          have h2 := ih2 fun i hi => hl i (List.mem_cons_of_mem _ hi)
          omega
      omega
    · have := ih hl hj
      omega
theorem dns_get {as : List Bool} {i : Nat} (hi : i < st.length) : (dns as st).getD i 0 = dn (as.getD i false) (st.getD i 0) := by
  unfold dns
  rw [List.getD_eq_getElem?_getD, List.getElem?_map, List.getElem?_range hi]
  rfl
theorem dn_le {a : Bool} {y : Int} : dn a y ≤ y := by
  unfold dn
  split <;> omega
theorem mu_lt {as : List Bool} {i : Nat} (hi : i < st.length) (h0 : 0 ≤ st.getD i 0) (ha : as.getD i false = true) : muS (dns as st) < muS st := by
  unfold muS
  rw [dns_len]
  refine sum_lt (j := i) (fun k hk => ?_) (List.mem_range.mpr hi) ?_
  · rw [dns_get (List.mem_range.mp hk)]
    have := dn_le (a := as.getD k false) (y := st.getD k 0)
    omega
  · rw [dns_get hi, ha]
    unfold dn
    rw [if_pos (by rw [Bool.true_and]; exact decide_eq_true h0)]
    omega
/-- a useful test leaves less, whatever the answer -/
theorem us_lt {m : Nat} {b : Bool} (hm : m ∈ usL h sk st) (hs : st.length = nc h sk) : muS (bhS h sk st m b) < muS st := by
  have hp := (List.mem_filter.mp hm).2
  unfold prtB at hp
  rw [Bool.and_eq_true, List.any_eq_true, List.any_eq_true] at hp
  obtain ⟨⟨i, hi, h1⟩, ⟨j, hj, h2⟩⟩ := hp
  have gi : i < st.length ∧ 0 ≤ st.getD i 0 := ⟨List.mem_range.mp (List.mem_filter.mp hi).1, of_decide_eq_true (List.mem_filter.mp hi).2⟩
  have gj : j < st.length ∧ 0 ≤ st.getD j 0 := ⟨List.mem_range.mp (List.mem_filter.mp hj).1, of_decide_eq_true (List.mem_filter.mp hj).2⟩
  have lb : (mkB h sk m).length = st.length := by rw [mkB_len, hs]
  have gd : ∀ k, k < st.length → ((mkB h sk m).map (· != b)).getD k false = ((mkB h sk m).getD k false != b) := fun k hk => by
    rw [List.getD_eq_getElem?_getD, List.getElem?_map, List.getD_eq_getElem?_getD, List.getElem?_eq_getElem (by rw [lb]; exact hk)]
    rfl
  unfold bhS
  cases b with
  | true =>
    refine mu_lt gj.1 gj.2 ?_
    rw [gd j gj.1]
    have : (mkB h sk m).getD j false = false := by simpa using h2
    rw [this]
    rfl
  | false =>
    refine mu_lt gi.1 gi.2 ?_
    rw [gd i gi.1, h1]
    rfl
/-- the least pair, (0, -1) if there is none -/
noncomputable def minP (xs : List (Nat × Nat)) : Nat × Int := open Classical in if xs = [] then (0, -1) else ((mnP xs).1, ((mnP xs).2 : Nat))
theorem minP_nil : minP [] = (0, -1) := by
  unfold minP
  rw [if_pos rfl]
/-- the fewest tests of a state, and the first make of them -/
noncomputable def bestF (h : Hist) (sk : List Nat) : Nat → List Int → Nat × Int
  | 0, _ => (0, -1)
  | f + 1, st => minP ((usL h sk st).map fun m => (1 + max (bestF h sk f (bhS h sk st m true)).1 (bestF h sk f (bhS h sk st m false)).1, m))
theorem bestF_eq : ∀ (n : Nat) (st : List Int) (f g : Nat), st.length = nc h sk → muS st ≤ n → muS st ≤ f → muS st ≤ g → bestF h sk f st = bestF h sk g st := by
  intro n
  induction n with
  | zero =>
    intro st f g hs h0 _ _
    have hu : usL h sk st = [] := by
      cases e : usL h sk st with
      | nil => rfl
      | cons m l =>
        have := us_lt (h := h) (sk := sk) (b := true) (show m ∈ usL h sk st by rw [e]; exact List.mem_cons_self) hs
        omega
    cases f <;> cases g <;> simp only [bestF, hu, List.map_nil, minP_nil]
  | succ n ih =>
    intro st f g hs h0 hf hg
    by_cases hu : usL h sk st = []
    · cases f <;> cases g <;> simp only [bestF, hu, List.map_nil, minP_nil]
    · obtain ⟨m0, hm0⟩ := List.exists_mem_of_ne_nil _ hu
      have p0 := us_lt (b := true) hm0 hs
      obtain ⟨f, rfl⟩ : ∃ f', f = f' + 1 := ⟨f - 1, by omega⟩
      obtain ⟨g, rfl⟩ : ∃ g', g = g' + 1 := ⟨g - 1, by omega⟩
      simp only [bestF]
      congr 1
      refine List.map_congr_left fun m hm => ?_
      have q1 := us_lt (b := true) hm hs
      have q2 := us_lt (b := false) hm hs
      rw [ih _ f g (by rw [bhS_len]; exact hs) (by omega) (by omega) (by omega), ih (bhS h sk st m false) f g (by rw [bhS_len]; exact hs) (by omega) (by omega) (by omega)]
noncomputable def bestS (h : Hist) (sk : List Nat) (st : List Int) : Nat × Int := bestF h sk (muS st) st
noncomputable def needS (h : Hist) (sk : List Nat) (st : List Int) : Nat := (bestS h sk st).1
theorem bestS_eq (hs : st.length = nc h sk) : bestS h sk st = minP ((usL h sk st).map fun m => (1 + max (needS h sk (bhS h sk st m true)) (needS h sk (bhS h sk st m false)), m)) := by
  unfold bestS
  rw [bestF_eq (muS st) st (muS st) (muS st + 1) hs (Nat.le_refl _) (Nat.le_refl _) (Nat.le_succ _)]
  simp only [bestF]
  congr 1
  refine List.map_congr_left fun m hm => ?_
  have q1 := us_lt (b := true) hm hs
  have q2 := us_lt (b := false) hm hs
  unfold needS bestS
  rw [bestF_eq (muS st) (bhS h sk st m true) (muS st) _ (by rw [bhS_len]; exact hs) (by omega) (by omega) (Nat.le_refl _), bestF_eq (muS st) (bhS h sk st m false) (muS st) _ (by rw [bhS_len]; exact hs) (by omega) (by omega) (Nat.le_refl _)]
end Sp

/-! Vi4: how many states there are. -/
namespace Sp
open PySem PySem.Spec PyProof.Rows L2 Mn
theorem sub_len {β : Type} [DecidableEq β] : ∀ {l1 l2 : List β}, l1.Nodup → (∀ x ∈ l1, x ∈ l2) → l1.length ≤ l2.length
  | [], _, _, _ => Nat.zero_le _
  | x :: l1, l2, h, hs => by
    have hx := hs x List.mem_cons_self
    rw [List.nodup_cons] at h
    have h1 : ∀ y ∈ l1, y ∈ l2.erase x := fun y hy => by
      have ne : y ≠ x := fun e => h.1 (e ▸ hy)
      exact (List.mem_erase_of_ne ne).mpr (hs y (List.mem_cons_of_mem _ hy))
    have := sub_len h.2 h1
    rw [List.length_erase_of_mem hx] at this
    have hp : 0 < l2.length := List.length_pos_of_mem hx
    rw [List.length_cons]
    omega
def allL (vs : List Int) : Nat → List (List Int)
  | 0 => [[]]
  | n + 1 => vs.flatMap fun v => (allL vs n).map (v :: ·)
theorem allL_len (vs : List Int) : ∀ n, (allL vs n).length = vs.length ^ n
  | 0 => rfl
  | n + 1 => by
    have ih := allL_len vs n
    unfold allL
    have e : ∀ ws : List Int, (ws.flatMap fun v => (allL vs n).map (v :: ·)).length = ws.length * vs.length ^ n := by
      intro ws
      induction ws with
      | nil => simp
      | cons w ws ih2 =>
        rw [List.flatMap_cons, List.length_append, ih2, List.length_map, ih, List.length_cons, Nat.succ_mul, Nat.add_comm]
    rw [e, Nat.pow_succ, Nat.mul_comm]
theorem mem_allL (vs : List Int) : ∀ {n : Nat} {x : List Int}, x.length = n → (∀ y ∈ x, y ∈ vs) → x ∈ allL vs n
  | 0, x, h, _ => by
    rw [List.length_eq_zero_iff.mp h]
    exact List.mem_singleton.mpr rfl
  | n + 1, x, h, hx => by
    cases x with
    | nil => cases h
    | cons y x =>
      unfold allL
      rw [List.mem_flatMap]
      exact ⟨y, hx y List.mem_cons_self, List.mem_map.mpr ⟨x, mem_allL vs (by simpa using h) (fun z hz => hx z (List.mem_cons_of_mem _ hz)), rfl⟩⟩
theorem few_lists {vs : List Int} {n : Nat} {l : List (List Int)} (hn : l.Nodup) (hl : ∀ x ∈ l, x.length = n ∧ ∀ y ∈ x, y ∈ vs) : l.length ≤ vs.length ^ n := by
  rw [← allL_len]
  exact sub_len hn fun x hx => mem_allL vs (hl x hx).1 (hl x hx).2
/-- the numbers of states: from -1 to top -/
def valsI (top : Nat) : List Int := (List.range (top + 2)).map fun (i : Nat) => (i : Int) - 1
theorem vals_len {top : Nat} : (valsI top).length = top + 2 := by unfold valsI; rw [List.length_map, List.length_range]
theorem mem_vals {top : Nat} {y : Int} : y ∈ valsI top ↔ -1 ≤ y ∧ y ≤ (top : Int) := by
  unfold valsI
  rw [List.mem_map]
  constructor
  · rintro ⟨i, hi, rfl⟩
    have := List.mem_range.mp hi
    omega
  · rintro ⟨h1, h2⟩
    exact ⟨(y + 1).toNat, List.mem_range.mpr (by omega), by omega⟩
/-- a state of a search -/
structure StK (n top : Nat) (st : List Int) : Prop where
  len : st.length = n
  lo : ∀ y ∈ st, -1 ≤ y ∧ y ≤ (top : Int)
theorem dn_lo {a : Bool} {y : Int} {top : Nat} (h : -1 ≤ y ∧ y ≤ (top : Int)) : -1 ≤ dn a y ∧ dn a y ≤ (top : Int) := by
  unfold dn
  split
  · rename_i c
    rw [Bool.and_eq_true, decide_eq_true_eq] at c
    omega
  · exact h
theorem StK.dns {n top : Nat} {st : List Int} (s : StK n top st) (as : List Bool) : StK n top (dns as st) := by
  refine ⟨by rw [dns_len]; exact s.len, fun y hy => ?_⟩
  unfold Sp.dns at hy
  obtain ⟨i, hi, rfl⟩ := List.mem_map.mp hy
  have hi2 := List.mem_range.mp hi
  refine dn_lo (s.lo _ ?_)
  rw [List.getD_eq_getElem?_getD, List.getElem?_eq_getElem hi2]
  exact List.getElem_mem hi2
end Sp

/-! Vi5: the search finds the fewest tests. -/
namespace Sp
open PySem PySem.Spec PyProof.Rows L2 Mn
variable {E : Exn → Th → Prop} {θ : Th} {Q : Dv → Th → Prop} {h : Hist} {sk : List Nat} {st : List Int}
def keyS (st : List Int) : List Key := st.map Sum.inl
theorem keyS_inj {a b : List Int} (e : keyS a = keyS b) : a = b := by
  unfold keyS at e
  exact List.map_inj_right (fun x y h => Sum.inl.inj h) |>.mp e
theorem tKey_ids : tKey (.tup (id_ st)) = some (keyS st) := by
  show allSome fKey (id_ st) = _
  unfold id_ keyS
  exact allSome_map (f := fKey) (g := Dv.int) (k := Sum.inl) (fun x => rfl) st
def bD (x : Nat × Int) : Dv := .tup [.int (x.1 : Nat), .int x.2]
/-- what a search knows is right -/
structure KnW (h : Hist) (sk : List Nat) (n top : Nat) (kvs : List (List Key × Dv)) : Prop where
  ok : ∀ p ∈ kvs, ∃ st, p.1 = keyS st ∧ StK n top st ∧ p.2 = bD (bestS h sk st)
  nd : (kvs.map (·.1)).Nodup
theorem KnW.nil {n top : Nat} : KnW h sk n top [] := ⟨fun p hp => (by cases hp), List.nodup_nil⟩
theorem KnW.few {n top : Nat} {kvs : List (List Key × Dv)} (w : KnW h sk n top kvs) : kvs.length ≤ (top + 2) ^ n := by
  obtain ⟨l, e⟩ : ∃ l : List (List Int), kvs.map (·.1) = l.map keyS ∧ ∀ x ∈ l, StK n top x := by
    have ok := w.ok
    clear w
    induction kvs with
    | nil => exact ⟨[], rfl, fun x hx => by cases hx⟩
    | cons p kvs ih =>
      obtain ⟨l, e1, e2⟩ := ih fun q hq => ok q (List.mem_cons_of_mem _ hq)
      obtain ⟨st, h1, h2, _⟩ := ok p List.mem_cons_self
      refine ⟨st :: l, by rw [List.map_cons, List.map_cons, e1, h1], fun x hx => ?_⟩
      rcases List.mem_cons.mp hx with rfl | hx
      · exact h2
      · exact e2 x hx
  have nd := w.nd
  rw [e.1] at nd
  have nl : l.Nodup := List.Pairwise.of_map keyS (fun a b hab e => hab (by rw [e])) nd
  have := few_lists (vs := valsI top) (n := n) nl fun x hx => ⟨(e.2 x hx).len, fun y hy => mem_vals.mpr ((e.2 x hx).lo y hy)⟩
  rw [vals_len] at this
  have el := congrArg List.length e.1
  rw [List.length_map, List.length_map] at el
  omega
theorem look_some {kvs : List (List Key × Dv)} {k : List Key} {v : Dv} (e : lookD kvs k = some v) : ∃ p ∈ kvs, p.1 = k ∧ p.2 = v := by
  unfold lookD at e
  cases c : kvs.find? fun kv => decide (kv.1 = k) with
  | none => rw [c] at e; cases e
  | some p =>
    rw [c] at e
    exact ⟨p, List.mem_of_find?_eq_some c, of_decide_eq_true (List.find?_some (p := fun kv : List Key × Dv => decide (kv.1 = k)) c), Option.some.inj e⟩
theorem look_none {kvs : List (List Key × Dv)} {k : List Key} (e : lookD kvs k = none) : ∀ p ∈ kvs, p.1 ≠ k := by
  unfold lookD at e
  rw [Option.map_eq_none_iff, List.find?_eq_none] at e
  exact fun p hp => by simpa using e p hp
theorem KnW.look {n top : Nat} {kvs : List (List Key × Dv)} {v : Dv} (w : KnW h sk n top kvs) (e : lookD kvs (keyS st) = some v) : v = bD (bestS h sk st) := by
  obtain ⟨p, hp, h1, h2⟩ := look_some e
  obtain ⟨st', e1, _, e2⟩ := w.ok p hp
  rw [h1] at e1
  rw [← h2, e2, keyS_inj e1]
theorem KnW.put {n top : Nat} {kvs : List (List Key × Dv)} (w : KnW h sk n top kvs) (hs : StK n top st) (e : lookD kvs (keyS st) = none) : KnW h sk n top (putD kvs (keyS st) (bD (bestS h sk st))) ∧ lookD (putD kvs (keyS st) (bD (bestS h sk st))) (keyS st) = some (bD (bestS h sk st)) := by
  have ne := look_none e
  have en : (kvs.any fun kv => decide (kv.1 = keyS st)) = false := by
    rw [List.any_eq_false]
    intro p hp
    simpa using ne p hp
  unfold putD
  rw [if_neg (by rw [en]; exact Bool.false_ne_true)]
  refine ⟨⟨fun p hp => ?_, ?_⟩, ?_⟩
  · rcases List.mem_append.mp hp with hp | hp
    · exact w.ok p hp
    · rw [List.mem_singleton.mp hp]
      exact ⟨st, rfl, hs, rfl⟩
  · rw [List.map_append, List.nodup_append]
    refine ⟨w.nd, by simp, fun a ha b hb e => ?_⟩
    obtain ⟨p, hp, rfl⟩ := List.mem_map.mp ha
    rw [List.map_singleton, List.mem_singleton] at hb
    rw [hb] at e
    exact ne p hp e
  · unfold lookD
    rw [List.find?_append]
    have c : kvs.find? (fun kv => decide (kv.1 = keyS st)) = none := by
      rw [List.find?_eq_none]
      intro p hp
      simpa using ne p hp
    rw [c]
    simp
/-- all but the table is as it was -/
structure Kept (kk : Nat) (θ θ' : Th) : Prop where
  len : θ.length ≤ θ'.length
  at' : ∀ n o, n ≠ kk → θ[n]? = some o → θ'[n]? = some o
theorem Kept.refl {kk : Nat} {θ : Th} : Kept kk θ θ := ⟨Nat.le_refl _, fun _ _ _ h => h⟩
theorem Kept.trans {kk : Nat} {θ θ1 θ2 : Th} (a : Kept kk θ θ1) (b : Kept kk θ1 θ2) : Kept kk θ θ2 := ⟨Nat.le_trans a.len b.len, fun n o hn h => b.at' n o hn (a.at' n o hn h)⟩
theorem Kept.ext {kk : Nat} {θ θ' : Th} (e : Ext θ θ') : Kept kk θ θ' := ⟨by obtain ⟨g, rfl⟩ := e; rw [List.length_append]; omega, fun n o _ h => e.at h⟩
end Sp

/-! Vi6: best. -/
namespace Sp
open PySem PySem.Spec PyProof.Rows L2 Mn
variable {E : Exn → Th → Prop} {θ : Th} {Q : Dv → Th → Prop} {h : Hist} {sk : List Nat} {st : List Int}
theorem x_notinT {kk : Nat} {kvs : List (List Key × Dv)} {R : Dv → Th → Prop} (hk : θ[kk]? = some (.dT kvs)) (hR : R (.bl (!(lookD kvs (keyS st)).isSome)) θ) : oNotIn (.tup (id_ st)) (.obj kk) E θ R := by
  unfold oNotIn inO
  simp only [hk, tKey_ids]
  exact hR
theorem x_ixdT {kk : Nat} {kvs : List (List Key × Dv)} {v : Dv} {R : Dv → Th → Prop} (hk : θ[kk]? = some (.dT kvs)) (hv : lookD kvs (keyS st) = some v) (hR : R v θ) : oIx (.obj kk) (.tup (id_ st)) E θ R := by
  unfold oIx
  simp only [hk, tKey_ids, hv]
  exact hR
theorem x_setT {kk : Nat} {kvs : List (List Key × Dv)} {v : Dv} {R : Unit → Th → Prop} (hk : θ[kk]? = some (.dT kvs)) (hl : kvs.length < sizeLine) (hR : R () (θ.set kk (.dT (putD kvs (keyS st) v)))) : setO (.obj kk) (.tup (id_ st)) v E θ R := by
  unfold setO
  simp only [hk, tKey_ids]
  exact ⟨hl, hR⟩
/-- min(pairs, default=(0, -1)) -/
theorem x_minPD {j : Nat} {xs : List (Nat × Nat)} (hj : θ[j]? = some (.lst (xs.map pr2))) (hQ : Q (bD (minP xs)) θ) : minDt (.obj j) (.tup [.int 0, .int (-1)]) E θ Q := by
  have ep : allSome (toPy θ 66) (xs.map pr2) = some (xs.map pp2) := allSome_map (f := toPy θ 66) (g := fun x : Nat × Nat => pr2 x) (k := fun x => pp2 x) (fun x => rfl) xs
  unfold minDt
  simp only [hj, ep]
  refine ⟨⟨fun x hx y hy => ?_, fun x hx z => ?_⟩, ?_, fun e => ?_, fun p r i y e hy hp => ?_⟩
  · obtain ⟨a, _, rfl⟩ := List.mem_map.mp hx
    obtain ⟨b, _, rfl⟩ := List.mem_map.mp hy
    simp [PySem.W.alike, PySem.W.alikeAll]
  · obtain ⟨a, _, rfl⟩ := List.mem_map.mp hx
    cases z
  · show PyData.depthAll (xs.map fun x => prP x.1 x.2) ≤ 50
    have := prs_depth (f := fun x : Nat × Nat => x.1) (g := fun x => x.2) xs
    omega
  · have : xs = [] := List.map_eq_nil_iff.mp e
    subst this
    rw [minP_nil] at hQ
    exact hQ
  · have hne : xs ≠ [] := by
      rintro rfl
      cases e
    have hm := mnP_is hne p r e
    rw [hm, List.getElem?_map] at hp
    rw [List.getElem?_map] at hy
    cases z : xs[i]? with
    | none => rw [z] at hy; cases hy
    | some w =>
      rw [z] at hy hp
      cases hy
      have e2 := pp2_inj (Option.some.inj hp)
      rw [e2]
      unfold minP at hQ
      rw [if_neg hne] at hQ
      exact hQ
variable {d kk n top : Nat}
theorem s_worth {a b : Nat} {m : Nat} (hQ : Q (.int ((1 + max a b : Nat) : Int)) θ) : Cm20.c_Search_worth [.obj d, .tup (id_ st), .int m, .int a, .int b] E θ Q := by
  unfold Cm20.c_Search_worth Cm20.m_Search_worth
  simp only [mxDN, List.map_cons, List.map_nil, List.replicate, List.cons_append, List.nil_append, List.set_cons_zero, List.set_cons_succ]
  rw [x_max2, x_addI]
  have e : (1 : Int) + (if (b : Int) > (a : Int) then (b : Int) else (a : Int)) = ((1 + max a b : Nat) : Int) := by
    split <;> omega
  rw [e]
  exact end_same hQ
theorem x_ix0 {x : Nat × Int} {R : Dv → Th → Prop} (hR : R (.int (x.1 : Nat)) θ) : oIx (bD x) (.int 0) E θ R := by
  unfold bD
  rw [x_ixT]
  exact hR
theorem KnW.put' {n top : Nat} {kvs : List (List Key × Dv)} (w : KnW h sk n top kvs) (hs : StK n top st) : KnW h sk n top (putD kvs (keyS st) (bD (bestS h sk st))) ∧ lookD (putD kvs (keyS st) (bD (bestS h sk st))) (keyS st) = some (bD (bestS h sk st)) := by
  cases c : lookD kvs (keyS st) with
  | none => exact w.put hs c
  | some v =>
    have ev := w.look c
    rw [ev] at c
    obtain ⟨p, hp, h1, h2⟩ := look_some c
    have ea : (kvs.any fun kv => decide (kv.1 = keyS st)) = true := List.any_eq_true.mpr ⟨p, hp, by simpa using h1⟩
    have e : putD kvs (keyS st) (bD (bestS h sk st)) = kvs := by
      unfold putD
      rw [if_pos ea]
      refine (List.map_congr_left (g := id) fun q hq => ?_).trans (List.map_id _)
      obtain ⟨st', e1, _, e2⟩ := w.ok q hq
      split
      · next z =>
        have e3 := keyS_inj (e1.symm.trans z)
        subst e3
        show (q.1, _) = q
        rw [← e2]
      · rfl
    rw [e]
    exact ⟨w, c⟩
theorem s_best : ∀ (f : Nat) (st : List Int) (θ : Th) (kvs : List (List Key × Dv)) (E : Exn → Th → Prop) (Q : Dv → Th → Prop), muS st < f → StK n top st → n = nc h sk → h.length ≤ 1000 → (top + 2) ^ n ≤ 100000 → SeA θ d kk h sk kvs → KnW h sk n top kvs →
    (∀ θ' kvs', SeA θ' d kk h sk kvs' → KnW h sk n top kvs' → Kept kk θ θ' → Q (bD (bestS h sk st)) θ') → Cm20.c_Search_best f [.obj d, .tup (id_ st)] E θ Q := by
  intro f
  induction f with
  | zero => intro st θ kvs E Q hf; omega
  | succ f ih =>
    intro st θ kvs E Q hf hst hn hl htop A W hQ
    have ez := sizeLine_eq
    have hs : st.length = nc h sk := by rw [hst.len, hn]
    have few := W.few
    unfold Cm20.c_Search_best Cm20.m_Search_best
    simp only [mxDN, List.map_cons, List.map_nil, List.replicate, List.cons_append, List.nil_append, List.set_cons_zero, List.set_cons_succ, x_fld]
    refine se_known A ?_
    refine x_notinT A.hk ?_
    cases c : lookD kvs (keyS st) with
    | some v =>
      have ev := W.look c
      rw [ev] at c
      rw [x_boolK, if_neg (by simp), x_seqN]
      simp only [mxDN, List.map_cons, List.map_nil, List.replicate, List.cons_append, List.nil_append, List.set_cons_zero, List.set_cons_succ, x_fld]
      refine se_known A (x_ixdT A.hk c ?_)
      exact end_same (hQ θ kvs A W .refl)
    | none =>
      rw [x_boolK, if_pos (by simp)]
      rw [x_seqN]
      simp only [mxDN, List.map_cons, List.map_nil, List.replicate, List.cons_append, List.nil_append, List.set_cons_zero, List.set_cons_succ]
      refine ⟨Nat.zero_le _, ?_⟩
      have A1 := A.ext (Ext.app (g := [Ob.lst []]))
      simp only [mxDN, List.map_cons, List.map_nil, List.replicate, List.cons_append, List.nil_append, List.set_cons_zero, List.set_cons_succ, x_meth]
      refine se_meth A1 (by decide) ?_
      simp only [mxDN, List.map_cons, List.map_nil, List.replicate, List.cons_append, List.nil_append, List.set_cons_zero, List.set_cons_succ]
      refine ⟨rfl, s_ways25 A1 hs hl fun θ2 p e2 hp => ?_⟩
      have A2 := A1.ext e2
      have hq2 : θ2[θ.length]? = some (.lst []) := e2.at th_last
      have nkq : θ.length ≠ kk := fun e => by
        have := (List.getElem?_eq_some_iff.mp A.hk).1
        omega
      have nkp : p ≠ kk := fun e => by
        rw [e, A2.hk] at hp
        cases hp
      have K2 : Kept kk θ θ2 := .ext ((Ext.app (g := [Ob.lst []])).trans e2)
      have lus : (usL h sk st).length ≤ 1000 := by
        have h1 := List.length_filter_le (fun m => prtB st (mkB h sk m)) (tsL h sk)
        have h2 := ts_len (h := h) (sk := sk)
        unfold usL
        omega
      simp only [mxDN, List.map_cons, List.map_nil, List.replicate, List.cons_append, List.nil_append, List.set_cons_zero, List.set_cons_succ, hp]
      obtain ⟨pr, hpr⟩ : ∃ pr : Nat → Nat × Nat, pr = fun m => (1 + max (needS h sk (bhS h sk st m true)) (needS h sk (bhS h sk st m false)), m) := ⟨_, rfl⟩
      have hbest : bestS h sk st = minP ((usL h sk st).map pr) := by rw [hpr]; exact bestS_eq hs
      refine for_rule (usL h sk st).length (fun t ρ θ' => ∃ x3 x4 x5 kvs', ρ = [some (.obj d), some (.tup (id_ st)), some (.obj θ.length), x3, x4, x5] ∧ SeA θ' d kk h sk kvs' ∧ KnW h sk n top kvs' ∧ Kept kk θ θ' ∧ θ'[p]? = some (.lst ((usL h sk st).map (wayD h sk st))) ∧ θ'[θ.length]? = some (.lst ((((usL h sk st).take t).map pr).map pr2)))
        ⟨none, none, none, kvs, rfl, A2, W, K2, hp, hq2⟩ ?_ ?_
      · rintro t ρ θ' ht ⟨x3, x4, x5, kvs', rfl, A3, W3, K3, hp3, hq3⟩
        obtain ⟨m, hm⟩ : ∃ m, (usL h sk st)[t]? = some m := ⟨_, List.getElem?_eq_getElem ht⟩
        have hmem : m ∈ usL h sk st := List.mem_of_getElem? hm
        refine ⟨wayD h sk st m, _, by rw [src_L hp3, List.getElem?_map, hm]; rfl, rfl, fun K LK => ?_⟩
        simp only [mxDN, List.map_cons, List.map_nil, List.replicate, List.cons_append, List.nil_append, List.set_cons_zero, List.set_cons_succ, x_meth]
        refine ⟨by rw [hq3]; rfl, ?_⟩
        refine se_meth A3 (by decide) ?_
        simp only [mxDN, List.map_cons, List.map_nil, List.replicate, List.cons_append, List.nil_append, List.set_cons_zero, List.set_cons_succ, x_meth]
        refine se_meth A3 (by decide) ?_
        simp only [mxDN, List.map_cons, List.map_nil, List.replicate, List.cons_append, List.nil_append, List.set_cons_zero, List.set_cons_succ]
        refine ⟨rfl, ih _ _ _ _ _ (Nat.lt_of_lt_of_le (us_lt hmem hs) (Nat.le_of_lt_succ hf)) (hst.dns _) hn hl htop A3 W3 fun θ4 kvs4 A4 W4 K4 => ?_⟩
        refine x_ix0 ?_
        refine se_meth A4 (by decide) ?_
        simp only [mxDN, List.map_cons, List.map_nil, List.replicate, List.cons_append, List.nil_append, List.set_cons_zero, List.set_cons_succ]
        refine ⟨rfl, ih _ _ _ _ _ (Nat.lt_of_lt_of_le (us_lt hmem hs) (Nat.le_of_lt_succ hf)) (hst.dns _) hn hl htop A4 W4 fun θ5 kvs5 A5 W5 K5 => ?_⟩
        refine x_ix0 ?_
        refine ⟨rfl, ?_⟩
        refine s_worth ?_
        have hp5 := K5.at' _ _ nkp (K4.at' _ _ nkp hp3)
        have hq5 := K5.at' _ _ nkq (K4.at' _ _ nkq hq3)
        refine ⟨by show 2 ≤ sizeLine; omega, ?_⟩
        rw [hq5, x_appL]
        refine ⟨?_, ?_⟩
        · have := List.length_take_le t (usL h sk st)
          rw [List.length_map, List.length_map]
          omega
        have hlt : θ.length < θ5.length := (List.getElem?_eq_some_iff.mp hq5).1
        have nd : θ.length ≠ d := fun e => by
          have := (List.getElem?_eq_some_iff.mp A.hd).1
          omega
        have npq : θ.length ≠ p := fun e => by
          rw [← e, hq2] at hp
          have e3 := Option.some.inj hp
          have e4 : ([] : List Dv) = (usL h sk st).map (wayD h sk st) := by injection e3
          have := congrArg List.length e4
          rw [List.length_map, List.length_nil] at this
          omega
        refine LK.nx _ _ ⟨_, rfl, _, _, _, kvs5, rfl, ⟨?_, ?_⟩, W5, ⟨?_, fun n o hn ho => ?_⟩, ?_, ?_⟩
        · rw [List.getElem?_set_ne nd]
          exact A5.hd
        · rw [List.getElem?_set_ne nkq]
          exact A5.hk
        · rw [List.length_set]
          exact Nat.le_of_lt hlt
        · have hlo := (List.getElem?_eq_some_iff.mp ho).1
          rw [List.getElem?_set_ne (by omega)]
          exact ((K3.trans K4).trans K5).at' n o hn ho
        · rw [List.getElem?_set_ne npq]
          exact hp5
        · rw [List.getElem?_set_self hlt, List.take_add_one, hm, List.map_append, List.map_append]
          congr 3
          rw [hpr]
          rfl
      · rintro ρ θ' ⟨x3, x4, x5, kvs', rfl, A3, W3, K3, hp3', hq3⟩
        rw [List.take_length] at hq3
        have few3 := W3.few
        refine ⟨by rw [src_L hp3', List.getElem?_eq_none (by rw [List.length_map]; exact Nat.le_refl _)], ?_⟩
        rw [x_seqN, x_put]
        simp only [mxDN, List.map_cons, List.map_nil, List.replicate, List.cons_append, List.nil_append, List.set_cons_zero, List.set_cons_succ, x_minD]
        refine ⟨by show 2 ≤ sizeLine; omega, ?_⟩
        refine x_minPD hq3 ?_
        rw [← hbest]
        simp only [mxDN, List.map_cons, List.map_nil, List.replicate, List.cons_append, List.nil_append, List.set_cons_zero, List.set_cons_succ, x_fld]
        refine se_known A3 (x_setT A3.hk (by omega) ?_)
        obtain ⟨W4, lk⟩ := W3.put' hst
        have hlk : kk < θ'.length := (List.getElem?_eq_some_iff.mp A3.hk).1
        have nkd : kk ≠ d := fun e => by
          have h1 := A.hk
          have h2 := A.hd
          rw [e, h2] at h1
          cases h1
        have A4 : SeA (θ'.set kk (.dT (putD kvs' (keyS st) (bD (bestS h sk st))))) d kk h sk (putD kvs' (keyS st) (bD (bestS h sk st))) := ⟨by rw [List.getElem?_set_ne nkd]; exact A3.hd, List.getElem?_set_self hlk⟩
        rw [x_seqN]
        simp only [mxDN, List.map_cons, List.map_nil, List.replicate, List.cons_append, List.nil_append, List.set_cons_zero, List.set_cons_succ, x_fld]
        refine se_known A4 (x_ixdT A4.hk lk ?_)
        refine end_same (hQ _ _ A4 W4 ⟨?_, fun n o hn ho => ?_⟩)
        · rw [List.length_set]
          exact K3.len
        · rw [List.getElem?_set_ne (Ne.symm hn)]
          exact K3.at' n o hn ho
end Sp

/-! Vb6: the law's look at a desk. -/
namespace Sp
open PySem PySem.Spec PyProof.Rows L2 Mn
variable {E : Exn → Th → Prop} {θ : Th} {Q : Dv → Th → Prop} {h : Hist} {k : Nat} {m : DM}
end Sp

/-! Vb7: plain data, told twice; a desk told twice. -/
namespace Sp
open PySem PySem.Spec PyProof.Rows L2 Mn
variable {E : Exn → Th → Prop} {θ : Th} {Q : Dv → Th → Prop} {h : Hist} {k : Nat} {m : DM}
/-- plain data, with no objects -/
structure Pu (n : Nat) (d : Dv) (p : PyData) : Prop where
  py : ∀ (θ : Th) (f : Nat), n ≤ f → toPy θ f d = some p
  lay : PyData.canLay0 p = true
  dep : PyData.depth p ≤ n
structure Pus (n : Nat) (ds : List Dv) (ps : List PyData) : Prop where
  py : ∀ (θ : Th) (f : Nat), n ≤ f → allSome (toPy θ f) ds = some ps
  lay : PyData.canLayAll0 ps = true
  dep : PyData.depthAll ps ≤ n
theorem Pu.sh {n : Nat} {d : Dv} {p : PyData} (a : Pu n d p) (hn : n ≤ 64) : SeqAt.shaped p = true := by
  unfold SeqAt.shaped
  rw [Bool.and_eq_true]
  exact ⟨a.lay, decide_eq_true (Nat.le_trans a.dep hn)⟩
/-- a deed whose name can be told -/
def okD : Deed → Prop
  | .ans _ x => PyData.strOk x = true
  | .take _ => True
  | .skip x => PyData.strOk x = true
  | .unskip x => PyData.strOk x = true
section
variable {d i j : Nat} {D : List Deed} {ms : List Dv} {dm dr ds : Dv} {r : Option Bool}
end
end Sp

/-! Su6: both parts; the law's weights. -/
namespace Sp
open PySem PySem.Spec PyProof.Rows L2 Mn
variable {E : Exn → Th → Prop} {θ : Th} {Q : Dv → Th → Prop} {h : Hist} {sk : List Nat} {st : List Int}
theorem wt_zero : ∀ st : List Int, wt 0 st = (st.filter fun x => decide (0 ≤ x)).length
  | [] => rfl
  | x :: st => by
    rw [wt_cons, wt_zero st, List.filter_cons]
    by_cases hx : 0 ≤ x
    · rw [if_pos (decide_eq_true hx), List.length_cons]
      have : chs 0 (x + 1).toNat = 1 := by
        obtain ⟨n, hn⟩ : ∃ n, (x + 1).toNat = n + 1 := ⟨x.toNat, by omega⟩
        rw [hn]
        clear hn hx
        induction n with
        | zero => rfl
        | succ n ih =>
          show chs 0 (n + 1) + cho 0 (n + 1) = 1
          rw [ih]
          rfl
      omega
    · rw [if_neg (by simpa using hx)]
      have : (x + 1).toNat = 0 ∨ (x + 1).toNat = 0 := by omega
      rw [show (x + 1).toNat = 0 by omega]
      simp [chs]
end Sp

/-! Su7: the law's triangle. -/
namespace Sp
open PySem PySem.Spec PyProof.Rows L2 Mn
variable {E : Exn → Th → Prop} {θ : Th} {Q : Dv → Th → Prop}
def rw_ (t : Nat) : List Nat := (List.range (t + 1)).map (cho t)
end Sp

/-! Su8: the law's numbers of choices, and its weights. -/
namespace Sp
open PySem PySem.Spec PyProof.Rows L2 Mn
variable {E : Exn → Th → Prop} {θ : Th} {Q : Dv → Th → Prop} {st : List Int}
end Sp

/-! Su9: great numbers are shown alike. -/
namespace Sp
open PySem PySem.Spec PyProof.Rows L2 Mn
variable {E : Exn → Th → Prop} {θ : Th} {Q : Dv → Th → Prop}
def Og (d : PyData) (m n : Nat) : Prop := d.showable = true ∧ d.hasDict = false ∧ d.depth ≤ m ∧ d.leavesShort 100 = true ∧ d.weight ≤ n
def OgA (ds : List PyData) (m n : Nat) : Prop := PyData.showableAll ds = true ∧ PyData.hasDictAll ds = false ∧ PyData.depthAll ds ≤ m ∧ PyData.leavesShortAll 100 ds = true ∧ PyData.weightAll ds ≤ n
theorem OgA.nil {m n : Nat} : OgA [] m n := ⟨by simp [PyData.showableAll], by simp [PyData.hasDictAll], by simp [PyData.depthAll], by simp [PyData.leavesShortAll], by simp [PyData.weightAll]⟩
theorem OgA.cons {d : PyData} {ds : List PyData} {m a b : Nat} (x : Og d m a) (y : OgA ds m b) : OgA (d :: ds) m (a + b + 1) := by
  obtain ⟨x1, x2, x3, x4, x5⟩ := x
  obtain ⟨y1, y2, y3, y4, y5⟩ := y
  refine ⟨?_, ?_, ?_, ?_, ?_⟩
  · simp only [PyData.showableAll, x1, y1, Bool.and_true]
  · simp only [PyData.hasDictAll, x2, y2, Bool.or_false]
  · simp only [PyData.depthAll]; omega
  · simp only [PyData.leavesShortAll, x4, y4, Bool.and_true]
  · simp only [PyData.weightAll]; omega
theorem Og.tuple {ds : List PyData} {m n : Nat} (x : OgA ds m n) : Og (.tuple ds) (m + 1) (n + 1) := by
  obtain ⟨x1, x2, x3, x4, x5⟩ := x
  refine ⟨?_, ?_, ?_, ?_, ?_⟩
  · simpa only [PyData.showable] using x1
  · simpa only [PyData.hasDict] using x2
  · simp only [PyData.depth]; omega
  · simpa only [PyData.leavesShort] using x4
  · simp only [PyData.weight]; omega
theorem Og.list {ds : List PyData} {m n : Nat} (x : OgA ds m n) : Og (.list ds) (m + 1) (n + 1) := by
  obtain ⟨x1, x2, x3, x4, x5⟩ := x
  refine ⟨?_, ?_, ?_, ?_, ?_⟩
  · simpa only [PyData.showable] using x1
  · simpa only [PyData.hasDict] using x2
  · simp only [PyData.depth]; omega
  · simpa only [PyData.leavesShort] using x4
  · simp only [PyData.weight]; omega
theorem OgA.map {β : Type} {f : β → PyData} {m n : Nat} : ∀ {xs : List β}, (∀ x ∈ xs, Og (f x) m n) → OgA (xs.map f) m ((n + 1) * xs.length)
  | [], _ => OgA.nil
  | x :: xs, h => by
    have h1 := h x List.mem_cons_self
    have h2 := OgA.map (xs := xs) fun y hy => h y (List.mem_cons_of_mem _ hy)
    have := OgA.cons h1 h2
    rw [List.map_cons, List.length_cons, Nat.mul_add]
    have e : n + (n + 1) * xs.length + 1 = (n + 1) * xs.length + (n + 1) * 1 := by omega
    rw [← e]
    exact this
def Big (i : Int) : Prop := i.natAbs < 10 ^ 90
theorem Og.int {i : Int} (hi : Big i) : Og (.int i) 0 400 := by
  unfold Big at hi
  have lg : i.natAbs.log2 < 300 := by
    by_cases h0 : i.natAbs = 0
    · rw [h0]; decide
    · exact (Nat.log2_lt h0).mpr (Nat.lt_of_lt_of_le hi (by decide))
  refine ⟨?_, ?_, ?_, ?_, ?_⟩
  · simp only [PyData.showable]
    exact decide_eq_true (by omega)
  · simp only [PyData.hasDict]
  · simp only [PyData.depth]; omega
  · simp only [PyData.leavesShort]
    refine decide_eq_true ?_
    have e := int_text_length_le10 (k := 90) (by decide) hi
    show (Str.ofString (toString i)).length ≤ 100
    rw [PySem.ofString_length]
    omega
  · have hw : PyData.weight (.int i) ≤ 301 := by
      show (if (i == 0) = true then 0 else i.natAbs.log2 + 1) ≤ 301
      split <;> omega
    omega
end Sp

/-! Tp1: patches and one false answer: the numbers. -/
namespace Sp
open PySem PySem.Spec PyProof.Rows L2 Mn
variable {E : Exn → Th → Prop} {θ : Th} {Q : Dv → Th → Prop}
def fit (a b q : Nat) : Prop := a * (q + 1) + b ≤ 2 ^ q
instance {a b q : Nat} : Decidable (fit a b q) := inferInstanceAs (Decidable (_ ≤ _))
def IsL (P : Nat → Prop) (L : Nat) : Prop := P L ∧ ∀ p, p < L → ¬ P p
theorem least_ex {P : Nat → Prop} [DecidablePred P] : ∀ {n : Nat}, P n → ∃ L, L ≤ n ∧ IsL P L := by
  intro n
  induction n using Nat.strongRecOn with
  | _ n ih =>
    intro h
    by_cases hx : ∃ p, p < n ∧ P p
    · obtain ⟨p, hp, hq⟩ := hx
      obtain ⟨L, h1, h2⟩ := ih p hp hq
      exact ⟨L, by omega, h2⟩
    · exact ⟨n, Nat.le_refl _, h, fun p hp hq => hx ⟨p, hp, hq⟩⟩
theorem fit_succ {a b q : Nat} (h : fit a b q) : fit a b (q + 1) := by
  unfold fit at h ⊢
  have e : a * (q + 1 + 1) = a * (q + 1) + a := Nat.mul_succ a (q + 1)
  have e2 : a * (q + 1) = a * q + a := Nat.mul_succ a q
  have e3 : 2 ^ (q + 1) = 2 ^ q * 2 := Nat.pow_succ 2 q
  omega
theorem fit_mono {a b p q : Nat} (hpq : p ≤ q) (h : fit a b p) : fit a b q := by
  induction hpq with
  | refl => exact h
  | step _ ih => exact fit_succ ih
theorem fit_big {a b : Nat} (h : a + b ≤ 2 ^ 40) : fit a b 60 := by
  unfold fit
  have : (2 : Nat) ^ 60 = 1048576 * 2 ^ 40 := by decide
  omega
/-- so many of the first -/
abbrev xOf (a : Nat) : Nat := (a + 1) / 2
/-- of the second -/
def yOf (a b L : Nat) : Nat := if a % 2 = 1 then (b + 1 - L) / 2 else b / 2
theorem sq_le : ∀ n : Nat, (n + 5) * (n + 6) ≤ 2 ^ (n + 5) + 2
  | 0 => by decide
  | n + 1 => by
    have ih := sq_le n
    have e1 : (n + 1 + 5) * (n + 1 + 6) = (n + 5) * (n + 6) + 2 * (n + 6) := by
      have : n + 1 + 5 = n + 6 := by omega
      rw [this, show n + 1 + 6 = (n + 5) + 2 by omega, Nat.mul_add, Nat.mul_comm (n + 6) (n + 5)]
      omega
    have e2 : 2 ^ (n + 1 + 5) = 2 ^ (n + 5) * 2 := Nat.pow_succ 2 (n + 5)
    have e3 : 2 * (n + 6) ≤ 2 ^ (n + 5) := by
      have : ∀ m : Nat, 2 * (m + 6) ≤ 2 ^ (m + 5) := by
        intro m
        induction m with
        | zero => decide
        | succ m ih =>
          have : 2 ^ (m + 1 + 5) = 2 ^ (m + 5) * 2 := Nat.pow_succ 2 (m + 5)
          omega
      exact this n
    omega
/-- x (q + 1) - 1 is at most 2 ^ (q - 1), where y is 0 -/
theorem low_case {x b q : Nat} (hx : 1 ≤ x) (hb : 2 * x ≤ b + 2) (hq : b + 2 ≤ q + 1) (hf : fit (2 * x - 1) b (q + 1)) : x * (q + 2) ≤ 2 ^ q + 1 := by
  by_cases h5 : 4 ≤ q
  · obtain ⟨n, rfl⟩ : ∃ n, q = n + 4 := ⟨q - 4, by omega⟩
    have h := sq_le n
    have e : 2 ^ (n + 5) = 2 ^ (n + 4) * 2 := Nat.pow_succ 2 (n + 4)
    have h2 : 2 * x * (n + 6) ≤ (n + 5) * (n + 6) := Nat.mul_le_mul_right _ (by omega)
    have e2 : 2 * x * (n + 6) = 2 * (x * (n + 4 + 2)) := by rw [Nat.mul_assoc]
    omega
  · have : q = 0 ∨ q = 1 ∨ q = 2 ∨ q = 3 := by omega
    rcases this with rfl | rfl | rfl | rfl
    · omega
    · have : x = 1 := by omega
      subst this
      decide
    · have : x = 1 := by omega
      subst this
      decide
    · have : x = 1 ∨ x = 2 := by omega
      rcases this with rfl | rfl
      · decide
      · have : b = 2 := by omega
        subst this
        exact absurd hf (by decide)
/-- the step down, from p4 -/
theorem step_down {a b q : Nat} (hb : a ≤ b + 1) (hf : fit a b (q + 1)) :
    xOf a ≤ a ∧ yOf a b (q + 1) ≤ b ∧ fit (xOf a) (yOf a b (q + 1) + a - xOf a) q ∧ fit (a - xOf a) (b - yOf a b (q + 1) + xOf a) q ∧
    xOf a ≤ (yOf a b (q + 1) + a - xOf a) + 1 ∧ a - xOf a ≤ (b - yOf a b (q + 1) + xOf a) + 1 := by
  have e3 : 2 ^ (q + 1) = 2 ^ q * 2 := Nat.pow_succ 2 q
  rcases Nat.mod_two_eq_zero_or_one a with h | h
  · obtain ⟨x, rfl⟩ : ∃ x, a = 2 * x := ⟨a / 2, by omega⟩
    have ex : xOf (2 * x) = x := by unfold xOf; omega
    have ey : yOf (2 * x) b (q + 1) = b / 2 := by unfold yOf; rw [if_neg (by omega)]
    have hf0 := hf
    unfold fit at hf
    have e1 : 2 * x * (q + 1 + 1) = 2 * (x * (q + 1)) + 2 * x := by rw [Nat.mul_assoc, Nat.mul_succ x (q + 1), Nat.mul_add]
    rw [ex, ey, show 2 * x - x = x by omega]
    unfold fit
    generalize x * (q + 1) = T at *
    generalize 2 ^ q = P at *
    refine ⟨by omega, by omega, by omega, by omega, by omega, by omega⟩
  · obtain ⟨x, rfl⟩ : ∃ x, a = 2 * x + 1 := ⟨a / 2, by omega⟩
    have ex : xOf (2 * x + 1) = x + 1 := by unfold xOf; omega
    have ey : yOf (2 * x + 1) b (q + 1) = (b - q) / 2 := by unfold yOf; rw [if_pos (by omega)]; congr 1; omega
    have lc := fun hq => low_case (x := x + 1) (b := b) (q := q) (by omega) (by omega) hq (by rw [show 2 * (x + 1) - 1 = 2 * x + 1 by omega]; exact hf)
    unfold fit at hf
    have e1 : (2 * x + 1) * (q + 1 + 1) = 2 * (x * (q + 1)) + 2 * x + (q + 2) := by
      rw [Nat.add_mul, Nat.mul_assoc, Nat.mul_succ x (q + 1), Nat.mul_add, Nat.one_mul]
    have e2 : (x + 1) * (q + 1) = x * (q + 1) + (q + 1) := by rw [Nat.add_mul, Nat.one_mul]
    have e4 : (x + 1) * (q + 2) = x * (q + 1) + x + (q + 2) := by rw [Nat.add_mul, Nat.mul_succ x (q + 1), Nat.one_mul]
    have lc' : b + 2 ≤ q + 1 → x * (q + 1) + x + (q + 2) ≤ 2 ^ q + 1 := fun h => by rw [← e4]; exact lc h
    clear lc e4
    rw [ex, ey, show 2 * x + 1 - (x + 1) = x by omega]
    unfold fit
    rw [e2]
    generalize x * (q + 1) = T at *
    generalize 2 ^ q = P at *
    by_cases hl : b + 2 ≤ q + 1
    · have lc := lc' hl
      refine ⟨by omega, by omega, by omega, by omega, by omega, by omega⟩
    · refine ⟨by omega, by omega, by omega, by omega, by omega, by omega⟩
/-- what fewest_patches looks for -/
def fp (a q : Nat) : Prop := a * (q + 1) + (if a % 2 = 1 then q else 0) ≤ 2 ^ q + (if a % 2 = 1 then 1 else 0)
instance {a q : Nat} : Decidable (fp a q) := inferInstanceAs (Decidable (_ ≤ _))
theorem begin_down {a q : Nat} (h2 : 2 ≤ a) (hf : fp a (q + 1)) : xOf a ≤ a ∧ fit (xOf a) (a - xOf a) q ∧ fit (a - xOf a) (xOf a) q ∧ xOf a ≤ (a - xOf a) + 1 ∧ a - xOf a ≤ xOf a + 1 := by
  have e3 : 2 ^ (q + 1) = 2 ^ q * 2 := Nat.pow_succ 2 q
  rcases Nat.mod_two_eq_zero_or_one a with h | h
  · obtain ⟨x, rfl⟩ : ∃ x, a = 2 * x := ⟨a / 2, by omega⟩
    have ex : xOf (2 * x) = x := by unfold xOf; omega
    unfold fp at hf
    rw [if_neg (by omega), if_neg (by omega)] at hf
    have e1 : 2 * x * (q + 1 + 1) = 2 * (x * (q + 1)) + 2 * x := by rw [Nat.mul_assoc, Nat.mul_succ x (q + 1), Nat.mul_add]
    rw [ex, show 2 * x - x = x by omega]
    unfold fit
    generalize x * (q + 1) = T at *
    generalize 2 ^ q = P at *
    refine ⟨by omega, by omega, by omega, by omega, by omega⟩
  · obtain ⟨x, rfl⟩ : ∃ x, a = 2 * x + 1 := ⟨a / 2, by omega⟩
    have ex : xOf (2 * x + 1) = x + 1 := by unfold xOf; omega
    unfold fp at hf
    rw [if_pos (by omega), if_pos (by omega)] at hf
    have e1 : (2 * x + 1) * (q + 1 + 1) = 2 * (x * (q + 1)) + 2 * x + (q + 2) := by
      rw [Nat.add_mul, Nat.mul_assoc, Nat.mul_succ x (q + 1), Nat.mul_add, Nat.one_mul]
    have e2 : (x + 1) * (q + 1) = x * (q + 1) + (q + 1) := by rw [Nat.add_mul, Nat.one_mul]
    rw [ex, show 2 * x + 1 - (x + 1) = x by omega]
    unfold fit
    rw [e2]
    generalize x * (q + 1) = T at *
    generalize 2 ^ q = P at *
    refine ⟨by omega, by omega, by omega, by omega, by omega⟩
end Sp

/-! Tp2: patches and one false answer: what the functions give. -/
namespace Sp
open PySem PySem.Spec PyProof.Rows L2 Mn
variable {E : Exn → Th → Prop} {θ : Th} {Q : Dv → Th → Prop}
theorem pow_cast (q : Nat) : (1 : Int) * 2 ^ ((q : Nat) : Int).toNat = ((2 ^ q : Nat) : Int) := by
  rw [Int.one_mul, Int.toNat_natCast, Int.natCast_pow]; rfl
theorem fit_int {a b q : Nat} : decide (((2 ^ q : Nat) : Int) < (a : Int) * ((q : Int) + 1) + (b : Int)) = decide (¬ fit a b q) := by
  unfold fit
  have e : (a : Int) * ((q : Int) + 1) + (b : Int) = ((a * (q + 1) + b : Nat) : Int) := by push_cast; rfl
  rw [e]
  exact decide_eq_decide.mpr (by omega)
theorem s_least {a b L : Nat} (hL : L ≤ 1000) (h : IsL (fit a b) L) (hQ : Q (.int (L : Nat)) θ) : Cm8.c_least_tests [.int (a : Nat), .int (b : Nat)] E θ Q := by
  unfold Cm8.c_least_tests Cm8.m_least_tests
  simp only [mxCN, List.map_cons, List.map_nil, List.replicate, List.cons_append, List.nil_append, List.set_cons_zero, List.set_cons_succ]
  rw [x_seqN, x_seq, x_while]
  refine while_rule (fun n ρ θ' => ∃ q : Nat, ρ = [some (.int (a : Nat)), some (.int (b : Nat)), some (.int (q : Nat))] ∧ θ' = θ ∧ q ≤ L ∧ L - q = n) (m := L) ⟨0, rfl, rfl, Nat.zero_le _, rfl⟩ ?_
  rintro n ρ θ' ⟨q, rfl, rfl, hq, hn⟩ K k1 k2
  simp only [mxCN, List.map_cons, List.map_nil, List.replicate, List.cons_append, List.nil_append, List.set_cons_zero, List.set_cons_succ, x_shl]
  refine ⟨.inr ⟨by omega, by omega⟩, ⟨by omega, by omega, by decide⟩, ?_⟩
  rw [pow_cast, fit_int]
  by_cases hlt : q < L
  · rw [decide_eq_true (h.2 q hlt)]
    refine k1 _ fun K2 LK => ?_
    show K2 (.nx [some (.int (a : Nat)), some (.int (b : Nat)), some (.int ((q : Nat) + 1))]) _
    exact LK.nx _ _ ⟨L - (q + 1), _, rfl, by omega, q + 1, rfl, rfl, by omega, rfl⟩
  · have e : q = L := by omega
    subst e
    rw [decide_eq_false (fun z => z h.1)]
    refine k2 _ ?_
    rw [x_seqN]
    simp only [mxCN, List.map_cons, List.map_nil, List.replicate, List.cons_append, List.nil_append, List.set_cons_zero, List.set_cons_succ]
    exact end_same hQ
theorem s_lleast {a b L : Nat} (hL : L < 80) (h : IsL (fit a b) L) (hQ : Q (.int (L : Nat)) θ) : Cm8.c__law_least [.int (a : Nat), .int (b : Nat)] E θ Q := by
  unfold Cm8.c__law_least Cm8.m__law_least
  simp only [mxCN, List.map_cons, List.map_nil, List.replicate, List.cons_append, List.nil_append, List.set_cons_zero, List.set_cons_succ]
  rw [x_seqN, x_seq, x_for]
  simp only [mxCN, List.map_cons, List.map_nil, List.replicate, List.cons_append, List.nil_append, List.set_cons_zero, List.set_cons_succ]
  refine ⟨⟨by decide, by decide⟩, ?_⟩
  refine for_rule 80 (fun i ρ θ' => ∃ x3, ρ = [some (.int (a : Nat)), some (.int (b : Nat)), some (.int ((2 ^ i : Nat) : Int)), x3] ∧ θ' = θ ∧ i ≤ L) ⟨none, rfl, rfl, Nat.zero_le _⟩ ?_ ?_
  · rintro i ρ θ' hi ⟨x3, rfl, rfl, hiL⟩
    refine ⟨.int (i : Nat), _, by rw [show ((80 : Int)).toNat = 80 from rfl, rng_at hi]; simp, rfl, fun K LK => ?_⟩
    simp only [mxCN, List.map_cons, List.map_nil, List.replicate, List.cons_append, List.nil_append, List.set_cons_zero, List.set_cons_succ]
    refine ⟨.inr ⟨by omega, by omega⟩, ?_⟩
    have e : decide ((a : Int) * ((i : Int) + 1) + (b : Int) ≤ ((2 ^ i : Nat) : Int)) = decide (fit a b i) := by
      unfold fit
      have e : (a : Int) * ((i : Int) + 1) + (b : Int) = ((a * (i + 1) + b : Nat) : Int) := by push_cast; rfl
      rw [e]
      exact decide_eq_decide.mpr (by omega)
    rw [e]
    by_cases hlt : i < L
    · rw [decide_eq_false (h.2 i hlt), if_neg Bool.false_ne_true]
      rw [x_seqN]
      simp only [mxCN, List.map_cons, List.map_nil, List.replicate, List.cons_append, List.nil_append, List.set_cons_zero, List.set_cons_succ]
      refine ⟨.inr ⟨by decide, by decide⟩, ?_⟩
      refine LK.nx _ _ ⟨_, rfl, some (.int (i : Nat)), ?_, rfl, by omega⟩
      have : ((2 ^ i : Nat) : Int) * 2 = ((2 ^ (i + 1) : Nat) : Int) := by rw [Nat.pow_succ]; push_cast; rfl
      rw [this]
    · have e : i = L := by omega
      subst e
      rw [decide_eq_true h.1, if_pos rfl]
      exact LK.rt _ _ (end_same hQ)
  · rintro ρ θ' ⟨x3, rfl, rfl, hiL⟩
    omega
theorem odd_nat (a : Nat) : (((a % 2 : Nat) : Int) != 0) = decide (a % 2 = 1) := by
  rcases Nat.mod_two_eq_zero_or_one a with h | h <;> rw [h] <;> rfl
theorem max0_half {b L : Nat} : (if ((b : Int) - (L : Int) + 1) / 2 > 0 then ((b : Int) - (L : Int) + 1) / 2 else 0) = (((b + 1 - L) / 2 : Nat) : Int) := by
  split <;> omega
theorem two_len {x y : Dv} : [x, y].length ≤ sizeLine := by rw [sizeLine_eq]; show 2 ≤ 16777216; omega
theorem sn_next0 {a : Nat} (h : 2 ≤ a) (hQ : Q (.tup [.int (xOf a : Nat), .int (0 : Nat)]) θ) : Cm8.c_next_numbers [.int (a : Nat), .int (0 : Nat)] E θ Q := by
  unfold Cm8.c_next_numbers Cm8.m_next_numbers
  simp only [mxCN, List.map_cons, List.map_nil, List.replicate, List.cons_append, List.nil_append, List.set_cons_zero, List.set_cons_succ]
  rw [if_neg (by simp; omega), x_seqN]
  simp only [mxCN, List.map_cons, List.map_nil, List.replicate, List.cons_append, List.nil_append, List.set_cons_zero, List.set_cons_succ]
  rw [if_pos (by simp; omega)]
  rw [if_pos (by simp)]
  refine ⟨⟨by decide, by decide⟩, two_len, ?_⟩
  refine end_same ?_
  have e : ((a : Int) + 1) / 2 = ((xOf a : Nat) : Int) := by unfold xOf; omega
  rw [e]
  exact hQ
theorem sn_next {a b L : Nat} (h : 2 ≤ a + b) (hb : a ≤ b + 1) (hL : L ≤ 1000) (hl : IsL (fit a b) L) (hQ : Q (.tup [.int (xOf a : Nat), .int (yOf a b L : Nat)]) θ) : Cm8.c_next_numbers [.int (a : Nat), .int (b : Nat)] E θ Q := by
  unfold Cm8.c_next_numbers Cm8.m_next_numbers
  simp only [mxCN, List.map_cons, List.map_nil, List.replicate, List.cons_append, List.nil_append, List.set_cons_zero, List.set_cons_succ]
  rw [if_neg (by simp; omega), x_seqN]
  simp only [mxCN, List.map_cons, List.map_nil, List.replicate, List.cons_append, List.nil_append, List.set_cons_zero, List.set_cons_succ]
  have key : ∀ K : Bool → Prop, K false → (if (decide ((2 : Int) ≤ (a : Int))) = true then K (decide ((b : Int) = 0)) else K false) := by
    intro K hK
    by_cases h2 : (2 : Int) ≤ (a : Int)
    · rw [if_pos (decide_eq_true h2), decide_eq_false (by omega)]
      exact hK
    · rw [if_neg (by simpa using h2)]
      exact hK
  refine key (fun v => if v = true then _ else _) ?_
  rw [if_neg Bool.false_ne_true, x_seqN]
  simp only [mxCN, List.map_cons, List.map_nil, List.replicate, List.cons_append, List.nil_append, List.set_cons_zero, List.set_cons_succ]
  rw [if_neg (by simp; omega), x_seqN]
  simp only [mxCN, List.map_cons, List.map_nil, List.replicate, List.cons_append, List.nil_append, List.set_cons_zero, List.set_cons_succ]
  rw [odd_nat]
  by_cases ho : a % 2 = 1
  · rw [if_pos (decide_eq_true ho)]
    refine ⟨⟨by decide, by decide⟩, rfl, s_least hL hl ?_⟩
    simp only [mxCN, List.map_cons, List.map_nil, List.replicate, List.cons_append, List.nil_append, List.set_cons_zero, List.set_cons_succ, x_max2]
    refine ⟨⟨by decide, by decide⟩, two_len, ?_⟩
    refine end_same ?_
    rw [max0_half]
    have e : ((a : Int) + 1) / 2 = ((xOf a : Nat) : Int) := by unfold xOf; omega
    rw [e]
    unfold yOf at hQ
    rw [if_pos ho] at hQ
    exact hQ
  · rw [if_neg (by simpa using ho)]
    refine ⟨⟨by decide, by decide⟩, ⟨by decide, by decide⟩, two_len, ?_⟩
    refine end_same ?_
    have e : (a : Int) / 2 = ((xOf a : Nat) : Int) := by unfold xOf; omega
    have e2 : (b : Int) / 2 = ((yOf a b L : Nat) : Int) := by unfold yOf; rw [if_neg ho]; omega
    rw [e, e2]
    exact hQ
end Sp

/-! Tp3: patches and one false answer: the law's own helpers. -/
namespace Sp
open PySem PySem.Spec PyProof.Rows L2 Mn
variable {E : Exn → Th → Prop} {θ : Th} {Q : Dv → Th → Prop}
theorem lk1 {y : Str} {b : Bool} : List.lookup y [(y, b)] = some b := by simp [List.lookup]
theorem sn_due0 {a : Nat} (hQ : Q (.tup [.int (xOf a : Nat), .int (0 : Nat)]) θ) : Cm8.c__law_due [.int (a : Nat), .int (0 : Nat)] E θ Q := by
  unfold Cm8.c__law_due Cm8.m__law_due
  simp only [mxCN, List.map_cons, List.map_nil, List.replicate, List.cons_append, List.nil_append, List.set_cons_zero, List.set_cons_succ]
  rw [if_pos (by simp)]
  refine ⟨⟨by decide, by decide⟩, two_len, ?_⟩
  refine end_same ?_
  have e : ((a : Int) + 1) / 2 = ((xOf a : Nat) : Int) := by unfold xOf; omega
  rw [e]
  exact hQ
theorem sn_due {a b L : Nat} (h : b ≠ 0) (hL : L < 80) (hl : IsL (fit a b) L) (hQ : Q (.tup [.int (xOf a : Nat), .int (yOf a b L : Nat)]) θ) : Cm8.c__law_due [.int (a : Nat), .int (b : Nat)] E θ Q := by
  unfold Cm8.c__law_due Cm8.m__law_due
  simp only [mxCN, List.map_cons, List.map_nil, List.replicate, List.cons_append, List.nil_append, List.set_cons_zero, List.set_cons_succ]
  rw [if_neg (by simp; omega), x_seqN]
  simp only [mxCN, List.map_cons, List.map_nil, List.replicate, List.cons_append, List.nil_append, List.set_cons_zero, List.set_cons_succ]
  refine ⟨by decide, ?_⟩
  by_cases ho : a % 2 = 1
  · rw [if_neg (by simp; omega), x_seqN]
    simp only [mxCN, List.map_cons, List.map_nil, List.replicate, List.cons_append, List.nil_append, List.set_cons_zero, List.set_cons_succ]
    refine ⟨rfl, s_lleast hL hl ?_⟩
    simp only [mxCN, List.map_cons, List.map_nil, List.replicate, List.cons_append, List.nil_append, List.set_cons_zero, List.set_cons_succ]
    rw [x_seqN]
    simp only [mxCN, List.map_cons, List.map_nil, List.replicate, List.cons_append, List.nil_append, List.set_cons_zero, List.set_cons_succ, x_max2]
    refine ⟨⟨by decide, by decide⟩, ⟨by decide, by decide⟩, two_len, ?_⟩
    refine end_same ?_
    have e : ((a : Int) + 1) / 2 = ((xOf a : Nat) : Int) := by unfold xOf; omega
    have e2 : (if (b : Int) - (L : Int) + 1 > 0 then (b : Int) - (L : Int) + 1 else 0) / 2 = ((yOf a b L : Nat) : Int) := by
      unfold yOf
      rw [if_pos ho]
      split <;> omega
    rw [e, e2]
    exact hQ
  · rw [if_pos (by simp; omega)]
    refine ⟨⟨by decide, by decide⟩, ⟨by decide, by decide⟩, two_len, ?_⟩
    refine end_same ?_
    have e : (a : Int) / 2 = ((xOf a : Nat) : Int) := by unfold xOf; omega
    have e2 : (b : Int) / 2 = ((yOf a b L : Nat) : Int) := by unfold yOf; rw [if_neg ho]; omega
    rw [e, e2]
    exact hQ
abbrev pr (x y : Nat) : Dv := .tup [.int (x : Nat), .int (y : Nat)]
/-- what holds ahead of a turn with r tests to come -/
def Dn (a b r : Nat) : Prop := a + b ≤ 2 ^ 40 ∧ fit a b r ∧ (a ≤ b + 1 ∨ (b = 0 ∧ 2 ≤ a ∧ fp a r))
theorem Dn.pos {a b r : Nat} (h : Dn a b r) (h2 : 2 ≤ a + b) : 1 ≤ r := by
  obtain ⟨_, h1, _⟩ := h
  cases r with
  | zero => unfold fit at h1; simp at h1; omega
  | succ r => omega
/-- what the program and the law tell of the test -/
theorem Dn.step {a b r : Nat} (h : Dn a b (r + 1)) (h2 : 2 ≤ a + b) : ∃ y, (∀ {E : Exn → Th → Prop} {θ : Th} {Q : Dv → Th → Prop}, Q (pr (xOf a) y) θ → Cm8.c_next_numbers [.int (a : Nat), .int (b : Nat)] E θ Q) ∧
    (∀ {E : Exn → Th → Prop} {θ : Th} {Q : Dv → Th → Prop}, Q (pr (xOf a) y) θ → Cm8.c__law_due [.int (a : Nat), .int (b : Nat)] E θ Q) ∧ xOf a ≤ a ∧ y ≤ b ∧ Dn (xOf a) (y + a - xOf a) r ∧ Dn (a - xOf a) (b - y + xOf a) r ∧
    fit (xOf a) (y + a - xOf a) r ∧ fit (a - xOf a) (b - y + xOf a) r ∧ xOf a ≤ (y + a - xOf a) + 1 ∧ a - xOf a ≤ (b - y + xOf a) + 1 := by
  obtain ⟨h0, h1, h3⟩ := h
  rcases h3 with h3 | ⟨rfl, h4, h5⟩
  · obtain ⟨L, hL, hl⟩ := least_ex (P := fit a b) (n := 60) (fit_big h0)
    have hLr : L ≤ r + 1 := by
      rcases Nat.lt_or_ge (r + 1) L with z | z
      · exact absurd h1 (hl.2 _ z)
      · exact z
    have hL1 : 1 ≤ L := Dn.pos (a := a) (b := b) ⟨h0, hl.1, .inl h3⟩ h2
    obtain ⟨M, rfl⟩ : ∃ M, L = M + 1 := ⟨L - 1, by omega⟩
    obtain ⟨s1, s2, s3, s4, s5, s6⟩ := step_down h3 hl.1
    have s3 := fit_mono (show M ≤ r by omega) s3
    have s4 := fit_mono (show M ≤ r by omega) s4
    refine ⟨yOf a b (M + 1), fun q => sn_next h2 h3 (by omega) hl q, fun q => sn_due (by omega) (by omega) hl q, s1, s2, ⟨by omega, s3, .inl s5⟩, ⟨by omega, s4, .inl s6⟩, s3, s4, s5, s6⟩
  · obtain ⟨s1, s3, s4, s5, s6⟩ := begin_down h4 h5
    have e1 : 0 + a - xOf a = a - xOf a := by omega
    have e2 : 0 - 0 + xOf a = xOf a := by omega
    refine ⟨0, fun q => sn_next0 h4 q, fun q => sn_due0 q, s1, Nat.le_refl _, ?_⟩
    rw [e1, e2]
    exact ⟨⟨by omega, s3, .inl s5⟩, ⟨by omega, s4, .inl s6⟩, s3, s4, s5, s6⟩
end Sp

/-! Tp4: patches and one false answer: the way down. -/
namespace Sp
open PySem PySem.Spec PyProof.Rows L2 Mn
variable {E : Exn → Th → Prop} {θ : Th} {Q : Dv → Th → Prop}
end Sp

/-! Ux1: histories are looked at: shapes, names, parents. -/
namespace Sp
open PySem PySem.Spec PyProof.Rows L2 Mn
variable {E : Exn → Th → Prop} {θ : Th} {Q : Dv → Th → Prop}
/-! makes -/
abbrev MkI := Str × List Int
def mkI (m : MkI) : Dv := .tup [.str m.1, .tup (m.2.map Dv.int)]
/-- whether d is taken for a make -/
def IM (θ : Th) (d : Dv) (b : Bool) : Prop := ∀ (E : Exn → Th → Prop) (g : Th) (Q : Dv → Th → Prop), Q (.bl b) (θ ++ g) → Cm11.c_is_make [d] E (θ ++ g) Q
theorem IM.app {d : Dv} {b : Bool} {g : Th} (h : IM θ d b) : IM (θ ++ g) d b := fun E g2 Q hQ => by
  rw [List.append_assoc] at hQ ⊢
  exact h E _ Q hQ
/-! shapes -/
/-! names -/
def LET : Str := "abcdefghijklmnopqrstuvwxyz"
def nameB (t : Str) : Bool := decide (1 ≤ t.length) && decide (t.length ≤ 8) && (List.range t.length).all fun i => (t.cps[i]?.map fun c => decide (c ∈ LET.cps.toList)).getD false
/-! parents -/
def parB (ns : List Int) (at_ : Nat) : Bool := decide (ns.length ≤ 4) && asc ns && (List.range ns.length).all fun i => decide (0 ≤ ns.getD i 0) && decide (ns.getD i 0 < (at_ : Int))
end Sp

/-! Ux2: histories are looked at: the makes one by one. -/
namespace Sp
open PySem PySem.Spec PyProof.Rows L2 Mn
variable {E : Exn → Th → Prop} {θ : Th} {Q : Dv → Th → Prop}
def fltM (ms : List MkI) (i : Nat) : Option Str := match ms[i]? with
  | none => none
  | some m => if nameB m.1 = false then some "bad name" else if m.1 ∈ (ms.take i).map (·.1) then some "two of a name" else if parB m.2 i = false then some "bad parents" else none
def hE (r : Str) : Exn := ⟨"BadHistory", [("reason", .str r), ("line", .int 0)]⟩
/-! the whole -/
abbrev hI (ms : List MkI) : Dv := .tup [.str "history", .tup (ms.map mkI)]
/-! what the law is told -/
end Sp

/-! Vb8: the program's deeds. -/
namespace Sp
open PySem PySem.Spec PyProof.Rows L2 Mn
variable {E : Exn → Th → Prop} {θ : Th} {Q : Dv → Th → Prop} {h : Hist} {k : Nat} {m : DM}
section
variable {dm dr ds : Dv}
/-- what is on a desk, told again -/
structure DMok (h : Hist) (m : DM) : Prop where
  lr : m.rows.length ≤ 1000
  ls : m.sk.length ≤ 1000
  ps : m.sk.Pairwise (· ≤ ·)
end
end Sp

/-! Vb9: doing and undoing. -/
namespace Sp
open PySem PySem.Spec PyProof.Rows L2 Mn
variable {E : Exn → Th → Prop} {θ : Th} {Q : Dv → Th → Prop} {h : Hist} {k : Nat} {m : DM}
section
variable {d i j : Nat} {r : Str} {D : List Deed} {ms : List Dv} {dm dr ds : Dv}
/-! the law's word of it -/
end
end Sp

/-! Vb10: the law's desk. -/
namespace Sp
open PySem PySem.Spec PyProof.Rows L2 Mn
variable {E : Exn → Th → Prop} {θ : Th} {Q : Dv → Th → Prop} {h : Hist} {k : Nat} {m : DM}
end Sp

/-! Vb11: the law's drawn deeds. -/
namespace Sp
open PySem PySem.Spec PyProof.Rows L2 Mn
variable {E : Exn → Th → Prop} {θ : Th} {Q : Dv → Th → Prop} {h : Hist} {k : Nat} {m : DM}
end Sp

/-! Vb12: a drawn history is a history. -/
namespace Sp
open PySem PySem.Spec PyProof.Rows L2 Mn
variable {E : Exn → Th → Prop} {θ : Th} {Q : Dv → Th → Prop} {h : Hist} {k : Nat} {m : DM}
theorem nd_inj2 {a b : List Nat} (e : nd a = nd b) : a = b := by
  have e2 := congrArg intsD e
  rw [ints_nd, ints_nd] at e2
  injection e2 with e2
  exact nI_inj.mp e2
theorem cut_two {l : List Nat} {t : Nat} (ht : t + 2 ≤ l.length) : Mn.cutD (nd l) (some (t : Int)) (some ((t : Int) + 2)) = nd ((l.drop t).take 2) := by
  unfold Mn.cutD
  have e1 : HT.sIx (nd l).length 0 (some (t : Int)) = t := by
    rw [HT.sIx_nat, List.length_map]
    omega
  have e2 : HT.sIx (nd l).length (nd l).length (some ((t : Int) + 2)) = t + 2 := by
    rw [show (t : Int) + 2 = ((t + 2 : Nat) : Int) by omega, HT.sIx_nat, List.length_map]
    omega
  rw [e1, e2]
  unfold nd
  rw [List.map_take, List.map_drop]
  congr 1
  omega
theorem asc_two {P : List Nat} (hp : P.Pairwise (· < ·)) {x y : Int} (hx : ∀ p ∈ P, (p : Int) = x ∨ (p : Int) = y) : P.length ≤ 3 := by
  match P, hp, hx with
  | [], _, _ => simp
  | [_], _, _ => simp
  | [_, _], _, _ => simp
  | a :: b :: c :: r, hp, hx =>
    have h1 := hx a (by simp)
    have h2 := hx b (by simp)
    have h3 := hx c (by simp)
    rw [List.pairwise_cons, List.pairwise_cons] at hp
    have := hp.1 b (by simp)
    have := hp.1 c (by simp)
    have := hp.2.1 c (by simp)
    omega
theorem s_parents3 {ds : List Int} {a k e : Nat} {g : Th} {ends : List Nat} (hg : g[e]? = some (.lst (nd ends))) (hk : 0 < k) (hk2 : k ≤ 1000) (hs : ends.Pairwise (· < ·)) (hl : ∀ p ∈ ends, p < k)
    (h3 : ends.length ≤ 3)
    (hQ : ∀ (P : List Nat) (a' : Nat), P.Pairwise (· < ·) → (∀ p ∈ P, p < k) → P.length ≤ 3 → (ends.length ≤ 2 ∨ ∃ p ∈ ends, p ∈ P) → Q (.tup (nd P)) (bx ds a' ++ g)) : Cm2.c__law_parents [.obj 1, .int k, .obj (e + 2)] E (bx ds a ++ g) Q := by
  unfold Cm2.c__law_parents Cm2.m__law_parents
  have he : ∀ a, (bx ds a ++ g)[e + 2]? = some (.lst (nd ends)) := fun a => hg
  simp only [mxCN, List.map_cons, List.map_nil, List.replicate, List.cons_append, List.nil_append, List.set_cons_zero, List.set_cons_succ, he, List.length_map]
  by_cases h2 : 2 < ends.length
  · rw [if_pos (decide_eq_true (by omega))]
    refine ⟨rfl, s_draw (by omega) fun v h0 h1 => ?_⟩
    rw [x_seqN]
    simp only [mxC, List.map_cons, List.map_nil, List.replicate, List.cons_append, List.nil_append, List.set_cons_zero, List.set_cons_succ, he]
    obtain ⟨P, e1, e2⟩ := cut_nd ends (some v) (some (v + 2))
    rw [e1, th_last]
    simp only [mxC, List.map_cons, List.map_nil, List.replicate, List.cons_append, List.nil_append, List.set_cons_zero, List.set_cons_succ]
    have hne : ∃ p ∈ ends, p ∈ P := by
      obtain ⟨t, rfl⟩ : ∃ t : Nat, v = (t : Int) := ⟨v.toNat, by omega⟩
      have e3 := cut_two (l := ends) (t := t) (by omega)
      rw [e3] at e1
      have e4 : ((ends.drop t).take 2) = P := nd_inj2 e1
      have hd : 0 < (ends.drop t).length := by rw [List.length_drop]; omega
      refine ⟨(ends.drop t)[0], List.mem_of_mem_drop (List.getElem_mem hd), ?_⟩
      rw [← e4]
      exact List.mem_take_iff_getElem.mpr ⟨0, by omega, rfl⟩
    exact end_bxg (low_nats P) (hQ P _ (hs.sublist e2) (fun p hp => hl p (e2.subset hp)) (Nat.le_trans e2.length_le h3) (.inr hne))
  · rw [if_neg (by simp; omega)]
    rw [x_seqN]
    simp only [mxCN, List.map_cons, List.map_nil, List.replicate, List.cons_append, List.nil_append, List.set_cons_zero, List.set_cons_succ]
    refine ⟨rfl, s_draw (by omega) fun v h0 h1 => ?_⟩
    simp only [mxCN, List.map_cons, List.map_nil, List.replicate, List.cons_append, List.nil_append, List.set_cons_zero, List.set_cons_succ]
    by_cases hv : v = 0
    · rw [if_pos (decide_eq_true hv)]
      exact ⟨by rw [sizeLine_eq]; simp, end_bxs (hQ [] _ .nil (fun p hp => by cases hp) (Nat.zero_le _) (.inl (by omega)))⟩
    · rw [if_neg (by simpa using hv), x_seqN]
      simp only [mxCN, List.map_cons, List.map_nil, List.replicate, List.cons_append, List.nil_append, List.set_cons_zero, List.set_cons_succ]
      refine ⟨rfl, s_draw (by omega) fun v1 a0 a1 => ?_⟩
      rw [x_seqN]
      simp only [mxCN, List.map_cons, List.map_nil, List.replicate, List.cons_append, List.nil_append, List.set_cons_zero, List.set_cons_succ]
      refine ⟨rfl, s_draw (by omega) fun v2 b0 b1 => ?_⟩
      rw [x_seqN]
      simp only [mxCN, List.map_cons, List.map_nil, List.replicate, List.cons_append, List.nil_append, List.set_cons_zero, List.set_cons_succ]
      refine ⟨two_line, ?_⟩
      rw [x_intsP th_last (show intsD [.int v1, .int v2] = some [v1, v2] from rfl)]
      refine ⟨by show 2 ≤ 60; decide, fun ns' h5 h4 => ?_⟩
      obtain ⟨P, rfl, p1, p2⟩ := back_nat (k := k) (ns := ns') (fun z hz => by
        have := (h4 z).mp hz
        simp at this
        rcases this with rfl | rfl <;> omega) h5
      simp only [mxCN, List.map_cons, List.map_nil, List.replicate, List.cons_append, List.nil_append, List.set_cons_zero, List.set_cons_succ]
      rw [th_last, x_tupL]
      have e5 : (P.map fun p : Nat => (p : Int)).map Dv.int = nd P := by rw [List.map_map]; rfl
      rw [e5, List.append_assoc (bx ds _ ++ g)]
      have p3 : P.length ≤ 3 := asc_two p1 (x := v1) (y := v2) fun p hp => by
        have := (h4 (p : Int)).mp (List.mem_map.mpr ⟨p, hp, rfl⟩)
        simpa using this
      exact end_bxg (low_nats P) (hQ P _ p1 p2 p3 (.inl (by omega)))

theorem anc_app {hs : Hist} {x : Str × List Nat} {e c : Nat} (r : Anc hs e c) : Anc (hs ++ [x]) e c := by
  induction r with
  | self => exact .self
  | step r1 h1 h2 ih =>
    rename_i k p
    refine .step ih h1 ?_
    rw [par_app]
    have : k ≠ hs.length := by
      rintro rfl
      unfold par at h2
      simp at h2
    rw [if_neg this]
    exact h2
/-- a history that keeps the rules -/
structure GVX (n : Nat) (hs : Hist) : Prop extends GV n hs where
  few : ∀ x ∈ hs, x.2.length ≤ 3
  top : ∀ c, c < n → Anc hs (n - 1) c
structure HX (n i : Nat) (hs : Hist) (ends : List Nat) : Prop where
  l3 : ends.length ≤ 3
  few : ∀ x ∈ hs, x.2.length ≤ 3
  cov : ∀ c, c < i → ∃ e ∈ ends, Anc hs e c
  last : i = n → ends = [n - 1]
theorem HX.p0 {n i : Nat} {hs : Hist} {ends : List Nat} (x : HX n i hs ends) : ends.length ≤ 2 ∨ ∃ p ∈ ends, p ∈ ends := by
  by_cases h : ends.length ≤ 2
  · exact .inl h
  · cases ends with
    | nil => exact .inl (by simp)
    | cons a l => exact .inr ⟨a, .head _, .head _⟩
theorem hx_0 {n : Nat} (hn : 0 < n) : HX n 0 [] [] := ⟨Nat.zero_le _, (fun x hx => by cases hx), (fun c hc => by omega), (fun e => by omega)⟩
theorem HX.step {n i : Nat} {hs : Hist} {ends P : List Nat} (x : HX n i hs ends) (g : GV i hs) (p2 : ∀ p ∈ P, p < i) (p3 : P.length ≤ 3) (p4 : ends.length ≤ 2 ∨ ∃ p ∈ ends, p ∈ P) (p5 : i + 1 = n → ∀ p ∈ ends, p ∈ P) :
    HX n (i + 1) (hs ++ [(nmV i, P)]) (ends.filter (fun p => !decide (p ∈ P)) ++ [i]) := by
  have pi : par (hs ++ [(nmV i, P)]) i = P := by rw [par_app, if_pos g.len.symm]
  refine ⟨?_, ?_, ?_, ?_⟩
  · rw [List.length_append, List.length_singleton]
    rcases p4 with h | ⟨p, h1, h2⟩
    · have := List.length_filter_le (fun p => !decide (p ∈ P)) ends
      omega
    · have h3 : (ends.filter fun p => !decide (p ∈ P)).length < ends.length := by
        refine Nat.lt_of_le_of_ne (List.length_filter_le _ _) fun e => ?_
        rw [List.length_filter_eq_length_iff] at e
        have := e p h1
        simp [h2] at this
      have := x.l3
      omega
  · intro y hy
    rcases List.mem_append.mp hy with hy | hy
    · exact x.few y hy
    · rw [List.mem_singleton.mp hy]; exact p3
  · intro c hc
    by_cases e : c = i
    · exact ⟨i, by simp, by rw [e]; exact .self⟩
    · obtain ⟨z, hz, r⟩ := x.cov c (by omega)
      by_cases hzP : z ∈ P
      · exact ⟨i, by simp, Anc.head.mpr (.inr ⟨z, by rw [pi]; exact hzP, anc_app r⟩)⟩
      · exact ⟨z, List.mem_append_left _ (List.mem_filter.mpr ⟨hz, by simpa using hzP⟩), anc_app r⟩
  · intro e
    have : (ends.filter fun p => !decide (p ∈ P)) = [] := by
      rw [List.filter_eq_nil_iff]
      intro p hp
      simp [p5 e p hp]
    rw [this, List.nil_append]
    congr 1
    omega
theorem HX.fin {n : Nat} {hs : Hist} {ends : List Nat} (x : HX n n hs ends) (g : GV n hs) (hn : 0 < n) : GVX n hs :=
  ⟨g, x.few, fun c hc => by
    obtain ⟨e, he, r⟩ := x.cov c hc
    rw [x.last rfl, List.mem_singleton] at he
    rw [he] at r
    exact r⟩
theorem s_history3 {ds : List Int} {a : Nat} {most : Nat} (h1 : 0 < most) (hm : most ≤ 24) (hQ : ∀ (n : Nat) (hs : Hist) (a' : Nat), 0 < n → n ≤ most → GVX n hs → Q (hD hs) (bx ds a')) : Cm2.c__law_history [.obj 1, .int most] E (bx ds a) Q := by
  unfold Cm2.c__law_history Cm2.m__law_history
  simp only [mxCN, List.map_cons, List.map_nil, List.replicate, List.cons_append, List.nil_append, List.set_cons_zero, List.set_cons_succ, wipeE]
  refine ⟨rfl, ?_⟩
  rw [← List.append_nil (bx ds a)]
  refine s_draw (by omega) fun v h0 h2 => ?_
  obtain ⟨n, hn⟩ : ∃ n : Nat, 1 + v = (n : Int) := ⟨(1 + v).toNat, by omega⟩
  simp only [mxCN, List.map_cons, List.map_nil, List.replicate, List.cons_append, List.nil_append, List.set_cons_zero, List.set_cons_succ, hn]
  rw [x_seqN]
  simp only [mxCN, List.map_cons, List.map_nil, List.replicate, List.cons_append, List.nil_append, List.set_cons_zero, List.set_cons_succ]
  refine ⟨Nat.zero_le _, ?_⟩
  rw [x_seqN]
  simp only [mxCN, List.map_cons, List.map_nil, List.replicate, List.cons_append, List.nil_append, List.set_cons_zero, List.set_cons_succ]
  refine ⟨Nat.zero_le _, ?_⟩
  rw [x_seqN]
  simp only [mxCN, List.map_cons, List.map_nil, List.replicate, List.cons_append, List.nil_append, List.set_cons_zero, List.set_cons_succ]
  refine ⟨⟨by omega, by omega⟩, ?_⟩
  refine for_rule n (fun i ρ θ' => ∃ x5 x6 x7 a' hs g e ends, ρ = [some (.obj 1), some (.int most), some (.int n), some (.obj 2), some (.obj (e + 3)), x5, x6, x7] ∧ θ' = bx ds a' ++ .lst (hs.map mk) :: g ∧ g[e]? = some (.lst (nd ends)) ∧ GV i hs ∧ ends.Pairwise (· < ·) ∧ (∀ p ∈ ends, p < i) ∧ ends.length ≤ i ∧ HX n i hs ends)
    ⟨none, none, none, a + 1, [], [.lst []], 0, [], rfl, rfl, rfl, ⟨rfl, rfl, (fun x hx => by simp at hx), (fun k p hp => by simp [par] at hp)⟩, .nil, (fun p hp => by simp at hp), Nat.le_refl _, hx_0 (by omega)⟩ ?_ ?_
  · rintro i ρ θ' hi ⟨x5, x6, x7, a', hs, g, e, ends, rfl, rfl, hg, hv, hp, hl, hz, hX⟩
    refine ⟨.int (i : Nat), _, by rw [show (n : Int).toNat = n from rfl, rng_at hi]; simp, rfl, fun K LK => ?_⟩
    simp only [mxCN, List.map_cons, List.map_nil, List.replicate, List.cons_append, List.nil_append, List.set_cons_zero, List.set_cons_succ]
    rw [x_seqN]
    simp only [mxCN, List.map_cons, List.map_nil, List.replicate, List.cons_append, List.nil_append, List.set_cons_zero, List.set_cons_succ]
    generalize hT : seqK _ E K = T
    have he : ∀ a o, (bx ds a ++ o :: g)[e + 3]? = some (.lst (nd ends)) := fun a o => hg
    have key : ∀ (P : List Nat) (a' : Nat), P.Pairwise (· < ·) → (∀ p ∈ P, p < i) → P.length ≤ 3 → (ends.length ≤ 2 ∨ ∃ p ∈ ends, p ∈ P) → (i + 1 = n → ∀ p ∈ ends, p ∈ P) → T (.nx [some (.obj 1), some (.int most), some (.int n), some (.obj 2), some (.obj (e + 3)), some (.int (i : Nat)), some (.tup (nd P)), x7]) (bx ds a' ++ .lst (hs.map mk) :: g) := by
      intro P a' p1 p2 p3 p4 p5
      subst hT
      rw [x_seqN]
      simp only [mxCN, List.map_cons, List.map_nil, List.replicate, List.cons_append, List.nil_append, List.set_cons_zero, List.set_cons_succ, wipeE, he]
      refine lc_pure ends.length (fun j => !decide (ends.getD j 0 ∈ P)) (fun j => .int (ends.getD j 0 : Nat)) (by rw [sizeLine_eq]; omega) ?_ ?_ ?_
      · intro j acc g' hj
        refine ⟨.int (ends.getD j 0 : Nat), _, ?_, rfl, fun K hK => ?_⟩
        · have e0 : (bx ds a' ++ .lst (hs.map mk) :: g ++ .lst acc :: g')[e + 3]? = some (.lst (nd ends)) := th_left (he _ _)
          rw [src_L e0]
          simp [List.getD_eq_getElem?_getD, List.getElem?_eq_getElem hj]
        · simp only [mxC, List.map_cons, List.map_nil, List.replicate, List.cons_append, List.nil_append, List.set_cons_zero, List.set_cons_succ]
          refine notin_intsT (hK g' fun _ K2 h2 => ?_)
          simp only [mxC, List.map_cons, List.map_nil, List.replicate, List.cons_append, List.nil_append, List.set_cons_zero, List.set_cons_succ]
          exact h2 g'
      · intro acc g'
        have e0 : (bx ds a' ++ .lst (hs.map mk) :: g ++ .lst acc :: g')[e + 3]? = some (.lst (nd ends)) := th_left (he _ _)
        rw [src_L e0, List.getElem?_eq_none (by simp)]
      · intro g'
        rw [rng_filter (fun p => !decide (p ∈ P)) (fun p => .int (p : Nat))]
        generalize hE : ends.filter (fun p => !decide (p ∈ P)) = E2
        have z1 : E2.length ≤ ends.length := by rw [← hE]; exact List.length_filter_le _ _
        have z2 : E2.Pairwise (· < ·) := by rw [← hE]; exact hp.filter _
        have z3 : ∀ p ∈ E2, p < i := fun p h => hl p (by rw [← hE] at h; exact (List.mem_filter.mp h).1)
        refine ⟨by show 1 ≤ sizeLine; rw [sizeLine_eq]; decide, ?_⟩
        rw [th_last]
        have e1 : (bx ds a' ++ .lst (hs.map mk) :: g ++ .lst (E2.map fun p => Dv.int (p : Nat)) :: g' ++ [.lst [.int (i : Nat)]])[(bx ds a' ++ .lst (hs.map mk) :: g).length]? = some (.lst (nd E2)) := th_left th_mid
        rw [e1, x_addL]
        refine ⟨by rw [List.length_map, sizeLine_eq]; show E2.length + 1 ≤ _; omega, ?_⟩
        have e2 : nd E2 ++ [Dv.int (i : Nat)] = nd (E2 ++ [i]) := by simp
        obtain ⟨gg, egg⟩ : ∃ gg, bx ds a' ++ .lst (hs.map mk) :: g ++ .lst (E2.map fun p => Dv.int (p : Nat)) :: g' ++ [.lst [.int (i : Nat)]] = bx ds a' ++ .lst (hs.map mk) :: gg := ⟨g ++ .lst (E2.map fun p => Dv.int (p : Nat)) :: g' ++ [.lst [.int (i : Nat)]], by simp⟩
        rw [egg, e2]
        have e3 : (bx ds a' ++ .lst (hs.map mk) :: gg).length = gg.length + 3 := by simp [bx]
        rw [e3]
        have eall : bx ds a' ++ .lst (hs.map mk) :: gg ++ [.lst (nd (E2 ++ [i]))] = bx ds a' ++ .lst (hs.map mk) :: (gg ++ [.lst (nd (E2 ++ [i]))]) := by simp
        rw [eall, x_seqN]
        simp only [mxCN, List.map_cons, List.map_nil, List.replicate, List.cons_append, List.nil_append, List.set_cons_zero, List.set_cons_succ]
        have ty : ∀ G, (bx ds a' ++ Ob.lst (hs.map mk) :: G)[2]? = some (.lst (hs.map mk)) := fun G => rfl
        simp only [ty, mxCN, List.map_cons, List.map_nil, List.replicate, List.cons_append, List.nil_append, List.set_cons_zero, List.set_cons_succ]
        refine ⟨trivial, by decide, 97 + i, ?_, ?_⟩
        · rw [letters24]
          exact at_nat (by rw [List.getElem?_map, List.getElem?_range (by omega)]; rfl)
        · simp only [x_addS]
          refine ⟨by show 2 ≤ sizeLine; rw [sizeLine_eq]; decide, two_line, ?_⟩
          rw [ty, x_appL]
          refine ⟨by rw [List.length_map, hv.len, sizeLine_eq]; omega, ?_⟩
          have e4 : hs.map mk ++ [Dv.tup [.str (("v" : Str) ++ (⟨#[97 + i]⟩ : Str)), .tup (nd P)]] = (hs ++ [(nmV i, P)]).map mk := by rw [List.map_append]; rfl
          rw [e4]
          refine LK.nx _ _ ⟨_, rfl, _, _, _, a', hs ++ [(nmV i, P)], gg ++ [.lst (nd (E2 ++ [i]))], gg.length, E2 ++ [i], rfl, rfl, by simp, hv.step p1 p2, ?_, ?_, by rw [List.length_append, List.length_singleton]; omega, by rw [← hE]; exact hX.step hv p2 p3 p4 p5⟩
          · rw [List.pairwise_append]
            exact ⟨z2, List.pairwise_singleton _ _, fun x hx y hy => by rw [List.mem_singleton.mp hy]; exact z3 x hx⟩
          · intro p hp
            rcases List.mem_append.mp hp with h | h
            · have := z3 p h; omega
            · rw [List.mem_singleton.mp h]; omega
    refine ⟨Nat.zero_le _, ?_⟩
    by_cases c1 : i + 1 = n
    · rw [if_pos (decide_eq_true (by omega)), he, x_tupL]
      exact key ends a' hp hl hX.l3 hX.p0 fun _ p hp => hp
    · rw [if_neg (by simp; omega)]
      by_cases c2 : 0 < i
      · rw [if_pos (decide_eq_true (by omega))]
        exact ⟨rfl, s_parents3 (e := e + 1) (g := .lst (hs.map mk) :: g) hg c2 (by omega) hp hl hX.l3 fun P a2 q1 q2 q3 q4 => key P a2 q1 q2 q3 q4 fun e => absurd e c1⟩
      · rw [if_neg (by simp; omega)]
        exact key [] a' .nil (fun p hp => by simp at hp) (Nat.zero_le _) (.inl (by omega)) fun e => absurd e c1
  · rintro ρ θ' ⟨x5, x6, x7, a', hs, g, e, ends, rfl, rfl, hg, hv, hp, hl, hz, hX⟩
    refine ⟨by rw [show (n : Int).toNat = n from rfl]; exact rng_end, ?_⟩
    rw [x_seqN]
    have ty : ∀ G, (bx ds a' ++ Ob.lst (hs.map mk) :: G)[2]? = some (.lst (hs.map mk)) := fun G => rfl
    simp only [mxCN, List.map_cons, List.map_nil, List.replicate, List.cons_append, List.nil_append, List.set_cons_zero, List.set_cons_succ, ty]
    refine ⟨two_line, ?_⟩
    rw [List.append_nil]
    exact end_bx (fun m => hD_low hs m) (hQ n hs a' (by omega) (by omega) (hX.fin hv (by omega)))
end Sp

/-! Vb13: a desk that is made. -/
namespace Sp
open PySem PySem.Spec PyProof.Rows L2 Mn
variable {E : Exn → Th → Prop} {θ : Th} {Q : Dv → Th → Prop} {h : Hist} {k : Nat} {m : DM}
theorem nmV_ok : ∀ i, i < 24 → nameB (nmV i) = true := by decide +kernel
theorem nmV_inj : ∀ i, i < 24 → ∀ j, j < 24 → nmV i = nmV j → i = j := by decide +kernel
theorem GV.name {n : Nat} {hs : Hist} (g : GV n hs) {i : Nat} (hi : i < hs.length) : hs[i].1 = nmV i := by
  have e := congrArg (fun l => l[i]?) g.nm
  have hn : i < n := by have := g.len; omega
  simpa [hi, hn] using e
theorem asc_ofN {P : List Nat} (hp : P.Pairwise (· < ·)) : asc (cI P) = true := by
  unfold asc
  rw [List.all_map, List.all_eq_true]
  intro i hi
  rw [List.mem_range, cI, List.length_map] at hi
  have h1 := (List.pairwise_iff_getElem.mp hp) i (i + 1) (by omega) (by omega) (by omega)
  have e : ∀ j (hj : j < P.length), (cI P).getD j 0 = (P[j] : Int) := fun j hj => by simp [cI, List.getD_eq_getElem?_getD, hj]
  show decide ((cI P).getD i 0 < (cI P).getD (i + 1) 0) = true
  rw [e i (by omega), e (i + 1) (by omega), decide_eq_true_eq]
  omega
theorem parB_of {P : List Nat} {i : Nat} (hp : P.Pairwise (· < ·)) (h3 : P.length ≤ 3) (hl : ∀ p ∈ P, p < i) : parB (cI P) i = true := by
  unfold parB
  rw [asc_ofN hp]
  have el : (cI P).length = P.length := by simp [cI]
  rw [Bool.and_eq_true, Bool.and_eq_true, decide_eq_true_eq, List.all_eq_true]
  refine ⟨⟨by omega, rfl⟩, fun j hj => ?_⟩
  rw [List.mem_range] at hj
  have e : (cI P).getD j 0 = (P[j]'(by omega) : Int) := by simp [cI, List.getD_eq_getElem?_getD, show j < P.length by omega]
  rw [e, Bool.and_eq_true, decide_eq_true_eq, decide_eq_true_eq]
  have := hl _ (List.getElem_mem (show j < P.length by omega))
  omega
theorem GVX.good {n : Nat} {hs : Hist} (g : GVX n hs) (hn : n ≤ 24) {i : Nat} (hi : i < hs.length) : fltM (hs.map fun x => (x.1, cI x.2)) i = none := by
  have len := g.len
  unfold fltM
  rw [List.getElem?_map, List.getElem?_eq_getElem hi]
  have mem : hs[i] ∈ hs := List.getElem_mem hi
  have e1 : nameB hs[i].1 = true := by rw [g.name hi]; exact nmV_ok i (by omega)
  have e2 : hs[i].1 ∉ ((hs.map fun x => (x.1, cI x.2)).take i).map (·.1) := by
    intro hm
    obtain ⟨y, hy, e⟩ := List.mem_map.mp hm
    obtain ⟨j, hj, rfl⟩ := List.mem_take_iff_getElem.mp hy
    rw [List.length_map] at hj
    have hj2 : j < hs.length := by omega
    have e3 : nmV j = nmV i := by
      rw [← g.name hi, ← g.name hj2, ← e]
      simp
    have := nmV_inj j (by omega) i (by omega) e3
    omega
  have e4 : parB (cI hs[i].2) i = true := parB_of (g.srt _ mem) (g.few _ mem) fun p hp => g.ahead i p (by rw [← par_get hi]; exact hp)
  show (if nameB hs[i].1 = false then _ else if hs[i].1 ∈ _ then _ else if parB (cI hs[i].2) i = false then _ else _) = _
  rw [if_neg (by rw [e1]; decide), if_neg e2, if_neg (by rw [e4]; decide)]
end Sp

/-! Vb14: the store when a desk is used. -/
namespace Sp
open PySem PySem.Spec PyProof.Rows L2 Mn
variable {E : Exn → Th → Prop} {θ : Th} {Q : Dv → Th → Prop} {h : Hist} {k : Nat} {m : DM}
/-! the box stays where it is -/
end Sp

/-! Vc1: what a desk tells as a text. -/
namespace Sp
open PySem PySem.Spec PyProof.Rows L2 Mn
variable {E : Exn → Th → Prop} {θ : Th} {Q : Dv → Th → Prop} {h : Hist} {k : Nat} {m : DM}
/-- names of at most eight letters, each of one make -/
structure NM (h : Hist) : Prop where
  sh : ∀ c, c < h.length → (nmA h c).length ≤ 8
  inj : ∀ c d, c < h.length → d < h.length → nmA h c = nmA h d → c = d
section
variable {d i j d2 i2 j2 k2 : Nat} {D D2 : List Deed} {ms ms2 : List Dv} {dm dr ds dm2 dr2 ds2 : Dv} {r r2 : Option Bool} {m2 : DM}
end
end Sp

/-! Vc2: the lines of a report. -/
namespace Sp
open PySem PySem.Spec PyProof.Rows L2 Mn
variable {E : Exn → Th → Prop} {θ : Th} {Q : Dv → Th → Prop} {h : Hist} {k : Nat} {m : DM}
section
variable {d i j : Nat} {D : List Deed} {ms : List Dv} {dm dr ds : Dv} {r : Option Bool}
end
end Sp

/-! Vc3: a report. -/
namespace Sp
open PySem PySem.Spec PyProof.Rows L2 Mn
variable {E : Exn → Th → Prop} {θ : Th} {Q : Dv → Th → Prop} {h : Hist} {k : Nat} {m : DM}
section
variable {d i j : Nat} {D : List Deed} {ms : List Dv} {dm dr ds : Dv} {r : Option Bool}
def starK (Q2 : List Dv → Th → Prop) : Dv → Th → Prop := fun x θ1 => match x with
  | .tup ds0 => Q2 ds0 θ1
  | _ => False
theorem x_star {a0 : ME} {ms0 : DEnv → MX (List Dv)} {ρ : DEnv} {R : List Dv → Th → Prop} : msStar a0 ms0 ρ E θ R = a0 ρ E θ (starK fun ds θ1 => ms0 ρ E θ1 fun es θ2 => R (ds ++ es) θ2) := by
  unfold msStar
  congr 1
theorem x_starT {Q2 : List Dv → Th → Prop} {ds0 : List Dv} : starK Q2 (.tup ds0) θ = Q2 ds0 θ := rfl
end
end Sp

/-! Vi7: fewest tests. -/
namespace Sp
open PySem PySem.Spec PyProof.Rows L2 Mn
variable {E : Exn → Th → Prop} {θ : Th} {Q : Dv → Th → Prop} {h : Hist} {sk : List Nat} {st : List Int} {n top : Nat}
theorem s_checksize (hs : StK n top st) (hp : (top + 2) ^ n ≤ 20000) (hn : n ≤ 1000) (hQ : Q .non θ) : Cm20.c_check_size [.tup (id_ st)] E θ Q := by
  unfold Cm20.c_check_size Cm20.m_check_size
  simp only [mxDN, List.map_cons, List.map_nil, List.replicate, List.cons_append, List.nil_append, List.set_cons_zero, List.set_cons_succ, x_star]
  rw [x_starT]
  have ez := sizeLine_eq
  refine ⟨by simp [id_, hs.len]; omega, ?_⟩
  have ei : intsD (Dv.int 0 :: (id_ st ++ [])) = some (0 :: st) := by
    rw [List.append_nil]
    exact intsD_map (0 :: st)
  rw [x_intsP th_last ei]
  refine ⟨by simp, fun m hm hb => ?_⟩
  have h0 : 0 ≤ m := hb 0 List.mem_cons_self
  have h1 : m ≤ (top : Int) := by
    rcases List.mem_cons.mp hm with rfl | hm
    · omega
    · exact (hs.lo m hm).2
  obtain ⟨b, rfl⟩ := Int.eq_ofNat_of_zero_le h0
  have hb2 : ∀ t, t ≤ n → (b + 2) ^ t ≤ 20000 := fun t ht => Nat.le_trans (Nat.pow_le_pow_left (by omega) t) (Nat.le_trans (Nat.pow_le_pow_right (by omega) ht) hp)
  simp only [mxDN, List.map_cons, List.map_nil, List.replicate, List.cons_append, List.nil_append, List.set_cons_zero, List.set_cons_succ]
  rw [x_seqN]
  simp only [mxDN, List.map_cons, List.map_nil, List.replicate, List.cons_append, List.nil_append, List.set_cons_zero, List.set_cons_succ]
  rw [x_seqN]
  simp only [mxDN, List.map_cons, List.map_nil, List.replicate, List.cons_append, List.nil_append, List.set_cons_zero, List.set_cons_succ]
  refine for_rule st.length (fun t ρ θ' => ∃ x3, ρ = [some (.tup (id_ st)), some (.int ((b : Int) + 2)), some (.int (((b + 2) ^ t : Nat) : Int)), x3] ∧ Ext θ θ') ⟨none, rfl, .app⟩ ?_ ?_
  · rintro t ρ θ' ht ⟨x3, rfl, e1⟩
    refine ⟨.int (st.getD t 0), _, by simp [Src.at, Sd.items, id_, ht, List.getD_eq_getElem?_getD], rfl, fun K LK => ?_⟩
    rw [hs.len] at ht
    have b1 := hb2 t (Nat.le_of_lt ht)
    show CMul (((b + 2) ^ t : Nat) : Int) ((b : Int) + 2) ∧ K _ θ'
    refine ⟨.inl ⟨by omega, by omega⟩, ?_⟩
    refine LK.nx _ _ ⟨_, rfl, some (.int (st.getD t 0)), ?_, e1⟩
    have e : (((b + 2) ^ t : Nat) : Int) * ((b : Int) + 2) = (((b + 2) ^ (t + 1) : Nat) : Int) := by
      rw [Nat.pow_succ, Int.natCast_mul]
      rfl
    show [some (.tup (id_ st)), some (.int ((b : Int) + 2)), some (Dv.int ((((b + 2) ^ t : Nat) : Int) * ((b : Int) + 2))), _] = _
    rw [e]
  · rintro ρ θ' ⟨x3, rfl, e1⟩
    refine ⟨by simp [Src.at, Sd.items, id_], ?_⟩
    have b1 := hb2 st.length (Nat.le_of_eq hs.len)
    rw [x_seqN]
    simp only [mxDN, List.map_cons, List.map_nil, List.replicate, List.cons_append, List.nil_append, List.set_cons_zero, List.set_cons_succ]
    refine (if_neg (by rw [decide_eq_true_eq]; omega)).mpr ?_
    exact end_ext hQ e1 fun _ => rfl
noncomputable def srF (h : Hist) (sk : List Nat) (kk : Nat) : List (Str × Dv) := [("marked", mtD h sk), ("step", .fn "taken"), ("known", .obj kk)]
theorem s_sinit (a : Ahead h) (hl : h.length ≤ 1000) (hw : ∀ k, (par h k).length ≤ 1000) (hQ : Q .non (θ ++ [.ins "Search" (srF h sk (θ.length + 1)), .dT []])) : Cm20.c_Search___init__ [.obj θ.length, hD h, .tup (nd sk), .fn "taken"] E (θ ++ [.ins "Search" []]) Q := by
  unfold Cm20.c_Search___init__ Cm20.m_Search___init__
  simp only [mxDN, List.map_cons, List.map_nil, List.replicate, List.cons_append, List.nil_append, List.set_cons_zero, List.set_cons_succ, x_sfld]
  refine ⟨rfl, s_marked a hl hw ?_⟩
  refine ⟨[], by rw [th_last]; exact flds_ins, by decide, ?_⟩
  rw [th_set_mid, x_seqN]
  simp only [mxDN, List.map_cons, List.map_nil, List.replicate, List.cons_append, List.nil_append, List.set_cons_zero, List.set_cons_succ, x_sfld]
  refine ⟨_, by rw [th_last]; exact flds_ins, by simp [putFd], ?_⟩
  rw [th_set_mid, x_seqN]
  simp only [mxDN, List.map_cons, List.map_nil, List.replicate, List.cons_append, List.nil_append, List.set_cons_zero, List.set_cons_succ, x_sfld]
  rw [x_dT]
  refine ⟨_, by rw [th_left th_last]; exact flds_ins, by show ([("marked", mtD h sk), ("step", Dv.fn "taken")] : List (Str × Dv)).length < 1000; simp, ?_⟩
  rw [List.append_assoc, List.singleton_append, th_set_mid]
  refine end_same ?_
  have e : putFd "known" (.obj (θ ++ [Ob.ins "Search" (putFd "step" (.fn "taken") (putFd "marked" (mtD h sk) []))]).length) (putFd "step" (.fn "taken") (putFd "marked" (mtD h sk) [])) = srF h sk (θ.length + 1) := by
    rw [List.length_append]
    rfl
  rw [e]
  exact hQ
theorem ext_kept {kk : Nat} {θ1 θ' : Th} (e : Ext θ θ1) (K : Kept kk θ1 θ') (hk : θ.length ≤ kk) : Ext θ θ' := by
  have l1 := (Kept.ext (kk := kk) e).len
  have l2 := K.len
  refine ⟨θ'.drop θ.length, ?_⟩
  have e2 : θ'.take θ.length = θ := by
    apply List.ext_getElem?
    intro i
    rw [List.getElem?_take]
    split
    · next hi =>
      have h1 : θ[i]? = some θ[i] := List.getElem?_eq_getElem hi
      rw [h1]
      exact K.at' i _ (by omega) (e.at h1)
    · next hi => rw [List.getElem?_eq_none (by omega)]
  exact (List.take_append_drop θ.length θ').symm.trans (by rw [e2])
end Sp

/-! Vi8: fewest_by_make, the next answer. -/
namespace Sp
open PySem PySem.Spec PyProof.Rows L2 Mn
variable {E : Exn → Th → Prop} {θ : Th} {Q : Dv → Th → Prop} {h : Hist} {sk : List Nat} {st : List Int} {n top : Nat}
/-- the state at the start -/
noncomputable def st0 (h : Hist) (sk : List Nat) : List Int := List.replicate (nc h sk) 0
theorem st0_k : StK (nc h sk) 0 (st0 h sk) := ⟨by unfold st0; rw [List.length_replicate], fun y hy => by
  unfold st0 at hy
  rw [List.eq_of_mem_replicate hy]
  omega⟩
end Sp

/-! Vi9: the next answer (k25's law). -/
namespace Sp
open PySem PySem.Spec PyProof.Rows L2 Mn
variable {E : Exn → Th → Prop} {θ : Th} {Q : Dv → Th → Prop} {h : Hist} {sk : List Nat} {st : List Int} {n top : Nat}
end Sp

/-! Via: the next answer, a make not yet told. -/
namespace Sp
open PySem PySem.Spec PyProof.Rows L2 Mn
variable {E : Exn → Th → Prop} {θ : Th} {Q : Dv → Th → Prop} {h : Hist} {sk : List Nat} {st : List Int} {n top : Nat}
end Sp

/-! Vib: what an answerer who holds back keeps (the maths of k25). -/
namespace Sp
open PySem PySem.Spec PyProof.Rows L2 Mn
variable {h : Hist} {sk : List Nat} {st : List Int}
theorem dlt_if {x y : Nat × Nat} : PySem.W.dataLt (pp2 y) (pp2 x) = (if (y.1 : Int) = (x.1 : Int) then decide ((y.2 : Int) < (x.2 : Int)) else decide ((y.1 : Int) < (x.1 : Int))) :=
  PySem.W.DatumOrd.lt_eq (α := Int × Int) ((y.1 : Int), (y.2 : Int)) ((x.1 : Int), (x.2 : Int))
theorem dlt_le {x y : Nat × Nat} (c : PySem.W.dataLt (pp2 y) (pp2 x) = true) : y.1 ≤ x.1 := by
  rw [dlt_if] at c
  split at c
  · omega
  · have := of_decide_eq_true c
    omega
theorem dlt_ge {x y : Nat × Nat} (c : ¬ PySem.W.dataLt (pp2 y) (pp2 x) = true) : x.1 ≤ y.1 := by
  rw [dlt_if] at c
  split at c
  · omega
  · rw [decide_eq_true_eq] at c
    omega
theorem fold_min_le : ∀ (xs : List (Nat × Nat)) (x y : Nat × Nat), (xs.map pp2).foldl (fun a y => if PySem.W.dataLt y a then y else a) (pp2 x) = pp2 y → ∀ z ∈ x :: xs, y.1 ≤ z.1
  | [], x, y, e, z, hz => by
    have e := pp2_inj e
    subst e
    rw [List.mem_singleton.mp hz]
    exact Nat.le_refl _
  | w :: xs, x, y, e, z, hz => by
    rw [List.map_cons, List.foldl_cons] at e
    by_cases c : PySem.W.dataLt (pp2 w) (pp2 x) = true
    · rw [if_pos c] at e
      have ih := fold_min_le xs w y e
      rcases List.mem_cons.mp hz with rfl | hz
      · have h1 := ih w (.head _)
        have h2 := dlt_le c
        omega
      · exact ih z hz
    · rw [if_neg c] at e
      have ih := fold_min_le xs x y e
      rcases List.mem_cons.mp hz with rfl | hz
      · exact ih _ (.head _)
      · rcases List.mem_cons.mp hz with rfl | hz
        · have h1 := ih x (.head _)
          have h2 := dlt_ge c
          omega
        · exact ih z (.tail _ hz)
theorem mnP_le {xs : List (Nat × Nat)} {z : Nat × Nat} (hz : z ∈ xs) : (mnP xs).1 ≤ z.1 := by
  cases xs with
  | nil => cases hz
  | cons x r => exact fold_min_le r x _ (mnP_is (xs := x :: r) (by simp) (pp2 x) (r.map pp2) rfl) z hz
theorem need_us {m : Nat} (hs : st.length = nc h sk) (hm : m ∈ usL h sk st) : needS h sk st ≤ 1 + max (needS h sk (bhS h sk st m true)) (needS h sk (bhS h sk st m false)) := by
  have e : needS h sk st = (bestS h sk st).1 := rfl
  rw [e, bestS_eq hs]
  unfold minP
  have hx := List.mem_map_of_mem (f := fun m => (1 + max (needS h sk (bhS h sk st m true)) (needS h sk (bhS h sk st m false)), m)) hm
  rw [if_neg (List.ne_nil_of_mem hx)]
  exact mnP_le hx
theorem need_none (hs : st.length = nc h sk) (hu : usL h sk st = []) : needS h sk st = 0 := by
  have e : needS h sk st = (bestS h sk st).1 := rfl
  rw [e, bestS_eq hs, hu, List.map_nil, minP_nil]
theorem need_mu : ∀ (n : Nat) (st : List Int), st.length = nc h sk → muS st ≤ n → needS h sk st ≤ n := by
  intro n
  induction n with
  | zero =>
    intro st hs h0
    have hu : usL h sk st = [] := by
      cases e : usL h sk st with
      | nil => rfl
      | cons m l =>
        have := us_lt (h := h) (sk := sk) (b := true) (show m ∈ usL h sk st by rw [e]; exact List.mem_cons_self) hs
        omega
    rw [need_none hs hu]
    exact Nat.le_refl _
  | succ n ih =>
    intro st hs h0
    cases e : usL h sk st with
    | nil =>
      rw [need_none hs e]
      exact Nat.zero_le _
    | cons m l =>
      have hm : m ∈ usL h sk st := by rw [e]; exact List.mem_cons_self
      have q1 := us_lt (b := true) hm hs
      have q2 := us_lt (b := false) hm hs
      have i1 := ih (bhS h sk st m true) (by rw [bhS_len]; exact hs) (by omega)
      have i2 := ih (bhS h sk st m false) (by rw [bhS_len]; exact hs) (by omega)
      have := need_us hs hm
      omega
theorem dns_same {as : List Bool} (hh : ∀ i, i < st.length → 0 ≤ st.getD i 0 → as.getD i false = false) : dns as st = st := by
  apply List.ext_getElem
  · exact dns_len _
  · intro i h1 h2
    have e1 := dns_get (as := as) h2
    rw [List.getD_eq_getElem?_getD, List.getElem?_eq_getElem h1] at e1
    have e2 : st.getD i 0 = st[i] := by rw [List.getD_eq_getElem?_getD, List.getElem?_eq_getElem h2]; rfl
    have e3 : (dns as st)[i] = dn (as.getD i false) (st.getD i 0) := e1
    rw [e3, ← e2]
    unfold dn
    by_cases c : 0 ≤ st.getD i 0
    · rw [hh i h2 c]
      rfl
    · rw [if_neg]
      rw [Bool.and_eq_true, decide_eq_true_eq]
      exact fun z => c z.2
theorem mk_get {m i : Nat} (hi : i < nc h sk) : (mkB h sk m).getD i false = anc h m ((fr h sk).getD i 0) := by
  unfold mkB
  have hf : i < (fr h sk).length := by rw [fr_len]; exact hi
  rw [List.getD_eq_getElem?_getD, List.getElem?_map, List.getElem?_eq_getElem hf, List.getD_eq_getElem?_getD, List.getElem?_eq_getElem hf]
  rfl
theorem mkx_get {m i : Nat} {b : Bool} (hi : i < nc h sk) : ((mkB h sk m).map (· != b)).getD i false = ((mkB h sk m).getD i false != b) := by
  rw [List.getD_eq_getElem?_getD, List.getElem?_map, List.getD_eq_getElem?_getD, List.getElem?_eq_getElem (by rw [mkB_len]; exact hi)]
  rfl
theorem fr_get {i : Nat} (hi : i < nc h sk) : (fr h sk).getD i 0 ∈ fr h sk := by
  have hf : i < (fr h sk).length := by rw [fr_len]; exact hi
  rw [List.getD_eq_getElem?_getD, List.getElem?_eq_getElem hf]
  exact List.getElem_mem hf
theorem ins_lt {i : Nat} (hi : i ∈ insL st) : i < st.length ∧ 0 ≤ st.getD i 0 := ⟨List.mem_range.mp (List.mem_filter.mp hi).1, of_decide_eq_true (List.mem_filter.mp hi).2⟩
theorem ins_in {i : Nat} (h1 : i < st.length) (h2 : 0 ≤ st.getD i 0) : i ∈ insL st := List.mem_filter.mpr ⟨List.mem_range.mpr h1, decide_eq_true h2⟩
theorem need_test {n m : Nat} (g : GVX n h) (hm : m < h.length) (hsk : m ∉ sk) (hs : st.length = nc h sk) : needS h sk st ≤ 1 + max (needS h sk (bhS h sk st m true)) (needS h sk (bhS h sk st m false)) := by
  by_cases hp : prtB st (mkB h sk m) = true
  · refine need_us hs ?_
    unfold usL
    rw [List.mem_filter]
    refine ⟨?_, hp⟩
    unfold tsL
    rw [List.mem_filter]
    refine ⟨List.mem_range.mpr ?_, by simpa using hsk⟩
    refine Nat.lt_of_not_le fun hle => ?_
    have em : m = n - 1 := by have := g.len; omega
    unfold prtB at hp
    rw [Bool.and_eq_true, List.any_eq_true, List.any_eq_true] at hp
    obtain ⟨_, j, hj, h2⟩ := hp
    have hj2 := (ins_lt hj).1
    rw [hs] at hj2
    rw [mk_get hj2] at h2
    have ha : anc h m ((fr h sk).getD j 0) = true := by
      refine anc_iff.mpr ?_
      rw [em]
      refine g.top _ ?_
      have := fr_lt (fr_get hj2)
      have := g.len
      omega
    rw [ha] at h2
    cases h2
  · have hb : ∃ b, bhS h sk st m b = st := by
      unfold prtB at hp
      have hp : ((insL st).any fun i => (mkB h sk m).getD i false) = false ∨ ((insL st).any fun i => !(mkB h sk m).getD i false) = false := by
        cases hA : ((insL st).any fun i => (mkB h sk m).getD i false)
        · exact .inl rfl
        · cases hB : ((insL st).any fun i => !(mkB h sk m).getD i false)
          · exact .inr rfl
          · rw [hA, hB] at hp
            exact absurd rfl hp
      rw [List.any_eq_false, List.any_eq_false] at hp
      rcases hp with hp | hp
      · refine ⟨false, dns_same fun i h1 h2 => ?_⟩
        have := hp i (ins_in h1 h2)
        rw [mkx_get (by omega)]
        simpa using this
      · refine ⟨true, dns_same fun i h1 h2 => ?_⟩
        have := hp i (ins_in h1 h2)
        rw [mkx_get (by omega)]
        simpa using this
    obtain ⟨b, e⟩ := hb
    cases b <;> rw [e] <;> omega
theorem cnt_app {l : Ans} {b c : Bool} {m m' : Nat} : (l ++ [(b, m)]).count (c, m') = l.count (c, m') + if b = c ∧ m = m' then 1 else 0 := by
  rw [List.count_append, List.count_singleton]
  congr 1
  by_cases e : b = c ∧ m = m'
  · obtain ⟨rfl, rfl⟩ := e
    simp
  · rw [if_neg e, if_neg]
    intro z
    have := eq_of_beq z
    rw [Prod.mk.injEq] at this
    exact e this
/-- the answers of a make -/
def ofM (l : Ans) (m : Nat) : Nat := l.count (false, m) + l.count (true, m)
theorem ofM_len {l : Ans} {m : Nat} : ofM l m = (l.filter fun x => x.2 == m).length := by
  unfold ofM
  induction l with
  | nil => rfl
  | cons x l ih =>
    obtain ⟨b, m'⟩ := x
    rw [List.count_cons, List.count_cons, List.filter_cons]
    by_cases e : m' = m
    · subst e
      cases b <;> simp <;> omega
    · have e1 : ((m' == m) = true) = False := by simp [e]
      simp only [e1, if_false]
      have n1 : ∀ c, ((b, m') == (c, m)) = false := fun c => by
        rw [Bool.eq_false_iff]
        intro z
        have := eq_of_beq z
        rw [Prod.mk.injEq] at this
        exact e this.2
      rw [n1, n1]
      simpa using ih
theorem len_parts {β : Type} (p : β → Bool) : ∀ l : List β, l.length = (l.filter p).length + (l.filter fun x => !(p x)).length
  | [] => rfl
  | x :: l => by
    have ih := len_parts p l
    rw [List.filter_cons, List.filter_cons]
    cases p x <;> simp <;> omega
theorem of_sum (t : Nat) : ∀ (ms : List Nat) (l : Ans), ms.Nodup → (∀ m ∈ ms, t ≤ ofM l m) → t * ms.length ≤ l.length
  | [], l, _, _ => by simp
  | m :: ms, l, hn, hc => by
    rw [List.nodup_cons] at hn
    have h1 : ∀ m' ∈ ms, t ≤ ofM (l.filter fun x => !(x.2 == m)) m' := fun m' hm' => by
      have := hc m' (.tail _ hm')
      rw [ofM_len] at this ⊢
      rw [List.filter_filter]
      have e : (fun x : Bool × Nat => (x.2 == m') && !(x.2 == m)) = fun x => x.2 == m' := by
        funext x
        by_cases c : x.2 = m'
        · have : x.2 ≠ m := fun z => hn.1 (by rw [← z, c]; exact hm')
          simp [c]
          intro z
          exact this (c.trans z)
        · simp [c]
      rw [e]
      exact this
    have ih := of_sum t ms _ hn.2 h1
    have h2 := hc m (.head _)
    rw [ofM_len] at h2
    have e := len_parts (fun x : Bool × Nat => x.2 == m) l
    rw [List.length_cons, Nat.mul_succ]
    omega
/-- what holds behind each answer of the answerer who holds back -/
structure HK (h : Hist) (sk : List Nat) (two : Bool) (k F : Nat) (l : Ans) (tf : Nat → Option Bool) (ms : List Nat) (st : List Int) : Prop where
  no : ∀ m, tf m = none → l.count (false, m) + l.count (true, m) < mst two k ∧ l.count (false, m) ≤ k ∧ l.count (true, m) ≤ (if two then k else 0) ∧ (two = true → l.count (false, m) = l.count (true, m) ∨ l.count (false, m) = l.count (true, m) + 1)
  so : ∀ m b, tf m = some b → mst two k ≤ l.count (false, m) + l.count (true, m) ∧ (b = true → l.count (false, m) ≤ k) ∧ (b = false → l.count (true, m) ≤ (if two then k else 0))
  nd : ms.Nodup
  mem : ∀ m ∈ ms, tf m ≠ none
  stk : StK (nc h sk) 0 st
  ok : ∀ i, i < nc h sk → 0 ≤ st.getD i 0 → ∀ m b, tf m = some b → (mkB h sk m).getD i false = b
  pot : F ≤ needS h sk st + ms.length
theorem HK.start {two : Bool} {k : Nat} : HK h sk two k (needS h sk (st0 h sk)) [] (fun _ => none) [] (st0 h sk) :=
  ⟨fun m _ => by
    have : 0 < mst two k := by unfold mst; split <;> omega
    simp only [List.count_nil]
    refine ⟨by omega, by omega, by split <;> omega, fun _ => .inl trivial⟩, fun m b e => (by cases e), .nil, fun m hm => (by cases hm), st0_k, fun i _ _ m b e => (by cases e), by simp⟩
theorem HK.held {two : Bool} {k F m : Nat} {l : Ans} {tf : Nat → Option Bool} {ms : List Nat} (H : HK h sk two k F l tf ms st) (hw : hld two k (l.count (false, m)) (l.count (true, m)) ≠ "") :
    ∃ b, hld two k (l.count (false, m)) (l.count (true, m)) = word b ∧ HK h sk two k F (l ++ [(b, m)]) tf ms st := by
  have hlt : l.count (false, m) + l.count (true, m) < (if two then 2 * k else k) := by
    refine Nat.lt_of_not_le fun hle => hw ?_
    unfold hld
    rw [if_pos hle]
  have hno : tf m = none := by
    cases e : tf m with
    | none => rfl
    | some b =>
      have h1 := (H.so m b e).1
      unfold mst at h1
      split at h1 <;> simp_all <;> omega
  obtain ⟨n1, n2, n3, n4⟩ := H.no m hno
  refine ⟨two && decide ((l.count (false, m) + l.count (true, m)) % 2 = 1), ?_, ?_⟩
  · unfold hld word
    rw [if_neg (by omega)]
  · refine ⟨fun m' hm' => ?_, fun m' b' e => ?_, H.nd, H.mem, H.stk, H.ok, H.pot⟩
    · by_cases e : m = m'
      · subst e
        rw [cnt_app, cnt_app]
        clear hw hno H
        generalize l.count (false, m) = w at *
        generalize l.count (true, m) = b at *
        by_cases c : (two && decide ((w + b) % 2 = 1)) = true
        · rw [c, if_neg (by simp), if_pos ⟨rfl, rfl⟩]
          rw [Bool.and_eq_true, decide_eq_true_eq] at c
          obtain ⟨rfl, c⟩ := c
          have n4 := n4 rfl
          unfold mst at n1 ⊢
          simp only [if_true] at hlt n1 n3 ⊢
          refine ⟨by omega, by omega, by omega, fun _ => by omega⟩
        · rw [Bool.not_eq_true] at c
          rw [c, if_pos ⟨rfl, rfl⟩, if_neg (by simp)]
          cases two
          · unfold mst at n1 ⊢
            simp only [Bool.false_eq_true, if_false] at hlt n1 n3 ⊢
            exact ⟨by omega, by omega, by omega, fun z => z.elim⟩
          · rw [Bool.true_and, decide_eq_false_iff_not] at c
            have n4 := n4 rfl
            unfold mst at n1 ⊢
            simp only [if_true] at hlt n1 n3 ⊢
            refine ⟨by omega, by omega, by omega, fun _ => by omega⟩
      · rw [cnt_app, cnt_app, if_neg (fun z => e z.2), if_neg (fun z => e z.2)]
        exact H.no m' hm'
    · have ne : m ≠ m' := fun z => by subst z; rw [hno] at e; cases e
      rw [cnt_app, cnt_app, if_neg (fun z => ne z.2), if_neg (fun z => ne z.2)]
      exact H.so m' b' e
theorem HK.again {two : Bool} {k F m : Nat} {b : Bool} {l : Ans} {tf : Nat → Option Bool} {ms : List Nat} (H : HK h sk two k F l tf ms st) (hb : tf m = some b) : HK h sk two k F (l ++ [(b, m)]) tf ms st := by
  refine ⟨fun m' hm' => ?_, fun m' b' e => ?_, H.nd, H.mem, H.stk, H.ok, H.pot⟩
  · have ne : m ≠ m' := fun z => by subst z; rw [hb] at hm'; cases hm'
    rw [cnt_app, cnt_app, if_neg (fun z => ne z.2), if_neg (fun z => ne z.2)]
    exact H.no m' hm'
  · by_cases ne : m = m'
    · subst ne
      rw [hb] at e
      cases e
      obtain ⟨s1, s2, s3⟩ := H.so m b hb
      rw [cnt_app, cnt_app]
      refine ⟨by omega, fun z => ?_, fun z => ?_⟩
      · subst z
        rw [if_neg (by simp)]
        exact s2 rfl
      · subst z
        rw [if_neg (by simp)]
        exact s3 rfl
    · rw [cnt_app, cnt_app, if_neg (fun z => ne z.2), if_neg (fun z => ne z.2)]
      exact H.so m' b' e
theorem HK.new {two : Bool} {n k F m : Nat} {b : Bool} {l : Ans} {tf : Nat → Option Bool} {ms : List Nat} (g : GVX n h) (H : HK h sk two k F l tf ms st) (hm : m < h.length) (hsk : m ∉ sk)
    (hw : hld two k (l.count (false, m)) (l.count (true, m)) = "") (hn : tf m = none) (hb : needS h sk (bhS h sk st m (!b)) ≤ needS h sk (bhS h sk st m b)) :
    HK h sk two k F (l ++ [(b, m)]) (fun x => if x = m then some b else tf x) (m :: ms) (bhS h sk st m b) := by
  have hge : (if two then 2 * k else k) ≤ l.count (false, m) + l.count (true, m) := by
    refine Nat.le_of_not_lt fun hlt => ?_
    unfold hld at hw
    rw [if_neg (by omega)] at hw
    split at hw <;> exact absurd hw (by decide)
  obtain ⟨n1, n2, n3, n4⟩ := H.no m hn
  refine ⟨fun m' hm' => ?_, fun m' b' e => ?_, ?_, ?_, ?_, ?_, ?_⟩
  · skip
    have ne : m' ≠ m := fun z => by rw [if_pos z] at hm'; cases hm'
    rw [if_neg ne] at hm'
    rw [cnt_app, cnt_app, if_neg (fun z => ne z.2.symm), if_neg (fun z => ne z.2.symm)]
    exact H.no m' hm'
  · skip
    by_cases ne : m' = m
    · rw [if_pos ne] at e
      cases e
      subst ne
      rw [cnt_app, cnt_app]
      refine ⟨?_, fun z => ?_, fun z => ?_⟩
      · unfold mst
        cases b <;> cases two <;> simp at hge ⊢ <;> omega
      · subst z
        rw [if_neg (by simp)]
        exact n2
      · subst z
        rw [if_neg (by simp)]
        exact n3
    · rw [if_neg ne] at e
      rw [cnt_app, cnt_app, if_neg (fun z => ne z.2.symm), if_neg (fun z => ne z.2.symm)]
      exact H.so m' b' e
  · rw [List.nodup_cons]
    exact ⟨fun z => H.mem m z hn, H.nd⟩
  · intro m' hm'
    by_cases ne : m' = m
    · rw [if_pos ne]
      simp
    · rw [if_neg ne]
      rcases List.mem_cons.mp hm' with z | z
      · exact absurd z ne
      · exact H.mem m' z
  · exact H.stk.dns _
  · intro i hi h0 m' b' e
    have hi2 : i < st.length := by rw [H.stk.len]; exact hi
    have e0 : (bhS h sk st m b).getD i 0 = dn ((mkB h sk m).getD i false != b) (st.getD i 0) := by
      unfold bhS
      rw [dns_get hi2, mkx_get hi]
    rw [e0] at h0
    have lo := H.stk.lo (st.getD i 0) (by rw [List.getD_eq_getElem?_getD, List.getElem?_eq_getElem hi2]; exact List.getElem_mem hi2)
    have hs0 : 0 ≤ st.getD i 0 := Int.le_trans h0 dn_le
    by_cases ne : m' = m
    · rw [if_pos ne] at e
      cases e
      subst ne
      cases c : (mkB h sk m').getD i false != b
      · simpa using c
      · rw [c] at h0
        unfold dn at h0
        rw [if_pos (by rw [Bool.true_and]; exact decide_eq_true hs0)] at h0
        have := lo.2
        omega
    · rw [if_neg ne] at e
      exact H.ok i hi hs0 m' b' e
  · have t := need_test g hm hsk H.stk.len
    have := H.pot
    rw [List.length_cons]
    cases b <;> simp only [Bool.not_true, Bool.not_false] at hb <;> omega
theorem flt_two {β : Type} {p : β → Bool} : ∀ {l : List β} {i j : Nat} (hij : i < j) (hj : j < l.length), p l[i] = true → p l[j] = true → 2 ≤ (l.filter p).length
  | [], _, _, _, hj, _, _ => by simp at hj
  | x :: l, 0, 0, hij, _, _, _ => by omega
  | x :: l, 0, j + 1, _, hj, h1, h2 => by
    have hx : p x = true := h1
    rw [List.filter_cons_of_pos hx, List.length_cons]
    have : 0 < (l.filter p).length := List.length_pos_of_mem (List.mem_filter.mpr ⟨List.getElem_mem (by simpa using hj), h2⟩)
    omega
  | x :: l, i + 1, 0, hij, _, _, _ => by omega
  | x :: l, i + 1, j + 1, hij, hj, h1, h2 => by
    have ih := flt_two (l := l) (i := i) (j := j) (by omega) (by simpa using hj) h1 h2
    rw [List.filter_cons]
    split
    · rw [List.length_cons]
      omega
    · exact ih
theorem HK.okc {two : Bool} {k F i : Nat} {l : Ans} {tf : Nat → Option Bool} {ms : List Nat} (H : HK h sk two k F l tf ms st) (hi : i < nc h sk) (h0 : 0 ≤ st.getD i 0) : Sp.okc h l k two h.length ((fr h sk).getD i 0) = true := by
  unfold Sp.okc
  rw [List.all_eq_true]
  intro m hm
  unfold okm isBr
  cases e : tf m with
  | none =>
    obtain ⟨n1, n2, n3, n4⟩ := H.no m e
    rw [decide_eq_false (show ¬ k < l.count (false, m) by omega), decide_eq_false (show ¬ (if two = true then k else 0) < l.count (true, m) by omega)]
    simp
  | some b =>
    obtain ⟨s1, s2, s3⟩ := H.so m b e
    have hb := H.ok i hi h0 m b e
    rw [mk_get hi] at hb
    rw [hb]
    cases b
    · have := s3 rfl
      rw [decide_eq_false (show ¬ (if two = true then k else 0) < l.count (true, m) by omega)]
      simp
    · have := s2 rfl
      rw [decide_eq_false (show ¬ k < l.count (false, m) by omega)]
      simp
/-- the classes that are left -/
noncomputable def clsLeft (h : Hist) (sk : List Nat) (L : List Nat) : Nat := ((cls (tell h sk) h.length).filter fun p => decide (0 < (p.filter fun c => decide (c ∈ L)).length)).length
theorem HK.fin {two : Bool} {k F : Nat} {l : Ans} {tf : Nat → Option Bool} {ms : List Nat} (H : HK h sk two k F l tf ms st) (hl : l.length < mst two k * F) : 1 < clsLeft h sk (canL h l k two h.length) := by
  have h1 : mst two k * ms.length ≤ l.length := of_sum _ ms l H.nd fun m hm => by
    cases e : tf m with
    | none => exact absurd e (H.mem m hm)
    | some b => exact (H.so m b e).1
  have h2 : ms.length < F := by
    refine Nat.lt_of_not_le fun hle => ?_
    have := Nat.mul_le_mul_left (mst two k) hle
    omega
  have h3 : 0 < needS h sk st := by have := H.pot; omega
  obtain ⟨m, hm⟩ : ∃ m, m ∈ usL h sk st := by
    cases e : usL h sk st with
    | nil => rw [need_none H.stk.len e] at h3; omega
    | cons m l => exact ⟨m, List.mem_cons_self⟩
  have hp := (List.mem_filter.mp hm).2
  unfold prtB at hp
  rw [Bool.and_eq_true, List.any_eq_true, List.any_eq_true] at hp
  obtain ⟨⟨i, hi, b1⟩, ⟨j, hj, b2⟩⟩ := hp
  have ne : i ≠ j := fun z => by subst z; rw [b1] at b2; cases b2
  obtain ⟨i1, i2⟩ := ins_lt hi
  obtain ⟨j1, j2⟩ := ins_lt hj
  rw [H.stk.len] at i1 j1
  have row : ∀ i, i < nc h sk → 0 ≤ st.getD i 0 → ∀ (hc : i < (cls (tell h sk) h.length).length), decide (0 < ((cls (tell h sk) h.length)[i].filter fun c => decide (c ∈ canL h l k two h.length)).length) = true := fun i hi h0 hc => by
    rw [decide_eq_true_eq]
    have hok := H.okc hi h0
    have hpm := List.getElem_mem hc
    have hne := cls_ne _ _ _ hpm
    have e : (fr h sk).getD i 0 = (cls (tell h sk) h.length)[i].headD 0 := by
      unfold fr
      rw [List.getD_eq_getElem?_getD, List.getElem?_map, List.getElem?_eq_getElem hc]
      rfl
    have hf := fr_lt (fr_get hi)
    rw [e] at hok hf
    refine List.length_pos_of_mem (a := (cls (tell h sk) h.length)[i].headD 0) (List.mem_filter.mpr ⟨?_, ?_⟩)
    · revert hne
      generalize (cls (tell h sk) h.length)[i] = p
      intro hne
      cases p with
      | nil => exact absurd rfl hne
      | cons x p => exact .head _
    · rw [decide_eq_true_eq]
      exact List.mem_filter.mpr ⟨List.mem_range.mpr hf, hok⟩
  unfold clsLeft
  rcases Nat.lt_or_gt_of_ne ne with lt | lt
  · exact flt_two lt j1 (row i i1 i2 i1) (row j j1 j2 j1)
  · exact flt_two lt i1 (row j j1 j2 j1) (row i i1 i2 i1)
end Sp

/-! Vic: skipped makes, the classes that are left (k25's law). -/
namespace Sp
open PySem PySem.Spec PyProof.Rows L2 Mn
variable {E : Exn → Th → Prop} {θ : Th} {Q : Dv → Th → Prop}
theorem s_skips {ds : List Int} {a : Nat} {h : Hist} (hl : h.length ≤ 1000) (hQ : ∀ (p : Nat → Bool) (a' : Nat), Q (.tup (((List.range h.length).filter p).map fun m => Dv.int (m : Nat))) (bx ds a')) : Cm20.c__law_skips [.obj 1, hD h] E (bx ds a) Q := by
  unfold Cm20.c__law_skips Cm20.m__law_skips
  simp only [mxC, List.map_cons, List.map_nil, List.replicate, List.cons_append, List.nil_append, List.set_cons_zero, List.set_cons_succ, x_h1, List.length_map, wipeE]
  refine ⟨⟨by omega, by omega⟩, ?_⟩
  have e2 : (bx ds a).length = 2 := rfl
  refine lc_rule h.length (fun i θ => ∃ a' p g, θ = bx ds a' ++ .lst (((List.range i).filter p).map fun m => Dv.int (m : Nat)) :: g) ⟨a, fun _ => true, [], rfl⟩ ?_ ?_
  · rintro i θ hi ⟨a', p, g, rfl⟩
    refine ⟨_, _, rng_at hi, rfl, fun K k0 k1 => ?_⟩
    simp only [mxC, List.map_cons, List.map_nil, List.replicate, List.cons_append, List.nil_append, List.set_cons_zero, List.set_cons_succ]
    refine ⟨rfl, s_draw (by decide) fun v _ _ => ?_⟩
    simp only [mxC, List.map_cons, List.map_nil, List.replicate, List.cons_append, List.nil_append, List.set_cons_zero, List.set_cons_succ]
    by_cases hv : v = 0
    · rw [decide_eq_true hv]
      refine k1 _ fun K2 h2 => ?_
      simp only [mxC, List.map_cons, List.map_nil, List.replicate, List.cons_append, List.nil_append, List.set_cons_zero, List.set_cons_succ]
      refine h2 _ _ _ rfl ?_ ⟨a' + 1, fun m => if m = i then true else p m, g, ?_⟩
      · rw [List.length_map, sizeLine_eq]
        have := List.length_filter_le p (List.range i)
        rw [List.length_range] at this
        omega
      · show bx ds (a' + 1) ++ _ :: g = _
        congr 3
        rw [List.range_succ, List.filter_append, List.map_append]
        congr 1
        · congr 1
          apply List.filter_congr
          intro x hx
          rw [List.mem_range] at hx
          rw [if_neg (by omega)]
        · simp
    · rw [decide_eq_false hv]
      refine k0 _ ⟨a' + 1, fun m => if m = i then false else p m, g, ?_⟩
      congr 3
      rw [List.range_succ, List.filter_append]
      have e : (List.range i).filter p = (List.range i).filter (fun m => if m = i then false else p m) := by
        apply List.filter_congr
        intro x hx
        rw [List.mem_range] at hx
        rw [if_neg (by omega)]
      rw [e]
      simp
  · rintro θ ⟨a', p, g, rfl⟩
    refine ⟨rng_end, ?_⟩
    show endQ (bx ds a) Q (.tup (((List.range h.length).filter p).map fun m => Dv.int (m : Nat))) (bx ds a' ++ .lst (((List.range h.length).filter p).map fun m => Dv.int (m : Nat)) :: g)
    exact end_bx (fun n => low_nats _ n) (hQ p a')

end Sp

/-! Vj1: answers counted in a list; settled makes, places in trees by them. -/
namespace Sp
open PySem PySem.Spec PyProof.Rows L2 Mn
variable {E : Exn → Th → Prop} {θ : Th} {Q : Dv → Th → Prop} {l : Ans} {k j : Nat} {two : Bool}
/-- whether one more answer can be false -/
def lieB (l : Ans) (k : Nat) (two : Bool) (m : Nat) (b : Bool) : Bool := (two || b) && decide (l.count (!b, m) < k)
end Sp

/-! Vj2: where two classes are in, a test is useful; the best way; grown trees. -/
namespace Sp
open PySem PySem.Spec PyProof.Rows L2 Mn
variable {E : Exn → Th → Prop} {θ : Th} {Q : Dv → Th → Prop} {h : Hist} {sk : List Nat} {st : List Int}
theorem cls_nd (tl : Nat → List Nat) : ∀ n, ((cls tl n).map fun p => tl (p.headD 0)).Nodup
  | 0 => .nil
  | n + 1 => by
    have ih := cls_nd tl n
    rw [cls_succ]
    unfold addP
    by_cases c : ((cls tl n).any fun p => decide (tl (p.headD 0) = tl n)) = true
    · rw [if_pos c, List.map_map]
      have e : (cls tl n).map ((fun p => tl (p.headD 0)) ∘ fun p => if tl (p.headD 0) = tl n then p ++ [n] else p) = (cls tl n).map fun p => tl (p.headD 0) := by
        refine List.map_congr_left fun p hp => ?_
        show tl ((if tl (p.headD 0) = tl n then p ++ [n] else p).headD 0) = _
        split
        · rw [headD_snoc (cls_ne tl n p hp)]
        · rfl
      rw [e]
      exact ih
    · rw [if_neg c, List.map_append, List.nodup_append]
      refine ⟨ih, by simp, fun x hx y hy e => ?_⟩
      obtain ⟨p, hp, rfl⟩ := List.mem_map.mp hx
      have hy : y = tl n := by simpa using hy
      subst hy
      exact c (List.any_eq_true.mpr ⟨p, hp, decide_eq_true e⟩)
theorem fr_inj {i j : Nat} (hi : i < nc h sk) (hj : j < nc h sk) (e : tell h sk ((fr h sk).getD i 0) = tell h sk ((fr h sk).getD j 0)) : i = j := by
  have nd := cls_nd (tell h sk) h.length
  have g : ∀ i, i < nc h sk → (fr h sk).getD i 0 = ((cls (tell h sk) h.length).getD i []).headD 0 := fun i hi => by
    unfold nc at hi
    unfold fr
    rw [List.getD_eq_getElem?_getD, List.getElem?_map, List.getD_eq_getElem?_getD, List.getElem?_eq_getElem hi]
    rfl
  rw [g i hi, g j hj] at e
  unfold nc at hi hj
  have hi2 : i < ((cls (tell h sk) h.length).map fun p => tell h sk (p.headD 0)).length := by rw [List.length_map]; exact hi
  have hj2 : j < ((cls (tell h sk) h.length).map fun p => tell h sk (p.headD 0)).length := by rw [List.length_map]; exact hj
  have pw := List.pairwise_iff_getElem.mp nd
  rw [List.getD_eq_getElem?_getD, List.getD_eq_getElem?_getD, List.getElem?_eq_getElem hi, List.getElem?_eq_getElem hj] at e
  refine Classical.byContradiction fun ne => ?_
  rcases Nat.lt_or_gt_of_ne ne with lt | lt
  · refine pw i j hi2 hj2 lt ?_
    rw [List.getElem_map, List.getElem_map]
    exact e
  · refine pw j i hj2 hi2 lt ?_
    rw [List.getElem_map, List.getElem_map]
    exact e.symm
theorem us_two {n i j : Nat} (g : GVX n h) (hs : st.length = nc h sk) (hi : i ∈ insL st) (hj : j ∈ insL st) (ne : i ≠ j) : usL h sk st ≠ [] := by
  obtain ⟨i1, i2⟩ := ins_lt hi
  obtain ⟨j1, j2⟩ := ins_lt hj
  rw [hs] at i1 j1
  have ex : ∃ m ∈ unsk h sk, anc h m ((fr h sk).getD i 0) ≠ anc h m ((fr h sk).getD j 0) := by
    refine Classical.byContradiction fun z => ne (fr_inj i1 j1 (rowB_iff.mp ?_))
    unfold rowB
    refine List.map_congr_left fun m hm => ?_
    exact Classical.byContradiction fun y => z ⟨m, hm, y⟩
  obtain ⟨m, hm, hd⟩ := ex
  unfold unsk at hm
  rw [List.mem_filter, List.mem_range] at hm
  have hp : prtB st (mkB h sk m) = true := by
    unfold prtB
    rw [Bool.and_eq_true, List.any_eq_true, List.any_eq_true]
    cases ci : anc h m ((fr h sk).getD i 0)
    · cases cj : anc h m ((fr h sk).getD j 0)
      · exact absurd (ci.trans cj.symm) hd
      · exact ⟨⟨j, hj, by rw [mk_get j1]; exact cj⟩, ⟨i, hi, by rw [mk_get i1, ci]; rfl⟩⟩
    · cases cj : anc h m ((fr h sk).getD j 0)
      · exact ⟨⟨i, hi, by rw [mk_get i1]; exact ci⟩, ⟨j, hj, by rw [mk_get j1, cj]; rfl⟩⟩
      · exact absurd (ci.trans cj.symm) hd
  refine List.ne_nil_of_mem (a := m) (List.mem_filter.mpr ⟨List.mem_filter.mpr ⟨List.mem_range.mpr ?_, hm.2⟩, hp⟩)
  refine Nat.lt_of_not_le fun hle => ?_
  have em : m = n - 1 := by have := g.len; omega
  have ha : ∀ i, i < nc h sk → anc h m ((fr h sk).getD i 0) = true := fun i hi => by
    refine anc_iff.mpr ?_
    rw [em]
    refine g.top _ ?_
    have := fr_lt (fr_get hi)
    have := g.len
    omega
  exact hd ((ha i i1).trans (ha j j1).symm)
/-- the first of the fewest tests -/
noncomputable def bwM (h : Hist) (sk : List Nat) (st : List Int) : Nat := (mnP ((usL h sk st).map fun m => (1 + max (needS h sk (bhS h sk st m true)) (needS h sk (bhS h sk st m false)), m))).2
theorem bw_is (hs : st.length = nc h sk) (hu : usL h sk st ≠ []) : bwM h sk st ∈ usL h sk st ∧ bestS h sk st = (1 + max (needS h sk (bhS h sk st (bwM h sk st) true)) (needS h sk (bhS h sk st (bwM h sk st) false)), (bwM h sk st : Int)) := by
  have hne : ((usL h sk st).map fun m => (1 + max (needS h sk (bhS h sk st m true)) (needS h sk (bhS h sk st m false)), m)) ≠ [] := by simpa using hu
  have hm := mnP_mem hne
  obtain ⟨m, h1, h2⟩ := List.mem_map.mp hm
  have e : bwM h sk st = m := by
    unfold bwM
    rw [← h2]
  refine ⟨by rw [e]; exact h1, ?_⟩
  rw [bestS_eq hs]
  unfold minP
  rw [if_neg hne, e, ← h2]
section
variable {d kk n top : Nat} {kvs : List (List Key × Dv)}
/-- the tree of the best tests -/
noncomputable def grF (h : Hist) (sk : List Nat) : Nat → List Int → Tr
  | 0, _ => .nob
  | f + 1, st => match insL st with
    | [] => .nob
    | [c] => .found c
    | _ :: _ :: _ => .ask (bwM h sk st) (grF h sk f (bhS h sk st (bwM h sk st) true)) (grF h sk f (bhS h sk st (bwM h sk st) false))
end
theorem gr_dp {nn : Nat} (g : GVX nn h) : ∀ (f : Nat) (st : List Int), muS st < f → st.length = nc h sk → dp (grF h sk f st) = needS h sk st := by
  intro f
  induction f with
  | zero => intro st hf; omega
  | succ f ih =>
    intro st hf hs
    unfold grF
    cases hI : insL st with
    | nil =>
      have hu : usL h sk st = [] := by
        cases e : usL h sk st with
        | nil => rfl
        | cons m l =>
          have hm : m ∈ usL h sk st := by rw [e]; exact List.mem_cons_self
          have hp := (List.mem_filter.mp hm).2
          unfold prtB at hp
          rw [hI] at hp
          cases hp
      rw [need_none hs hu]
      rfl
    | cons c r =>
      cases r with
      | nil =>
        have hu : usL h sk st = [] := by
          cases e : usL h sk st with
          | nil => rfl
          | cons m l =>
            have hm : m ∈ usL h sk st := by rw [e]; exact List.mem_cons_self
            have hp := (List.mem_filter.mp hm).2
            unfold prtB at hp
            rw [hI] at hp
            simp at hp
        rw [need_none hs hu]
        rfl
      | cons c2 r =>
        have ne : c ≠ c2 := by
          have nd : (insL st).Nodup := List.nodup_range.sublist List.filter_sublist
          rw [hI, List.nodup_cons] at nd
          exact fun e => nd.1 (e ▸ List.mem_cons_self)
        have hu : usL h sk st ≠ [] := us_two g hs (i := c) (j := c2) (by rw [hI]; exact .head _) (by rw [hI]; exact .tail _ (.head _)) ne
        obtain ⟨hb, e⟩ := bw_is hs hu
        have q1 := us_lt (b := true) hb hs
        have q2 := us_lt (b := false) hb hs
        show 1 + max (dp _) (dp _) = _
        rw [ih _ (by omega) (by rw [bhS_len]; exact hs), ih _ (by omega) (by rw [bhS_len]; exact hs)]
        unfold needS
        rw [e]
        rfl
end Sp

/-! Vj3: answers along a tree, some of them false (the maths of k24). -/
namespace Sp
open PySem PySem.Spec PyProof.Rows L2 Mn
variable {h : Hist} {sk : List Nat} {stt : List Int} {l : Ans} {k : Nat} {two : Bool} {tr : Nat → Bool} {nz : List Nat} {t : Tr}
/-- the answer along a tree -/
def nxA (tr : Nat → Bool) (nz : List Nat) (k : Nat) (two : Bool) (l : Ans) (m : Nat) : Bool × Nat :=
  (tr m != ((decide (l.length < nz.length) && decide (nz.getD l.length 0 = 1)) && lieB l k two m (tr m)), m)
def stepR (t : Tr) (tr : Nat → Bool) (nz : List Nat) (k : Nat) (two : Bool) (l : Ans) : Ans := match pl_ l k two t with
  | .ask m _ _ => l ++ [nxA tr nz k two l m]
  | _ => l
def seqR (t : Tr) (tr : Nat → Bool) (nz : List Nat) (k : Nat) (two : Bool) : Nat → Ans
  | 0 => []
  | n + 1 => stepR t tr nz k two (seqR t tr nz k two n)
def isAsk : Tr → Bool
  | .ask _ _ _ => true
  | _ => false
theorem st_app {b : Bool} {m m' : Nat} (ne : m' ≠ m) : st (l ++ [(b, m)]) k two m' = st l k two m' := by
  unfold st
  rw [cnt_app, cnt_app, if_neg (fun z => ne z.2.symm), if_neg (fun z => ne z.2.symm)]
  rfl
theorem st_open {m : Nat} (hm : st l k two m = "") : l.count (false, m) ≤ k ∧ l.count (true, m) ≤ (if two then k else 0) := by
  unfold st stl isBr at hm
  refine ⟨Nat.le_of_not_lt fun z => ?_, Nat.le_of_not_lt fun z => ?_⟩
  · rw [if_pos z] at hm
    cases hq : decide ((if two = true then k else 0) < l.count (true, m)) <;> rw [hq] at hm <;> exact absurd hm (by decide)
  · simp only [decide_eq_true z, if_true] at hm
    split at hm <;> exact absurd hm (by decide)
theorem more_pos {m : Nat} (hm : st l k two m = "") : 1 ≤ more l k two m := by
  obtain ⟨h1, h2⟩ := st_open hm
  unfold more mst
  cases two <;> simp at h2 ⊢ <;> omega
theorem nn_pos : ∀ t, 0 ≤ nn l k two t
  | .nob => Int.le_refl _
  | .found _ => Int.le_refl _
  | .ask m x y => by
    have h1 := nn_pos x
    have h2 := nn_pos y
    rw [nn_ask]
    split
    · next h => have := more_pos h; omega
    · split <;> assumption
theorem more_app {b : Bool} {m : Nat} : more (l ++ [(b, m)]) k two m = more l k two m - 1 := by
  unfold more
  rw [cnt_app, cnt_app]
  cases b <;> simp <;> omega
theorem more_ne {b : Bool} {m m' : Nat} (ne : m' ≠ m) : more (l ++ [(b, m)]) k two m' = more l k two m' := by
  unfold more
  rw [cnt_app, cnt_app, if_neg (fun z => ne z.2.symm), if_neg (fun z => ne z.2.symm)]
  rfl
theorem nn_mono {b : Bool} {m : Nat} (hm : st l k two m = "") : ∀ t, nn (l ++ [(b, m)]) k two t ≤ nn l k two t
  | .nob => Int.le_refl _
  | .found _ => Int.le_refl _
  | .ask m' x y => by
    have h1 := nn_mono (b := b) hm x
    have h2 := nn_mono (b := b) hm y
    rw [nn_ask, nn_ask]
    by_cases ne : m' = m
    · subst ne
      rw [if_pos hm, more_app]
      have := more_pos hm
      split
      · omega
      · split <;> omega
    · rw [st_app ne, more_ne ne]
      split
      · omega
      · split <;> assumption
theorem nn_less {b : Bool} {m : Nat} (hm : st l k two m = "") : ∀ t, (∃ x y, pl_ l k two t = .ask m x y) → nn (l ++ [(b, m)]) k two t + 1 ≤ nn l k two t
  | .nob, ⟨_, _, e⟩ => by cases e
  | .found _, ⟨_, _, e⟩ => by cases e
  | .ask m' x y, hx => by
    by_cases h1 : st l k two m' = ""
    · rw [pl_ask, if_pos h1] at hx
      obtain ⟨_, _, e⟩ := hx
      cases e
      have h2 := nn_mono (b := b) hm x
      have h3 := nn_mono (b := b) hm y
      rw [nn_ask, nn_ask, if_pos hm, more_app]
      have := more_pos hm
      split
      · omega
      · split <;> omega
    · have ne : m' ≠ m := fun e => h1 (e ▸ hm)
      rw [pl_ask, if_neg h1] at hx
      rw [nn_ask, nn_ask, st_app ne, if_neg h1, if_neg h1]
      split
      · next h2 => rw [if_pos h2] at hx; exact nn_less hm y hx
      · next h2 => rw [if_neg h2] at hx; exact nn_less hm x hx
theorem nn_nil : ∀ t, nn [] k two t = ((mst two k * dp t : Nat) : Int)
  | .nob => by simp [nn, dp]
  | .found _ => by simp [nn, dp]
  | .ask m x y => by
    have h1 := nn_nil x
    have h2 := nn_nil y
    have hs : st [] k two m = "" := by
      unfold st stl isBr
      simp
    rw [nn_ask, if_pos hs, h1, h2]
    have e : more [] k two m = (mst two k : Nat) := by unfold more; simp
    rw [e]
    show ((mst two k : Nat) : Int) + max ((mst two k * dp x : Nat) : Int) ((mst two k * dp y : Nat) : Int) = ((mst two k * (1 + max (dp x) (dp y)) : Nat) : Int)
    rw [Nat.mul_add, Nat.mul_one]
    rcases Nat.le_total (dp x) (dp y) with z | z
    · have := Nat.mul_le_mul_left (mst two k) z
      rw [Nat.max_eq_right z]
      omega
    · have := Nat.mul_le_mul_left (mst two k) z
      rw [Nat.max_eq_left z]
      omega
theorem seq_step {n : Nat} (ha : isAsk (pl_ (seqR t tr nz k two n) k two t) = true) : ∃ m x y, pl_ (seqR t tr nz k two n) k two t = .ask m x y ∧ st (seqR t tr nz k two n) k two m = "" ∧ seqR t tr nz k two (n + 1) = seqR t tr nz k two n ++ [nxA tr nz k two (seqR t tr nz k two n) m] := by
  have e3 := (nn_pl (l := seqR t tr nz k two n) (k := k) (two := two) t).2.2
  cases e : pl_ (seqR t tr nz k two n) k two t with
  | nob => rw [e] at ha; cases ha
  | found c => rw [e] at ha; cases ha
  | ask m x y =>
    refine ⟨m, x, y, rfl, e3 m x y e, ?_⟩
    show stepR t tr nz k two (seqR t tr nz k two n) = _
    unfold stepR
    rw [e]
/-- n answers are given -/
structure RunN (t : Tr) (tr : Nat → Bool) (nz : List Nat) (k : Nat) (two : Bool) (n : Nat) : Prop where
  fin : isAsk (pl_ (seqR t tr nz k two n) k two t) = false
  go : ∀ i, i < n → isAsk (pl_ (seqR t tr nz k two i) k two t) = true
theorem RunN.low {n : Nat} (r : RunN t tr nz k two n) : ∀ i, i ≤ n → ((n - i : Nat) : Int) ≤ nn (seqR t tr nz k two i) k two t := by
  have h2 : ∀ d i, i + d = n → (d : Int) ≤ nn (seqR t tr nz k two i) k two t := by
    intro d
    induction d with
    | zero => intro i _; exact nn_pos t
    | succ d ih =>
      intro i e
      have i1 := ih (i + 1) (by omega)
      obtain ⟨m, x, y, e1, e2, e3⟩ := seq_step (r.go i (by omega))
      rw [e3] at i1
      have e4 : nxA tr nz k two (seqR t tr nz k two i) m = ((nxA tr nz k two (seqR t tr nz k two i) m).1, m) := rfl
      rw [e4] at i1
      have := nn_less (b := (nxA tr nz k two (seqR t tr nz k two i) m).1) e2 t ⟨x, y, e1⟩
      omega
  intro i hi
  exact h2 (n - i) i (by omega)
/-- the end by the truth -/
def fol (tr : Nat → Bool) : Tr → Tr
  | .ask m b w => if tr m then fol tr b else fol tr w
  | t => t
theorem cls_anc {c ci m : Nat} (hci : ci < nc h sk) (ht : tell h sk ((fr h sk).getD ci 0) = tell h sk c) (hm : m ∈ tsL h sk) : anc h m ((fr h sk).getD ci 0) = anc h m c := by
  have h1 := rowB_iff.mpr ht
  unfold rowB at h1
  have h2 := List.map_inj_left.mp h1 m
  refine h2 ?_
  have h3 := ts_lt hm
  have h4 := (List.mem_filter.mp hm).2
  exact List.mem_filter.mpr ⟨List.mem_range.mpr h3, h4⟩
theorem fol_gr {n c ci : Nat} (g : GVX n h) (hci : ci < nc h sk) (ht : tell h sk ((fr h sk).getD ci 0) = tell h sk c) : ∀ (f : Nat) (stt : List Int), muS stt < f → stt.length = nc h sk → 0 ≤ stt.getD ci 0 → fol (fun m => anc h m c) (grF h sk f stt) = .found ci := by
  intro f
  induction f with
  | zero => intro stt hf; omega
  | succ f ih =>
    intro stt hf hs h0
    have hin := ins_in (st := stt) (by omega) h0
    unfold grF
    cases hI : insL stt with
    | nil => rw [hI] at hin; cases hin
    | cons a r =>
      cases r with
      | nil =>
        rw [hI, List.mem_singleton] at hin
        rw [hin]
        rfl
      | cons a2 r =>
        have ne : a ≠ a2 := by
          have nd : (insL stt).Nodup := List.nodup_range.sublist List.filter_sublist
          rw [hI, List.nodup_cons] at nd
          exact fun e => nd.1 (e ▸ List.mem_cons_self)
        have hu : usL h sk stt ≠ [] := us_two g hs (i := a) (j := a2) (by rw [hI]; exact .head _) (by rw [hI]; exact .tail _ (.head _)) ne
        have hb := (bw_is hs hu).1
        have hts := (List.mem_filter.mp hb).1
        have ea := cls_anc hci ht hts
        have keep : ∀ b, anc h (bwM h sk stt) c = b → 0 ≤ (bhS h sk stt (bwM h sk stt) b).getD ci 0 := fun b eb => by
          unfold bhS
          rw [dns_get (by omega), mkx_get hci, mk_get hci, ea, eb]
          unfold dn
          rw [if_neg (by simp)]
          exact h0
        show (if anc h (bwM h sk stt) c = true then fol _ _ else fol _ _) = _
        have q1 := us_lt (b := true) hb hs
        have q2 := us_lt (b := false) hb hs
        cases eb : anc h (bwM h sk stt) c
        · rw [if_neg Bool.false_ne_true]
          exact ih _ (by omega) (by rw [bhS_len]; exact hs) (keep false eb)
        · rw [if_pos rfl]
          exact ih _ (by omega) (by rw [bhS_len]; exact hs) (keep true eb)
end Sp

/-! Wb1: the fewest tests by all tests, whose answers are counted by make (the maths of k26). -/
namespace Sp
open PySem PySem.Spec PyProof.Rows L2 Mn
variable {h : Hist} {sk : List Nat} {k n : Nat} {two : Bool}
/-- the makes that can tell something -/
noncomputable def telM (h : Hist) (sk : List Nat) : List Nat := (List.range h.length).filter fun m => !decide (m ∈ sk) && (decide (0 < ((List.range h.length).filter fun c => anc h m c).length) && decide (((List.range h.length).filter fun c => anc h m c).length < h.length))
/-- how many classes can be it -/
noncomputable def aliveN (h : Hist) (sk : List Nat) (k : Nat) (two : Bool) (l : Ans) : Nat := ((cls (tell h sk) h.length).filter fun p => (telM h sk).all (okm h l k two (p.headD 0))).length
noncomputable def tolB (h : Hist) (sk : List Nat) (k : Nat) (two : Bool) : Nat → Ans → Bool
  | 0, l => decide (aliveN h sk k two l < 2)
  | q + 1, l => decide (aliveN h sk k two l < 2) || (telM h sk).any fun m => decide (st l k two m = "") && (tolB h sk k two q (l ++ [(false, m)]) && tolB h sk k two q (l ++ [(true, m)]))
/-- the same counts -/
def SameC (ms : List Nat) (l l' : Ans) : Prop := ∀ m ∈ ms, l.count (false, m) = l'.count (false, m) ∧ l.count (true, m) = l'.count (true, m)
theorem SameC.app {ms : List Nat} {l l' : Ans} (s : SameC ms l l') (x : Bool × Nat) : SameC ms (l ++ [x]) (l' ++ [x]) := fun m hm => by
  obtain ⟨b, m'⟩ := x
  rw [cnt_app, cnt_app, cnt_app, cnt_app, (s m hm).1, (s m hm).2]
  exact ⟨rfl, rfl⟩
theorem alive_same {l l' : Ans} (s : SameC (telM h sk) l l') : aliveN h sk k two l = aliveN h sk k two l' := by
  unfold aliveN
  congr 1
  refine List.filter_congr fun p _ => ?_
  have e : ∀ l1 : List Nat, (∀ m ∈ l1, m ∈ telM h sk) → l1.all (okm h l k two (p.headD 0)) = l1.all (okm h l' k two (p.headD 0)) := by
    intro l1
    induction l1 with
    | nil => intro _; rfl
    | cons m l1 ih =>
      intro hm
      rw [List.all_cons, List.all_cons, ih fun x hx => hm x (.tail _ hx)]
      have := s m (hm m (.head _))
      unfold okm
      rw [this.1, this.2]
  exact e _ fun m hm => hm
theorem tol_same : ∀ (q : Nat) (l l' : Ans), SameC (telM h sk) l l' → tolB h sk k two q l = tolB h sk k two q l'
  | 0, l, l', s => by
    unfold tolB
    rw [alive_same s]
  | q + 1, l, l', s => by
    unfold tolB
    rw [alive_same s]
    congr 1
    have e : ∀ l1 : List Nat, (∀ m ∈ l1, m ∈ telM h sk) → l1.any (fun m => decide (st l k two m = "") && (tolB h sk k two q (l ++ [(false, m)]) && tolB h sk k two q (l ++ [(true, m)]))) = l1.any (fun m => decide (st l' k two m = "") && (tolB h sk k two q (l' ++ [(false, m)]) && tolB h sk k two q (l' ++ [(true, m)]))) := by
      intro l1
      induction l1 with
      | nil => intro _; rfl
      | cons m l1 ih =>
        intro hm
        rw [List.any_cons, List.any_cons, ih fun x hx => hm x (.tail _ hx), tol_same q _ _ (s.app (false, m)), tol_same q _ _ (s.app (true, m))]
        have := s m (hm m (.head _))
        have e2 : st l k two m = st l' k two m := by
          unfold st
          rw [this.1, this.2]
        rw [e2]
    exact e _ fun m hm => hm
theorem tel_ts (g : GVX n h) {m : Nat} (hm : m ∈ telM h sk) : m ∈ tsL h sk := by
  unfold telM at hm
  rw [List.mem_filter, List.mem_range, Bool.and_eq_true, Bool.and_eq_true, decide_eq_true_eq, decide_eq_true_eq] at hm
  refine List.mem_filter.mpr ⟨List.mem_range.mpr (Nat.lt_of_not_le fun hle => ?_), hm.2.1⟩
  have em : m = n - 1 := by have := g.len; omega
  have : (List.range h.length).filter (fun c => anc h m c) = List.range h.length := List.filter_eq_self.mpr fun c hc => by
    refine anc_iff.mpr ?_
    rw [em]
    refine g.top c ?_
    have := List.mem_range.mp hc
    have := g.len
    omega
  have h3 := hm.2.2.2
  rw [this, List.length_range] at h3
  omega
theorem us_tel {stt : List Int} {m : Nat} (hs : stt.length = nc h sk) (hm : m ∈ usL h sk stt) : m ∈ telM h sk := by
  obtain ⟨h1, h2⟩ := List.mem_filter.mp hm
  have h3 := ts_lt h1
  have h4 := (List.mem_filter.mp h1).2
  unfold prtB at h2
  rw [Bool.and_eq_true, List.any_eq_true, List.any_eq_true] at h2
  obtain ⟨⟨i, hi, b1⟩, ⟨j, hj, b2⟩⟩ := h2
  have i1 := (ins_lt hi).1
  have j1 := (ins_lt hj).1
  rw [hs] at i1 j1
  rw [mk_get i1] at b1
  rw [mk_get j1] at b2
  refine List.mem_filter.mpr ⟨List.mem_range.mpr h3, ?_⟩
  rw [Bool.and_eq_true, Bool.and_eq_true, decide_eq_true_eq, decide_eq_true_eq]
  refine ⟨h4, List.length_pos_of_mem (List.mem_filter.mpr ⟨List.mem_range.mpr (fr_lt (fr_get i1)), b1⟩), ?_⟩
  refine Nat.lt_of_le_of_ne (by have := List.length_filter_le (fun c => anc h m c) (List.range h.length); rw [List.length_range] at this; exact this) fun e => ?_
  have e2 : ((List.range h.length).filter fun c => anc h m c).length = (List.range h.length).length := by rw [e, List.length_range]
  rw [List.length_filter_eq_length_iff] at e2
  have := e2 _ (List.mem_range.mpr (fr_lt (fr_get j1)))
  rw [this] at b2
  cases b2
/-- the makes of a tree -/
def inM (ms : List Nat) : Tr → Prop
  | .ask m b w => m ∈ ms ∧ inM ms b ∧ inM ms w
  | _ => True
theorem gr_inM {nn : Nat} (g : GVX nn h) : ∀ (f : Nat) (stt : List Int), stt.length = nc h sk → inM (telM h sk) (grF h sk f stt)
  | 0, _, _ => True.intro
  | f + 1, stt, hs => by
    unfold grF
    cases hI : insL stt with
    | nil => exact True.intro
    | cons c r =>
      cases r with
      | nil => exact True.intro
      | cons c2 r =>
        have ne : c ≠ c2 := by
          have nd : (insL stt).Nodup := List.nodup_range.sublist List.filter_sublist
          rw [hI, List.nodup_cons] at nd
          exact fun e => nd.1 (e ▸ List.mem_cons_self)
        have hu : usL h sk stt ≠ [] := us_two g hs (i := c) (j := c2) (by rw [hI]; exact .head _) (by rw [hI]; exact .tail _ (.head _)) ne
        exact ⟨us_tel hs (bw_is hs hu).1, gr_inM g f _ (by rw [bhS_len]; exact hs), gr_inM g f _ (by rw [bhS_len]; exact hs)⟩
theorem ok_st {l : Ans} {c m : Nat} (ho : okm h l k two c m = true) : st l k two m = "" ∨ st l k two m = word (anc h m c) := by
  have so := stl_ok (h := h) (l := l) (k := k) (two := two) (m := m) (c := c)
  by_cases hz : st l k two m = ""
  · exact .inl hz
  · right
    have := so.2 hz
    rw [ho] at this
    exact of_decide_eq_true this.symm
theorem pl_folM {l : Ans} {c : Nat} {ms : List Nat} (ok : ∀ m ∈ ms, okm h l k two c m = true) : ∀ t, inM ms t → isAsk (pl_ l k two t) = false → pl_ l k two t = fol (fun m => anc h m c) t
  | .nob, _, _ => rfl
  | .found _, _, _ => rfl
  | .ask m b w, hm, ha => by
    rw [pl_ask] at ha ⊢
    show _ = if anc h m c then fol _ b else fol _ w
    by_cases h1 : st l k two m = ""
    · rw [if_pos h1] at ha
      cases ha
    · rw [if_neg h1] at ha ⊢
      have h2 : st l k two m = word (anc h m c) := (ok_st (ok m hm.1)).resolve_left h1
      rw [h2] at ha ⊢
      cases e : anc h m c
      · rw [e] at ha
        rw [if_pos (by rfl)] at ha ⊢
        rw [if_neg Bool.false_ne_true]
        exact pl_folM ok w hm.2.2 ha
      · rw [e] at ha
        rw [if_neg (by decide)] at ha ⊢
        rw [if_pos rfl]
        exact pl_folM ok b hm.2.1 ha
theorem inM_pl {l : Ans} {ms : List Nat} : ∀ t, inM ms t → inM ms (pl_ l k two t)
  | .nob, _ => True.intro
  | .found _, _ => True.intro
  | .ask m b w, hm => by
    rw [pl_ask]
    split
    · exact hm
    · split
      · exact inM_pl w hm.2.2
      · exact inM_pl b hm.2.1
theorem two_of {β : Type} {p : β → Bool} : ∀ {l : List β}, 2 ≤ (l.filter p).length → ∃ i j, ∃ (hi : i < l.length) (hj : j < l.length), i < j ∧ p l[i] = true ∧ p l[j] = true
  | [], h => by simp at h
  | x :: l, h => by
    rw [List.filter_cons] at h
    cases hp : p x with
    | true =>
      rw [hp, if_pos rfl, List.length_cons] at h
      have : 0 < (l.filter p).length := by omega
      obtain ⟨y, hy⟩ := List.exists_mem_of_length_pos this
      obtain ⟨hy1, hy2⟩ := List.mem_filter.mp hy
      obtain ⟨j, hj, rfl⟩ := List.mem_iff_getElem.mp hy1
      exact ⟨0, j + 1, by simp, by simpa using hj, by omega, hp, hy2⟩
    | false =>
      rw [hp, if_neg Bool.false_ne_true] at h
      obtain ⟨i, j, hi, hj, lt, p1, p2⟩ := two_of h
      exact ⟨i + 1, j + 1, by simpa using hi, by simpa using hj, by omega, p1, p2⟩
theorem fr_at {i : Nat} (hi : i < (cls (tell h sk) h.length).length) : (fr h sk).getD i 0 = (cls (tell h sk) h.length)[i].headD 0 := by
  unfold fr
  rw [List.getD_eq_getElem?_getD, List.getElem?_map, List.getElem?_eq_getElem hi]
  rfl
theorem end_alive {nn : Nat} {stt : List Int} {l : Ans} {f : Nat} (g : GVX nn h) (hf : muS stt < f) (hs : stt.length = nc h sk) (h0 : ∀ i, i < nc h sk → 0 ≤ stt.getD i 0) (ha : isAsk (pl_ l k two (grF h sk f stt)) = false) : aliveN h sk k two l < 2 := by
  refine Nat.lt_of_not_le fun hle => ?_
  unfold aliveN at hle
  obtain ⟨i, j, hi, hj, lt, p1, p2⟩ := two_of hle
  have key : ∀ i (hi : i < (cls (tell h sk) h.length).length), (telM h sk).all (okm h l k two ((cls (tell h sk) h.length)[i].headD 0)) = true → pl_ l k two (grF h sk f stt) = .found i := fun i hi p => by
    have e := pl_folM (c := (cls (tell h sk) h.length)[i].headD 0) (fun m hm => (List.all_eq_true.mp p) m hm) _ (gr_inM g f stt hs) ha
    rw [e]
    exact fol_gr g hi (by rw [fr_at hi]) f stt hf hs (h0 i hi)
  have e := (key i hi p1).symm.trans (key j hj p2)
  injection e with e
  omega
theorem tol_up {nn : Nat} {stt : List Int} {f : Nat} (g : GVX nn h) (hf : muS stt < f) (hs : stt.length = nc h sk) (h0 : ∀ i, i < nc h sk → 0 ≤ stt.getD i 0) : ∀ (q : Nat) (l : Ans), Sp.nn l k two (grF h sk f stt) ≤ q → tolB h sk k two q l = true := by
  have ask : ∀ l : Ans, isAsk (pl_ l k two (grF h sk f stt)) = true → ∃ m x y, pl_ l k two (grF h sk f stt) = .ask m x y ∧ st l k two m = "" ∧ m ∈ telM h sk := fun l ha => by
    have h3 := (nn_pl (l := l) (k := k) (two := two) (grF h sk f stt)).2.2
    have h4 := inM_pl (l := l) (k := k) (two := two) _ (gr_inM g f stt hs)
    cases e : pl_ l k two (grF h sk f stt) with
    | nob => rw [e] at ha; cases ha
    | found c => rw [e] at ha; cases ha
    | ask m x y =>
      rw [e] at h4
      exact ⟨m, x, y, rfl, h3 m x y e, h4.1⟩
  intro q
  induction q with
  | zero =>
    intro l hq
    unfold tolB
    rw [decide_eq_true_eq]
    cases ha : isAsk (pl_ l k two (grF h sk f stt)) with
    | false => exact end_alive g hf hs h0 ha
    | true =>
      obtain ⟨m, x, y, e1, e2, _⟩ := ask l ha
      have := nn_less (b := true) e2 _ ⟨x, y, e1⟩
      have := nn_pos (l := l ++ [(true, m)]) (k := k) (two := two) (grF h sk f stt)
      omega
  | succ q ih =>
    intro l hq
    unfold tolB
    rw [Bool.or_eq_true, decide_eq_true_eq]
    cases ha : isAsk (pl_ l k two (grF h sk f stt)) with
    | false => exact .inl (end_alive g hf hs h0 ha)
    | true =>
      right
      obtain ⟨m, x, y, e1, e2, e3⟩ := ask l ha
      have n1 := nn_less (b := true) e2 _ ⟨x, y, e1⟩
      have n2 := nn_less (b := false) e2 _ ⟨x, y, e1⟩
      rw [List.any_eq_true]
      refine ⟨m, e3, ?_⟩
      rw [decide_eq_true e2, ih _ (by omega), ih _ (by omega)]
      rfl
theorem left_alive {nn : Nat} {l : Ans} (g : GVX nn h) : clsLeft h sk (canL h l k two h.length) ≤ aliveN h sk k two l := by
  unfold clsLeft aliveN
  have e : ∀ (L : List (List Nat)) (p q : List Nat → Bool), (∀ x ∈ L, p x = true → q x = true) → (L.filter p).length ≤ (L.filter q).length := by
    intro L p q hpq
    induction L with
    | nil => exact Nat.le_refl _
    | cons x L ih =>
      have i1 := ih fun y hy => hpq y (.tail _ hy)
      rw [List.filter_cons, List.filter_cons]
      cases hp : p x with
      | true =>
        rw [hpq x (.head _) hp, if_pos rfl, if_pos rfl, List.length_cons, List.length_cons]
        omega
      | false =>
        rw [if_neg Bool.false_ne_true]
        split
        · rw [List.length_cons]; omega
        · exact i1
  refine e _ _ _ fun p hp hl => ?_
  rw [decide_eq_true_eq] at hl
  obtain ⟨c, hc⟩ := List.exists_mem_of_length_pos hl
  obtain ⟨c1, c2⟩ := List.mem_filter.mp hc
  have c2 := of_decide_eq_true c2
  unfold canL at c2
  obtain ⟨c3, c4⟩ := List.mem_filter.mp c2
  rw [List.all_eq_true]
  intro m hm
  have hts := tel_ts g hm
  unfold okc at c4
  have := List.all_eq_true.mp c4 m (List.mem_range.mpr (ts_lt hts))
  obtain ⟨i, hi, rfl⟩ := List.mem_iff_getElem.mp hp
  have ht := ((cls_iff _ _ _ hp c).mp c1).2
  have ea := cls_anc (c := c) (ci := i) hi (by rw [fr_at hi]; exact ht.symm) hts
  rw [fr_at hi] at ea
  unfold okm at this ⊢
  rw [ea]
  exact this
theorem tol_low {nn F : Nat} (g : GVX nn h) : ∀ (q : Nat) (l : Ans) (tf : Nat → Option Bool) (ms : List Nat) (stt : List Int), HK h sk two k F l tf ms stt → l.length + q < mst two k * F → tolB h sk k two q l = false := by
  intro q
  induction q with
  | zero =>
    intro l tf ms stt H hl
    unfold tolB
    rw [decide_eq_false_iff_not]
    have := H.fin (by omega)
    have := left_alive (sk := sk) (k := k) (two := two) (l := l) g
    omega
  | succ q ih =>
    intro l tf ms stt H hl
    unfold tolB
    rw [Bool.or_eq_false_iff, decide_eq_false_iff_not]
    refine ⟨by have := H.fin (by omega); have := left_alive (sk := sk) (k := k) (two := two) (l := l) g; omega, ?_⟩
    rw [List.any_eq_false]
    intro m hm hc
    rw [Bool.and_eq_true, Bool.and_eq_true] at hc
    have hts := tel_ts g hm
    have m1 := ts_lt hts
    have m2 : m ∉ sk := by simpa using (List.mem_filter.mp hts).2
    have bad : ∀ (b : Bool) tf' ms' stt', HK h sk two k F (l ++ [(b, m)]) tf' ms' stt' → False := fun b tf' ms' stt' H' => by
      have := ih _ tf' ms' stt' H' (by rw [List.length_append]; show l.length + 1 + q < _; omega)
      cases b
      · rw [this] at hc; cases hc.2.1
      · rw [this] at hc; cases hc.2.2
    by_cases hw : hld two k (l.count (false, m)) (l.count (true, m)) = ""
    · cases ht : tf m with
      | some b => exact bad b _ _ _ (H.again ht)
      | none =>
        by_cases hle : needS h sk (bhS h sk stt m false) ≤ needS h sk (bhS h sk stt m true)
        · exact bad true _ _ _ (H.new (b := true) g m1 m2 hw ht hle)
        · exact bad false _ _ _ (H.new (b := false) g m1 m2 hw ht (show needS h sk (bhS h sk stt m true) ≤ needS h sk (bhS h sk stt m false) by omega))
    · obtain ⟨b, _, H2⟩ := H.held hw
      exact bad b _ _ _ H2
/-- the fewest tests by all tests -/
theorem tol_is {nn : Nat} (g : GVX nn h) (hm : muS (st0 h sk) < 12) (q : Nat) : tolB h sk k two q [] = decide (mst two k * needS h sk (st0 h sk) ≤ q) := by
  by_cases hle : mst two k * needS h sk (st0 h sk) ≤ q
  · rw [decide_eq_true hle]
    refine tol_up (f := 12) g hm (st0_k).len (fun i hi => ?_) q [] ?_
    · unfold st0
      rw [List.getD_eq_getElem?_getD, List.getElem?_replicate, if_pos hi]
      exact Int.le_refl _
    · rw [nn_nil, gr_dp g 12 _ hm (st0_k).len]
      omega
  · rw [decide_eq_false hle]
    exact tol_low g q [] _ _ _ .start (by simpa using hle)
end Sp

/-! Sv1: drawn states; great states. -/
namespace Sp
open PySem PySem.Spec PyProof.Rows L2 Mn
end Sp

/-! Sv2: many tests to come. -/
namespace Sp
open PySem PySem.Spec PyProof.Rows L2 Mn
end Sp

/-! Wa1: the fewest tests once more (searches may be deeper), and states that are refused. -/
namespace Sp
open PySem PySem.Spec PyProof.Rows L2 Mn
variable {E : Exn → Th → Prop} {θ : Th} {Q : Dv → Th → Prop} {h : Hist} {sk : List Nat} {st : List Int} {n top : Nat}
theorem s_needed20 {d kk : Nat} {kvs : List (List Key × Dv)} (hm : muS st < 20) (hst : StK n top st) (hn : n = nc h sk) (hl : h.length ≤ 1000) (htop : (top + 2) ^ n ≤ 100000) (A : SeA θ d kk h sk kvs) (W : KnW h sk n top kvs)
    (hQ : ∀ θ', Kept kk θ θ' → Q (.int (needS h sk st : Nat)) θ') : Cm22.c_Search_needed [.obj d, .tup (id_ st)] E θ Q := by
  unfold Cm22.c_Search_needed Cm22.m_Search_needed
  simp only [mxDN, List.map_cons, List.map_nil, List.replicate, List.cons_append, List.nil_append, List.set_cons_zero, List.set_cons_succ, x_meth]
  refine se_meth A (by decide) ?_
  simp only [mxDN, List.map_cons, List.map_nil, List.replicate, List.cons_append, List.nil_append, List.set_cons_zero, List.set_cons_succ]
  refine ⟨rfl, s_best _ st θ kvs _ _ hm hst hn hl htop A W fun θ' kvs' A' W' K' => ?_⟩
  refine x_ix0 ?_
  exact end_same (hQ _ K')
theorem s_ffrom20 (a : Ahead h) (hl : h.length ≤ 1000) (hw : ∀ k, (par h k).length ≤ 1000) (hm : muS st < 20) (hst : StK n top st) (hn : n = nc h sk) (hn2 : n ≤ 1000) (htop : (top + 2) ^ n ≤ 20000)
    (hQ : Q (.int (needS h sk st : Nat)) θ) : Cm22.c_fewest_from [hD h, .tup (nd sk), .tup (id_ st)] E θ Q := by
  unfold Cm22.c_fewest_from Cm22.m_fewest_from
  simp only [mxDN, List.map_cons, List.map_nil, List.replicate, List.cons_append, List.nil_append, List.set_cons_zero, List.set_cons_succ, x_meth, x_make]
  refine ⟨rfl, s_checksize hst htop hn2 ?_⟩
  rw [x_seqN]
  simp only [mxDN, List.map_cons, List.map_nil, List.replicate, List.cons_append, List.nil_append, List.set_cons_zero, List.set_cons_succ, x_meth, x_make, x_fnv]
  refine ⟨rfl, s_sinit a hl hw ?_⟩
  have A : SeA (θ ++ [Ob.ins "Search" (srF h sk (θ.length + 1)), Ob.dT []]) θ.length (θ.length + 1) h sk [] := ⟨th_mid, by
    rw [List.getElem?_append_right (by omega), show θ.length + 1 - θ.length = 1 by omega]
    rfl⟩
  refine ⟨rfl, se_meth A (by decide) ?_⟩
  simp only [mxDN, List.map_cons, List.map_nil, List.replicate, List.cons_append, List.nil_append, List.set_cons_zero, List.set_cons_succ]
  refine ⟨rfl, s_needed20 hm hst hn hl (by omega) A .nil fun θ' K' => ?_⟩
  exact end_ext hQ (ext_kept .app K' (by omega)) fun _ => rfl
theorem s_fewest20 {k : Nat} (a : Ahead h) (hl : h.length ≤ 1000) (hw : ∀ k, (par h k).length ≤ 1000) (hm : muS (List.replicate (nc h sk) (k : Int)) < 20) (hn2 : nc h sk ≤ 1000) (htop : (k + 2) ^ nc h sk ≤ 20000)
    (hQ : Q (.int (needS h sk (List.replicate (nc h sk) (k : Int)) : Nat)) θ) : Cm22.c_fewest [hD h, .tup (nd sk), .int k] E θ Q := by
  unfold Cm22.c_fewest Cm22.m_fewest
  simp only [mxDN, List.map_cons, List.map_nil, List.replicate, List.cons_append, List.nil_append, List.set_cons_zero, List.set_cons_succ]
  refine ⟨rfl, s_start a hl hw ?_⟩
  refine ⟨rfl, s_ffrom20 a hl hw hm (n := nc h sk) (top := k) ⟨by rw [List.length_replicate], fun y hy => ?_⟩ rfl hn2 htop (end_same hQ)⟩
  rw [List.eq_of_mem_replicate hy]
  omega
theorem s_checkbad {b : Nat} (hb : ∀ y ∈ st, y ≤ (b : Int)) (hb2 : (b : Int) = 0 ∨ (b : Int) ∈ st) (hl : st.length ≤ 1000) (hp : 20000 < (b + 2) ^ st.length) (h9 : (b + 2) ^ st.length ≤ 2 ^ 40) (hE : ∀ θ', Ext θ θ' → E ⟨"TooGreat", []⟩ θ') : Cm20.c_check_size [.tup (id_ st)] E θ Q := by
  unfold Cm20.c_check_size Cm20.m_check_size
  simp only [mxDN, List.map_cons, List.map_nil, List.replicate, List.cons_append, List.nil_append, List.set_cons_zero, List.set_cons_succ, x_star]
  rw [x_starT]
  have ez := sizeLine_eq
  refine ⟨by simp [id_]; omega, ?_⟩
  have ei : intsD (Dv.int 0 :: (id_ st ++ [])) = some (0 :: st) := by
    rw [List.append_nil]
    exact intsD_map (0 :: st)
  rw [x_intsP th_last ei]
  refine ⟨by simp, fun m hm hb3 => ?_⟩
  have em : m = (b : Int) := by
    have h0 : 0 ≤ m := hb3 0 List.mem_cons_self
    have h1 : m ≤ (b : Int) := by
      rcases List.mem_cons.mp hm with rfl | hm
      · omega
      · exact hb m hm
    have h2 : (b : Int) ≤ m := by
      rcases hb2 with z | z
      · omega
      · exact hb3 _ (List.mem_cons_of_mem _ z)
    omega
  subst em
  have e40 : (2 : Nat) ^ 40 = 1099511627776 := by decide
  have hb4 : ∀ t, t ≤ st.length → (b + 2) ^ t ≤ 1099511627776 := fun t ht => Nat.le_trans (Nat.pow_le_pow_right (by omega) ht) (by omega)
  have hbb : b ≤ 1099511627776 := by
    have h1 : 0 < st.length := by
      refine Nat.pos_of_ne_zero fun z => ?_
      rw [z] at hp
      simp at hp
    have := hb4 1 h1
    rw [Nat.pow_one] at this
    omega
  simp only [mxDN, List.map_cons, List.map_nil, List.replicate, List.cons_append, List.nil_append, List.set_cons_zero, List.set_cons_succ]
  rw [x_seqN]
  simp only [mxDN, List.map_cons, List.map_nil, List.replicate, List.cons_append, List.nil_append, List.set_cons_zero, List.set_cons_succ]
  rw [x_seqN]
  simp only [mxDN, List.map_cons, List.map_nil, List.replicate, List.cons_append, List.nil_append, List.set_cons_zero, List.set_cons_succ]
  refine for_rule st.length (fun t ρ θ' => ∃ x3, ρ = [some (.tup (id_ st)), some (.int ((b : Int) + 2)), some (.int (((b + 2) ^ t : Nat) : Int)), x3] ∧ Ext θ θ') ⟨none, rfl, .app⟩ ?_ ?_
  · rintro t ρ θ' ht ⟨x3, rfl, e1⟩
    refine ⟨.int (st.getD t 0), _, by simp [Src.at, Sd.items, id_, ht, List.getD_eq_getElem?_getD], rfl, fun K LK => ?_⟩
    have b1 := hb4 t (Nat.le_of_lt ht)
    show CMul (((b + 2) ^ t : Nat) : Int) ((b : Int) + 2) ∧ K _ θ'
    refine ⟨.inl ⟨by omega, by omega⟩, ?_⟩
    refine LK.nx _ _ ⟨_, rfl, some (.int (st.getD t 0)), ?_, e1⟩
    have e : (((b + 2) ^ t : Nat) : Int) * ((b : Int) + 2) = (((b + 2) ^ (t + 1) : Nat) : Int) := by
      rw [Nat.pow_succ, Int.natCast_mul]
      rfl
    show [some (.tup (id_ st)), some (.int ((b : Int) + 2)), some (Dv.int ((((b + 2) ^ t : Nat) : Int) * ((b : Int) + 2))), _] = _
    rw [e]
  · rintro ρ θ' ⟨x3, rfl, e1⟩
    refine ⟨by simp [Src.at, Sd.items, id_], ?_⟩
    rw [x_seqN]
    simp only [mxDN, List.map_cons, List.map_nil, List.replicate, List.cons_append, List.nil_append, List.set_cons_zero, List.set_cons_succ]
    refine (if_pos (by rw [decide_eq_true_eq]; omega)).mpr ?_
    rw [x_raise]
    exact hE _ e1
end Sp

/-! Wa2: the law's own fewest tests, by a table with nested keys. -/
namespace Sp
open PySem PySem.Spec PyProof.Rows L2 Mn
variable {E : Exn → Th → Prop} {θ : Th} {Q : Dv → Th → Prop} {h : Hist} {sk : List Nat} {st : List Int} {n top : Nat}
theorem us_twoT {i j : Nat} (tp : ∀ c, c < h.length → Anc h (h.length - 1) c) (hs : st.length = nc h sk) (hi : i ∈ insL st) (hj : j ∈ insL st) (ne : i ≠ j) : usL h sk st ≠ [] := by
  obtain ⟨i1, i2⟩ := ins_lt hi
  obtain ⟨j1, j2⟩ := ins_lt hj
  rw [hs] at i1 j1
  have ex : ∃ m ∈ unsk h sk, anc h m ((fr h sk).getD i 0) ≠ anc h m ((fr h sk).getD j 0) := by
    refine Classical.byContradiction fun z => ne (fr_inj i1 j1 (rowB_iff.mp ?_))
    unfold rowB
    refine List.map_congr_left fun m hm => ?_
    exact Classical.byContradiction fun y => z ⟨m, hm, y⟩
  obtain ⟨m, hm, hd⟩ := ex
  unfold unsk at hm
  rw [List.mem_filter, List.mem_range] at hm
  have hp : prtB st (mkB h sk m) = true := by
    unfold prtB
    rw [Bool.and_eq_true, List.any_eq_true, List.any_eq_true]
    cases ci : anc h m ((fr h sk).getD i 0)
    · cases cj : anc h m ((fr h sk).getD j 0)
      · exact absurd (ci.trans cj.symm) hd
      · exact ⟨⟨j, hj, by rw [mk_get j1]; exact cj⟩, ⟨i, hi, by rw [mk_get i1, ci]; rfl⟩⟩
    · cases cj : anc h m ((fr h sk).getD j 0)
      · exact ⟨⟨i, hi, by rw [mk_get i1]; exact ci⟩, ⟨j, hj, by rw [mk_get j1, cj]; rfl⟩⟩
      · exact absurd (ci.trans cj.symm) hd
  refine List.ne_nil_of_mem (a := m) (List.mem_filter.mpr ⟨List.mem_filter.mpr ⟨List.mem_range.mpr ?_, hm.2⟩, hp⟩)
  refine Nat.lt_of_not_le fun hle => ?_
  have em : m = h.length - 1 := by omega
  have ha : ∀ i, i < nc h sk → anc h m ((fr h sk).getD i 0) = true := fun i hi => by
    refine anc_iff.mpr ?_
    rw [em]
    exact tp _ (fr_lt (fr_get hi))
  exact hd ((ha i i1).trans (ha j j1).symm)
theorem ins_us {st : List Int} (hl : (insL st).length ≤ 1) : usL h sk st = [] := by
  cases e : usL h sk st with
  | nil => rfl
  | cons m l =>
    have hm : m ∈ usL h sk st := by rw [e]; exact List.mem_cons_self
    have hp := (List.mem_filter.mp hm).2
    unfold prtB at hp
    match hI : insL st, hl with
    | [], _ => rw [hI] at hp; cases hp
    | [c], _ => rw [hI] at hp; simp at hp
/-! ### the table -/
def nkS (st : List Int) (q : Nat) : NestedKey := .tup [.tup (st.map .num), .num (q : Int)]
theorem num_inj : ∀ {a b : List Int}, a.map NestedKey.num = b.map NestedKey.num → a = b
  | [], [], _ => rfl
  | [], _ :: _, e => by cases e
  | _ :: _, [], e => by cases e
  | x :: a, y :: b, e => by
    rw [List.map_cons, List.map_cons, List.cons.injEq] at e
    have h1 : x = y := by injection e.1
    rw [h1, num_inj e.2]
theorem nkS_inj {a b : List Int} {p q : Nat} (e : nkS a p = nkS b q) : a = b ∧ p = q := by
  unfold nkS at e
  injection e with e
  rw [List.cons.injEq, List.cons.injEq] at e
  obtain ⟨e1, e2, _⟩ := e
  injection e1 with e1
  injection e2 with e2
  exact ⟨num_inj e1, by omega⟩
structure KnN (h : Hist) (sk : List Nat) (n top : Nat) (kvs : List (NestedKey × Dv)) : Prop where
  ok : ∀ p ∈ kvs, ∃ st q, p.1 = nkS st q ∧ StK n top st ∧ q ≤ 40 ∧ p.2 = .bl (decide (needS h sk st ≤ q))
  nd : (kvs.map (·.1)).Nodup
theorem KnN.nil : KnN h sk n top [] := ⟨fun p hp => (by cases hp), .nil⟩
theorem KnN.few {kvs : List (NestedKey × Dv)} (w : KnN h sk n top kvs) : kvs.length ≤ (top + 2) ^ n * 41 := by
  have e1 : ((allL (valsI top) n).flatMap fun st => (List.range 41).map fun q => nkS st q).length = (top + 2) ^ n * 41 := by
    rw [← vals_len (top := top), ← allL_len]
    generalize allL (valsI top) n = l
    induction l with
    | nil => simp
    | cons x l ih =>
      rw [List.flatMap_cons, List.length_append, ih, List.length_map, List.length_range, List.length_cons]
      omega
  rw [← e1, ← List.length_map (f := (·.1)) (as := kvs)]
  refine sub_len w.nd fun k hk => ?_
  obtain ⟨p, hp, rfl⟩ := List.mem_map.mp hk
  obtain ⟨st, q, e, hs, hq, _⟩ := w.ok p hp
  rw [List.mem_flatMap]
  exact ⟨st, mem_allL _ hs.len (fun y hy => mem_vals.mpr (hs.lo y hy)), List.mem_map.mpr ⟨q, List.mem_range.mpr (by omega), e.symm⟩⟩
theorem lookN_some {kvs : List (NestedKey × Dv)} {k : NestedKey} {v : Dv} (e : lookD kvs k = some v) : ∃ p ∈ kvs, p.1 = k ∧ p.2 = v := by
  unfold lookD at e
  obtain ⟨p, h1, h2⟩ := Option.map_eq_some_iff.mp e
  exact ⟨p, List.mem_of_find?_eq_some h1, by simpa using List.find?_some h1, h2⟩
theorem KnN.look {kvs : List (NestedKey × Dv)} {v : Dv} {q : Nat} (w : KnN h sk n top kvs) (e : lookD kvs (nkS st q) = some v) : v = .bl (decide (needS h sk st ≤ q)) := by
  obtain ⟨p, hp, h1, h2⟩ := lookN_some e
  obtain ⟨st', q', e1, _, _, e2⟩ := w.ok p hp
  obtain ⟨rfl, rfl⟩ := nkS_inj (h1.symm.trans e1)
  rw [← h2, e2]
theorem KnN.put {kvs : List (NestedKey × Dv)} {q : Nat} (w : KnN h sk n top kvs) (hs : StK n top st) (hq : q ≤ 40) : KnN h sk n top (putD kvs (nkS st q) (.bl (decide (needS h sk st ≤ q)))) ∧ lookD (putD kvs (nkS st q) (.bl (decide (needS h sk st ≤ q)))) (nkS st q) = some (.bl (decide (needS h sk st ≤ q))) := by
  by_cases hc : (kvs.any fun kv => decide (kv.1 = nkS st q)) = true
  · have el : ∃ v, lookD kvs (nkS st q) = some v := by
      rw [List.any_eq_true] at hc
      obtain ⟨p, hp, e⟩ := hc
      cases c : kvs.find? (fun kv => decide (kv.1 = nkS st q)) with
      | none => rw [List.find?_eq_none] at c; exact absurd e (c p hp)
      | some p => exact ⟨p.2, by unfold lookD; rw [c]; rfl⟩
    obtain ⟨v, el⟩ := el
    have ev := w.look el
    rw [ev] at el
    have e : putD kvs (nkS st q) (.bl (decide (needS h sk st ≤ q))) = kvs := by
      unfold putD
      rw [if_pos hc]
      refine (List.map_congr_left (g := id) fun p hp => ?_).trans (List.map_id _)
      obtain ⟨st', q', e1, _, _, e2⟩ := w.ok p hp
      split
      · next z =>
        obtain ⟨rfl, rfl⟩ := nkS_inj (e1.symm.trans z)
        show (p.1, _) = p
        rw [← e2]
      · rfl
    rw [e]
    exact ⟨w, el⟩
  · unfold putD
    rw [if_neg hc]
    have ne : ∀ p ∈ kvs, p.1 ≠ nkS st q := fun p hp z => hc (List.any_eq_true.mpr ⟨p, hp, decide_eq_true z⟩)
    refine ⟨⟨fun p hp => ?_, ?_⟩, ?_⟩
    · rcases List.mem_append.mp hp with hp | hp
      · exact w.ok p hp
      · rw [List.mem_singleton.mp hp]
        exact ⟨st, q, rfl, hs, hq, rfl⟩
    · rw [List.map_append, List.nodup_append]
      refine ⟨w.nd, by simp, fun a ha b hb e => ?_⟩
      obtain ⟨p, hp, rfl⟩ := List.mem_map.mp ha
      rw [List.map_singleton, List.mem_singleton] at hb
      rw [hb] at e
      exact ne p hp e
    · unfold lookD
      rw [List.find?_append]
      have c : kvs.find? (fun kv => decide (kv.1 = nkS st q)) = none := by
        rw [List.find?_eq_none]
        intro p hp
        simpa using ne p hp
      rw [c]
      simp
/-! ### is_settled -/
theorem any_take {p : Nat → Bool} {l : List Nat} {t m : Nat} (hm : l[t]? = some m) : (l.take (t + 1)).any p = ((l.take t).any p || p m) := by
  rw [List.take_add_one, hm, List.any_append]
  simp
end Sp

/-! Wb2: the law's own tests counted by make. -/
namespace Sp
open PySem PySem.Spec PyProof.Rows L2 Mn
variable {E : Exn → Th → Prop} {θ : Th} {Q : Dv → Th → Prop} {h : Hist} {sk : List Nat} {k n : Nat} {two : Bool} {l : Ans}
def pC (l : Ans) (m : Nat) : Dv := .tup [.int (l.count (false, m) : Nat), .int (l.count (true, m) : Nat)]
noncomputable def Dl (h : Hist) (sk : List Nat) (l : Ans) : List (Key × Dv) := (telM h sk).map fun m => (.inl ((m : Nat) : Int), pC l m)
theorem tel_lt {m : Nat} (hm : m ∈ telM h sk) : m < h.length := List.mem_range.mp (List.mem_filter.mp hm).1
theorem tel_len : (telM h sk).length ≤ h.length := by
  have := List.length_filter_le (fun m => !decide (m ∈ sk) && (decide (0 < ((List.range h.length).filter fun c => anc h m c).length) && decide (((List.range h.length).filter fun c => anc h m c).length < h.length))) (List.range h.length)
  rw [List.length_range] at this
  exact this
theorem dl_look {f : Nat → Dv} {m : Nat} : ∀ {ms : List Nat}, m ∈ ms → lookD (ms.map fun m => ((.inl ((m : Nat) : Int) : Key), f m)) (.inl (m : Int)) = some (f m)
  | x :: ms, hm => by
    unfold lookD
    rw [List.map_cons, List.find?_cons]
    by_cases e : x = m
    · subst e
      simp
    · have : decide ((Sum.inl ((x : Nat) : Int) : Key) = .inl (m : Int)) = false := by
        rw [decide_eq_false_iff_not]
        intro z
        injection z with z
        omega
      simp only [this]
      have ih := dl_look (f := f) (m := m) (ms := ms) (by rcases List.mem_cons.mp hm with e2 | e2; exact absurd e2.symm e; exact e2)
      unfold lookD at ih
      exact ih
theorem Dl_look {m : Nat} (hm : m ∈ telM h sk) : lookD (Dl h sk l) (.inl (m : Int)) = some (pC l m) := dl_look hm
theorem Dl_put {b : Bool} {m : Nat} (hm : m ∈ telM h sk) : putD (Dl h sk l) (.inl (m : Int)) (pC (l ++ [(b, m)]) m) = Dl h sk (l ++ [(b, m)]) := by
  have ha : ((Dl h sk l).any fun kv => decide (kv.1 = .inl (m : Int))) = true := by
    rw [List.any_eq_true]
    exact ⟨_, List.mem_map.mpr ⟨m, hm, rfl⟩, by simp⟩
  unfold putD
  rw [if_pos ha]
  unfold Dl
  rw [List.map_map]
  refine List.map_congr_left fun x hx => ?_
  show (if (Sum.inl ((x : Nat) : Int) : Key) = .inl (m : Int) then ((Sum.inl ((x : Nat) : Int) : Key), pC (l ++ [(b, m)]) m) else (.inl ((x : Nat) : Int), pC l x)) = (.inl ((x : Nat) : Int), pC (l ++ [(b, m)]) x)
  by_cases e : x = m
  · subst e
    rw [if_pos rfl]
  · rw [if_neg (by intro z; injection z with z; omega)]
    unfold pC
    rw [cnt_app, cnt_app, if_neg (fun z => e z.2.symm), if_neg (fun z => e z.2.symm)]
    rfl
/-- the table of what breaks -/
structure TabW (h : Hist) (jt : Nat) (θ : Th) : Prop where
  js : ∃ js : List Nat, θ[jt]? = some (.lst (js.map Dv.obj)) ∧ js.length = h.length ∧ ∀ c j : Nat, js[c]? = some j → θ[j]? = some (.lst ((List.range h.length).map fun m => .bl (anc h m c)))
theorem TabW.ext {jt : Nat} {θ' : Th} (t : TabW h jt θ) (e : Ext θ θ') : TabW h jt θ' := by
  obtain ⟨js, h1, h2, h3⟩ := t.js
  exact ⟨js, e.at h1, h2, fun c j hc => e.at (h3 c j hc)⟩
theorem TabW.set {jt jd : Nat} {o o' : Ob} (t : TabW h jt θ) (hd : θ[jd]? = some o) (nl : ∀ ds, o ≠ .lst ds) : TabW h jt (θ.set jd o') := by
  obtain ⟨js, h1, h2, h3⟩ := t.js
  refine ⟨js, ?_, h2, fun c j hc => ?_⟩
  · rw [List.getElem?_set_ne (fun e => by subst e; rw [h1] at hd; exact nl _ (Option.some.inj hd).symm)]
    exact h1
  · rw [List.getElem?_set_ne (fun e => by subst e; rw [h3 c _ hc] at hd; exact nl _ (Option.some.inj hd).symm)]
    exact h3 c j hc
theorem TabW.kept {jt kk : Nat} {θ' : Th} {kvs : List (NestedKey × Dv)} (t : TabW h jt θ) (hk : θ[kk]? = some (.dN kvs)) (K : Kept kk θ θ') : TabW h jt θ' := by
  obtain ⟨js, h1, h2, h3⟩ := t.js
  refine ⟨js, K.at' _ _ (fun e => by subst e; rw [h1] at hk; cases hk) h1, h2, fun c j hc => K.at' _ _ (fun e => by subst e; rw [h3 c _ hc] at hk; cases hk) (h3 c j hc)⟩
theorem ext_lock {j : Nat} {o f : Ob} {θ' : Th} (hj : θ[j]? = some o) (e : Ext (θ.set j f) θ') : Ext θ (θ'.set j o) := by
  obtain ⟨g, rfl⟩ := e
  have hl := (List.getElem?_eq_some_iff.mp hj).1
  refine ⟨g, ?_⟩
  rw [List.set_append_left _ _ (by rw [List.length_set]; exact hl), List.set_set]
  congr 1
  refine List.ext_getElem? fun i => ?_
  by_cases ei : j = i
  · subst ei
    rw [List.getElem?_set_self hl, hj]
  · rw [List.getElem?_set_ne ei]
theorem okm_or {c m : Nat} : (anc h m c && decide ((k : Int) < (l.count (false, m) : Nat)) || !anc h m c && decide (((if two then k else 0 : Nat) : Int) < (l.count (true, m) : Nat))) = !okm h l k two c m := by
  unfold okm isBr
  have e1 : decide ((k : Int) < (l.count (false, m) : Nat)) = decide (k < l.count (false, m)) := decide_eq_decide.mpr (by omega)
  have e2 : decide (((if two then k else 0 : Nat) : Int) < (l.count (true, m) : Nat)) = decide ((if two then k else 0) < l.count (true, m)) := decide_eq_decide.mpr (by omega)
  rw [e1, e2]
  cases anc h m c <;> cases decide (k < l.count (false, m)) <;> cases decide ((if two then k else 0) < l.count (true, m)) <;> rfl
theorem k0_at {k : Nat} {two : Bool} : atI [Dv.int (k : Nat), Dv.int 0] (if (!two) = true then 1 else 0) = some (.int ((if two then k else 0 : Nat) : Int)) := by cases two <;> rfl
theorem s_lalive {jt jc jd : Nat} (hl : h.length ≤ 1000) (ht : TabW h jt θ) (hc : θ[jc]? = some (.lst ((cls (tell h sk) h.length).map fun p => .tup (nd p)))) (hd : θ[jd]? = some (.dK (Dl h sk l))) (hQ : ∀ θ', Ext θ θ' → Q (.int (aliveN h sk k two l : Nat)) θ') : Cm23.c__law_alive [.obj jt, .obj jc, .obj jd, .int (k : Nat), .str (rl two)] E θ Q := by
  unfold Cm23.c__law_alive Cm23.m__law_alive
  have tl := tel_len (h := h) (sk := sk)
  simp only [mxDN, List.map_cons, List.map_nil, List.replicate, List.cons_append, List.nil_append, List.set_cons_zero, List.set_cons_succ]
  rw [x_seqN]
  simp only [mxDN, List.map_cons, List.map_nil, List.replicate, List.cons_append, List.nil_append, List.set_cons_zero, List.set_cons_succ, hc]
  refine for_rule (cls (tell h sk) h.length).length (fun t ρ θ' => ∃ x6 x7 x8 x9 x10, ρ = [some (.obj jt), some (.obj jc), some (.obj jd), some (.int (k : Nat)), some (.str (rl two)), some (.int ((((cls (tell h sk) h.length).take t).filter fun p => (telM h sk).all (okm h l k two (p.headD 0))).length : Nat)), x6, x7, x8, x9, x10] ∧ Ext θ θ') ⟨none, none, none, none, none, rfl, .refl⟩ ?_ ?_
  · rintro t ρ θ1 hi ⟨x6, x7, x8, x9, x10, rfl, e1⟩
    obtain ⟨p, hp⟩ : ∃ p, (cls (tell h sk) h.length)[t]? = some p := ⟨_, List.getElem?_eq_getElem hi⟩
    have hpm := List.mem_of_getElem? hp
    have hne := cls_ne _ _ _ hpm
    have hpl : p.headD 0 < h.length := by
      refine cls_mem _ _ p hpm _ ?_
      cases p with
      | nil => exact absurd rfl hne
      | cons x r => exact .head _
    refine ⟨.tup (nd p), _, by rw [src_L (e1.at hc), List.getElem?_map, hp]; rfl, rfl, fun K LK => ?_⟩
    simp only [mxDN, List.map_cons, List.map_nil, List.replicate, List.cons_append, List.nil_append, List.set_cons_zero, List.set_cons_succ, List.set_cons_zero, List.set_cons_succ]
    have hd1 := e1.at hd
    rw [x_seqN]
    simp only [mxDN, List.map_cons, List.map_nil, List.replicate, List.cons_append, List.nil_append, List.set_cons_zero, List.set_cons_succ]
    refine s_lockK rfl hd1 ?_
    simp only [mxDN, List.map_cons, List.map_nil, List.replicate, List.cons_append, List.nil_append, List.set_cons_zero, List.set_cons_succ]
    have hdl : jd < θ1.length := (List.getElem?_eq_some_iff.mp hd1).1
    have hf : (θ1.set jd (.dKf (Dl h sk l)))[jd]? = some (.dKf (Dl h sk l)) := List.getElem?_set_self hdl
    rw [x_srcKeys]
    simp only [mxDN, List.map_cons, List.map_nil, List.replicate, List.cons_append, List.nil_append, List.set_cons_zero, List.set_cons_succ]
    refine kk_is hf ?_
    obtain ⟨js, j1, j2, j3⟩ := ((ht.ext e1).set hd1 (o' := .dKf (Dl h sk l)) (fun ds e => by cases e)).js
    have ek : (Dl h sk l).map (fun kv => keyDv kv.1) = (telM h sk).map fun m => Dv.int (m : Nat) := by unfold Dl; rw [List.map_map]; rfl
    rw [ek]
    obtain ⟨jr, hjr⟩ : ∃ jr, js[p.headD 0]? = some jr := ⟨_, List.getElem?_eq_getElem (by omega)⟩
    have j4 := j3 _ _ hjr
    have a1 : atI (nd p) 0 = some (.int (p.headD 0 : Nat)) := hd_at hne
    have a2 : atI (js.map Dv.obj) ((p.headD 0 : Nat) : Int) = some (.obj jr) := at_nat (by rw [List.getElem?_map, hjr]; rfl)
    refine for_rule (telM h sk).length (fun i ρ θ' => ∃ x8 x9 x10, ρ = [some (.obj jt), some (.obj jc), some (.obj jd), some (.int (k : Nat)), some (.str (rl two)), some (.int ((((cls (tell h sk) h.length).take t).filter fun p => (telM h sk).all (okm h l k two (p.headD 0))).length : Nat)), some (.tup (nd p)), some (.bl (((telM h sk).take i).all (okm h l k two (p.headD 0)))), x8, x9, x10] ∧ Ext (θ1.set jd (.dKf (Dl h sk l))) θ') ⟨x8, x9, x10, rfl, .refl⟩ ?_ ?_
    · rintro i ρ θ2 hi2 ⟨x8, x9, x10, rfl, e2⟩
      obtain ⟨m, hm⟩ : ∃ m, (telM h sk)[i]? = some m := ⟨_, List.getElem?_eq_getElem hi2⟩
      have hmm := List.mem_of_getElem? hm
      have hml := tel_lt hmm
      refine ⟨.int (m : Nat), _, by show some (((telM h sk).map fun m => Dv.int (m : Nat))[i]?) = _; rw [List.getElem?_map, hm]; rfl, rfl, fun K2 LK2 => ?_⟩
      have nx : ∀ θ', Ext θ2 θ' → K2 (.nx [some (.obj jt), some (.obj jc), some (.obj jd), some (.int (k : Nat)), some (.str (rl two)), some (.int ((((cls (tell h sk) h.length).take t).filter fun p => (telM h sk).all (okm h l k two (p.headD 0))).length : Nat)), some (.tup (nd p)), some (.bl (((telM h sk).take i).all (okm h l k two (p.headD 0)) && okm h l k two (p.headD 0) m)), some (.int (m : Nat)), some (.int (l.count (false, m) : Nat)), some (.int (l.count (true, m) : Nat))]) θ' := fun θ' e => LK2.nx _ _ ⟨_, rfl, some (.int (m : Nat)), some (.int (l.count (false, m) : Nat)), some (.int (l.count (true, m) : Nat)), by rw [List.take_add_one, hm, List.all_append]; simp only [Option.toList, List.all_cons, List.all_nil, Bool.and_true], e2.trans e⟩
      clear LK2
      simp only [mxDN, List.map_cons, List.map_nil, List.replicate, List.cons_append, List.nil_append, List.set_cons_zero, List.set_cons_succ, List.set_cons_zero, List.set_cons_succ]
      refine ix_dKf (e2.at hf) rfl (Dl_look hmm) ?_
      have j5 := e2.at j1
      have j6 := e2.at j4
      have a3 : atI ((List.range h.length).map fun m => Dv.bl (anc h m (p.headD 0))) (m : Int) = some (.bl (anc h m (p.headD 0))) := at_nat (by rw [List.getElem?_map, List.getElem?_range hml]; rfl)
      unfold pC
      simp only [mxDN, List.map_cons, List.map_nil, List.replicate, List.cons_append, List.nil_append, List.set_cons_zero, List.set_cons_succ, List.set_cons_zero, List.set_cons_succ, a1, j5, a2, j6, a3]
      rw [x_seqN]
      have eo : ∀ b : Bool, anc h m (p.headD 0) = b → okm h l k two (p.headD 0) m = !(if b then decide ((k : Int) < (l.count (false, m) : Nat)) else decide (((if two then k else 0 : Nat) : Int) < (l.count (true, m) : Nat))) := fun b hb => by
        have := okm_or (h := h) (l := l) (k := k) (two := two) (c := p.headD 0) (m := m)
        rw [hb] at this
        have e := congrArg (!·) this
        simp only [Bool.not_not] at e
        rw [← e]
        cases b <;> simp
      have fin : ∀ (b c : Bool) θ', Ext θ2 θ' → okm h l k two (p.headD 0) m = !b → c = (((telM h sk).take i).all (okm h l k two (p.headD 0)) && !b) → K2 (.nx [some (.obj jt), some (.obj jc), some (.obj jd), some (.int (k : Nat)), some (.str (rl two)), some (.int ((((cls (tell h sk) h.length).take t).filter fun p => (telM h sk).all (okm h l k two (p.headD 0))).length : Nat)), some (.tup (nd p)), some (.bl c), some (.int (m : Nat)), some (.int (l.count (false, m) : Nat)), some (.int (l.count (true, m) : Nat))]) θ' := fun b c θ' e eb ec => by
        rw [ec, ← eb]
        exact nx θ' e
      cases hA : anc h m (p.headD 0) with
      | true =>
        have e3 := eo _ hA
        rw [if_pos rfl] at e3
        rw [hA] at a3
        simp only [mxDN, List.map_cons, List.map_nil, List.replicate, List.cons_append, List.nil_append, List.set_cons_zero, List.set_cons_succ, List.set_cons_zero, List.set_cons_succ, a1, j5, a2, j6, a3]
        cases hB : decide ((k : Int) < (l.count (false, m) : Nat)) with
        | true =>
          simp only [hB, if_true]
          exact fin true false θ2 .refl (by rw [e3, hB]) (by simp)
        | false =>
          simp only [hB, if_true, Bool.false_eq_true, if_false, Bool.not_true]
          exact fin false _ θ2 .refl (by rw [e3, hB]) (by simp)
      | false =>
        have e3 := eo _ hA
        rw [if_neg Bool.false_ne_true] at e3
        rw [hA] at a3
        simp only [mxDN, List.map_cons, List.map_nil, List.replicate, List.cons_append, List.nil_append, List.set_cons_zero, List.set_cons_succ, List.set_cons_zero, List.set_cons_succ, a1, j5, a2, j6, a3, rl_one]
        simp only [Bool.not_false, if_true, Bool.false_eq_true, if_false]
        refine ⟨two_line, ?_⟩
        rw [th_last, x_ixL, k0_at, x_optW, x_gt, x_boolK]
        cases hB : decide (((if two then k else 0 : Nat) : Int) < (l.count (true, m) : Nat)) with
        | true =>
          rw [if_pos rfl]
          exact fin true false _ .app (by rw [e3, hB]) (by simp)
        | false =>
          rw [if_neg Bool.false_ne_true]
          exact fin false _ _ .app (by rw [e3, hB]) (by simp)
    · rintro ρ θ2 ⟨x8, x9, x10, rfl, e2⟩
      refine ⟨by show some (((telM h sk).map fun m => Dv.int (m : Nat))[(telM h sk).length]?) = _; simp, e2.at hf, ?_⟩
      rw [List.take_length, x_seqN]
      simp only [mxDN, List.map_cons, List.map_nil, List.replicate, List.cons_append, List.nil_append, List.set_cons_zero, List.set_cons_succ, List.set_cons_zero, List.set_cons_succ]
      have ec : ((((cls (tell h sk) h.length).take t).filter fun p => (telM h sk).all (okm h l k two (p.headD 0))).length : Int) + (if (telM h sk).all (okm h l k two (p.headD 0)) = true then 1 else 0) = ((((cls (tell h sk) h.length).take (t + 1)).filter fun p => (telM h sk).all (okm h l k two (p.headD 0))).length : Nat) := by
        rw [List.take_add_one, hp, Option.toList, List.filter_append, List.length_append, List.filter_cons, List.filter_nil]
        cases (telM h sk).all (okm h l k two (p.headD 0)) <;> simp
      rw [ec]
      exact LK.nx _ _ ⟨_, rfl, _, _, _, _, _, rfl, e1.trans (ext_lock hd1 e2)⟩
  · rintro ρ θ1 ⟨x6, x7, x8, x9, x10, rfl, e1⟩
    refine ⟨by rw [src_L (e1.at hc)]; simp, ?_⟩
    rw [List.take_length, x_seqN]
    simp only [mxDN, List.map_cons, List.map_nil, List.replicate, List.cons_append, List.nil_append, List.set_cons_zero, List.set_cons_succ]
    exact end_same (hQ θ1 e1)
end Sp

/-! Wb3: the law's table of answers counted by make. -/
namespace Sp
open PySem PySem.Spec PyProof.Rows L2 Mn
variable {E : Exn → Th → Prop} {θ : Th} {Q : Dv → Th → Prop} {h : Hist} {sk : List Nat} {k n N : Nat} {two : Bool} {l : Ans}
/-! ### the key -/
def nkP (l : Ans) (m : Nat) : NestedKey := .tup [.num (l.count (false, m) : Nat), .num (l.count (true, m) : Nat)]
def nkL (ms : List Nat) (l : Ans) (q : Nat) : NestedKey := .tup [.tup (ms.map (nkP l)), .num (q : Int)]
theorem nKeyDs_pairs : ∀ ms : List Nat, nKeyDs (ms.map (pC l)) = some (ms.map (nkP l))
  | [] => rfl
  | x :: ms => by
    have ih := nKeyDs_pairs ms
    rw [List.map_cons, List.map_cons]
    unfold nKeyDs
    rw [ih]
    rfl
theorem depth_pairs : ∀ ms : List Nat, NestedKey.depthAll (ms.map (nkP l)) ≤ 2
  | [] => by simp [NestedKey.depthAll]
  | x :: ms => by
    have ih := depth_pairs ms
    rw [List.map_cons]
    simp [NestedKey.depthAll, NestedKey.depth, nkP]
    omega
theorem nkL_key {ms : List Nat} {q : Nat} : nKeyT (.tup [.tup (ms.map (pC l)), .int (q : Nat)]) = some (nkL ms l q) := by
  have e : nKeyDs [.tup (ms.map (pC l)), .int (q : Nat)] = some [.tup (ms.map (nkP l)), .num (q : Int)] := by
    unfold nKeyDs nKeyD
    rw [nKeyDs_pairs]
    rfl
  unfold nKeyT
  simp only [e]
  rw [if_pos]
  · rfl
  · have := depth_pairs (l := l) ms
    simp [NestedKey.depth, NestedKey.depthAll]
    omega
theorem nkL_inj {ms : List Nat} {l l' : Ans} {p q : Nat} (e : nkL ms l p = nkL ms l' q) : SameC ms l l' ∧ p = q := by
  unfold nkL at e
  injection e with e
  rw [List.cons.injEq, List.cons.injEq] at e
  obtain ⟨e1, e2, _⟩ := e
  injection e1 with e1
  injection e2 with e2
  refine ⟨fun m hm => ?_, by omega⟩
  have : nkP l m = nkP l' m := by
    have := List.map_inj_left.mp e1
    exact this m hm
  unfold nkP at this
  injection this with this
  rw [List.cons.injEq, List.cons.injEq] at this
  obtain ⟨t1, t2, _⟩ := this
  injection t1 with t1
  injection t2 with t2
  omega
theorem x_ixDK {kvs : List (Key × Dv)} {i : Int} : ixK (some (.dK kvs)) (.int i) θ Q = optW (lookD kvs (.inl i)) θ Q := (rfl)
theorem s_lkey {jd q : Nat} (hl : h.length < 64) (hd : θ[jd]? = some (.dK (Dl h sk l))) (hQ : ∀ θ', Ext θ θ' → Q (.tup [.tup ((telM h sk).map (pC l)), .int (q : Nat)]) θ') : Cm23.c__law_key [.obj jd, .int (q : Nat)] E θ Q := by
  unfold Cm23.c__law_key Cm23.m__law_key
  have tl := tel_len (h := h) (sk := sk)
  simp only [mxDN, List.map_cons, List.map_nil, List.replicate, List.cons_append, List.nil_append, List.set_cons_zero, List.set_cons_succ, wipeE]
  refine sort_k (ks := (telM h sk).map fun m => ((m : Nat) : Int)) hd (by unfold Dl; rw [List.map_map, List.map_map]; rfl) (by rw [List.length_map]; omega) fun ys hp hs => ?_
  have ey : ys = (telM h sk).map fun m => ((m : Nat) : Int) := by
    refine perm_srt hp hs ?_
    rw [List.pairwise_map]
    have : (telM h sk).Pairwise (· < ·) := List.pairwise_lt_range.sublist List.filter_sublist
    exact this.imp fun h => by omega
  subst ey
  rw [List.map_map]
  have hL : (θ ++ [Ob.lst ((telM h sk).map (Dv.int ∘ fun m => ((m : Nat) : Int)))])[θ.length]? = some (.lst ((telM h sk).map (Dv.int ∘ fun m => ((m : Nat) : Int)))) := th_last
  simp only [mxDN, List.map_cons, List.map_nil, List.replicate, List.cons_append, List.nil_append, List.set_cons_zero, List.set_cons_succ, hL]
  have e0 : Ext θ (θ ++ [Ob.lst ((telM h sk).map (Dv.int ∘ fun m => ((m : Nat) : Int)))]) := .app
  generalize (θ ++ [Ob.lst ((telM h sk).map (Dv.int ∘ fun m => ((m : Nat) : Int)))]) = θ1 at e0 hL ⊢
  refine lc_all1 (telM h sk) (fun m => .int (m : Nat)) (pC l) (lt_line (by omega)) (srcL hL) ?_ ?_
  · intro m hm θ' e
    refine ⟨_, rfl, fun K2 h2 => ?_⟩
    simp only [mxDN, List.map_cons, List.map_nil, List.replicate, List.cons_append, List.nil_append, List.set_cons_zero, List.set_cons_succ, e.at (e0.at hd)]
    rw [x_ixDK, Dl_look hm, x_optW]
    exact h2 _ .refl
  · intro θ2 e h3
    rw [h3, x_tupL]
    refine ⟨two_line, ?_⟩
    exact end_same (hQ θ2 (e0.trans e))
/-! ### the table -/
def ltC (k : Nat) (l : Ans) : Prop := ∀ m, l.count (false, m) ≤ k + 1 ∧ l.count (true, m) ≤ k + 1
structure KnL (h : Hist) (sk : List Nat) (k : Nat) (two : Bool) (N : Nat) (kvs : List (NestedKey × Dv)) : Prop where
  ok : ∀ p ∈ kvs, ∃ l q, p.1 = nkL (telM h sk) l q ∧ ltC k l ∧ q ≤ N ∧ p.2 = .bl (tolB h sk k two q l)
  nd : (kvs.map (·.1)).Nodup
theorem KnL.nil : KnL h sk k two N [] := ⟨fun p hp => (by cases hp), .nil⟩
def pairK : List Int → List NestedKey
  | a :: b :: r => .tup [.num a, .num b] :: pairK r
  | _ => []
def flatC (l : Ans) : List Nat → List Int
  | [] => []
  | m :: ms => ((l.count (false, m) : Nat) : Int) :: ((l.count (true, m) : Nat) : Int) :: flatC l ms
theorem flatC_len : ∀ ms : List Nat, (flatC l ms).length = 2 * ms.length
  | [] => rfl
  | m :: ms => by
    unfold flatC
    rw [List.length_cons, List.length_cons, flatC_len ms, List.length_cons]
    omega
theorem flatC_mem (b : ltC k l) : ∀ {ms : List Nat}, ∀ y ∈ flatC l ms, -1 ≤ y ∧ y ≤ ((k + 1 : Nat) : Int)
  | [], y, hy => by cases hy
  | m :: ms, y, hy => by
    unfold flatC at hy
    have := b m
    rcases List.mem_cons.mp hy with rfl | hy
    · omega
    · rcases List.mem_cons.mp hy with rfl | hy
      · omega
      · exact flatC_mem b y hy
theorem pairK_flat : ∀ ms : List Nat, pairK (flatC l ms) = ms.map (nkP l)
  | [] => rfl
  | m :: ms => by
    unfold flatC pairK
    rw [pairK_flat ms]
    rfl
theorem KnL.few {kvs : List (NestedKey × Dv)} (w : KnL h sk k two N kvs) : kvs.length ≤ (k + 3) ^ (2 * (telM h sk).length) * (N + 1) := by
  have e1 : ((allL (valsI (k + 1)) (2 * (telM h sk).length)).flatMap fun st => (List.range (N + 1)).map fun (q : Nat) => NestedKey.tup [.tup (pairK st), .num (q : Int)]).length = (k + 3) ^ (2 * (telM h sk).length) * (N + 1) := by
    rw [show k + 3 = k + 1 + 2 from rfl, ← vals_len (top := k + 1), ← allL_len]
    generalize allL (valsI (k + 1)) (2 * (telM h sk).length) = l
    induction l with
    | nil => simp
    | cons x l ih =>
      rw [List.flatMap_cons, List.length_append, ih, List.length_map, List.length_range, List.length_cons, Nat.add_mul]
      omega
  rw [← e1, ← List.length_map (f := (·.1)) (as := kvs)]
  refine sub_len w.nd fun y hk => ?_
  obtain ⟨p, hp, rfl⟩ := List.mem_map.mp hk
  obtain ⟨l, q, e, hs, hq, _⟩ := w.ok p hp
  rw [List.mem_flatMap]
  refine ⟨flatC l (telM h sk), mem_allL _ (flatC_len _) (fun y hy => mem_vals.mpr (flatC_mem hs y hy)), List.mem_map.mpr ⟨q, List.mem_range.mpr (by omega), ?_⟩⟩
  rw [pairK_flat]
  exact e.symm
theorem KnL.look {kvs : List (NestedKey × Dv)} {v : Dv} {q : Nat} (w : KnL h sk k two N kvs) (e : lookD kvs (nkL (telM h sk) l q) = some v) : v = .bl (tolB h sk k two q l) := by
  obtain ⟨p, hp, h1, h2⟩ := lookN_some e
  obtain ⟨l', q', e1, _, _, e2⟩ := w.ok p hp
  obtain ⟨s, rfl⟩ := nkL_inj (h1.symm.trans e1)
  rw [← h2, e2, tol_same _ _ _ s]
theorem KnL.put {kvs : List (NestedKey × Dv)} {q : Nat} (w : KnL h sk k two N kvs) (hs : ltC k l) (hq : q ≤ N) : KnL h sk k two N (putD kvs (nkL (telM h sk) l q) (.bl (tolB h sk k two q l))) := by
  by_cases hc : (kvs.any fun kv => decide (kv.1 = nkL (telM h sk) l q)) = true
  · have e : putD kvs (nkL (telM h sk) l q) (.bl (tolB h sk k two q l)) = kvs := by
      unfold putD
      rw [if_pos hc]
      refine (List.map_congr_left (g := id) fun p hp => ?_).trans (List.map_id _)
      obtain ⟨l', q', e1, _, _, e2⟩ := w.ok p hp
      split
      · next z =>
        obtain ⟨s, rfl⟩ := nkL_inj (e1.symm.trans z)
        show (p.1, _) = p
        rw [← tol_same _ _ _ s, ← e2]
      · rfl
    rw [e]
    exact w
  · unfold putD
    rw [if_neg hc]
    have ne : ∀ p ∈ kvs, p.1 ≠ nkL (telM h sk) l q := fun p hp z => hc (List.any_eq_true.mpr ⟨p, hp, decide_eq_true z⟩)
    refine ⟨fun p hp => ?_, ?_⟩
    · rcases List.mem_append.mp hp with hp | hp
      · exact w.ok p hp
      · rw [List.mem_singleton.mp hp]
        exact ⟨l, q, rfl, hs, hq, rfl⟩
    · rw [List.map_append, List.nodup_append]
      refine ⟨w.nd, by simp, fun a ha b hb e => ?_⟩
      obtain ⟨p, hp, rfl⟩ := List.mem_map.mp ha
      rw [List.map_singleton, List.mem_singleton] at hb
      rw [hb] at e
      exact ne p hp e
end Sp

/-! Wb4: the law's search over all tests. -/
namespace Sp
open PySem PySem.Spec PyProof.Rows L2 Mn
variable {E : Exn → Th → Prop} {θ : Th} {Q : Dv → Th → Prop} {h : Hist} {sk : List Nat} {k n N : Nat} {two : Bool} {l : Ans}
noncomputable def tlQ (h : Hist) (sk : List Nat) (k : Nat) (two : Bool) (l : Ans) (q m : Nat) : Bool := decide (st l k two m = "") && (tolB h sk k two q (l ++ [(false, m)]) && tolB h sk k two q (l ++ [(true, m)]))
theorem tol_step {q : Nat} : tolB h sk k two (q + 1) l = (decide (aliveN h sk k two l < 2) || (telM h sk).any (tlQ h sk k two l q)) := rfl
theorem st_emp {m : Nat} : decide (st l k two m = "") = (decide (((l.count (false, m) : Nat) : Int) ≤ (k : Nat)) && decide (((l.count (true, m) : Nat) : Int) ≤ ((if two then k else 0 : Nat) : Int))) := by
  unfold st stl isBr
  have e1 : decide (((l.count (false, m) : Nat) : Int) ≤ (k : Nat)) = decide (l.count (false, m) ≤ k) := decide_eq_decide.mpr (by omega)
  have e2 : decide (((l.count (true, m) : Nat) : Int) ≤ ((if two then k else 0 : Nat) : Int)) = decide (l.count (true, m) ≤ (if two then k else 0)) := decide_eq_decide.mpr (by omega)
  rw [e1, e2]
  by_cases h1 : k < l.count (false, m) <;> by_cases h2 : (if two then k else 0) < l.count (true, m)
  · rw [if_pos h1, if_pos (decide_eq_true h2), decide_eq_false (by omega : ¬ l.count (false, m) ≤ k)]
    rfl
  · rw [if_pos h1, if_neg (by rw [decide_eq_true_eq]; exact h2), decide_eq_false (by omega : ¬ l.count (false, m) ≤ k)]
    rfl
  · rw [if_neg h1, if_pos (decide_eq_true h2), decide_eq_true (by omega : l.count (false, m) ≤ k), decide_eq_false (by omega : ¬ l.count (true, m) ≤ (if two then k else 0))]
    rfl
  · rw [if_neg h1, if_neg (by rw [decide_eq_true_eq]; exact h2), decide_eq_true (by omega : l.count (false, m) ≤ k), decide_eq_true (by omega : l.count (true, m) ≤ (if two then k else 0))]
    rfl
theorem ltC_app {b : Bool} {m : Nat} (c : ltC k l) (he : st l k two m = "") : ltC k (l ++ [(b, m)]) := fun x => by
  rw [cnt_app, cnt_app]
  have e := st_emp (l := l) (k := k) (two := two) (m := m)
  rw [decide_eq_true he] at e
  have e := e.symm
  rw [Bool.and_eq_true, decide_eq_true_eq, decide_eq_true_eq] at e
  have c := c x
  have : (if two then k else 0) ≤ k := by split <;> omega
  constructor
  · split
    · next z =>
      have : x = m := z.2.symm
      subst this
      omega
    · omega
  · split
    · next z =>
      have : x = m := z.2.symm
      subst this
      omega
    · omega
theorem s_ltoldN {jt jc jk : Nat} (hl : h.length < 64) (hp : (k + 3) ^ (2 * (telM h sk).length) ≤ 100000) (hN : N ≤ 20) : ∀ (f q : Nat) (l : Ans) (jd : Nat) (θ : Th) (kvs : List (NestedKey × Dv)) (E : Exn → Th → Prop) (Q : Dv → Th → Prop), q < f → q ≤ N → ltC k l →
    TabW h jt θ → θ[jc]? = some (.lst ((cls (tell h sk) h.length).map fun p => .tup (nd p))) → θ[jd]? = some (.dK (Dl h sk l)) → θ[jk]? = some (.dN kvs) → KnL h sk k two N kvs →
    (∀ θ' kvs', Kept jk θ θ' → θ'[jk]? = some (.dN kvs') → KnL h sk k two N kvs' → Q (.bl (tolB h sk k two q l)) θ') → Cm23.c__law_told f [.obj jt, .obj jc, .obj jd, .int (k : Nat), .str (rl two), .int (q : Nat), .obj jk] E θ Q := by
  intro f
  induction f with
  | zero => intro q l jd θ kvs E Q hf; omega
  | succ f ih =>
    intro q l jd θ kvs E Q hf hq hc ht hcl hd hk W hQ
    have ez := sizeLine_eq
    have tl := tel_len (h := h) (sk := sk)
    have fb : (k + 3) ^ (2 * (telM h sk).length) * (N + 1) ≤ 100000 * 21 := Nat.mul_le_mul hp (by omega)
    have few := W.few
    unfold Cm23.c__law_told Cm23.m__law_told
    simp only [mxDN, List.map_cons, List.map_nil, List.replicate, List.cons_append, List.nil_append, List.set_cons_zero, List.set_cons_succ]
    refine ⟨rfl, s_lkey hl hd fun θ1 e1 => ?_⟩
    rw [x_seqN]
    simp only [mxDN, List.map_cons, List.map_nil, List.replicate, List.cons_append, List.nil_append, List.set_cons_zero, List.set_cons_succ]
    have hk1 := e1.at hk
    refine in_N hk1 nkL_key ?_
    rw [x_boolK]
    cases c : lookD kvs (nkL (telM h sk) l q) with
    | some v =>
      have ev := W.look c
      rw [if_pos (by simp)]
      refine ix_dN hk1 nkL_key c ?_
      rw [ev]
      exact end_same (hQ θ1 kvs (.ext e1) hk1 W)
    | none =>
      rw [if_neg (by simp), x_seqN]
      simp only [mxDN, List.map_cons, List.map_nil, List.replicate, List.cons_append, List.nil_append, List.set_cons_zero, List.set_cons_succ]
      refine ⟨rfl, s_lalive (by omega) (ht.ext e1) (e1.at hcl) (e1.at hd) fun θ2 e2 => ?_⟩
      have e12 := e1.trans e2
      have hk2 := e2.at hk1
      have hd2 := e12.at hd
      rw [x_lt, show decide (((aliveN h sk k two l : Nat) : Int) < 2) = decide (aliveN h sk k two l < 2) from decide_eq_decide.mpr (by omega)]
      rw [x_seqN, x_seq]
      generalize hT : seqK _ E (defK θ Q) = T
      have key : ∀ (x9 x10 x11 x12 x13 : Option Dv) (θ' : Th) (kvs' : List (NestedKey × Dv)), Kept jk θ2 θ' → θ'[jk]? = some (.dN kvs') → KnL h sk k two N kvs' → T (.nx [some (.obj jt), some (.obj jc), some (.obj jd), some (.int (k : Nat)), some (.str (rl two)), some (.int (q : Nat)), some (.obj jk), some (.tup [.tup ((telM h sk).map (pC l)), .int (q : Nat)]), some (.bl (tolB h sk k two q l)), x9, x10, x11, x12, x13]) θ' := by
        intro x9 x10 x11 x12 x13 θ' kvs' K' hk' W'
        subst hT
        rw [x_seqN, x_seq, x_putN]
        simp only [mxDN, List.map_cons, List.map_nil, List.replicate, List.cons_append, List.nil_append, List.set_cons_zero, List.set_cons_succ]
        have few' := W'.few
        refine set_dN hk' nkL_key (by omega) ?_
        rw [x_seqN]
        simp only [mxDN, List.map_cons, List.map_nil, List.replicate, List.cons_append, List.nil_append, List.set_cons_zero, List.set_cons_succ]
        refine end_same (hQ _ _ ((Kept.ext e12).trans (K'.trans ⟨by rw [List.length_set]; exact Nat.le_refl _, fun n o hn ho => ?_⟩)) (List.getElem?_set_self (List.getElem?_eq_some_iff.mp hk').1) (W'.put hc hq))
        rw [List.getElem?_set_ne (fun e => hn e.symm)]
        exact ho
      clear hT
      simp only [mxDN, List.map_cons, List.map_nil, List.replicate, List.cons_append, List.nil_append, List.set_cons_zero, List.set_cons_succ]
      cases hA : decide (aliveN h sk k two l < 2) with
      | true =>
        rw [if_neg (show ¬ (!true) = true by decide), if_neg Bool.false_ne_true]
        have : tolB h sk k two q l = true := by cases q <;> unfold tolB <;> rw [hA] <;> rfl
        rw [this] at key
        exact key _ _ _ _ _ θ2 kvs .refl hk2 W
      | false =>
        rw [if_pos (show (!false) = true from rfl)]
        cases q with
        | zero =>
          rw [if_neg (show ¬ decide ((0 : Int) < ((0 : Nat) : Int)) = true by decide)]
          have : tolB h sk k two 0 l = false := by unfold tolB; rw [hA]
          rw [this] at key
          exact key _ _ _ _ _ θ2 kvs .refl hk2 W
        | succ p =>
          rw [if_pos (show decide ((0 : Int) < ((p + 1 : Nat) : Int)) = true from decide_eq_true (by omega))]
          rw [tol_step, hA, Bool.false_or] at key
          refine sort_k (ks := (telM h sk).map fun m => ((m : Nat) : Int)) hd2 (by unfold Dl; rw [List.map_map, List.map_map]; rfl) (by rw [List.length_map]; omega) fun ys hys hs => ?_
          have ey : ys = (telM h sk).map fun m => ((m : Nat) : Int) := by
            refine perm_srt hys hs ?_
            rw [List.pairwise_map]
            have : (telM h sk).Pairwise (· < ·) := List.pairwise_lt_range.sublist List.filter_sublist
            exact this.imp fun h => by omega
          subst ey
          rw [List.map_map]
          have hL : (θ2 ++ [Ob.lst ((telM h sk).map (Dv.int ∘ fun m => ((m : Nat) : Int)))])[θ2.length]? = some (.lst ((telM h sk).map (Dv.int ∘ fun m => ((m : Nat) : Int)))) := th_last
          simp only [mxDN, List.map_cons, List.map_nil, List.replicate, List.cons_append, List.nil_append, List.set_cons_zero, List.set_cons_succ, hL]
          have e3 : Ext θ2 (θ2 ++ [Ob.lst ((telM h sk).map (Dv.int ∘ fun m => ((m : Nat) : Int)))]) := .app
          have hlk : jk < θ2.length := (List.getElem?_eq_some_iff.mp hk2).1
          have nLk : θ2.length ≠ jk := by omega
          generalize θ2.length = L at hL nLk ⊢
          generalize (θ2 ++ [Ob.lst ((telM h sk).map (Dv.int ∘ fun m => ((m : Nat) : Int)))]) = θ3 at e3 hL ⊢
          have ndk : jd ≠ jk := fun e => by subst e; rw [hk] at hd; cases hd
          have nck : jc ≠ jk := fun e => by subst e; rw [hk] at hcl; cases hcl
          have ht3 := ht.ext (e12.trans e3)
          have hk3 := e3.at hk2
          refine for_rule (telM h sk).length (fun t ρ θ' => ∃ x9 x10 x11 x12 x13 kvs', ρ = [some (.obj jt), some (.obj jc), some (.obj jd), some (.int (k : Nat)), some (.str (rl two)), some (.int (p + 1 : Nat)), some (.obj jk), some (.tup [.tup ((telM h sk).map (pC l)), .int (p + 1 : Nat)]), some (.bl (((telM h sk).take t).any (tlQ h sk k two l p))), x9, x10, x11, x12, x13] ∧ Kept jk θ3 θ' ∧ θ'[jk]? = some (.dN kvs') ∧ KnL h sk k two N kvs')
            ⟨none, none, none, none, none, kvs, rfl, .refl, hk3, W⟩ ?_ ?_
          · rintro t ρ θ4 hi ⟨x9, x10, x11, x12, x13, kvs4, rfl, K4, hk4, W4⟩
            obtain ⟨m, hm⟩ : ∃ m, (telM h sk)[t]? = some m := ⟨_, List.getElem?_eq_getElem hi⟩
            have hmm := List.mem_of_getElem? hm
            have hL4 := K4.at' _ _ nLk hL
            have hd4 := K4.at' _ _ ndk (e3.at hd2)
            have hc4 := K4.at' _ _ nck (e3.at (e12.at hcl))
            have ht4 := ht3.kept hk3 K4
            refine ⟨.int (m : Nat), _, by rw [src_L hL4, List.getElem?_map, hm]; rfl, rfl, fun K LK => ?_⟩
            have nx : ∀ (b : Bool) (x12 x13 : Option Dv) (θ' : Th) (kvs' : List (NestedKey × Dv)), b = (((telM h sk).take t).any (tlQ h sk k two l p) || tlQ h sk k two l p m) → Kept jk θ4 θ' → θ'[jk]? = some (.dN kvs') → KnL h sk k two N kvs' → K (.nx [some (.obj jt), some (.obj jc), some (.obj jd), some (.int (k : Nat)), some (.str (rl two)), some (.int (p + 1 : Nat)), some (.obj jk), some (.tup [.tup ((telM h sk).map (pC l)), .int (p + 1 : Nat)]), some (.bl b), some (.int (m : Nat)), some (.int (l.count (false, m) : Nat)), some (.int (l.count (true, m) : Nat)), x12, x13]) θ' := fun b x12 x13 θ' kvs' eb k1 k2 k3 => by
              rw [eb, ← any_take hm]
              exact LK.nx _ _ ⟨_, rfl, some (.int (m : Nat)), some (.int (l.count (false, m) : Nat)), some (.int (l.count (true, m) : Nat)), x12, x13, kvs', rfl, K4.trans k1, k2, k3⟩
            clear LK
            simp only [mxDN, List.map_cons, List.map_nil, List.replicate, List.cons_append, List.nil_append, List.set_cons_zero, List.set_cons_succ, List.set_cons_zero, List.set_cons_succ, hd4]
            rw [x_ixDK, Dl_look hmm, x_optW]
            rw [show pC l m = .tup [.int (l.count (false, m) : Nat), .int (l.count (true, m) : Nat)] from rfl]
            simp only [mxDN, List.map_cons, List.map_nil, List.replicate, List.cons_append, List.nil_append, List.set_cons_zero, List.set_cons_succ, List.set_cons_zero, List.set_cons_succ]
            rw [x_seqN]
            simp only [mxDN, List.map_cons, List.map_nil, List.replicate, List.cons_append, List.nil_append, List.set_cons_zero, List.set_cons_succ, List.set_cons_zero, List.set_cons_succ, rl_one]
            have es := st_emp (l := l) (k := k) (two := two) (m := m)
            cases hw : decide (((l.count (false, m) : Nat) : Int) ≤ (k : Nat)) with
            | false =>
              rw [hw, Bool.false_and] at es
              simp only [Bool.false_eq_true, if_false]
              exact nx _ x12 x13 θ4 kvs4 (by unfold tlQ; rw [es]; simp) .refl hk4 W4
            | true =>
              rw [hw, Bool.true_and] at es
              simp only [if_true]
              refine ⟨two_line, ?_⟩
              rw [th_last, x_ixL, k0_at, x_optW, x_le, x_boolK]
              have e5 : Ext θ4 (θ4 ++ [Ob.lst [Dv.int (k : Nat), Dv.int 0]]) := .app
              generalize (θ4 ++ [Ob.lst [Dv.int (k : Nat), Dv.int 0]]) = θ5 at e5 ⊢
              have hk5 := e5.at hk4
              cases hb : decide (((l.count (true, m) : Nat) : Int) ≤ ((if two then k else 0 : Nat) : Int)) with
              | false =>
                rw [hb] at es
                simp only [Bool.false_eq_true, if_false]
                exact nx _ x12 x13 θ5 kvs4 (by unfold tlQ; rw [es]; simp) (.ext e5) hk5 W4
              | true =>
                rw [hb] at es
                simp only [if_true]
                cases hg : ((telM h sk).take t).any (tlQ h sk k two l p) with
                | true =>
                  simp only [Bool.not_true, Bool.false_eq_true, if_false]
                  exact nx _ x12 x13 θ5 kvs4 (by rw [hg]; rfl) (.ext e5) hk5 W4
                | false =>
                  simp only [Bool.not_false, if_true]
                  rw [hg, Bool.false_or] at nx
                  have he : st l k two m = "" := of_decide_eq_true es
                  refine dict_cp (e5.at hd4) ?_
                  rw [x_seqN]
                  simp only [mxDN, List.map_cons, List.map_nil, List.replicate, List.cons_append, List.nil_append, List.set_cons_zero, List.set_cons_succ, List.set_cons_zero, List.set_cons_succ, th_last]
                  refine ⟨two_line, lt_line (by unfold Dl; rw [List.length_map]; omega), ?_⟩
                  have ec1 : Dv.tup [.int (((l.count (false, m) : Nat) : Int) + 1), .int (l.count (true, m) : Nat)] = pC (l ++ [(false, m)]) m := by
                    unfold pC
                    rw [cnt_app, cnt_app, if_pos ⟨rfl, rfl⟩, if_neg (by simp)]
                    rfl
                  have ec2 : Dv.tup [.int (l.count (false, m) : Nat), .int (((l.count (true, m) : Nat) : Int) + 1)] = pC (l ++ [(true, m)]) m := by
                    unfold pC
                    rw [cnt_app, cnt_app, if_neg (by simp), if_pos ⟨rfl, rfl⟩]
                    rfl
                  rw [ec1, Dl_put hmm, show ∀ o o' : Ob, (θ5 ++ [o]).set θ5.length o' = θ5 ++ [o'] from fun _ _ => th_set_mid]
                  have hj6 : (θ5 ++ [Ob.dK (Dl h sk (l ++ [(false, m)]))])[θ5.length]? = some (.dK (Dl h sk (l ++ [(false, m)]))) := th_last
                  have e6 : Ext θ5 (θ5 ++ [Ob.dK (Dl h sk (l ++ [(false, m)]))]) := .app
                  generalize θ5.length = j6 at hj6 ⊢
                  generalize (θ5 ++ [Ob.dK (Dl h sk (l ++ [(false, m)]))]) = θ6 at hj6 e6 ⊢
                  rw [x_seqN]
                  simp only [mxDN, List.map_cons, List.map_nil, List.replicate, List.cons_append, List.nil_append, List.set_cons_zero, List.set_cons_succ, List.set_cons_zero, List.set_cons_succ]
                  refine dict_cp (e6.at (e5.at hd4)) ?_
                  rw [x_seqN]
                  simp only [mxDN, List.map_cons, List.map_nil, List.replicate, List.cons_append, List.nil_append, List.set_cons_zero, List.set_cons_succ, List.set_cons_zero, List.set_cons_succ, th_last]
                  refine ⟨two_line, lt_line (by unfold Dl; rw [List.length_map]; omega), ?_⟩
                  rw [ec2, Dl_put hmm, show ∀ o o' : Ob, (θ6 ++ [o]).set θ6.length o' = θ6 ++ [o'] from fun _ _ => th_set_mid]
                  have hj7 : (θ6 ++ [Ob.dK (Dl h sk (l ++ [(true, m)]))])[θ6.length]? = some (.dK (Dl h sk (l ++ [(true, m)]))) := th_last
                  have e7 : Ext θ6 (θ6 ++ [Ob.dK (Dl h sk (l ++ [(true, m)]))]) := .app
                  generalize θ6.length = j7 at hj7 ⊢
                  generalize (θ6 ++ [Ob.dK (Dl h sk (l ++ [(true, m)]))]) = θ7 at hj7 e7 ⊢
                  have ep : ((p + 1 : Nat) : Int) - 1 = ((p : Nat) : Int) := by omega
                  have e47 := e5.trans (e6.trans e7)
                  have hk7 := e47.at hk4
                  rw [x_seqN]
                  simp only [mxDN, List.map_cons, List.map_nil, List.replicate, List.cons_append, List.nil_append, List.set_cons_zero, List.set_cons_succ, List.set_cons_zero, List.set_cons_succ, ep]
                  refine ⟨rfl, ih p _ j6 θ7 kvs4 _ _ (by omega) (by omega) (ltC_app hc he) (ht4.ext e47) (e47.at hc4) (e7.at hj6) hk7 W4 fun θ8 kvs8 K8 hk8 W8 => ?_⟩
                  rw [x_seqN]
                  simp only [mxDN, List.map_cons, List.map_nil, List.replicate, List.cons_append, List.nil_append, List.set_cons_zero, List.set_cons_succ, List.set_cons_zero, List.set_cons_succ, ep]
                  have nd7 : j7 ≠ jk := fun e => by rw [e, hk7] at hj7; cases hj7
                  have ht7 := ht4.ext e47
                  have hc7 := e47.at hc4
                  cases h1 : tolB h sk k two p (l ++ [(false, m)]) with
                  | false =>
                    rw [if_neg Bool.false_ne_true]
                    exact nx _ _ _ θ8 kvs8 (by unfold tlQ; rw [h1]; simp) ((Kept.ext e47).trans K8) hk8 W8
                  | true =>
                    rw [if_pos rfl]
                    refine ⟨rfl, ih p _ j7 θ8 kvs8 _ _ (by omega) (by omega) (ltC_app hc he) (ht7.kept hk7 K8) (K8.at' _ _ nck hc7) (K8.at' _ _ nd7 hj7) hk8 W8 fun θ9 kvs9 K9 hk9 W9 => ?_⟩
                    exact nx _ _ _ θ9 kvs9 (by unfold tlQ; rw [h1, decide_eq_true he]; simp) ((Kept.ext e47).trans (K8.trans K9)) hk9 W9
          · rintro ρ θ4 ⟨x9, x10, x11, x12, x13, kvs4, rfl, K4, hk4, W4⟩
            refine ⟨by rw [src_L (K4.at' _ _ nLk hL)]; simp, ?_⟩
            rw [List.take_length]
            exact key _ _ _ _ _ θ4 kvs4 ((Kept.ext e3).trans K4) hk4 W4
end Sp

/-! Wa0: weights behind both answers; (k,) * n (as in k02's goal). -/
namespace Sp
open PySem PySem.Spec PyProof.Rows L2 Mn
theorem least {P : Nat → Prop} [DecidablePred P] : ∀ n : Nat, P n → ∃ b, b ≤ n ∧ P b ∧ ∀ q, q < b → ¬ P q
  | 0, h => ⟨0, Nat.le_refl _, h, fun q hq => by omega⟩
  | n + 1, h => by
    by_cases h2 : ∃ q, q ≤ n ∧ P q
    · obtain ⟨q, hq, hp⟩ := h2
      obtain ⟨b, h3, h4, h5⟩ := least q hp
      exact ⟨b, by omega, h4, h5⟩
    · exact ⟨n + 1, Nat.le_refl _, h, fun q hq hp => h2 ⟨q, by omega, hp⟩⟩
theorem dn_parts {a : Bool} {y : Int} {q : Nat} (hy : -1 ≤ y) : chs (q + 1) (y + 1).toNat = chs q (dn a y + 1).toNat + chs q (dn (!a) y + 1).toNat := by
  by_cases h0 : 0 ≤ y
  · obtain ⟨n, rfl⟩ : ∃ n : Nat, y = (n : Int) := ⟨y.toNat, by omega⟩
    have e1 : ((n : Int) + 1).toNat = n + 1 := by omega
    have e2 : ((n : Int) - 1 + 1).toNat = n := by omega
    have d1 : dn true (n : Int) = (n : Int) - 1 := by unfold dn; simp
    have d2 : dn false (n : Int) = (n : Int) := rfl
    cases a
    · show _ = chs q (dn false (n : Int) + 1).toNat + chs q (dn true (n : Int) + 1).toNat
      rw [d1, d2, e1, e2, chs_s]
    · show _ = chs q (dn true (n : Int) + 1).toNat + chs q (dn false (n : Int) + 1).toNat
      rw [d1, d2, e1, e2, chs_s, Nat.add_comm]
  · obtain rfl : y = -1 := by omega
    have d : ∀ a, dn a (-1) = -1 := fun a => by unfold dn; simp
    rw [d, d]
    rfl
theorem sum_add {f g k : Nat → Nat} : ∀ l : List Nat, (∀ i ∈ l, f i = g i + k i) → (l.map f).sum = (l.map g).sum + (l.map k).sum
  | [], _ => rfl
  | x :: l, h => by
    rw [List.map_cons, List.map_cons, List.map_cons, List.sum_cons, List.sum_cons, List.sum_cons, sum_add l fun i hi => h i (List.mem_cons_of_mem _ hi), h x List.mem_cons_self]
    omega
theorem wt_parts {as bs : List Bool} {st : List Int} {q : Nat} (h0 : ∀ y ∈ st, -1 ≤ y) (hb : ∀ i, i < st.length → bs.getD i false = !(as.getD i false)) : wt (q + 1) st = wt q (dns as st) + wt q (dns bs st) := by
  have e1 : wt (q + 1) st = ((List.range st.length).map fun i => chs (q + 1) (st.getD i 0 + 1).toNat).sum := by
    unfold wt
    congr 1
    apply List.ext_getElem?
    intro i
    by_cases hi : i < st.length
    · simp [hi, List.getD_eq_getElem?_getD]
    · rw [List.getElem?_eq_none (by simp; omega), List.getElem?_eq_none (by simp; omega)]
  have e2 : ∀ cs : List Bool, wt q (dns cs st) = ((List.range st.length).map fun i => chs q (dn (cs.getD i false) (st.getD i 0) + 1).toNat).sum := fun cs => by
    unfold wt dns
    rw [List.map_map]
    rfl
  rw [e1, e2, e2]
  refine sum_add _ fun i hi => ?_
  have hi := List.mem_range.mp hi
  rw [hb i hi]
  refine dn_parts (h0 _ ?_)
  rw [List.getD_eq_getElem?_getD, List.getElem?_eq_getElem hi]
  exact List.getElem_mem _
theorem dn_rng {a : Bool} {y : Int} {k : Int} (h1 : -1 ≤ y) (h2 : y ≤ k) : -1 ≤ dn a y ∧ dn a y ≤ k := by
  unfold dn
  split
  · rename_i h
    have : 0 ≤ y := by
      rw [Bool.and_eq_true] at h
      exact of_decide_eq_true h.2
    omega
  · exact ⟨h1, h2⟩
end Sp

/-! Wa3: the law's fewest tests, rows and useful tests; the weight of the fewest tests. -/
namespace Sp
open PySem PySem.Spec PyProof.Rows L2 Mn
variable {E : Exn → Th → Prop} {θ : Th} {Q : Dv → Th → Prop} {h : Hist} {sk : List Nat} {st : List Int} {n top : Nat}
/-! ### the weight -/
theorem wt_ins : wt 0 st = (insL st).length := by
  rw [wt_zero]
  have := rng_filterG (0 : Int) (fun x => decide (0 ≤ x)) (fun x => Dv.int x) st
  have h2 := congrArg List.length this
  rw [List.length_map, List.length_map] at h2
  exact h2.symm
theorem dns_lo {as : List Bool} {st : List Int} (h0 : ∀ y ∈ st, -1 ≤ y) : ∀ y ∈ dns as st, -1 ≤ y := fun y hy => by
  unfold dns at hy
  obtain ⟨i, hi, rfl⟩ := List.mem_map.mp hy
  have hi := List.mem_range.mp hi
  have hm : st.getD i 0 ∈ st := by
    rw [List.getD_eq_getElem?_getD, List.getElem?_eq_getElem hi]
    exact List.getElem_mem _
  exact (dn_rng (h0 _ hm) (Int.le_refl _)).1
theorem wt_need (tp : ∀ c, c < h.length → Anc h (h.length - 1) c) : ∀ (f : Nat) (st : List Int), muS st < f → st.length = nc h sk → (∀ y ∈ st, -1 ≤ y) → wt (needS h sk st) st ≤ 2 ^ needS h sk st := by
  intro f
  induction f with
  | zero => intro st hf; omega
  | succ f ih =>
    intro st hf hs h0
    by_cases h1 : (insL st).length ≤ 1
    · rw [need_none hs (ins_us h1), wt_ins]
      exact h1
    · have hu : usL h sk st ≠ [] := by
        have nd : (insL st).Nodup := List.nodup_range.sublist List.filter_sublist
        match hI : insL st, h1 with
        | [], h1 => exact absurd (Nat.zero_le 1) h1
        | [_], h1 => exact absurd (Nat.le_refl 1) h1
        | a :: b :: r, _ =>
          rw [hI, List.nodup_cons] at nd
          exact us_twoT tp hs (i := a) (j := b) (by rw [hI]; exact .head _) (by rw [hI]; exact .tail _ (.head _)) fun e => nd.1 (e ▸ List.mem_cons_self)
      obtain ⟨b1, b2⟩ := bw_is hs hu
      have en : needS h sk st = max (needS h sk (bhS h sk st (bwM h sk st) true)) (needS h sk (bhS h sk st (bwM h sk st) false)) + 1 := by
        unfold needS
        rw [b2]
        exact Nat.add_comm _ _
      have q : ∀ b, wt (max (needS h sk (bhS h sk st (bwM h sk st) true)) (needS h sk (bhS h sk st (bwM h sk st) false))) (bhS h sk st (bwM h sk st) b) ≤ 2 ^ max (needS h sk (bhS h sk st (bwM h sk st) true)) (needS h sk (bhS h sk st (bwM h sk st) false)) := fun b => by
        have i1 := ih (bhS h sk st (bwM h sk st) b) (by have := us_lt (b := b) b1 hs; omega) (by rw [bhS_len]; exact hs) (dns_lo h0)
        obtain ⟨d, hd⟩ : ∃ d, max (needS h sk (bhS h sk st (bwM h sk st) true)) (needS h sk (bhS h sk st (bwM h sk st) false)) = needS h sk (bhS h sk st (bwM h sk st) b) + d := by
          refine ⟨max (needS h sk (bhS h sk st (bwM h sk st) true)) (needS h sk (bhS h sk st (bwM h sk st) false)) - needS h sk (bhS h sk st (bwM h sk st) b), ?_⟩
          cases b <;> omega
        rw [hd]
        exact wt_light i1 d
      have q1 := q true
      have q2 := q false
      rw [en]
      generalize max (needS h sk (bhS h sk st (bwM h sk st) true)) (needS h sk (bhS h sk st (bwM h sk st) false)) = w at q1 q2
      have e := wt_parts (as := (mkB h sk (bwM h sk st)).map (· != true)) (bs := (mkB h sk (bwM h sk st)).map (· != false)) (st := st) (q := w) h0 fun i hi => by
        rw [mkx_get (by omega), mkx_get (by omega)]
        cases (mkB h sk (bwM h sk st)).getD i false <;> rfl
      rw [e, Nat.pow_succ]
      unfold bhS at q1 q2
      omega
end Sp

/-! Wa4: the law's states and cases. -/
namespace Sp
open PySem PySem.Spec PyProof.Rows L2 Mn
variable {E : Exn → Th → Prop} {θ : Th} {Q : Dv → Th → Prop} {h : Hist} {sk : List Nat} {st : List Int} {n top : Nat}
noncomputable abbrev rowP (h : Hist) (sk : List Nat) (m : Nat) : PyData := .tuple [.int (m : Nat), .tuple ((mkB h sk m).map PyData.bool)]
end Sp

/-! Wa5: chains. -/
namespace Sp
open PySem PySem.Spec PyProof.Rows L2 Mn
section
variable {E : Exn → Th → Prop} {θ : Th} {Q : Dv → Th → Prop}
def chH (m : Nat) : Hist := (List.range m).map fun k => (⟨#[97 + k]⟩, if k = 0 then [] else [k - 1])
theorem ch_len {m : Nat} : (chH m).length = m := by unfold chH; simp
theorem ch_at {m k : Nat} (h : k < m) : (chH m)[k]? = some (⟨#[97 + k]⟩, if k = 0 then [] else [k - 1]) := by unfold chH; simp [h]
theorem ch_par {m k : Nat} (h : k < m) : par (chH m) k = if k = 0 then [] else [k - 1] := by
  unfold par
  rw [ch_at h]
theorem ch_ahead {m : Nat} : Ahead (chH m) := fun k p hp => by
  by_cases hk : k < m
  · rw [ch_par hk] at hp
    split at hp
    · cases hp
    · rw [List.mem_singleton.mp hp]
      omega
  · unfold par at hp
    rw [List.getElem?_eq_none (by rw [ch_len]; omega)] at hp
    cases hp
theorem ch_last {m : Nat} : ∀ d j, j + d + 1 = m → Anc (chH m) (m - 1) j
  | 0, j, h => by
    have : j = m - 1 := by omega
    subst this
    exact .self
  | d + 1, j, h => by
    have ih := ch_last (m := m) d (j + 1) (by omega)
    refine .step ih (Nat.zero_le _) ?_
    rw [ch_par (by omega), if_neg (by omega)]
    simp
theorem two_up (S : Th) (a b : Ob) : (S ++ [a] ++ [b])[S.length + 1]? = some b := by
  rw [show S.length + 1 = (S ++ [a]).length by simp]
  exact th_last
/-- the law's chain -/
theorem s_chain {m : Nat} (hm : m ≤ 25) (hQ : Q (hD (chH m)) θ) : Cm11.c__law_chain [.int (m : Nat)] E θ Q := by
  unfold Cm11.c__law_chain Cm11.m__law_chain
  simp only [mxCN, List.map_cons, List.map_nil, List.replicate, List.cons_append, List.nil_append, List.set_cons_zero, List.set_cons_succ, wipeE]
  rw [x_seqN]
  simp only [mxCN, List.map_cons, List.map_nil, List.replicate, List.cons_append, List.nil_append, List.set_cons_zero, List.set_cons_succ, wipeE]
  refine ⟨⟨by omega, by omega⟩, ?_⟩
  refine lc_pure m (fun _ => true) (fun k => mk (⟨#[97 + k]⟩, if k = 0 then [] else [k - 1])) (by rw [sizeLine_eq]; omega) ?_ ?_ ?_
  · intro i acc g hi
    refine ⟨.int (i : Nat), _, by rw [show ((m : Nat) : Int).toNat = m from rfl, rng_at hi]; simp, rfl, fun K hK => ?_⟩
    simp only [mxC, List.map_cons, List.map_nil, List.replicate, List.cons_append, List.nil_append, List.set_cons_zero, List.set_cons_succ]
    refine hK g fun _ K2 h2 => ?_
    simp only [mxCN, List.map_cons, List.map_nil, List.replicate, List.cons_append, List.nil_append, List.set_cons_zero, List.set_cons_succ]
    refine ⟨by decide, 97 + i, ?_, one_line, ?_⟩
    · rw [letters]
      exact at_nat (by rw [List.getElem?_map, List.getElem?_range (by omega)]; rfl)
    · have mul : ∀ (S : Th) (R : Dv → Th → Prop), R (.obj (S.length + 1)) (S ++ [Ob.lst [Dv.int ((i : Int) - 1)]] ++ [Ob.lst (nd (if i = 0 then [] else [i - 1]))]) → oMul (.obj S.length) (.int (if decide (0 < (i : Int)) = true then 1 else 0)) (fun _ _ => False) (S ++ [Ob.lst [Dv.int ((i : Int) - 1)]]) R := fun S R hR => by
        show (match (S ++ [Ob.lst [Dv.int ((i : Int) - 1)]])[S.length]? with
          | some (.lst a) => -(2 ^ 63) ≤ (if decide (0 < (i : Int)) = true then (1 : Int) else 0) ∧ (if decide (0 < (i : Int)) = true then (1 : Int) else 0) < 2 ^ 63 ∧ a.length * (if decide (0 < (i : Int)) = true then (1 : Int) else 0).toNat ≤ sizeLine ∧ R (.obj (S ++ [Ob.lst [Dv.int ((i : Int) - 1)]]).length) (S ++ [Ob.lst [Dv.int ((i : Int) - 1)]] ++ [.lst (List.replicate (if decide (0 < (i : Int)) = true then (1 : Int) else 0).toNat a).flatten])
          | _ => False)
        rw [th_last]
        by_cases h0 : i = 0
        · subst h0
          refine ⟨by decide, by decide, by rw [sizeLine_eq]; decide, ?_⟩
          rw [List.length_append]
          exact hR
        · rw [if_pos (decide_eq_true (show 0 < (i : Int) by omega))]
          refine ⟨by decide, by decide, by rw [sizeLine_eq]; show 1 * 1 ≤ 16777216; omega, ?_⟩
          rw [List.length_append]
          rw [if_neg h0] at hR
          have e2 : nd [i - 1] = [Dv.int ((i : Int) - 1)] := by
            show [Dv.int ((i - 1 : Nat) : Int)] = _
            rw [show ((i - 1 : Nat) : Int) = (i : Int) - 1 by omega]
          rw [e2] at hR
          exact hR
      refine mul _ _ ?_
      rw [x_tupO (ds := nd (if i = 0 then [] else [i - 1])) (two_up _ _ _)]
      refine ⟨two_line, ?_⟩
      rw [List.append_assoc, List.append_assoc, List.cons_append]
      exact h2 _
  · intro acc g
    rw [show ((m : Nat) : Int).toNat = m from rfl]
    exact rng_end
  · intro g
    rw [List.filter_eq_self.mpr fun _ _ => rfl, th_mid, x_tupL]
    refine ⟨two_line, ?_⟩
    have e : ((List.range m).map fun k => mk (⟨#[97 + k]⟩, if k = 0 then [] else [k - 1])) = (chH m).map mk := by unfold chH; rw [List.map_map]; rfl
    rw [e]
    exact end_drop hQ (hD_low _)

end
theorem ch_anc {n : Nat} : ∀ d c, c + d < n → Anc (chH n) (c + d) c
  | 0, c, _ => .self
  | d + 1, c, h => Anc.head.mpr (.inr ⟨c + d, by rw [ch_par h, if_neg (by omega)]; show c + d ∈ [c + (d + 1) - 1]; simp, ch_anc d c (by omega)⟩)
theorem ch_le {n m c : Nat} (h : Anc (chH n) m c) : c ≤ m := by
  induction h with
  | self => exact Nat.le_refl _
  | step r h1 h2 ih =>
    have := ch_ahead _ _ h2
    omega
theorem ch_nc {n : Nat} : nc (chH n) [] = n := by
  unfold nc
  rw [cls_nil ch_ahead, List.length_map, List.length_range, ch_len]
theorem ch_fr {n i : Nat} (hi : i < n) : (fr (chH n) []).getD i 0 = i := by
  unfold fr
  rw [cls_nil ch_ahead, ch_len, List.map_map, List.getD_eq_getElem?_getD, List.getElem?_map, List.getElem?_range hi]
  rfl
theorem ch_mark {n m i : Nat} (hm : m < n) (hi : i < n) : (mkB (chH n) [] m).getD i false = decide (i ≤ m) := by
  rw [mk_get (by rw [ch_nc]; exact hi), ch_fr hi, Bool.eq_iff_iff, anc_iff, decide_eq_true_eq]
  refine ⟨ch_le, fun h => ?_⟩
  have := ch_anc (n := n) (m - i) i (by omega)
  rw [show i + (m - i) = m by omega] at this
  exact this
theorem ch_top {n : Nat} : ∀ c, c < (chH n).length → Anc (chH n) ((chH n).length - 1) c := fun c hc => by
  rw [ch_len] at hc ⊢
  exact ch_last (n - 1 - c) c (by omega)
/-- the candidates from a to b, b not among them -/
def ivS (n a b : Nat) : List Int := (List.range n).map fun i => if a ≤ i ∧ i < b then 0 else -1
theorem iv_len {n a b : Nat} : (ivS n a b).length = n := by unfold ivS; simp
theorem iv_get {n a b i : Nat} (hi : i < n) : (ivS n a b).getD i 0 = if a ≤ i ∧ i < b then 0 else -1 := by
  unfold ivS
  rw [List.getD_eq_getElem?_getD, List.getElem?_map, List.getElem?_range hi]
  rfl
theorem iv_ins {n a b i : Nat} (hb : b ≤ n) : i ∈ insL (ivS n a b) ↔ a ≤ i ∧ i < b := by
  constructor
  · intro h
    obtain ⟨h1, h2⟩ := ins_lt h
    rw [iv_len] at h1
    rw [iv_get h1] at h2
    split at h2
    · assumption
    · omega
  · rintro ⟨h1, h2⟩
    refine ins_in (by rw [iv_len]; omega) ?_
    rw [iv_get (by omega), if_pos ⟨h1, h2⟩]
    exact Int.le_refl _
theorem one_mem {l : List Nat} {a : Nat} (nd : l.Nodup) (h : ∀ x ∈ l, x = a) : l.length ≤ 1 := by
  match l, nd, h with
  | [], _, _ => exact Nat.zero_le _
  | [_], _, _ => exact Nat.le_refl _
  | x :: y :: r, nd, h =>
    rw [List.nodup_cons] at nd
    exact absurd (by rw [h x (.head _), h y (.tail _ (.head _))]; exact .head _) nd.1
theorem iv_bh {n a b m : Nat} {c : Bool} (hm : m + 1 < b) (ha : a ≤ m) (hb : b ≤ n) : bhS (chH n) [] (ivS n a b) m c = if c then ivS n a (m + 1) else ivS n (m + 1) b := by
  apply List.ext_getElem
  · rw [bhS_len, iv_len]
    cases c <;> simp [iv_len]
  · intro i h1 h2
    have hi : i < n := by rw [bhS_len, iv_len] at h1; exact h1
    have e1 : (bhS (chH n) [] (ivS n a b) m c).getD i 0 = dn (decide (i ≤ m) != c) (if a ≤ i ∧ i < b then 0 else -1) := by
      unfold bhS
      rw [dns_get (by rw [iv_len]; exact hi), mkx_get (by rw [ch_nc]; exact hi), ch_mark (by omega) hi, iv_get hi]
    have e2 : (bhS (chH n) [] (ivS n a b) m c).getD i 0 = (bhS (chH n) [] (ivS n a b) m c)[i] := by rw [List.getD_eq_getElem?_getD, List.getElem?_eq_getElem h1]; rfl
    have e3 : (if c then ivS n a (m + 1) else ivS n (m + 1) b).getD i 0 = (if c then ivS n a (m + 1) else ivS n (m + 1) b)[i] := by rw [List.getD_eq_getElem?_getD, List.getElem?_eq_getElem h2]; rfl
    rw [← e2, ← e3, e1]
    unfold dn
    cases c
    · rw [if_neg Bool.false_ne_true, iv_get hi]
      by_cases h : i ≤ m
      · rw [decide_eq_true h]
        by_cases h3 : a ≤ i ∧ i < b
        · rw [if_pos h3, if_neg (show ¬ (m + 1 ≤ i ∧ i < b) by omega)]; rfl
        · rw [if_neg h3, if_neg (show ¬ (m + 1 ≤ i ∧ i < b) by omega)]; rfl
      · rw [decide_eq_false h]
        by_cases h3 : a ≤ i ∧ i < b
        · rw [if_pos h3, if_pos (show (m + 1 ≤ i ∧ i < b) by omega)]; rfl
        · rw [if_neg h3, if_neg (show ¬ (m + 1 ≤ i ∧ i < b) by omega)]; rfl
    · rw [if_pos rfl, iv_get hi]
      by_cases h : i ≤ m
      · rw [decide_eq_true h]
        by_cases h3 : a ≤ i ∧ i < b
        · rw [if_pos h3, if_pos (show (a ≤ i ∧ i < m + 1) by omega)]; rfl
        · rw [if_neg h3, if_neg (show ¬ (a ≤ i ∧ i < m + 1) by omega)]; rfl
      · rw [decide_eq_false h]
        by_cases h3 : a ≤ i ∧ i < b
        · rw [if_pos h3, if_neg (show ¬ (a ≤ i ∧ i < m + 1) by omega)]; rfl
        · rw [if_neg h3, if_neg (show ¬ (a ≤ i ∧ i < m + 1) by omega)]; rfl
theorem iv_need : ∀ (r n a b : Nat), b ≤ n → b - a ≤ 2 ^ r → needS (chH n) [] (ivS n a b) ≤ r := by
  intro r
  induction r with
  | zero =>
    intro n a b hb h
    rw [Nat.pow_zero] at h
    rw [need_none (by rw [iv_len, ch_nc]) (ins_us (one_mem (a := a) (List.nodup_range.sublist List.filter_sublist) fun x hx => by have := (iv_ins hb).mp hx; omega))]
    exact Nat.le_refl _
  | succ r ih =>
    intro n a b hb h
    by_cases h1 : b - a ≤ 2 ^ r
    · have := ih n a b hb h1
      omega
    · have hp : 0 < 2 ^ r := Nat.pow_pos (by omega)
      rw [Nat.pow_succ] at h
      obtain ⟨m, hm⟩ : ∃ m, m + 1 = a + 2 ^ r := ⟨a + 2 ^ r - 1, by omega⟩
      have hu : m ∈ usL (chH n) [] (ivS n a b) := by
        refine List.mem_filter.mpr ⟨List.mem_filter.mpr ⟨List.mem_range.mpr (by rw [ch_len]; omega), by simp⟩, ?_⟩
        unfold prtB
        rw [Bool.and_eq_true, List.any_eq_true, List.any_eq_true]
        refine ⟨⟨a, (iv_ins hb).mpr ⟨Nat.le_refl _, by omega⟩, ?_⟩, ⟨m + 1, (iv_ins hb).mpr ⟨by omega, by omega⟩, ?_⟩⟩
        · rw [ch_mark (by omega) (by omega), decide_eq_true_eq]
          omega
        · rw [ch_mark (by omega) (by omega), decide_eq_false (by omega)]
          rfl
      have q := need_us (by rw [iv_len, ch_nc]) hu
      have q1 := ih n a (m + 1) (by omega) (by omega)
      have q2 := ih n (m + 1) b hb (by omega)
      rw [iv_bh (by omega) (by omega) hb, iv_bh (by omega) (by omega) hb, if_pos rfl, if_neg Bool.false_ne_true] at q
      omega
theorem iv_all {n : Nat} : List.replicate (nc (chH n) []) (0 : Int) = ivS n 0 n := by
  rw [ch_nc]
  apply List.ext_getElem
  · rw [List.length_replicate, iv_len]
  · intro i h1 h2
    rw [iv_len] at h2
    have e3 := iv_get (n := n) (a := 0) (b := n) h2
    rw [List.getD_eq_getElem?_getD, List.getElem?_eq_getElem (by rw [iv_len]; exact h2), if_pos ⟨Nat.zero_le _, h2⟩] at e3
    rw [List.getElem_replicate]
    exact e3.symm
theorem wt_rep {q : Nat} : ∀ n : Nat, wt q (List.replicate n 0) = n
  | 0 => rfl
  | n + 1 => by
    rw [List.replicate_succ, wt_cons, wt_rep n]
    have : chs q ((0 : Int) + 1).toNat = 1 := by
      show chs q 1 = 1
      simp [chs, cho_0]
    omega
theorem ch_need {n r : Nat} (h1 : n ≤ 2 ^ r) (h2 : r = 0 ∨ 2 ^ (r - 1) < n) : needS (chH n) [] (List.replicate (nc (chH n) []) ((0 : Nat) : Int)) = r := by
  have u : needS (chH n) [] (List.replicate (nc (chH n) []) ((0 : Nat) : Int)) ≤ r := by
    show needS (chH n) [] (List.replicate (nc (chH n) []) (0 : Int)) ≤ r
    rw [iv_all]
    exact iv_need r n 0 n (Nat.le_refl _) (by omega)
  have w := wt_need (h := chH n) (sk := []) ch_top (muS (List.replicate (nc (chH n) []) (0 : Int)) + 1) (List.replicate (nc (chH n) []) (0 : Int)) (Nat.lt_succ_self _) (by rw [List.length_replicate]) (fun y hy => by rw [List.eq_of_mem_replicate hy]; omega)
  rw [wt_rep, ch_nc] at w
  rcases h2 with z | z
  · omega
  · refine Nat.le_antisymm u (Nat.le_of_not_lt fun lt => ?_)
    have e : needS (chH n) [] (List.replicate (nc (chH n) []) ((0 : Nat) : Int)) ≤ r - 1 := by omega
    have := Nat.pow_le_pow_right (n := 2) (by omega) e
    rw [ch_nc] at this
    have w2 : n ≤ 2 ^ needS (chH n) [] (List.replicate n (((0 : Nat) : Int))) := w
    omega
end Sp

/-! Wb5: the program's fewest tests by make, in the law's words. -/
namespace Sp
open PySem PySem.Spec PyProof.Rows L2 Mn
variable {E : Exn → Th → Prop} {θ : Th} {Q : Dv → Th → Prop} {h : Hist} {sk : List Nat} {k n N : Nat} {two : Bool}
theorem mst_le : mst two k ≤ 2 * k + 1 := by unfold mst; split <;> omega
theorem s_fbm23 (a : Ahead h) (hl : h.length ≤ 1000) (hw : ∀ k, (par h k).length ≤ 1000) (hm : muS (st0 h sk) < 20) (hk : k ≤ 1000) (htop : (0 + 2) ^ nc h sk ≤ 20000) (hF : needS h sk (st0 h sk) ≤ 1000)
    (hQ : Q (.int (mst two k * needS h sk (st0 h sk) : Nat)) θ) : Cm23.c_fewest_by_make [hD h, .tup (nd sk), .int (k : Nat), .str (rl two)] E θ Q := by
  have nl := nc_le (h := h) (sk := sk)
  unfold Cm23.c_fewest_by_make Cm23.m_fewest_by_make
  simp only [mxDN, List.map_cons, List.map_nil, List.replicate, List.cons_append, List.nil_append, List.set_cons_zero, List.set_cons_succ]
  refine ⟨rfl, s_most hk ?_⟩
  refine ⟨rfl, s_fewest20 (k := 0) a hl hw hm (by omega) htop ?_⟩
  rw [x_mulI]
  have m1 := mst_le (two := two) (k := k)
  refine ⟨.inl ⟨by omega, by omega⟩, ?_⟩
  rw [Int.natCast_mul] at hQ
  exact end_same hQ
theorem s_longchain {m : Nat} (hm : m ≤ 25) (hQ : Q (hD (chH m)) θ) : Cm23.c__law_long_chain [.int (m : Nat)] E θ Q := by
  have := s_chain (E := E) (θ := θ) (Q := Q) hm hQ
  exact this
theorem ch_par5 {n : Nat} : ∀ k, (par (chH n) k).length ≤ 1000 := fun k => by
  by_cases hk : k < n
  · rw [ch_par hk]
    split <;> simp
  · unfold par
    rw [List.getElem?_eq_none (by rw [ch_len]; omega)]
    exact Nat.zero_le _
theorem mu_st0 : muS (st0 h sk) ≤ nc h sk := by
  have s : (st0 h sk).length = nc h sk := by unfold st0; rw [List.length_replicate]
  unfold muS
  rw [s]
  have e : ∀ l : List Nat, (l.map fun i => ((st0 h sk).getD i 0 + 1).toNat).sum ≤ l.length := by
    intro l
    induction l with
    | nil => exact Nat.zero_le _
    | cons x l ih =>
      rw [List.map_cons, List.sum_cons, List.length_cons]
      have : (st0 h sk).getD x 0 = 0 := by
        unfold st0
        rw [List.getD_eq_getElem?_getD, List.getElem?_replicate]
        split <;> rfl
      rw [this]
      show 1 + _ ≤ _
      omega
  have := e (List.range (nc h sk))
  rw [List.length_range] at this
  exact this
theorem s_asked14 (hk : k ≤ 1000) (hQ : Q (.int (mst two k * 4 : Nat)) θ) : Cm23.c__law_asked [.int 14, .int (k : Nat), .str (rl two)] E θ Q := by
  unfold Cm23.c__law_asked Cm23.m__law_asked
  simp only [mxDN, List.map_cons, List.map_nil, List.replicate, List.cons_append, List.nil_append, List.set_cons_zero, List.set_cons_succ]
  rw [x_try]
  simp only [mxDN, List.map_cons, List.map_nil, List.replicate, List.cons_append, List.nil_append, List.set_cons_zero, List.set_cons_succ]
  refine ⟨rfl, s_longchain (m := 14) (by omega) ?_⟩
  have hn := ch_need (n := 14) (r := 4) (by decide) (.inr (by decide))
  have mu := mu_st0 (h := chH 14) (sk := [])
  rw [ch_nc] at mu
  refine ⟨Nat.zero_le _, rfl, s_fbm23 (sk := []) ch_ahead (by rw [ch_len]; decide) ch_par5 (by omega) hk (by rw [ch_nc]; decide) (by show needS (chH 14) [] (List.replicate (nc (chH 14) []) ((0 : Nat) : Int)) ≤ 1000; rw [hn]; decide) ?_⟩
  have e : needS (chH 14) [] (st0 (chH 14) []) = 4 := hn
  rw [e]
  exact end_same hQ
theorem s_asked15 (hk : k ≤ 1000) (hQ : Q (.int (-1)) θ) : Cm23.c__law_asked [.int 15, .int (k : Nat), .str (rl two)] E θ Q := by
  unfold Cm23.c__law_asked Cm23.m__law_asked
  simp only [mxDN, List.map_cons, List.map_nil, List.replicate, List.cons_append, List.nil_append, List.set_cons_zero, List.set_cons_succ]
  rw [x_try]
  simp only [mxDN, List.map_cons, List.map_nil, List.replicate, List.cons_append, List.nil_append, List.set_cons_zero, List.set_cons_succ]
  refine ⟨rfl, s_longchain (m := 15) (by omega) ?_⟩
  refine ⟨Nat.zero_le _, rfl, ?_⟩
  unfold Cm23.c_fewest_by_make Cm23.m_fewest_by_make
  simp only [mxDN, List.map_cons, List.map_nil, List.replicate, List.cons_append, List.nil_append, List.set_cons_zero, List.set_cons_succ]
  refine ⟨rfl, s_most hk ?_⟩
  refine ⟨rfl, ?_⟩
  unfold Cm22.c_fewest Cm22.m_fewest
  simp only [mxDN, List.map_cons, List.map_nil, List.replicate, List.cons_append, List.nil_append, List.set_cons_zero, List.set_cons_succ]
  refine ⟨rfl, s_start (k := 0) (sk := []) ch_ahead (by rw [ch_len]; decide) ch_par5 ?_⟩
  refine ⟨rfl, ?_⟩
  unfold Cm22.c_fewest_from Cm22.m_fewest_from
  simp only [mxDN, List.map_cons, List.map_nil, List.replicate, List.cons_append, List.nil_append, List.set_cons_zero, List.set_cons_succ, x_meth, x_make]
  refine ⟨rfl, s_checkbad (b := 0) (fun y hy => by rw [List.eq_of_mem_replicate hy]; decide) (.inl rfl) (by rw [List.length_replicate, ch_nc]; decide) (by rw [List.length_replicate, ch_nc]; decide) (by rw [List.length_replicate, ch_nc]; decide) fun θ' e => ?_⟩
  refine ⟨true, lk1, fun _ => ?_, fun z => Bool.noConfusion z⟩
  simp only [mxDN, List.map_cons, List.map_nil, List.replicate, List.cons_append, List.nil_append, List.set_cons_zero, List.set_cons_succ]
  exact end_ext hQ e fun _ => rfl
end Sp

set_option maxHeartbeats 1000000
namespace K26
open PySem PySem.Spec PyProof.Rows L2 Mn
def topS (i : Nat) : Stmt := PySem.Challenge.pw_firstbreak_k26_fewest_by_all_tests.main.body.getD i (.Pass ⟨0, 0, 0, 0⟩)
abbrev stm_most_tests : Stmt := topS 25
abbrev N_most_tests : List Str := ["k", "rule"]
theorem sc_most_tests : FnScope N_most_tests ["k", "rule"] (defScope stm_most_tests) := ⟨rfl, rfl, rfl, by decide +kernel, rfl, by decide +kernel, by decide +kernel⟩
abbrev stm_inside : Stmt := topS 15
abbrev N_inside : List Str := ["state", "at", "left"]
theorem sc_inside : FnScope N_inside ["state"] (defScope stm_inside) := ⟨rfl, rfl, rfl, by decide +kernel, rfl, by decide +kernel, by decide +kernel⟩
abbrev stm_parts : Stmt := topS 19
abbrev N_parts : List Str := ["state", "marked", "found", "at"]
theorem sc_parts : FnScope N_parts ["state", "marked"] (defScope stm_parts) := ⟨rfl, rfl, rfl, by decide +kernel, rfl, by decide +kernel, by decide +kernel⟩
abbrev stm_taken : Stmt := topS 14
abbrev N_taken : List Str := ["state", "marked", "kind", "left", "mark"]
theorem sc_taken : FnScope N_taken ["state", "marked", "kind"] (defScope stm_taken) := ⟨rfl, rfl, rfl, by decide +kernel, rfl, by decide +kernel, by decide +kernel⟩
abbrev stm_Search_ways : Stmt := inCls (topS 23) 4
abbrev N_Search_ways : List Str := ["self", "state", "step", "m", "marked"]
theorem sc_Search_ways : FnScope N_Search_ways ["self", "state"] (defScope stm_Search_ways) := ⟨rfl, rfl, rfl, by decide +kernel, rfl, by decide +kernel, by decide +kernel⟩
abbrev stm_Search_worth : Stmt := inCls (topS 23) 3
abbrev N_Search_worth : List Str := ["self", "state", "m", "broken", "works"]
theorem sc_Search_worth : FnScope N_Search_worth ["self", "state", "m", "broken", "works"] (defScope stm_Search_worth) := ⟨rfl, rfl, rfl, by decide +kernel, rfl, by decide +kernel, by decide +kernel⟩
abbrev stm_Search_best : Stmt := inCls (topS 23) 2
abbrev N_Search_best : List Str := ["self", "state", "found", "m", "broken", "works"]
theorem sc_Search_best : FnScope N_Search_best ["self", "state"] (defScope stm_Search_best) := ⟨rfl, rfl, rfl, by decide +kernel, rfl, by decide +kernel, by decide +kernel⟩
abbrev stm_Search_needed : Stmt := inCls (topS 23) 1
abbrev N_Search_needed : List Str := ["self", "state"]
theorem sc_Search_needed : FnScope N_Search_needed ["self", "state"] (defScope stm_Search_needed) := ⟨rfl, rfl, rfl, by decide +kernel, rfl, by decide +kernel, by decide +kernel⟩
abbrev stm_which_are_in : Stmt := topS 11
abbrev N_which_are_in : List Str := ["candidates", "row", "c"]
theorem sc_which_are_in : FnScope N_which_are_in ["candidates", "row"] (defScope stm_which_are_in) := ⟨rfl, rfl, rfl, by decide +kernel, rfl, by decide +kernel, by decide +kernel⟩
abbrev stm_ancestors : Stmt := topS 5
abbrev N_ancestors : List Str := ["history", "m", "makes", "reached", "at", "parent", "one"]
theorem sc_ancestors : FnScope N_ancestors ["history", "m"] (defScope stm_ancestors) := ⟨rfl, rfl, rfl, by decide +kernel, rfl, by decide +kernel, by decide +kernel⟩
abbrev stm_offspring : Stmt := topS 6
abbrev N_offspring : List Str := ["history", "m", "found", "at", "_", "parents", "parent"]
theorem sc_offspring : FnScope N_offspring ["history", "m"] (defScope stm_offspring) := ⟨rfl, rfl, rfl, by decide +kernel, rfl, by decide +kernel, by decide +kernel⟩
abbrev stm_classes : Stmt := topS 8
abbrev N_classes : List Str := ["history", "skipped", "rows", "c", "telling", "m", "row"]
theorem sc_classes : FnScope N_classes ["history", "skipped"] (defScope stm_classes) := ⟨rfl, rfl, rfl, by decide +kernel, rfl, by decide +kernel, by decide +kernel⟩
abbrev stm_marks : Stmt := topS 10
abbrev N_marks : List Str := ["history", "skipped", "makes", "firsts", "row", "m"]
theorem sc_marks : FnScope N_marks ["history", "skipped", "makes"] (defScope stm_marks) := ⟨rfl, rfl, rfl, by decide +kernel, rfl, by decide +kernel, by decide +kernel⟩
abbrev stm_tests : Stmt := topS 9
abbrev N_tests : List Str := ["history", "skipped", "m"]
theorem sc_tests : FnScope N_tests ["history", "skipped"] (defScope stm_tests) := ⟨rfl, rfl, rfl, by decide +kernel, rfl, by decide +kernel, by decide +kernel⟩
abbrev stm_marked_tests : Stmt := topS 18
abbrev N_marked_tests : List Str := ["history", "skipped", "makes"]
theorem sc_marked_tests : FnScope N_marked_tests ["history", "skipped"] (defScope stm_marked_tests) := ⟨rfl, rfl, rfl, by decide +kernel, rfl, by decide +kernel, by decide +kernel⟩
abbrev stm_Search___init__ : Stmt := inCls (topS 23) 0
abbrev N_Search___init__ : List Str := ["self", "history", "skipped", "step"]
theorem sc_Search___init__ : FnScope N_Search___init__ ["self", "history", "skipped", "step"] (defScope stm_Search___init__) := ⟨rfl, rfl, rfl, by decide +kernel, rfl, by decide +kernel, by decide +kernel⟩
abbrev stm_check_size : Stmt := topS 20
abbrev N_check_size : List Str := ["state", "each", "size", "_"]
theorem sc_check_size : FnScope N_check_size ["state"] (defScope stm_check_size) := ⟨rfl, rfl, rfl, by decide +kernel, rfl, by decide +kernel, by decide +kernel⟩
abbrev stm_fewest_from : Stmt := topS 21
abbrev N_fewest_from : List Str := ["history", "skipped", "state"]
theorem sc_fewest_from : FnScope N_fewest_from ["history", "skipped", "state"] (defScope stm_fewest_from) := ⟨rfl, rfl, rfl, by decide +kernel, rfl, by decide +kernel, by decide +kernel⟩
abbrev stm_start : Stmt := topS 13
abbrev N_start : List Str := ["history", "skipped", "k", "_"]
theorem sc_start : FnScope N_start ["history", "skipped", "k"] (defScope stm_start) := ⟨rfl, rfl, rfl, by decide +kernel, rfl, by decide +kernel, by decide +kernel⟩
abbrev stm_fewest : Stmt := topS 22
abbrev N_fewest : List Str := ["history", "skipped", "k"]
theorem sc_fewest : FnScope N_fewest ["history", "skipped", "k"] (defScope stm_fewest) := ⟨rfl, rfl, rfl, by decide +kernel, rfl, by decide +kernel, by decide +kernel⟩
abbrev stm_fewest_by_make : Stmt := topS 26
abbrev N_fewest_by_make : List Str := ["history", "skipped", "k", "rule"]
theorem sc_fewest_by_make : FnScope N_fewest_by_make ["history", "skipped", "k", "rule"] (defScope stm_fewest_by_make) := ⟨rfl, rfl, rfl, by decide +kernel, rfl, by decide +kernel, by decide +kernel⟩
abbrev stm__law_long_chain : Stmt := topS 40
abbrev N__law_long_chain : List Str := ["many", "letters", "k"]
theorem sc__law_long_chain : FnScope N__law_long_chain ["many"] (defScope stm__law_long_chain) := ⟨rfl, rfl, rfl, by decide +kernel, rfl, by decide +kernel, by decide +kernel⟩
abbrev stm__law_asked : Stmt := topS 41
abbrev N__law_asked : List Str := ["many", "k", "rule"]
theorem sc__law_asked : FnScope N__law_asked ["many", "k", "rule"] (defScope stm__law_asked) := ⟨rfl, rfl, rfl, by decide +kernel, rfl, by decide +kernel, by decide +kernel⟩
abbrev stm__law_alive : Stmt := topS 37
abbrev N__law_alive : List Str := ["table", "classes_v", "counts", "k", "rule", "alive", "row", "good", "make", "works", "broken"]
theorem sc__law_alive : FnScope N__law_alive ["table", "classes_v", "counts", "k", "rule"] (defScope stm__law_alive) := ⟨rfl, rfl, rfl, by decide +kernel, rfl, by decide +kernel, by decide +kernel⟩
abbrev stm__law_key : Stmt := topS 38
abbrev N__law_key : List Str := ["counts", "q", "make"]
theorem sc__law_key : FnScope N__law_key ["counts", "q"] (defScope stm__law_key) := ⟨rfl, rfl, rfl, by decide +kernel, rfl, by decide +kernel, by decide +kernel⟩
abbrev stm__law_told : Stmt := topS 39
abbrev N__law_told : List Str := ["table", "classes_v", "counts", "k", "rule", "q", "seen", "key", "found", "make", "works", "broken", "one", "other"]
theorem sc__law_told : FnScope N__law_told ["table", "classes_v", "counts", "k", "rule", "q", "seen"] (defScope stm__law_told) := ⟨rfl, rfl, rfl, by decide +kernel, rfl, by decide +kernel, by decide +kernel⟩
abbrev stm__law_above : Stmt := topS 33
abbrev N__law_above : List Str := ["history", "make", "found", "k", "parent"]
theorem sc__law_above : FnScope N__law_above ["history", "make"] (defScope stm__law_above) := ⟨rfl, rfl, rfl, by decide +kernel, rfl, by decide +kernel, by decide +kernel⟩
abbrev stm__law_breaks : Stmt := topS 34
abbrev N__law_breaks : List Str := ["history", "candidate", "make"]
theorem sc__law_breaks : FnScope N__law_breaks ["history", "candidate", "make"] (defScope stm__law_breaks) := ⟨rfl, rfl, rfl, by decide +kernel, rfl, by decide +kernel, by decide +kernel⟩
abbrev stm__law_classes : Stmt := topS 36
abbrev N__law_classes : List Str := ["history", "skipped", "rows", "one", "row", "make", "homes", "part"]
theorem sc__law_classes : FnScope N__law_classes ["history", "skipped"] (defScope stm__law_classes) := ⟨rfl, rfl, rfl, by decide +kernel, rfl, by decide +kernel, by decide +kernel⟩
abbrev stm__law_draw : Stmt := topS 30
abbrev N__law_draw : List Str := ["box", "many", "at"]
theorem sc__law_draw : FnScope N__law_draw ["box", "many"] (defScope stm__law_draw) := ⟨rfl, rfl, rfl, by decide +kernel, rfl, by decide +kernel, by decide +kernel⟩
abbrev stm__law_skips : Stmt := topS 35
abbrev N__law_skips : List Str := ["box", "history", "make"]
theorem sc__law_skips : FnScope N__law_skips ["box", "history"] (defScope stm__law_skips) := ⟨rfl, rfl, rfl, by decide +kernel, rfl, by decide +kernel, by decide +kernel⟩
abbrev stm__law_parents : Stmt := topS 31
abbrev N__law_parents : List Str := ["box", "k", "ends", "at", "one", "other"]
theorem sc__law_parents : FnScope N__law_parents ["box", "k", "ends"] (defScope stm__law_parents) := ⟨rfl, rfl, rfl, by decide +kernel, rfl, by decide +kernel, by decide +kernel⟩
abbrev stm__law_history : Stmt := topS 32
abbrev N__law_history : List Str := ["box", "most", "many", "makes", "ends", "k", "parents", "end"]
theorem sc__law_history : FnScope N__law_history ["box", "most"] (defScope stm__law_history) := ⟨rfl, rfl, rfl, by decide +kernel, rfl, by decide +kernel, by decide +kernel⟩
abbrev stm__law_cell : Stmt := topS 28
abbrev N__law_cell : List Str := ["script", "k"]
theorem sc__law_cell : FnScope N__law_cell ["script", "k"] (defScope stm__law_cell) := ⟨rfl, rfl, rfl, by decide +kernel, rfl, by decide +kernel, by decide +kernel⟩
abbrev stm__law_digits : Stmt := topS 29
abbrev N__law_digits : List Str := ["script", "first", "last", "digits", "k", "cell", "turn", "seed"]
theorem sc__law_digits : FnScope N__law_digits ["script", "first", "last"] (defScope stm__law_digits) := ⟨rfl, rfl, rfl, by decide +kernel, rfl, by decide +kernel, by decide +kernel⟩
abbrev stm_law : Stmt := topS 42
abbrev N_law : List Str := ["script", "box", "k", "history", "many", "skipped", "classes_v", "table", "make", "one", "nothing", "rule", "least", "seen"]
theorem sc_law : FnScope N_law ["script"] (defScope stm_law) := ⟨rfl, rfl, rfl, by decide +kernel, rfl, by decide +kernel, by decide +kernel⟩
def m_law : MS := (sSeq (sSet 1 (mLst (msCons (mCallU 3 Cm.c__law_digits (msCons (mVar 0) (msCons (mC (.int 0)) (msCons (mC (.int 63)) msNil)))) (msCons (mC (.int 0)) msNil)))) (sSeq (sSet 2 (mCallU 2 Cm.c__law_draw (msCons (mVar 1) (msCons (mC (.int 3)) msNil)))) (sSeq (sSet 3 (mCallU 2 Cm2.c__law_history (msCons (mVar 1) (msCons (mBin oSub (mC (.int 5)) (mVar 2)) msNil)))) (sSeq (sSet 4 (mCall (k1 lenD) (msCons (mBin oIx (mVar 3) (mC (.int 1))) msNil))) (sSeq (sSet 5 (mCallU 2 Cm20.c__law_skips (msCons (mVar 1) (msCons (mVar 3) msNil)))) (sSeq (sSet 6 (mCallU 2 Cm13.c__law_classes (msCons (mVar 3) (msCons (mVar 5) msNil)))) (sSeq (sSet 7 (mLc (rng1 (msCons (mVar 4) msNil)) (.nm 9) bYes (mLc (rng1 (msCons (mVar 4) msNil)) (.nm 8) bYes (mCallU 3 Cm3.c__law_breaks (msCons (mVar 3) (msCons (mVar 9) (msCons (mVar 8) msNil)))) [8]) [9])) (sSeq (sSet 10 mDK) (sSeq (sFor (rng1 (msCons (mVar 4) msNil)) (.nm 8) (sCut (sIf (bAnd (bB (mBin oNotIn (mVar 8) (mVar 5))) (bB (mChain oLt oLt (mC (.int 0)) (mCall (k1 lenD) (msCons (mLc (rng1 (msCons (mVar 4) msNil)) (.nm 9) (bB (mBin oIx (mBin oIx (mVar 7) (mVar 9)) (mVar 8))) (mVar 9) [9]) msNil)) (mVar 4)))) (sPut (mVar 10) (mVar 8) (mTup (msCons (mC (.int 0)) (msCons (mC (.int 0)) msNil)))) sNil))) (sSeq (sFor (srcV (mLst (msCons (mC (.str "two")) (msCons (mC (.str "one")) msNil)))) (.nm 11) (sCut (sSeq (sSet 12 (mCallU 4 Cm23.c_fewest_by_make (msCons (mVar 3) (msCons (mVar 5) (msCons (mVar 2) (msCons (mVar 11) msNil)))))) (sSeq (sSet 13 mDN) (sSeq (sIf (bNot (bB (mCallU 7 (Cm23.c__law_told 20) (msCons (mVar 7) (msCons (mVar 6) (msCons (mVar 10) (msCons (mVar 2) (msCons (mVar 11) (msCons (mVar 12) (msCons (mVar 13) msNil)))))))))) (sRet (mC (.bl false))) sNil) (sSeq (sIf (bAnd (bB (mBin oGt (mVar 12) (mC (.int 0)))) (bB (mCallU 7 (Cm23.c__law_told 20) (msCons (mVar 7) (msCons (mVar 6) (msCons (mVar 10) (msCons (mVar 2) (msCons (mVar 11) (msCons (mBin oSub (mVar 12) (mC (.int 1))) (msCons (mVar 13) msNil)))))))))) (sRet (mC (.bl false))) sNil) (sIf (bOr (bB (mBin oNe (mCallU 3 Cm23.c__law_asked (msCons (mC (.int 15)) (msCons (mVar 2) (msCons (mVar 11) msNil)))) (mUn oNeg (mC (.int 1))))) (bB (mBin oNe (mCallU 3 Cm23.c__law_asked (msCons (mC (.int 14)) (msCons (mVar 2) (msCons (mVar 11) msNil)))) (mBin oMul (mC (.int 4)) (mBin oIx (mLst (msCons (mBin oAdd (mBin oMul (mC (.int 2)) (mVar 2)) (mC (.int 1))) (msCons (mBin oAdd (mVar 2) (mC (.int 1))) msNil))) (mCall (k1 intD) (msCons (mBin oEq (mVar 11) (mC (.str "one"))) msNil))))))) (sRet (mC (.bl false))) sNil))))))) (sRet (mC (.bl true)))))))))))))
def c_law : List Dv → MX Dv := defM 13 m_law
section
variable {P : Program} {w : World} {K : PySem.W.Frag} {mg : Str → Option Value} {base : Heap}
theorem ok_most_tests {f : Addr} {fd : FuncData} (F : Fun K "most_tests" "most_tests" stm_most_tests f fd)  : FnG P w K mg base CX0 1 f fd ["k", "rule"] (spM K mg 2 Cm2.c_most_tests) :=
  fnM0 (k := 0) (m := Cm2.m_most_tests) F sc_most_tests rfl rfl fun cdv A outer s H E W hr c => (
    (sm_one (sm_ret (pm_if (bm_cmp (om_eq c) (pm_v 1) pm_str (nomark _)) (pm_bin om_add (pm_bin om_mul pm_int (pm_v 0)) pm_int) (pm_bin om_add (pm_v 0) pm_int)))))
theorem ok_inside {f : Addr} {fd : FuncData} (F : Fun K "inside" "inside" stm_inside f fd) (z_enumerate : mg "enumerate" = none) (z_tuple : mg "tuple" = none) : FnG P w K mg base CX0 1 f fd ["state"] (spM K mg 1 Cm20.c_inside) :=
  fnM0 (k := 0) (m := Cm20.m_inside) F sc_inside rfl rfl fun cdv A outer s H E W hr c => (
    (sm_one (sm_ret (pm_bt (cm_tup c) z_tuple b_tuple (am_cons (pm_lc1 [("at", 1), ("left", 2)] c (pim_en (by rfl) z_enumerate (am_cons (pm_v 0) am_nil)) (blkOk_by (own := [("at", 1), ("left", 2)]) (N := N_inside) (sc := (defScope stm_inside)) (by decide +kernel)) (fun _ _ _ _ _ => (gm_t (Cf.blk c) (gms_cons (gm_v 1 (Cf.blk c)) (gms_cons (gm_v 2 (Cf.blk c)) gms_nil)))) (fun _ _ _ _ _ => (btm_one (bm_cmp om_ge (pm_v 2) pm_int (nomark _)))) (fun _ _ _ _ _ => (pm_v 1))) am_nil)))))
theorem ok_parts {f : Addr} {fd : FuncData} (F : Fun K "parts" "parts" stm_parts f fd) {f_inside : Addr} {fd_inside : FuncData} (F_inside : Fun K "inside" "inside" stm_inside f_inside fd_inside) (G_inside : FnG P w K mg base CX0 1 f_inside fd_inside ["state"] (spM K mg 1 Cm20.c_inside)) (g_inside : mg "inside" = some (.ref f_inside)) (b_inside : L2.Binds K fd_inside ["state"] []) : FnG P w K mg base CX0 2 f fd ["state", "marked"] (spM K mg 2 Cm20.c_parts) :=
  fnM0 (k := 1) (m := Cm20.m_parts) F sc_parts rfl rfl fun cdv A outer s H E W hr c => (
    (sm_cons (sm_lc1 (i := 2) [("at", 3)] c rfl rfl (sw_true rfl rfl rfl (by decide +kernel)) (pim_seq (pm_call G_inside c (hr.mono (by decide)) (by rfl) g_inside F_inside.kp b_inside pass (am_cons (pm_v 0) am_nil))) (blkOk_by (own := [("at", 3)]) (N := N_parts) (sc := (defScope stm_parts)) (by decide +kernel)) (fun _ _ _ _ _ => (gm_v 3 (Cf.blk c))) (fun _ _ _ _ _ => btm_nil) (fun _ _ _ _ _ => (pm_ix (Cf.blk c) (pm_v 1) (pm_v 3))))
    (sm_one (sm_ret (pm_and (pm_cmp (om_in c) pm_bl (pm_v 2) (by with_unfolding_all rfl)) (pm_one (pm_cmp (om_in c) pm_bl (pm_v 2) (by with_unfolding_all rfl))))))))
theorem ok_taken {f : Addr} {fd : FuncData} (F : Fun K "taken" "taken" stm_taken f fd) (z_tuple : mg "tuple" = none) (z_zip : mg "zip" = none) : FnG P w K mg base CX0 1 f fd ["state", "marked", "kind"] (spM K mg 3 Cm.c_taken) :=
  fnM0 (k := 0) (m := Cm.m_taken) F sc_taken rfl rfl fun cdv A outer s H E W hr c => (
    (sm_cons (sm_if (bm_cmp (om_eq c) (pm_v 2) pm_str (nomark _)) (sm_one (sm_ret (pm_bt (cm_tup c) z_tuple b_tuple (am_cons (pm_lc1 [("left", 3), ("mark", 4)] c (pim_zp (by rfl) z_zip (am_cons (pm_v 0) (am_cons (pm_v 1) am_nil))) (blkOk_by (own := [("left", 3), ("mark", 4)]) (N := N_taken) (sc := (defScope stm_taken)) (by decide +kernel)) (fun _ _ _ _ _ => (gm_t (Cf.blk c) (gms_cons (gm_v 3 (Cf.blk c)) (gms_cons (gm_v 4 (Cf.blk c)) gms_nil)))) (fun _ _ _ _ _ => btm_nil) (fun _ _ _ _ _ => (pm_if (PW.pt (bm_or (bm_tru (pm_v 4)) (bm_or1 (bm_cmp om_lt (pm_v 3) pm_int (nomark _))))) (pm_v 3) (pm_bin om_sub (pm_v 3) pm_int)))) am_nil)))) sm_nil)
    (sm_one (sm_ret (pm_bt (cm_tup c) z_tuple b_tuple (am_cons (pm_lc1 [("left", 3), ("mark", 4)] c (pim_zp (by rfl) z_zip (am_cons (pm_v 0) (am_cons (pm_v 1) am_nil))) (blkOk_by (own := [("left", 3), ("mark", 4)]) (N := N_taken) (sc := (defScope stm_taken)) (by decide +kernel)) (fun _ _ _ _ _ => (gm_t (Cf.blk c) (gms_cons (gm_v 3 (Cf.blk c)) (gms_cons (gm_v 4 (Cf.blk c)) gms_nil)))) (fun _ _ _ _ _ => btm_nil) (fun _ _ _ _ _ => (pm_if (PW.pt (bm_and (bm_tru (pm_v 4)) (bm_and1 (bm_cmp om_ge (pm_v 3) pm_int (nomark _))))) (pm_bin om_sub (pm_v 3) pm_int) (pm_v 3)))) am_nil))))))
theorem ok_Search_ways {f : Addr} {fd : FuncData} (F : Fun K "ways" "Search.ways" stm_Search_ways f fd) {f_parts : Addr} {fd_parts : FuncData} (F_parts : Fun K "parts" "parts" stm_parts f_parts fd_parts) (G_parts : FnG P w K mg base CX0 2 f_parts fd_parts ["state", "marked"] (spM K mg 2 Cm20.c_parts)) (g_parts : mg "parts" = some (.ref f_parts)) (b_parts : L2.Binds K fd_parts ["state", "marked"] []) {f_taken : Addr} {fd_taken : FuncData} (F_taken : Fun K "taken" "taken" stm_taken f_taken fd_taken) (G_taken : FnG P w K mg base CX0 1 f_taken fd_taken ["state", "marked", "kind"] (spM K mg 3 Cm.c_taken)) (g_taken : mg "taken" = some (.ref f_taken)) (b_taken : L2.Binds K fd_taken ["state", "marked", "kind"] []) (cc_Search : Cls K (clsAt K "Search")) (na_Search_marked : NoAttr K (clsAt K "Search") "marked") (na_Search_step : NoAttr K (clsAt K "Search") "step") (ef_taken : clsAt K "taken" = f_taken) : FnG P w K mg base CX0 3 f fd ["self", "state"] (spM K mg 2 Cm20.c_Search_ways) :=
  fnM0 (k := 2) (m := Cm20.m_Search_ways) F sc_Search_ways rfl rfl fun cdv A outer s H E W hr c => (
    (sm_cons (sm_st 2 c (pm_fld cc_Search na_Search_step (pm_v 0)))
    (sm_one (sm_ret (pm_lc1 [("m", 3), ("marked", 4)] c (pim_seq (pm_fld cc_Search na_Search_marked (pm_v 0))) (blkOk_by (own := [("m", 3), ("marked", 4)]) (N := N_Search_ways) (sc := (defScope stm_Search_ways)) (by decide +kernel)) (fun _ _ _ _ _ => (gm_t (Cf.blk c) (gms_cons (gm_v 3 (Cf.blk c)) (gms_cons (gm_v 4 (Cf.blk c)) gms_nil)))) (fun _ _ _ _ _ => (btm_one (bm_val (pm_call G_parts (Cf.blk c) (hr.mono (by decide)) (by rfl) g_parts F_parts.kp b_parts pass (am_cons (pm_v 1) (am_cons (pm_v 4) am_nil)))))) (fun _ _ _ _ _ => (pm_tup (am_cons (pm_v 3) (am_cons (pm_callF (i := 2) (x := "taken") G_taken (Cf.blk c) (hr.mono (by decide)) ef_taken F_taken.kp b_taken pass (am_cons (pm_v 1) (am_cons (pm_v 4) (am_cons pm_str am_nil)))) (am_cons (pm_callF (i := 2) (x := "taken") G_taken (Cf.blk c) (hr.mono (by decide)) ef_taken F_taken.kp b_taken pass (am_cons (pm_v 1) (am_cons (pm_v 4) (am_cons pm_str am_nil)))) am_nil))))))))))
theorem ok_Search_worth {f : Addr} {fd : FuncData} (F : Fun K "worth" "Search.worth" stm_Search_worth f fd) (z_max : mg "max" = none) : FnG P w K mg base CX0 1 f fd ["self", "state", "m", "broken", "works"] (spM K mg 5 Cm20.c_Search_worth) :=
  fnM0 (k := 0) (m := Cm20.m_Search_worth) F sc_Search_worth rfl rfl fun cdv A outer s H E W hr c => (
    (sm_one (sm_ret (pm_bin om_add pm_int (pm_bf (cm_max2 c) z_max b_max (am_cons (pm_v 3) (am_cons (pm_v 4) am_nil)))))))
theorem ok_Search_best {f_Search_best : Addr} {fd_Search_best : FuncData} (F_Search_best : Fun K "best" "Search.best" stm_Search_best f_Search_best fd_Search_best) {f_Search_ways : Addr} {fd_Search_ways : FuncData} (F_Search_ways : Fun K "ways" "Search.ways" stm_Search_ways f_Search_ways fd_Search_ways) (G_Search_ways : FnG P w K mg base CX0 3 f_Search_ways fd_Search_ways ["self", "state"] (spM K mg 2 Cm20.c_Search_ways)) (me_Search_ways : Meth K (clsAt K "Search") "ways" f_Search_ways) (b_Search_ways : L2.Binds K fd_Search_ways ["self", "state"] []) {f_Search_worth : Addr} {fd_Search_worth : FuncData} (F_Search_worth : Fun K "worth" "Search.worth" stm_Search_worth f_Search_worth fd_Search_worth) (G_Search_worth : FnG P w K mg base CX0 1 f_Search_worth fd_Search_worth ["self", "state", "m", "broken", "works"] (spM K mg 5 Cm20.c_Search_worth)) (me_Search_worth : Meth K (clsAt K "Search") "worth" f_Search_worth) (b_Search_worth : L2.Binds K fd_Search_worth ["self", "state", "m", "broken", "works"] []) (z_min : mg "min" = none) (cc_Search : Cls K (clsAt K "Search")) (na_Search_known : NoAttr K (clsAt K "Search") "known") (me_Search_best : Meth K (clsAt K "Search") "best" f_Search_best) (b_Search_best : L2.Binds K fd_Search_best ["self", "state"] []) (n : Nat) : FnG P w K mg base CX0 (3 + 1 + n) f_Search_best fd_Search_best ["self", "state"] (spM K mg 2 (Cm20.c_Search_best n)) := by
  induction n with
  | zero => exact fnM_stuck F_Search_best sc_Search_best rfl
  | succ n G_Search_best =>
    show FnG P w K mg base CX0 (3 + 1 + n + 1) f_Search_best fd_Search_best ["self", "state"] (spM K mg 2 (defM 4 (Cm20.m_Search_best (Cm20.c_Search_best n))))
    exact fnM0 (k := 3 + 1 + n) (m := Cm20.m_Search_best (Cm20.c_Search_best n)) F_Search_best sc_Search_best rfl rfl fun cdv A outer s H E W hr c => (
    (sm_cons (sm_if (bm_cmp (om_notin c) (pm_v 1) (pm_fld cc_Search na_Search_known (pm_v 0)) (by with_unfolding_all rfl)) (sm_cons (sm_st 2 c (pm_lst am_nil))
    (sm_cons (sm_for PassesOwn.never c (pim_seq (pm_meth G_Search_ways c (hr.mono (by omega)) cc_Search me_Search_ways b_Search_ways pass (pm_v 0) (am_cons (pm_v 1) am_nil))) (gm_t c (gms_cons (gm_v 3 c) (gms_cons (gm_v 4 c) (gms_cons (gm_v 5 c) gms_nil)))) (sm_one (sm_ex (pm_mth (.inl rfl) (pe_bm PySem.F.plainAttrs_list PySem.F.slot_list_append PySem.F.type_list_append mm_append (pm_v 2) (am_cons (pm_tup (am_cons (pm_meth G_Search_worth c (hr.mono (by omega)) cc_Search me_Search_worth b_Search_worth pass (pm_v 0) (am_cons (pm_v 1) (am_cons (pm_v 3) (am_cons (pm_ix c (pm_meth G_Search_best c (hr.mono (by omega)) cc_Search me_Search_best b_Search_best pass (pm_v 0) (am_cons (pm_v 4) am_nil)) pm_int) (am_cons (pm_ix c (pm_meth G_Search_best c (hr.mono (by omega)) cc_Search me_Search_best b_Search_best pass (pm_v 0) (am_cons (pm_v 5) am_nil)) pm_int) am_nil))))) (am_cons (pm_v 3) am_nil))) am_nil))))))
    (sm_one (sm_pt c (pm_minD c z_min b_min (pm_v 2) (pm_tup (am_cons pm_int (am_cons (pm_un um_neg pm_int) am_nil)))) (pm_fld cc_Search na_Search_known (pm_v 0)) (pm_v 1))))) sm_nil)
    (sm_one (sm_ret (pm_ix c (pm_fld cc_Search na_Search_known (pm_v 0)) (pm_v 1))))))
theorem ok_Search_needed {f : Addr} {fd : FuncData} (F : Fun K "needed" "Search.needed" stm_Search_needed f fd) {f_Search_best : Addr} {fd_Search_best : FuncData} (F_Search_best : Fun K "best" "Search.best" stm_Search_best f_Search_best fd_Search_best) (G_Search_best : FnG P w K mg base CX0 24 f_Search_best fd_Search_best ["self", "state"] (spM K mg 2 (Cm20.c_Search_best 20))) (me_Search_best : Meth K (clsAt K "Search") "best" f_Search_best) (b_Search_best : L2.Binds K fd_Search_best ["self", "state"] []) (cc_Search : Cls K (clsAt K "Search")) : FnG P w K mg base CX0 25 f fd ["self", "state"] (spM K mg 2 Cm22.c_Search_needed) :=
  fnM0 (k := 24) (m := Cm22.m_Search_needed) F sc_Search_needed rfl rfl fun cdv A outer s H E W hr c => (
    (sm_one (sm_ret (pm_ix c (pm_meth G_Search_best c (hr.mono (by decide)) cc_Search me_Search_best b_Search_best pass (pm_v 0) (am_cons (pm_v 1) am_nil)) pm_int))))
theorem ok_which_are_in {f : Addr} {fd : FuncData} (F : Fun K "which_are_in" "which_are_in" stm_which_are_in f fd) (z_tuple : mg "tuple" = none) : FnG P w K mg base CX0 1 f fd ["candidates", "row"] (spM K mg 2 Cm.c_which_are_in) :=
  fnM0 (k := 0) (m := Cm.m_which_are_in) F sc_which_are_in rfl rfl fun cdv A outer s H E W hr c => (
    (sm_one (sm_ret (pm_bt (cm_tup c) z_tuple b_tuple (am_cons (pm_lc1 [("c", 2)] c (pim_seq (pm_v 0)) (blkOk_by (own := [("c", 2)]) (N := N_which_are_in) (sc := (defScope stm_which_are_in)) (by decide +kernel)) (fun _ _ _ _ _ => (gm_v 2 (Cf.blk c))) (fun _ _ _ _ _ => btm_nil) (fun _ _ _ _ _ => (pm_cmp (om_in (Cf.blk c)) (pm_v 2) (pm_v 1) (by with_unfolding_all rfl)))) am_nil)))))
theorem ok_ancestors {f : Addr} {fd : FuncData} (F : Fun K "ancestors" "ancestors" stm_ancestors f fd) (z_enumerate : mg "enumerate" = none) (z_range : mg "range" = none) (z_tuple : mg "tuple" = none) : FnG P w K mg base CX0 1 f fd ["history", "m"] (spM K mg 2 Cm.c_ancestors) :=
  fnM0 (k := 0) (m := Cm.m_ancestors) F sc_ancestors rfl rfl fun cdv A outer s H E W hr c => (
    (sm_cons (sm_st 2 c (pm_ix c (pm_v 0) pm_int))
    (sm_cons (sm_st 3 c (pm_bin om_add (pm_bin om_mul (pm_lst (am_cons pm_bl am_nil)) (pm_v 1)) (pm_lst (am_cons pm_bl am_nil))))
    (sm_cons (sm_for PassesOwn.never c (pim_rng3 (by rfl) z_range (am_cons (pm_v 1) (am_cons (pm_un um_neg pm_int) (am_cons (pm_un um_neg pm_int) am_nil)))) (gm_v 4 c) (sm_one (sm_if (bm_val (pm_ix c (pm_v 3) (pm_v 4))) (sm_one (sm_for PassesOwn.never c (pim_seq (pm_ix c (pm_ix c (pm_v 2) (pm_v 4)) pm_int)) (gm_v 5 c) (sm_one (sm_pt c pm_bl (pm_v 3) (pm_v 5))))) sm_nil)))
    (sm_one (sm_ret (pm_bt (cm_tup c) z_tuple b_tuple (am_cons (pm_lc1 [("at", 4), ("one", 6)] c (pim_en (by rfl) z_enumerate (am_cons (pm_v 3) am_nil)) (blkOk_by (own := [("at", 4), ("one", 6)]) (N := N_ancestors) (sc := (defScope stm_ancestors)) (by decide +kernel)) (fun _ _ _ _ _ => (gm_t (Cf.blk c) (gms_cons (gm_v 4 (Cf.blk c)) (gms_cons (gm_v 6 (Cf.blk c)) gms_nil)))) (fun _ _ _ _ _ => (btm_one (bm_tru (pm_v 6)))) (fun _ _ _ _ _ => (pm_v 4))) am_nil))))))))
theorem ok_offspring {f : Addr} {fd : FuncData} (F : Fun K "offspring" "offspring" stm_offspring f fd) (z_any : mg "any" = none) (z_enumerate : mg "enumerate" = none) (z_tuple : mg "tuple" = none) : FnG P w K mg base CX0 1 f fd ["history", "m"] (spM K mg 2 Cm.c_offspring) :=
  fnM0 (k := 0) (m := Cm.m_offspring) F sc_offspring rfl rfl fun cdv A outer s H E W hr c => (
    (sm_cons (sm_st 2 c (pm_dict1 (pm_v 1) pm_bl))
    (sm_cons (sm_for PassesOwn.never c (pim_en (by rfl) z_enumerate (am_cons (pm_ix c (pm_v 0) pm_int) am_nil)) (gm_t c (gms_cons (gm_v 3 c) (gms_cons (gm_t c (gms_cons (gm_v 4 c) (gms_cons (gm_v 5 c) gms_nil))) gms_nil))) (sm_one (sm_if (bm_val (pm_bf (cm_any c) z_any b_any (am_cons (pm_lc1 [("parent", 6)] c (pim_seq (pm_v 5)) (blkOk_by (own := [("parent", 6)]) (N := N_offspring) (sc := (defScope stm_offspring)) (by decide +kernel)) (fun _ _ _ _ _ => (gm_v 6 (Cf.blk c))) (fun _ _ _ _ _ => btm_nil) (fun _ _ _ _ _ => (pm_cmp (om_in (Cf.blk c)) (pm_v 6) (pm_v 2) (by with_unfolding_all rfl)))) am_nil))) (sm_one (sm_pt c pm_bl (pm_v 2) (pm_v 3))) sm_nil)))
    (sm_one (sm_ret (pm_bt (cm_tup c) z_tuple b_tuple (am_cons (pm_v 2) am_nil)))))))
theorem ok_classes {f : Addr} {fd : FuncData} (F : Fun K "classes" "classes" stm_classes f fd) {f_offspring : Addr} {fd_offspring : FuncData} (F_offspring : Fun K "offspring" "offspring" stm_offspring f_offspring fd_offspring) (G_offspring : FnG P w K mg base CX0 1 f_offspring fd_offspring ["history", "m"] (spM K mg 2 Cm.c_offspring)) (g_offspring : mg "offspring" = some (.ref f_offspring)) (b_offspring : L2.Binds K fd_offspring ["history", "m"] []) (z_len : mg "len" = none) (z_range : mg "range" = none) (z_tuple : mg "tuple" = none) : FnG P w K mg base CX0 2 f fd ["history", "skipped"] (spM K mg 2 Cm.c_classes) :=
  fnM0 (k := 1) (m := Cm.m_classes) F sc_classes rfl rfl fun cdv A outer s H E W hr c => (
    (sm_cons (sm_st 2 c pm_dT)
    (sm_cons (sm_for PassesOwn.never c (pim_rng1 (by rfl) z_range (am_cons (pm_bf cm_len z_len b_len (am_cons (pm_ix c (pm_v 0) pm_int) am_nil)) am_nil)) (gm_v 3 c) (sm_cons (sm_st 4 c (pm_bt (cm_tup c) z_tuple b_tuple (am_cons (pm_lc1 [("m", 5)] c (pim_seq (pm_call G_offspring c (hr.mono (by decide)) (by rfl) g_offspring F_offspring.kp b_offspring pass (am_cons (pm_v 0) (am_cons (pm_v 3) am_nil)))) (blkOk_by (own := [("m", 5)]) (N := N_classes) (sc := (defScope stm_classes)) (by decide +kernel)) (fun _ _ _ _ _ => (gm_v 5 (Cf.blk c))) (fun _ _ _ _ _ => (btm_one (bm_cmp (om_notin (Cf.blk c)) (pm_v 5) (pm_v 1) (by with_unfolding_all rfl)))) (fun _ _ _ _ _ => (pm_v 5))) am_nil)))
    (sm_one (sm_ex (pm_mth (.inl rfl) (pe_bm PySem.F.plainAttrs_list PySem.F.slot_list_append PySem.F.type_list_append mm_append (pm_mth (.inr (.inl rfl)) (pe_bm PySem.F.plainAttrs_dict PySem.F.slot_dict_setdefault PySem.F.type_dict_setdefault (mm_setd c) (pm_v 2) (am_cons (pm_v 4) (am_cons (pm_lst am_nil) am_nil)))) (am_cons (pm_v 3) am_nil)))))))
    (sm_one (sm_ret (pm_bt (cm_tup c) z_tuple b_tuple (am_cons (pm_lock (i := 2) (pm_lc1 [("row", 6)] c (pim_vals (pm_v 2)) (blkOk_by (own := [("row", 6)]) (N := N_classes) (sc := (defScope stm_classes)) (by decide +kernel)) (fun _ _ _ _ _ => (gm_v 6 (Cf.blk c))) (fun _ _ _ _ _ => btm_nil) (fun _ _ _ _ _ => (pm_bt (cm_tup (Cf.blk c)) z_tuple b_tuple (am_cons (pm_v 6) am_nil))))) am_nil)))))))
theorem ok_marks {f : Addr} {fd : FuncData} (F : Fun K "marks" "marks" stm_marks f fd) {f_which_are_in : Addr} {fd_which_are_in : FuncData} (F_which_are_in : Fun K "which_are_in" "which_are_in" stm_which_are_in f_which_are_in fd_which_are_in) (G_which_are_in : FnG P w K mg base CX0 1 f_which_are_in fd_which_are_in ["candidates", "row"] (spM K mg 2 Cm.c_which_are_in)) (g_which_are_in : mg "which_are_in" = some (.ref f_which_are_in)) (b_which_are_in : L2.Binds K fd_which_are_in ["candidates", "row"] []) {f_ancestors : Addr} {fd_ancestors : FuncData} (F_ancestors : Fun K "ancestors" "ancestors" stm_ancestors f_ancestors fd_ancestors) (G_ancestors : FnG P w K mg base CX0 1 f_ancestors fd_ancestors ["history", "m"] (spM K mg 2 Cm.c_ancestors)) (g_ancestors : mg "ancestors" = some (.ref f_ancestors)) (b_ancestors : L2.Binds K fd_ancestors ["history", "m"] []) {f_classes : Addr} {fd_classes : FuncData} (F_classes : Fun K "classes" "classes" stm_classes f_classes fd_classes) (G_classes : FnG P w K mg base CX0 2 f_classes fd_classes ["history", "skipped"] (spM K mg 2 Cm.c_classes)) (g_classes : mg "classes" = some (.ref f_classes)) (b_classes : L2.Binds K fd_classes ["history", "skipped"] []) (z_tuple : mg "tuple" = none) : FnG P w K mg base CX0 3 f fd ["history", "skipped", "makes"] (spM K mg 3 Cm.c_marks) :=
  fnM0 (k := 2) (m := Cm.m_marks) F sc_marks rfl rfl fun cdv A outer s H E W hr c => (
    (sm_cons (sm_st 3 c (pm_lc1 [("row", 4)] c (pim_seq (pm_call G_classes c (hr.mono (by decide)) (by rfl) g_classes F_classes.kp b_classes pass (am_cons (pm_v 0) (am_cons (pm_v 1) am_nil)))) (blkOk_by (own := [("row", 4)]) (N := N_marks) (sc := (defScope stm_marks)) (by decide +kernel)) (fun _ _ _ _ _ => (gm_v 4 (Cf.blk c))) (fun _ _ _ _ _ => btm_nil) (fun _ _ _ _ _ => (pm_ix (Cf.blk c) (pm_v 4) pm_int))))
    (sm_one (sm_ret (pm_bt (cm_tup c) z_tuple b_tuple (am_cons (pm_lc1 [("m", 5)] c (pim_seq (pm_v 2)) (blkOk_by (own := [("m", 5)]) (N := N_marks) (sc := (defScope stm_marks)) (by decide +kernel)) (fun _ _ _ _ _ => (gm_v 5 (Cf.blk c))) (fun _ _ _ _ _ => btm_nil) (fun _ _ _ _ _ => (pm_call G_which_are_in (Cf.blk c) (hr.mono (by decide)) (by rfl) g_which_are_in F_which_are_in.kp b_which_are_in pass (am_cons (pm_v 3) (am_cons (pm_call G_ancestors (Cf.blk c) (hr.mono (by decide)) (by rfl) g_ancestors F_ancestors.kp b_ancestors pass (am_cons (pm_v 0) (am_cons (pm_v 5) am_nil))) am_nil))))) am_nil))))))
theorem ok_tests {f : Addr} {fd : FuncData} (F : Fun K "tests" "tests" stm_tests f fd) (z_len : mg "len" = none) (z_range : mg "range" = none) (z_tuple : mg "tuple" = none) : FnG P w K mg base CX0 1 f fd ["history", "skipped"] (spM K mg 2 Cm.c_tests) :=
  fnM0 (k := 0) (m := Cm.m_tests) F sc_tests rfl rfl fun cdv A outer s H E W hr c => (
    (sm_one (sm_ret (pm_bt (cm_tup c) z_tuple b_tuple (am_cons (pm_lc1 [("m", 2)] c (pim_rng1 (by rfl) z_range (am_cons (pm_bin om_sub (pm_bf cm_len z_len b_len (am_cons (pm_ix c (pm_v 0) pm_int) am_nil)) pm_int) am_nil)) (blkOk_by (own := [("m", 2)]) (N := N_tests) (sc := (defScope stm_tests)) (by decide +kernel)) (fun _ _ _ _ _ => (gm_v 2 (Cf.blk c))) (fun _ _ _ _ _ => (btm_one (bm_cmp (om_notin (Cf.blk c)) (pm_v 2) (pm_v 1) (by with_unfolding_all rfl)))) (fun _ _ _ _ _ => (pm_v 2))) am_nil)))))
theorem ok_marked_tests {f : Addr} {fd : FuncData} (F : Fun K "marked_tests" "marked_tests" stm_marked_tests f fd) {f_marks : Addr} {fd_marks : FuncData} (F_marks : Fun K "marks" "marks" stm_marks f_marks fd_marks) (G_marks : FnG P w K mg base CX0 3 f_marks fd_marks ["history", "skipped", "makes"] (spM K mg 3 Cm.c_marks)) (g_marks : mg "marks" = some (.ref f_marks)) (b_marks : L2.Binds K fd_marks ["history", "skipped", "makes"] []) {f_tests : Addr} {fd_tests : FuncData} (F_tests : Fun K "tests" "tests" stm_tests f_tests fd_tests) (G_tests : FnG P w K mg base CX0 1 f_tests fd_tests ["history", "skipped"] (spM K mg 2 Cm.c_tests)) (g_tests : mg "tests" = some (.ref f_tests)) (b_tests : L2.Binds K fd_tests ["history", "skipped"] []) (z_tuple : mg "tuple" = none) (z_zip : mg "zip" = none) : FnG P w K mg base CX0 4 f fd ["history", "skipped"] (spM K mg 2 Cm20.c_marked_tests) :=
  fnM0 (k := 3) (m := Cm20.m_marked_tests) F sc_marked_tests rfl rfl fun cdv A outer s H E W hr c => (
    (sm_cons (sm_st 2 c (pm_call G_tests c (hr.mono (by decide)) (by rfl) g_tests F_tests.kp b_tests pass (am_cons (pm_v 0) (am_cons (pm_v 1) am_nil))))
    (sm_one (sm_ret (pm_tupZip c z_tuple z_zip (am_cons (pm_v 2) (am_cons (pm_call G_marks c (hr.mono (by decide)) (by rfl) g_marks F_marks.kp b_marks pass (am_cons (pm_v 0) (am_cons (pm_v 1) (am_cons (pm_v 2) am_nil)))) am_nil)))))))
theorem ok_Search___init__ {f : Addr} {fd : FuncData} (F : Fun K "__init__" "Search.__init__" stm_Search___init__ f fd) {f_marked_tests : Addr} {fd_marked_tests : FuncData} (F_marked_tests : Fun K "marked_tests" "marked_tests" stm_marked_tests f_marked_tests fd_marked_tests) (G_marked_tests : FnG P w K mg base CX0 4 f_marked_tests fd_marked_tests ["history", "skipped"] (spM K mg 2 Cm20.c_marked_tests)) (g_marked_tests : mg "marked_tests" = some (.ref f_marked_tests)) (b_marked_tests : L2.Binds K fd_marked_tests ["history", "skipped"] []) (cc_Search : Cls K (clsAt K "Search")) (na_Search_known : NoAttr K (clsAt K "Search") "known") (na_Search_marked : NoAttr K (clsAt K "Search") "marked") (na_Search_step : NoAttr K (clsAt K "Search") "step") : FnG P w K mg base CX0 5 f fd ["self", "history", "skipped", "step"] (spM K mg 4 Cm20.c_Search___init__) :=
  fnM0 (k := 4) (m := Cm20.m_Search___init__) F sc_Search___init__ rfl rfl fun cdv A outer s H E W hr c => (
    (sm_cons (sm_fld cc_Search na_Search_marked (pm_v 0) (pm_call G_marked_tests c (hr.mono (by decide)) (by rfl) g_marked_tests F_marked_tests.kp b_marked_tests pass (am_cons (pm_v 1) (am_cons (pm_v 2) am_nil))))
    (sm_cons (sm_fld cc_Search na_Search_step (pm_v 0) (pm_v 3))
    (sm_one (sm_fld cc_Search na_Search_known (pm_v 0) pm_dT)))))
theorem ok_check_size {f : Addr} {fd : FuncData} (F : Fun K "check_size" "check_size" stm_check_size f fd) (z_max : mg "max" = none) {t_MOST_STATES : Tok} (w_MOST_STATES : mg "MOST_STATES" = some (.int 20000 t_MOST_STATES)) {C_TooGreat : Addr} (cl_TooGreat : ExCl K mg "TooGreat" C_TooGreat) (xp_TooGreat : PySem.W.excIn K C_TooGreat [.type "ValueError", .type "Exception", .type "BaseException", .type "object"] "ValueError.__new__" = true) (kp_TooGreat : PySem.W.keepIn K (.ref C_TooGreat) = true) : FnG P w K mg base (L2.CX P w) 1 f fd ["state"] (spM K mg 1 Cm20.c_check_size) :=
  fnMX (k := 0) (m := Cm20.m_check_size) F sc_check_size rfl rfl fun cdv A outer s H E W hr c tk po => (
    (sm_cons (sm_st 1 c (pm_bin om_add (pm_bf (cm_max c) z_max b_max (am_cons (pm_lst (am_cons pm_int (am_star (pm_v 0) am_nil))) am_nil)) pm_int))
    (sm_cons (sm_st 2 c pm_int)
    (sm_cons (sm_for po c (pim_seq (pm_v 0)) (gm_v 3 c) (sm_one (sm_augb ipm_mulI c (i := 2) (pm_v 1))))
    (sm_one (sm_if (bm_cmp om_gt (pm_v 2) (pm_glob (by rfl) w_MOST_STATES (v := .int 20000) ⟨_, rfl⟩ (fun _ _ => rp_int)) (nomark _)) (sm_one (sm_raiseV c tk cl_TooGreat.g xp_TooGreat kp_TooGreat cl_TooGreat.sb cl_TooGreat.tC)) sm_nil))))))
theorem ok_fewest_from {f : Addr} {fd : FuncData} (F : Fun K "fewest_from" "fewest_from" stm_fewest_from f fd) {f_Search_needed : Addr} {fd_Search_needed : FuncData} (F_Search_needed : Fun K "needed" "Search.needed" stm_Search_needed f_Search_needed fd_Search_needed) (G_Search_needed : FnG P w K mg base CX0 25 f_Search_needed fd_Search_needed ["self", "state"] (spM K mg 2 Cm22.c_Search_needed)) (me_Search_needed : Meth K (clsAt K "Search") "needed" f_Search_needed) (b_Search_needed : L2.Binds K fd_Search_needed ["self", "state"] []) {f_Search___init__ : Addr} {fd_Search___init__ : FuncData} (F_Search___init__ : Fun K "__init__" "Search.__init__" stm_Search___init__ f_Search___init__ fd_Search___init__) (G_Search___init__ : FnG P w K mg base CX0 5 f_Search___init__ fd_Search___init__ ["self", "history", "skipped", "step"] (spM K mg 4 Cm20.c_Search___init__)) (b_Search___init__ : L2.Binds K fd_Search___init__ ["self", "history", "skipped", "step"] []) {f_taken : Addr} {fd_taken : FuncData} (F_taken : Fun K "taken" "taken" stm_taken f_taken fd_taken) (G_taken : FnG P w K mg base CX0 1 f_taken fd_taken ["state", "marked", "kind"] (spM K mg 3 Cm.c_taken)) (g_taken : mg "taken" = some (.ref f_taken)) (b_taken : L2.Binds K fd_taken ["state", "marked", "kind"] []) {f_check_size : Addr} {fd_check_size : FuncData} (F_check_size : Fun K "check_size" "check_size" stm_check_size f_check_size fd_check_size) (G_check_size : FnG P w K mg base (L2.CX P w) 1 f_check_size fd_check_size ["state"] (spM K mg 1 Cm20.c_check_size)) (g_check_size : mg "check_size" = some (.ref f_check_size)) (b_check_size : L2.Binds K fd_check_size ["state"] []) (cc_Search : Cls K (clsAt K "Search")) (mk_Search : Mk K (clsAt K "Search") f_Search___init__) (gm_Search : mg "Search" = some (.ref (clsAt K "Search"))) (ef_taken : clsAt K "taken" = f_taken) : FnG P w K mg base (L2.CX P w) 26 f fd ["history", "skipped", "state"] (spM K mg 3 Cm22.c_fewest_from) :=
  fnMX (k := 25) (m := Cm22.m_fewest_from) F sc_fewest_from rfl rfl fun cdv A outer s H E W hr c tk po => (
    (sm_cons (sm_ex (pm_call G_check_size c (hr.mono (by decide)) (by rfl) g_check_size F_check_size.kp b_check_size (passTk tk) (am_cons (pm_v 2) am_nil)))
    (sm_one (sm_ret (pm_meth G_Search_needed c (hr.mono (by decide)) cc_Search me_Search_needed b_Search_needed pass (pm_make G_Search___init__ c (hr.mono (by decide)) mk_Search gm_Search b_Search___init__ pass (am_cons (pm_v 0) (am_cons (pm_v 1) (am_cons (pm_fnv g_taken ef_taken) am_nil)))) (am_cons (pm_v 2) am_nil))))))
theorem ok_start {f : Addr} {fd : FuncData} (F : Fun K "start" "start" stm_start f fd) {f_classes : Addr} {fd_classes : FuncData} (F_classes : Fun K "classes" "classes" stm_classes f_classes fd_classes) (G_classes : FnG P w K mg base CX0 2 f_classes fd_classes ["history", "skipped"] (spM K mg 2 Cm.c_classes)) (g_classes : mg "classes" = some (.ref f_classes)) (b_classes : L2.Binds K fd_classes ["history", "skipped"] []) (z_tuple : mg "tuple" = none) : FnG P w K mg base CX0 3 f fd ["history", "skipped", "k"] (spM K mg 3 Cm.c_start) :=
  fnM0 (k := 2) (m := Cm.m_start) F sc_start rfl rfl fun cdv A outer s H E W hr c => (
    (sm_one (sm_ret (pm_bt (cm_tup c) z_tuple b_tuple (am_cons (pm_lc1 [("_", 3)] c (pim_seq (pm_call G_classes c (hr.mono (by decide)) (by rfl) g_classes F_classes.kp b_classes pass (am_cons (pm_v 0) (am_cons (pm_v 1) am_nil)))) (blkOk_by (own := [("_", 3)]) (N := N_start) (sc := (defScope stm_start)) (by decide +kernel)) (fun _ _ _ _ _ => (gm_v 3 (Cf.blk c))) (fun _ _ _ _ _ => btm_nil) (fun _ _ _ _ _ => (pm_v 2))) am_nil)))))
theorem ok_fewest {f : Addr} {fd : FuncData} (F : Fun K "fewest" "fewest" stm_fewest f fd) {f_fewest_from : Addr} {fd_fewest_from : FuncData} (F_fewest_from : Fun K "fewest_from" "fewest_from" stm_fewest_from f_fewest_from fd_fewest_from) (G_fewest_from : FnG P w K mg base (L2.CX P w) 26 f_fewest_from fd_fewest_from ["history", "skipped", "state"] (spM K mg 3 Cm22.c_fewest_from)) (g_fewest_from : mg "fewest_from" = some (.ref f_fewest_from)) (b_fewest_from : L2.Binds K fd_fewest_from ["history", "skipped", "state"] []) {f_start : Addr} {fd_start : FuncData} (F_start : Fun K "start" "start" stm_start f_start fd_start) (G_start : FnG P w K mg base CX0 3 f_start fd_start ["history", "skipped", "k"] (spM K mg 3 Cm.c_start)) (g_start : mg "start" = some (.ref f_start)) (b_start : L2.Binds K fd_start ["history", "skipped", "k"] []) : FnG P w K mg base (L2.CX P w) 27 f fd ["history", "skipped", "k"] (spM K mg 3 Cm22.c_fewest) :=
  fnMX (k := 26) (m := Cm22.m_fewest) F sc_fewest rfl rfl fun cdv A outer s H E W hr c tk po => (
    (sm_one (sm_ret (pm_call G_fewest_from c (hr.mono (by decide)) (by rfl) g_fewest_from F_fewest_from.kp b_fewest_from (passTk tk) (am_cons (pm_v 0) (am_cons (pm_v 1) (am_cons (pm_call G_start c (hr.mono (by decide)) (by rfl) g_start F_start.kp b_start pass (am_cons (pm_v 0) (am_cons (pm_v 1) (am_cons (pm_v 2) am_nil)))) am_nil)))))))
theorem ok_fewest_by_make {f : Addr} {fd : FuncData} (F : Fun K "fewest_by_make" "fewest_by_make" stm_fewest_by_make f fd) {f_most_tests : Addr} {fd_most_tests : FuncData} (F_most_tests : Fun K "most_tests" "most_tests" stm_most_tests f_most_tests fd_most_tests) (G_most_tests : FnG P w K mg base CX0 1 f_most_tests fd_most_tests ["k", "rule"] (spM K mg 2 Cm2.c_most_tests)) (g_most_tests : mg "most_tests" = some (.ref f_most_tests)) (b_most_tests : L2.Binds K fd_most_tests ["k", "rule"] []) {f_fewest : Addr} {fd_fewest : FuncData} (F_fewest : Fun K "fewest" "fewest" stm_fewest f_fewest fd_fewest) (G_fewest : FnG P w K mg base (L2.CX P w) 27 f_fewest fd_fewest ["history", "skipped", "k"] (spM K mg 3 Cm22.c_fewest)) (g_fewest : mg "fewest" = some (.ref f_fewest)) (b_fewest : L2.Binds K fd_fewest ["history", "skipped", "k"] []) : FnG P w K mg base (L2.CX P w) 28 f fd ["history", "skipped", "k", "rule"] (spM K mg 4 Cm23.c_fewest_by_make) :=
  fnMX (k := 27) (m := Cm23.m_fewest_by_make) F sc_fewest_by_make rfl rfl fun cdv A outer s H E W hr c tk po => (
    (sm_one (sm_ret (pm_bin om_mul (pm_call G_most_tests c (hr.mono (by decide)) (by rfl) g_most_tests F_most_tests.kp b_most_tests pass (am_cons (pm_v 2) (am_cons (pm_v 3) am_nil))) (pm_call G_fewest c (hr.mono (by decide)) (by rfl) g_fewest F_fewest.kp b_fewest (passTk tk) (am_cons (pm_v 0) (am_cons (pm_v 1) (am_cons pm_int am_nil))))))))
theorem ok__law_long_chain {f : Addr} {fd : FuncData} (F : Fun K "_law_long_chain" "_law_long_chain" stm__law_long_chain f fd) (z_int : mg "int" = none) (z_range : mg "range" = none) (z_tuple : mg "tuple" = none) : FnG P w K mg base CX0 1 f fd ["many"] (spM K mg 1 Cm23.c__law_long_chain) :=
  fnM0 (k := 0) (m := Cm23.m__law_long_chain) F sc__law_long_chain rfl rfl fun cdv A outer s H E W hr c => (
    (sm_cons (sm_st 1 c pm_str)
    (sm_one (sm_ret (pm_tup (am_cons pm_str (am_cons (pm_bt (cm_tup c) z_tuple b_tuple (am_cons (pm_lc1 [("k", 2)] c (pim_rng1 (by rfl) z_range (am_cons (pm_v 0) am_nil)) (blkOk_by (own := [("k", 2)]) (N := N__law_long_chain) (sc := (defScope stm__law_long_chain)) (by decide +kernel)) (fun _ _ _ _ _ => (gm_v 2 (Cf.blk c))) (fun _ _ _ _ _ => btm_nil) (fun _ _ _ _ _ => (pm_tup (am_cons (pm_ix (Cf.blk c) (pm_v 1) (pm_v 2)) (am_cons (pm_bt (cm_tup (Cf.blk c)) z_tuple b_tuple (am_cons (pm_bin om_mul (pm_lst (am_cons (pm_bin om_sub (pm_v 2) pm_int) am_nil)) (pm_bt cm_int z_int b_int (am_cons (pm_cmp om_gt (pm_v 2) pm_int (nomark _)) am_nil))) am_nil)) am_nil))))) am_nil)) am_nil)))))))
theorem ok__law_asked {f : Addr} {fd : FuncData} (F : Fun K "_law_asked" "_law_asked" stm__law_asked f fd) {f_fewest_by_make : Addr} {fd_fewest_by_make : FuncData} (F_fewest_by_make : Fun K "fewest_by_make" "fewest_by_make" stm_fewest_by_make f_fewest_by_make fd_fewest_by_make) (G_fewest_by_make : FnG P w K mg base (L2.CX P w) 28 f_fewest_by_make fd_fewest_by_make ["history", "skipped", "k", "rule"] (spM K mg 4 Cm23.c_fewest_by_make)) (g_fewest_by_make : mg "fewest_by_make" = some (.ref f_fewest_by_make)) (b_fewest_by_make : L2.Binds K fd_fewest_by_make ["history", "skipped", "k", "rule"] []) {f__law_long_chain : Addr} {fd__law_long_chain : FuncData} (F__law_long_chain : Fun K "_law_long_chain" "_law_long_chain" stm__law_long_chain f__law_long_chain fd__law_long_chain) (G__law_long_chain : FnG P w K mg base CX0 1 f__law_long_chain fd__law_long_chain ["many"] (spM K mg 1 Cm23.c__law_long_chain)) (g__law_long_chain : mg "_law_long_chain" = some (.ref f__law_long_chain)) (b__law_long_chain : L2.Binds K fd__law_long_chain ["many"] []) {C_TooGreat : Addr} (cl_TooGreat : ExCl K mg "TooGreat" C_TooGreat) (s_TooGreat_TooGreat : PySem.W.subIn K (.ref C_TooGreat) (.ref C_TooGreat) = some true) : FnG P w K mg base (L2.CX P w) 29 f fd ["many", "k", "rule"] (spM K mg 3 Cm23.c__law_asked) :=
  fnMX (k := 28) (m := Cm23.m__law_asked) F sc__law_asked rfl rfl fun cdv A outer s H E W hr c tk po => (
    (sm_one (sm_try rfl rfl ⟨rfl, by decide, .inl cl_TooGreat.g⟩ tk (kn_cons cl_TooGreat.g (exm_cl cl_TooGreat s_TooGreat_TooGreat) kn_nil) (fun Wx pn xe tk1 => (sx_one (sx_ret (px_call G_fewest_by_make c.gd (hr.mono (by decide)) g_fewest_by_make F_fewest_by_make.kp b_fewest_by_make tk1 (fun W => (am_cons (pm_call G__law_long_chain c.tr (hr.mono (by decide)) (by rfl) g__law_long_chain F__law_long_chain.kp b__law_long_chain pass (am_cons (pm_v 0) am_nil)) (am_cons (pm_tup am_nil) (am_cons (pm_v 1) (am_cons (pm_v 2) am_nil))))))))) (fun _ _ _ _ => (sm_one (sm_ret (pm_un um_neg pm_int)))))))
theorem ok__law_alive {f : Addr} {fd : FuncData} (F : Fun K "_law_alive" "_law_alive" stm__law_alive f fd) (z_int : mg "int" = none) : FnG P w K mg base CX0 1 f fd ["table", "classes_v", "counts", "k", "rule"] (spM K mg 5 Cm23.c__law_alive) :=
  fnM0 (k := 0) (m := Cm23.m__law_alive) F sc__law_alive rfl rfl fun cdv A outer s H E W hr c => (
    (sm_cons (sm_st 5 c pm_int)
    (sm_cons (sm_for PassesOwn.never c (pim_seq (pm_v 1)) (gm_v 6 c) (sm_cons (sm_st 7 c pm_bl)
    (sm_cons (sm_lock (i := 2) (sm_for PassesOwn.never c (pim_keys (pm_v 2)) (gm_v 8 c) (sm_cons (sm_tg (pm_ixF c (pm_v 2) (pm_v 8)) (gm_t c (gms_cons (gm_v 9 c) (gms_cons (gm_v 10 c) gms_nil))))
    (sm_one (sm_if (PW.pt (bm_or (PW.pt (bm_and (bm_val (pm_ix c (pm_ix c (pm_v 0) (pm_ix c (pm_v 6) pm_int)) (pm_v 8))) (bm_and1 (bm_cmp om_gt (pm_v 9) (pm_v 3) (nomark _))))) (bm_or1 (PW.pt (bm_and (bm_not (bm_val (pm_ix c (pm_ix c (pm_v 0) (pm_ix c (pm_v 6) pm_int)) (pm_v 8)))) (bm_and1 (bm_cmp om_gt (pm_v 10) (pm_ix c (pm_lst (am_cons (pm_v 3) (am_cons pm_int am_nil))) (pm_bt cm_int z_int b_int (am_cons (pm_cmp (om_eq c) (pm_v 4) pm_str (nomark _)) am_nil))) (nomark _)))))))) (sm_one (sm_st 7 c pm_bl)) sm_nil)))))
    (sm_one (sm_st 5 c (pm_bin om_add (pm_v 5) (pm_bt cm_int z_int b_int (am_cons (pm_v 7) am_nil))))))))
    (sm_one (sm_ret (pm_v 5))))))
theorem ok__law_key {f : Addr} {fd : FuncData} (F : Fun K "_law_key" "_law_key" stm__law_key f fd) (z_sorted : mg "sorted" = none) (z_tuple : mg "tuple" = none) : FnG P w K mg base CX0 1 f fd ["counts", "q"] (spM K mg 2 Cm23.c__law_key) :=
  fnM0 (k := 0) (m := Cm23.m__law_key) F sc__law_key rfl rfl fun cdv A outer s H E W hr c => (
    (sm_one (sm_ret (pm_tup (am_cons (pm_bt (cm_tup c) z_tuple b_tuple (am_cons (pm_lc1 [("make", 2)] c (pim_seq (pm_bf (cm_sortK c) z_sorted b_sorted (am_cons (pm_v 0) am_nil))) (blkOk_by (own := [("make", 2)]) (N := N__law_key) (sc := (defScope stm__law_key)) (by decide +kernel)) (fun _ _ _ _ _ => (gm_v 2 (Cf.blk c))) (fun _ _ _ _ _ => btm_nil) (fun _ _ _ _ _ => (pm_ix (Cf.blk c) (pm_v 0) (pm_v 2)))) am_nil)) (am_cons (pm_v 1) am_nil))))))
theorem ok__law_told {f__law_told : Addr} {fd__law_told : FuncData} (F__law_told : Fun K "_law_told" "_law_told" stm__law_told f__law_told fd__law_told) {f__law_alive : Addr} {fd__law_alive : FuncData} (F__law_alive : Fun K "_law_alive" "_law_alive" stm__law_alive f__law_alive fd__law_alive) (G__law_alive : FnG P w K mg base CX0 1 f__law_alive fd__law_alive ["table", "classes_v", "counts", "k", "rule"] (spM K mg 5 Cm23.c__law_alive)) (g__law_alive : mg "_law_alive" = some (.ref f__law_alive)) (b__law_alive : L2.Binds K fd__law_alive ["table", "classes_v", "counts", "k", "rule"] []) {f__law_key : Addr} {fd__law_key : FuncData} (F__law_key : Fun K "_law_key" "_law_key" stm__law_key f__law_key fd__law_key) (G__law_key : FnG P w K mg base CX0 1 f__law_key fd__law_key ["counts", "q"] (spM K mg 2 Cm23.c__law_key)) (g__law_key : mg "_law_key" = some (.ref f__law_key)) (b__law_key : L2.Binds K fd__law_key ["counts", "q"] []) (z_dict : mg "dict" = none) (z_int : mg "int" = none) (z_sorted : mg "sorted" = none) (g__law_told : mg "_law_told" = some (.ref f__law_told)) (b__law_told : L2.Binds K fd__law_told ["table", "classes_v", "counts", "k", "rule", "q", "seen"] []) (n : Nat) : FnG P w K mg base CX0 (1 + 1 + n) f__law_told fd__law_told ["table", "classes_v", "counts", "k", "rule", "q", "seen"] (spM K mg 7 (Cm23.c__law_told n)) := by
  induction n with
  | zero => exact fnM_stuck F__law_told sc__law_told rfl
  | succ n G__law_told =>
    show FnG P w K mg base CX0 (1 + 1 + n + 1) f__law_told fd__law_told ["table", "classes_v", "counts", "k", "rule", "q", "seen"] (spM K mg 7 (defM 7 (Cm23.m__law_told (Cm23.c__law_told n))))
    exact fnM0 (k := 1 + 1 + n) (m := Cm23.m__law_told (Cm23.c__law_told n)) F__law_told sc__law_told rfl rfl fun cdv A outer s H E W hr c => (
    (sm_cons (sm_st 7 c (pm_call G__law_key c (hr.mono (by omega)) (by rfl) g__law_key F__law_key.kp b__law_key pass (am_cons (pm_v 2) (am_cons (pm_v 5) am_nil))))
    (sm_cons (sm_if (bm_cmp (om_inN c) (pm_v 7) (pm_v 6) (by with_unfolding_all rfl)) (sm_one (sm_ret (pm_ixN c (pm_v 6) (pm_v 7)))) sm_nil)
    (sm_cons (sm_st 8 c (pm_cmp om_lt (pm_call G__law_alive c (hr.mono (by omega)) (by rfl) g__law_alive F__law_alive.kp b__law_alive pass (am_cons (pm_v 0) (am_cons (pm_v 1) (am_cons (pm_v 2) (am_cons (pm_v 3) (am_cons (pm_v 4) am_nil)))))) pm_int (nomark _)))
    (sm_cons (sm_if (PW.pt (bm_and (bm_not (bm_tru (pm_v 8))) (bm_and1 (bm_cmp om_gt (pm_v 5) pm_int (nomark _))))) (sm_one (sm_for PassesOwn.never c (pim_seq (pm_bf (cm_sortK c) z_sorted b_sorted (am_cons (pm_v 2) am_nil))) (gm_v 9 c) (sm_cons (sm_tg (pm_ix c (pm_v 2) (pm_v 9)) (gm_t c (gms_cons (gm_v 10 c) (gms_cons (gm_v 11 c) gms_nil))))
    (sm_one (sm_if (PW.pt (bm_and (bm_cmp om_le (pm_v 10) (pm_v 3) (nomark _)) (bm_and (bm_cmp om_le (pm_v 11) (pm_ix c (pm_lst (am_cons (pm_v 3) (am_cons pm_int am_nil))) (pm_bt cm_int z_int b_int (am_cons (pm_cmp (om_eq c) (pm_v 4) pm_str (nomark _)) am_nil))) (nomark _)) (bm_and1 (bm_not (bm_tru (pm_v 8))))))) (sm_cons (sm_st 12 c (pm_bt cm_dictCp z_dict b_dict (am_cons (pm_v 2) am_nil)))
    (sm_cons (sm_pt c (pm_tup (am_cons (pm_bin om_add (pm_v 10) pm_int) (am_cons (pm_v 11) am_nil))) (pm_v 12) (pm_v 9))
    (sm_cons (sm_st 13 c (pm_bt cm_dictCp z_dict b_dict (am_cons (pm_v 2) am_nil)))
    (sm_cons (sm_pt c (pm_tup (am_cons (pm_v 10) (am_cons (pm_bin om_add (pm_v 11) pm_int) am_nil))) (pm_v 13) (pm_v 9))
    (sm_cons (sm_st 8 c (pm_call G__law_told c (hr.mono (by omega)) (by rfl) g__law_told F__law_told.kp b__law_told pass (am_cons (pm_v 0) (am_cons (pm_v 1) (am_cons (pm_v 12) (am_cons (pm_v 3) (am_cons (pm_v 4) (am_cons (pm_bin om_sub (pm_v 5) pm_int) (am_cons (pm_v 6) am_nil)))))))))
    (sm_one (sm_st 8 c (pm_and (pm_v 8) (pm_one (pm_call G__law_told c (hr.mono (by omega)) (by rfl) g__law_told F__law_told.kp b__law_told pass (am_cons (pm_v 0) (am_cons (pm_v 1) (am_cons (pm_v 13) (am_cons (pm_v 3) (am_cons (pm_v 4) (am_cons (pm_bin om_sub (pm_v 5) pm_int) (am_cons (pm_v 6) am_nil))))))))))))))))) sm_nil))))) sm_nil)
    (sm_cons (sm_ptN c (pm_v 8) (pm_v 6) (pm_v 7))
    (sm_one (sm_ret (pm_v 8)))))))))
theorem ok__law_above {f : Addr} {fd : FuncData} (F : Fun K "_law_above" "_law_above" stm__law_above f fd) (z_range : mg "range" = none) : FnG P w K mg base CX0 1 f fd ["history", "make"] (spM K mg 2 Cm3.c__law_above) :=
  fnM0 (k := 0) (m := Cm3.m__law_above) F sc__law_above rfl rfl fun cdv A outer s H E W hr c => (
    (sm_cons (sm_st 2 c (pm_lst (am_cons (pm_v 1) am_nil)))
    (sm_cons (sm_for PassesOwn.never c (pim_rng3 (by rfl) z_range (am_cons (pm_v 1) (am_cons (pm_un um_neg pm_int) (am_cons (pm_un um_neg pm_int) am_nil)))) (gm_v 3 c) (sm_one (sm_if (bm_cmp (om_in c) (pm_v 3) (pm_v 2) (by with_unfolding_all rfl)) (sm_one (sm_st 2 c (pm_bin om_add (pm_v 2) (pm_lc1 [("parent", 4)] c (pim_seq (pm_ix c (pm_ix c (pm_ix c (pm_v 0) pm_int) (pm_v 3)) pm_int)) (blkOk_by (own := [("parent", 4)]) (N := N__law_above) (sc := (defScope stm__law_above)) (by decide +kernel)) (fun _ _ _ _ _ => (gm_v 4 (Cf.blk c))) (fun _ _ _ _ _ => (btm_one (bm_cmp (om_notin (Cf.blk c)) (pm_v 4) (pm_v 2) (by with_unfolding_all rfl)))) (fun _ _ _ _ _ => (pm_v 4)))))) sm_nil)))
    (sm_one (sm_ret (pm_v 2))))))
theorem ok__law_breaks {f : Addr} {fd : FuncData} (F : Fun K "_law_breaks" "_law_breaks" stm__law_breaks f fd) {f__law_above : Addr} {fd__law_above : FuncData} (F__law_above : Fun K "_law_above" "_law_above" stm__law_above f__law_above fd__law_above) (G__law_above : FnG P w K mg base CX0 1 f__law_above fd__law_above ["history", "make"] (spM K mg 2 Cm3.c__law_above)) (g__law_above : mg "_law_above" = some (.ref f__law_above)) (b__law_above : L2.Binds K fd__law_above ["history", "make"] []) : FnG P w K mg base CX0 2 f fd ["history", "candidate", "make"] (spM K mg 3 Cm3.c__law_breaks) :=
  fnM0 (k := 1) (m := Cm3.m__law_breaks) F sc__law_breaks rfl rfl fun cdv A outer s H E W hr c => (
    (sm_one (sm_ret (pm_cmp (om_in c) (pm_v 1) (pm_call G__law_above c (hr.mono (by decide)) (by rfl) g__law_above F__law_above.kp b__law_above pass (am_cons (pm_v 0) (am_cons (pm_v 2) am_nil))) (by with_unfolding_all rfl)))))
theorem ok__law_classes {f : Addr} {fd : FuncData} (F : Fun K "_law_classes" "_law_classes" stm__law_classes f fd) {f__law_breaks : Addr} {fd__law_breaks : FuncData} (F__law_breaks : Fun K "_law_breaks" "_law_breaks" stm__law_breaks f__law_breaks fd__law_breaks) (G__law_breaks : FnG P w K mg base CX0 2 f__law_breaks fd__law_breaks ["history", "candidate", "make"] (spM K mg 3 Cm3.c__law_breaks)) (g__law_breaks : mg "_law_breaks" = some (.ref f__law_breaks)) (b__law_breaks : L2.Binds K fd__law_breaks ["history", "candidate", "make"] []) (z_len : mg "len" = none) (z_range : mg "range" = none) (z_tuple : mg "tuple" = none) : FnG P w K mg base CX0 3 f fd ["history", "skipped"] (spM K mg 2 Cm13.c__law_classes) :=
  fnM0 (k := 2) (m := Cm13.m__law_classes) F sc__law_classes rfl rfl fun cdv A outer s H E W hr c => (
    (sm_cons (sm_st 2 c (pm_lst am_nil))
    (sm_cons (sm_for PassesOwn.never c (pim_rng1 (by rfl) z_range (am_cons (pm_bf cm_len z_len b_len (am_cons (pm_ix c (pm_v 0) pm_int) am_nil)) am_nil)) (gm_v 3 c) (sm_cons (sm_st 4 c (pm_lc1 [("make", 5)] c (pim_rng1 (by rfl) z_range (am_cons (pm_bf cm_len z_len b_len (am_cons (pm_ix c (pm_v 0) pm_int) am_nil)) am_nil)) (blkOk_by (own := [("make", 5)]) (N := N__law_classes) (sc := (defScope stm__law_classes)) (by decide +kernel)) (fun _ _ _ _ _ => (gm_v 5 (Cf.blk c))) (fun _ _ _ _ _ => (btm_one (bm_cmp (om_notin (Cf.blk c)) (pm_v 5) (pm_v 1) (by with_unfolding_all rfl)))) (fun _ _ _ _ _ => (pm_call G__law_breaks (Cf.blk c) (hr.mono (by decide)) (by rfl) g__law_breaks F__law_breaks.kp b__law_breaks pass (am_cons (pm_v 0) (am_cons (pm_v 3) (am_cons (pm_v 5) am_nil)))))))
    (sm_cons (sm_lc1 (i := 6) [("part", 7)] c rfl rfl (sw_true rfl rfl rfl (by decide +kernel)) (pim_seq (pm_v 2)) (blkOk_by (own := [("part", 7)]) (N := N__law_classes) (sc := (defScope stm__law_classes)) (by decide +kernel)) (fun _ _ _ _ _ => (gm_v 7 (Cf.blk c))) (fun _ _ _ _ _ => (btm_one (bm_cmp (om_eq (Cf.blk c)) (pm_ix (Cf.blk c) (pm_v 7) pm_int) (pm_v 4) (nomark _)))) (fun _ _ _ _ _ => (pm_v 7)))
    (sm_one (sm_if (bm_cmp (om_eq c) (pm_v 6) (pm_lst am_nil) (nomark _)) (sm_one (sm_ex (pm_mth (.inl rfl) (pe_bm PySem.F.plainAttrs_list PySem.F.slot_list_append PySem.F.type_list_append mm_append (pm_v 2) (am_cons (pm_lst (am_cons (pm_v 4) (am_cons (pm_lst (am_cons (pm_v 3) am_nil)) am_nil))) am_nil))))) (sm_one (sm_ex (pm_mth (.inl rfl) (pe_bm PySem.F.plainAttrs_list PySem.F.slot_list_append PySem.F.type_list_append mm_append (pm_ix c (pm_ix c (pm_v 6) pm_int) pm_int) (am_cons (pm_v 3) am_nil))))))))))
    (sm_one (sm_ret (pm_lc1 [("part", 7)] c (pim_seq (pm_v 2)) (blkOk_by (own := [("part", 7)]) (N := N__law_classes) (sc := (defScope stm__law_classes)) (by decide +kernel)) (fun _ _ _ _ _ => (gm_v 7 (Cf.blk c))) (fun _ _ _ _ _ => btm_nil) (fun _ _ _ _ _ => (pm_bt (cm_tup (Cf.blk c)) z_tuple b_tuple (am_cons (pm_ix (Cf.blk c) (pm_v 7) pm_int) am_nil)))))))))
theorem ok__law_draw {f : Addr} {fd : FuncData} (F : Fun K "_law_draw" "_law_draw" stm__law_draw f fd) (z_int : mg "int" = none) (z_len : mg "len" = none) : FnG P w K mg base CX0 1 f fd ["box", "many"] (spM K mg 2 Cm.c__law_draw) :=
  fnM0 (k := 0) (m := Cm.m__law_draw) F sc__law_draw rfl rfl fun cdv A outer s H E W hr c => (
    (sm_cons (sm_st 2 c (pm_ix c (pm_v 0) pm_int))
    (sm_cons (sm_pt c (pm_bin om_add (pm_v 2) pm_int) (pm_v 0) pm_int)
    (sm_cons (sm_if (bm_cmp om_lt (pm_v 2) (pm_bf cm_len z_len b_len (am_cons (pm_ix c (pm_v 0) pm_int) am_nil)) (nomark _)) (sm_one (sm_ret (pm_bin om_mod (pm_bt cm_int z_int b_int (am_cons (pm_ix c (pm_ix c (pm_v 0) pm_int) (pm_v 2)) am_nil)) (pm_v 1)))) sm_nil)
    (sm_one (sm_ret pm_int))))))
theorem ok__law_skips {f : Addr} {fd : FuncData} (F : Fun K "_law_skips" "_law_skips" stm__law_skips f fd) {f__law_draw : Addr} {fd__law_draw : FuncData} (F__law_draw : Fun K "_law_draw" "_law_draw" stm__law_draw f__law_draw fd__law_draw) (G__law_draw : FnG P w K mg base CX0 1 f__law_draw fd__law_draw ["box", "many"] (spM K mg 2 Cm.c__law_draw)) (g__law_draw : mg "_law_draw" = some (.ref f__law_draw)) (b__law_draw : L2.Binds K fd__law_draw ["box", "many"] []) (z_len : mg "len" = none) (z_range : mg "range" = none) (z_tuple : mg "tuple" = none) : FnG P w K mg base CX0 2 f fd ["box", "history"] (spM K mg 2 Cm20.c__law_skips) :=
  fnM0 (k := 1) (m := Cm20.m__law_skips) F sc__law_skips rfl rfl fun cdv A outer s H E W hr c => (
    (sm_one (sm_ret (pm_bt (cm_tup c) z_tuple b_tuple (am_cons (pm_lc1 [("make", 2)] c (pim_rng1 (by rfl) z_range (am_cons (pm_bf cm_len z_len b_len (am_cons (pm_ix c (pm_v 1) pm_int) am_nil)) am_nil)) (blkOk_by (own := [("make", 2)]) (N := N__law_skips) (sc := (defScope stm__law_skips)) (by decide +kernel)) (fun _ _ _ _ _ => (gm_v 2 (Cf.blk c))) (fun _ _ _ _ _ => (btm_one (bm_cmp (om_eq (Cf.blk c)) (pm_call G__law_draw (Cf.blk c) (hr.mono (by decide)) (by rfl) g__law_draw F__law_draw.kp b__law_draw pass (am_cons (pm_v 0) (am_cons pm_int am_nil))) pm_int (nomark _)))) (fun _ _ _ _ _ => (pm_v 2))) am_nil)))))
theorem ok__law_parents {f : Addr} {fd : FuncData} (F : Fun K "_law_parents" "_law_parents" stm__law_parents f fd) {f__law_draw : Addr} {fd__law_draw : FuncData} (F__law_draw : Fun K "_law_draw" "_law_draw" stm__law_draw f__law_draw fd__law_draw) (G__law_draw : FnG P w K mg base CX0 1 f__law_draw fd__law_draw ["box", "many"] (spM K mg 2 Cm.c__law_draw)) (g__law_draw : mg "_law_draw" = some (.ref f__law_draw)) (b__law_draw : L2.Binds K fd__law_draw ["box", "many"] []) (z_len : mg "len" = none) (z_set : mg "set" = none) (z_sorted : mg "sorted" = none) (z_tuple : mg "tuple" = none) : FnG P w K mg base CX0 2 f fd ["box", "k", "ends"] (spM K mg 3 Cm2.c__law_parents) :=
  fnM0 (k := 1) (m := Cm2.m__law_parents) F sc__law_parents rfl rfl fun cdv A outer s H E W hr c => (
    (sm_cons (sm_if (bm_cmp om_gt (pm_bf cm_len z_len b_len (am_cons (pm_v 2) am_nil)) pm_int (nomark _)) (sm_cons (sm_st 3 c (pm_call G__law_draw c (hr.mono (by decide)) (by rfl) g__law_draw F__law_draw.kp b__law_draw pass (am_cons (pm_v 0) (am_cons (pm_bin om_sub (pm_bf cm_len z_len b_len (am_cons (pm_v 2) am_nil)) pm_int) am_nil))))
    (sm_one (sm_ret (pm_bt (cm_tup c) z_tuple b_tuple (am_cons (pm_sl (pm_v 2) (pom_some (pm_v 3)) (pom_some (pm_bin om_add (pm_v 3) pm_int))) am_nil))))) sm_nil)
    (sm_cons (sm_if (bm_cmp (om_eq c) (pm_call G__law_draw c (hr.mono (by decide)) (by rfl) g__law_draw F__law_draw.kp b__law_draw pass (am_cons (pm_v 0) (am_cons pm_int am_nil))) pm_int (nomark _)) (sm_one (sm_ret (pm_tup am_nil))) sm_nil)
    (sm_cons (sm_st 4 c (pm_call G__law_draw c (hr.mono (by decide)) (by rfl) g__law_draw F__law_draw.kp b__law_draw pass (am_cons (pm_v 0) (am_cons (pm_v 1) am_nil))))
    (sm_cons (sm_st 5 c (pm_call G__law_draw c (hr.mono (by decide)) (by rfl) g__law_draw F__law_draw.kp b__law_draw pass (am_cons (pm_v 0) (am_cons (pm_v 1) am_nil))))
    (sm_one (sm_ret (pm_bt (cm_tup c) z_tuple b_tuple (am_cons (pm_srtSet c z_sorted z_set (am_cons (pm_lst (am_cons (pm_v 4) (am_cons (pm_v 5) am_nil))) am_nil)) am_nil)))))))))
theorem ok__law_history {f : Addr} {fd : FuncData} (F : Fun K "_law_history" "_law_history" stm__law_history f fd) {f__law_parents : Addr} {fd__law_parents : FuncData} (F__law_parents : Fun K "_law_parents" "_law_parents" stm__law_parents f__law_parents fd__law_parents) (G__law_parents : FnG P w K mg base CX0 2 f__law_parents fd__law_parents ["box", "k", "ends"] (spM K mg 3 Cm2.c__law_parents)) (g__law_parents : mg "_law_parents" = some (.ref f__law_parents)) (b__law_parents : L2.Binds K fd__law_parents ["box", "k", "ends"] []) {f__law_draw : Addr} {fd__law_draw : FuncData} (F__law_draw : Fun K "_law_draw" "_law_draw" stm__law_draw f__law_draw fd__law_draw) (G__law_draw : FnG P w K mg base CX0 1 f__law_draw fd__law_draw ["box", "many"] (spM K mg 2 Cm.c__law_draw)) (g__law_draw : mg "_law_draw" = some (.ref f__law_draw)) (b__law_draw : L2.Binds K fd__law_draw ["box", "many"] []) (z_range : mg "range" = none) (z_tuple : mg "tuple" = none) : FnG P w K mg base CX0 3 f fd ["box", "most"] (spM K mg 2 Cm2.c__law_history) :=
  fnM0 (k := 2) (m := Cm2.m__law_history) F sc__law_history rfl rfl fun cdv A outer s H E W hr c => (
    (sm_cons (sm_st 2 c (pm_bin om_add pm_int (pm_call G__law_draw c (hr.mono (by decide)) (by rfl) g__law_draw F__law_draw.kp b__law_draw pass (am_cons (pm_v 0) (am_cons (pm_v 1) am_nil)))))
    (sm_cons (sm_st 3 c (pm_lst am_nil))
    (sm_cons (sm_st 4 c (pm_lst am_nil))
    (sm_cons (sm_for PassesOwn.never c (pim_rng1 (by rfl) z_range (am_cons (pm_v 2) am_nil)) (gm_v 5 c) (sm_cons (sm_st 6 c (pm_tup am_nil))
    (sm_cons (sm_if (bm_cmp (om_eq c) (pm_v 5) (pm_bin om_sub (pm_v 2) pm_int) (nomark _)) (sm_one (sm_st 6 c (pm_bt (cm_tup c) z_tuple b_tuple (am_cons (pm_v 4) am_nil)))) (sm_one (sm_if (bm_cmp om_gt (pm_v 5) pm_int (nomark _)) (sm_one (sm_st 6 c (pm_call G__law_parents c (hr.mono (by decide)) (by rfl) g__law_parents F__law_parents.kp b__law_parents pass (am_cons (pm_v 0) (am_cons (pm_v 5) (am_cons (pm_v 4) am_nil)))))) sm_nil)))
    (sm_cons (sm_st 4 c (pm_bin om_add (pm_lc1 [("end", 7)] c (pim_seq (pm_v 4)) (blkOk_by (own := [("end", 7)]) (N := N__law_history) (sc := (defScope stm__law_history)) (by decide +kernel)) (fun _ _ _ _ _ => (gm_v 7 (Cf.blk c))) (fun _ _ _ _ _ => (btm_one (bm_cmp (om_notin (Cf.blk c)) (pm_v 7) (pm_v 6) (by with_unfolding_all rfl)))) (fun _ _ _ _ _ => (pm_v 7))) (pm_lst (am_cons (pm_v 5) am_nil))))
    (sm_one (sm_ex (pm_mth (.inl rfl) (pe_bm PySem.F.plainAttrs_list PySem.F.slot_list_append PySem.F.type_list_append mm_append (pm_v 3) (am_cons (pm_tup (am_cons (pm_bin om_add pm_str (pm_ix c pm_str (pm_v 5))) (am_cons (pm_v 6) am_nil))) am_nil)))))))))
    (sm_one (sm_ret (pm_tup (am_cons pm_str (am_cons (pm_bt (cm_tup c) z_tuple b_tuple (am_cons (pm_v 3) am_nil)) am_nil))))))))))
theorem ok__law_cell {f : Addr} {fd : FuncData} (F : Fun K "_law_cell" "_law_cell" stm__law_cell f fd) (z_len : mg "len" = none) : FnG P w K mg base CX0 1 f fd ["script", "k"] (spM K mg 2 Cm.c__law_cell) :=
  fnM0 (k := 0) (m := Cm.m__law_cell) F sc__law_cell rfl rfl fun cdv A outer s H E W hr c => (
    (sm_cons (sm_if (bm_cmp om_lt (pm_v 1) (pm_bf cm_len z_len b_len (am_cons (pm_v 0) am_nil)) (nomark _)) (sm_one (sm_ret (pm_ix c (pm_v 0) (pm_v 1)))) sm_nil)
    (sm_one (sm_ret pm_int))))
theorem ok__law_digits {f : Addr} {fd : FuncData} (F : Fun K "_law_digits" "_law_digits" stm__law_digits f fd) {f__law_cell : Addr} {fd__law_cell : FuncData} (F__law_cell : Fun K "_law_cell" "_law_cell" stm__law_cell f__law_cell fd__law_cell) (G__law_cell : FnG P w K mg base CX0 1 f__law_cell fd__law_cell ["script", "k"] (spM K mg 2 Cm.c__law_cell)) (g__law_cell : mg "_law_cell" = some (.ref f__law_cell)) (b__law_cell : L2.Binds K fd__law_cell ["script", "k"] []) (z_int : mg "int" = none) (z_range : mg "range" = none) : FnG P w K mg base CX0 2 f fd ["script", "first", "last"] (spM K mg 3 Cm.c__law_digits) :=
  fnM0 (k := 1) (m := Cm.m__law_digits) F sc__law_digits rfl rfl fun cdv A outer s H E W hr c => (
    (sm_cons (sm_st 3 c (pm_lst am_nil))
    (sm_cons (sm_for PassesOwn.never c (pim_rng2 (by rfl) z_range (am_cons (pm_v 1) (am_cons (pm_v 2) am_nil))) (gm_v 4 c) (sm_cons (sm_st 5 c (pm_call G__law_cell c (hr.mono (by decide)) (by rfl) g__law_cell F__law_cell.kp b__law_cell pass (am_cons (pm_v 0) (am_cons (pm_v 4) am_nil))))
    (sm_cons (sm_if (bm_cmp om_lt (pm_v 5) pm_int (nomark _)) (sm_one (sm_st 5 c (pm_bin om_sub pm_int (pm_bin om_mul pm_int (pm_v 5))))) sm_nil)
    (sm_one (sm_if (bm_cmp om_ge (pm_v 5) (pm_bin om_pow pm_int pm_int) (nomark _)) (sm_one (sm_for PassesOwn.never c (pim_rng1 (by rfl) z_range (am_cons pm_int am_nil)) (gm_v 6 c) (sm_one (sm_if (bm_cmp om_gt (pm_v 5) pm_int (nomark _)) (sm_cons (sm_ex (pm_mth (.inl rfl) (pe_bm PySem.F.plainAttrs_list PySem.F.slot_list_append PySem.F.type_list_append mm_append (pm_v 3) (am_cons (pm_bin om_mod (pm_bt cm_int z_int b_int (am_cons (pm_v 5) am_nil)) pm_int) am_nil))))
    (sm_one (sm_st 5 c (pm_bin om_fdiv (pm_v 5) pm_int)))) sm_nil)))) (sm_cons (sm_st 7 c (pm_bin om_mod (pm_bt cm_int z_int b_int (am_cons (pm_bin om_add (pm_bin om_add (pm_bin om_mul (pm_v 5) pm_int) (pm_bin om_mul (pm_v 4) pm_int)) pm_int) am_nil)) pm_int))
    (sm_one (sm_for PassesOwn.never c (pim_rng1 (by rfl) z_range (am_cons pm_int am_nil)) (gm_v 6 c) (sm_cons (sm_st 7 c (pm_bin om_mod (pm_bt cm_int z_int b_int (am_cons (pm_bin om_add (pm_bin om_add (pm_bin om_mul (pm_v 7) pm_int) (pm_bin om_mul pm_int (pm_v 6))) pm_int) am_nil)) pm_int))
    (sm_one (sm_ex (pm_mth (.inl rfl) (pe_bm PySem.F.plainAttrs_list PySem.F.slot_list_append PySem.F.type_list_append mm_append (pm_v 3) (am_cons (pm_bin om_mod (pm_bt cm_int z_int b_int (am_cons (pm_bin om_fdiv (pm_v 7) pm_int) am_nil)) pm_int) am_nil))))))))))))))
    (sm_one (sm_ret (pm_v 3))))))
theorem ok_law {f : Addr} {fd : FuncData} (F : Fun K "law" "law" stm_law f fd) {f__law_asked : Addr} {fd__law_asked : FuncData} (F__law_asked : Fun K "_law_asked" "_law_asked" stm__law_asked f__law_asked fd__law_asked) (G__law_asked : FnG P w K mg base (L2.CX P w) 29 f__law_asked fd__law_asked ["many", "k", "rule"] (spM K mg 3 Cm23.c__law_asked)) (g__law_asked : mg "_law_asked" = some (.ref f__law_asked)) (b__law_asked : L2.Binds K fd__law_asked ["many", "k", "rule"] []) {f__law_told : Addr} {fd__law_told : FuncData} (F__law_told : Fun K "_law_told" "_law_told" stm__law_told f__law_told fd__law_told) (G__law_told : FnG P w K mg base CX0 22 f__law_told fd__law_told ["table", "classes_v", "counts", "k", "rule", "q", "seen"] (spM K mg 7 (Cm23.c__law_told 20))) (g__law_told : mg "_law_told" = some (.ref f__law_told)) (b__law_told : L2.Binds K fd__law_told ["table", "classes_v", "counts", "k", "rule", "q", "seen"] []) {f_fewest_by_make : Addr} {fd_fewest_by_make : FuncData} (F_fewest_by_make : Fun K "fewest_by_make" "fewest_by_make" stm_fewest_by_make f_fewest_by_make fd_fewest_by_make) (G_fewest_by_make : FnG P w K mg base (L2.CX P w) 28 f_fewest_by_make fd_fewest_by_make ["history", "skipped", "k", "rule"] (spM K mg 4 Cm23.c_fewest_by_make)) (g_fewest_by_make : mg "fewest_by_make" = some (.ref f_fewest_by_make)) (b_fewest_by_make : L2.Binds K fd_fewest_by_make ["history", "skipped", "k", "rule"] []) {f__law_breaks : Addr} {fd__law_breaks : FuncData} (F__law_breaks : Fun K "_law_breaks" "_law_breaks" stm__law_breaks f__law_breaks fd__law_breaks) (G__law_breaks : FnG P w K mg base CX0 2 f__law_breaks fd__law_breaks ["history", "candidate", "make"] (spM K mg 3 Cm3.c__law_breaks)) (g__law_breaks : mg "_law_breaks" = some (.ref f__law_breaks)) (b__law_breaks : L2.Binds K fd__law_breaks ["history", "candidate", "make"] []) {f__law_classes : Addr} {fd__law_classes : FuncData} (F__law_classes : Fun K "_law_classes" "_law_classes" stm__law_classes f__law_classes fd__law_classes) (G__law_classes : FnG P w K mg base CX0 3 f__law_classes fd__law_classes ["history", "skipped"] (spM K mg 2 Cm13.c__law_classes)) (g__law_classes : mg "_law_classes" = some (.ref f__law_classes)) (b__law_classes : L2.Binds K fd__law_classes ["history", "skipped"] []) {f__law_skips : Addr} {fd__law_skips : FuncData} (F__law_skips : Fun K "_law_skips" "_law_skips" stm__law_skips f__law_skips fd__law_skips) (G__law_skips : FnG P w K mg base CX0 2 f__law_skips fd__law_skips ["box", "history"] (spM K mg 2 Cm20.c__law_skips)) (g__law_skips : mg "_law_skips" = some (.ref f__law_skips)) (b__law_skips : L2.Binds K fd__law_skips ["box", "history"] []) {f__law_history : Addr} {fd__law_history : FuncData} (F__law_history : Fun K "_law_history" "_law_history" stm__law_history f__law_history fd__law_history) (G__law_history : FnG P w K mg base CX0 3 f__law_history fd__law_history ["box", "most"] (spM K mg 2 Cm2.c__law_history)) (g__law_history : mg "_law_history" = some (.ref f__law_history)) (b__law_history : L2.Binds K fd__law_history ["box", "most"] []) {f__law_draw : Addr} {fd__law_draw : FuncData} (F__law_draw : Fun K "_law_draw" "_law_draw" stm__law_draw f__law_draw fd__law_draw) (G__law_draw : FnG P w K mg base CX0 1 f__law_draw fd__law_draw ["box", "many"] (spM K mg 2 Cm.c__law_draw)) (g__law_draw : mg "_law_draw" = some (.ref f__law_draw)) (b__law_draw : L2.Binds K fd__law_draw ["box", "many"] []) {f__law_digits : Addr} {fd__law_digits : FuncData} (F__law_digits : Fun K "_law_digits" "_law_digits" stm__law_digits f__law_digits fd__law_digits) (G__law_digits : FnG P w K mg base CX0 2 f__law_digits fd__law_digits ["script", "first", "last"] (spM K mg 3 Cm.c__law_digits)) (g__law_digits : mg "_law_digits" = some (.ref f__law_digits)) (b__law_digits : L2.Binds K fd__law_digits ["script", "first", "last"] []) (z_int : mg "int" = none) (z_len : mg "len" = none) (z_range : mg "range" = none) : FnG P w K mg base (L2.CX P w) 30 f fd ["script"] (spM K mg 1 c_law) :=
  fnMX (k := 29) (m := m_law) F sc_law rfl rfl fun cdv A outer s H E W hr c tk po => (
    (sm_cons (sm_st 1 c (pm_lst (am_cons (pm_call G__law_digits c (hr.mono (by decide)) (by rfl) g__law_digits F__law_digits.kp b__law_digits pass (am_cons (pm_v 0) (am_cons pm_int (am_cons pm_int am_nil)))) (am_cons pm_int am_nil))))
    (sm_cons (sm_st 2 c (pm_call G__law_draw c (hr.mono (by decide)) (by rfl) g__law_draw F__law_draw.kp b__law_draw pass (am_cons (pm_v 1) (am_cons pm_int am_nil))))
    (sm_cons (sm_st 3 c (pm_call G__law_history c (hr.mono (by decide)) (by rfl) g__law_history F__law_history.kp b__law_history pass (am_cons (pm_v 1) (am_cons (pm_bin om_sub pm_int (pm_v 2)) am_nil))))
    (sm_cons (sm_st 4 c (pm_bf cm_len z_len b_len (am_cons (pm_ix c (pm_v 3) pm_int) am_nil)))
    (sm_cons (sm_st 5 c (pm_call G__law_skips c (hr.mono (by decide)) (by rfl) g__law_skips F__law_skips.kp b__law_skips pass (am_cons (pm_v 1) (am_cons (pm_v 3) am_nil))))
    (sm_cons (sm_st 6 c (pm_call G__law_classes c (hr.mono (by decide)) (by rfl) g__law_classes F__law_classes.kp b__law_classes pass (am_cons (pm_v 3) (am_cons (pm_v 5) am_nil))))
    (sm_cons (sm_st 7 c (pm_lc1 [("one", 9)] c (pim_rng1 (by rfl) z_range (am_cons (pm_v 4) am_nil)) (blkOk_by (own := [("one", 9)]) (N := N_law) (sc := (defScope stm_law)) (by decide +kernel)) (fun _ _ _ _ _ => (gm_v 9 (Cf.blk c))) (fun _ _ _ _ _ => btm_nil) (fun _ _ _ _ _ => (pm_lc1 [("make", 8)] (Cf.blk c) (pim_rng1 (by rfl) z_range (am_cons (pm_v 4) am_nil)) (blkOk_by (own := [("make", 8)]) (N := N_law) (sc := (relS _ (defScope stm_law))) (by decide +kernel)) (fun _ _ _ _ _ => (gm_v 8 (Cf.blk (Cf.blk c)))) (fun _ _ _ _ _ => btm_nil) (fun _ _ _ _ _ => (pm_call G__law_breaks (Cf.blk (Cf.blk c)) (hr.mono (by decide)) (by rfl) g__law_breaks F__law_breaks.kp b__law_breaks pass (am_cons (pm_v 3) (am_cons (pm_v 9) (am_cons (pm_v 8) am_nil)))))))))
    (sm_cons (sm_st 10 c pm_dK)
    (sm_cons (sm_for po c (pim_rng1 (by rfl) z_range (am_cons (pm_v 4) am_nil)) (gm_v 8 c) (sm_cut (sm_one (sm_if (PW.pt (bm_and (bm_cmp (om_notin c) (pm_v 8) (pm_v 5) (by with_unfolding_all rfl)) (bm_and1 (bm_chain om_lt om_lt pm_int (pm_bf cm_len z_len b_len (am_cons (pm_lc1 [("one", 9)] c (pim_rng1 (by rfl) z_range (am_cons (pm_v 4) am_nil)) (blkOk_by (own := [("one", 9)]) (N := N_law) (sc := (defScope stm_law)) (by decide +kernel)) (fun _ _ _ _ _ => (gm_v 9 (Cf.blk c))) (fun _ _ _ _ _ => (btm_one (bm_val (pm_ix (Cf.blk c) (pm_ix (Cf.blk c) (pm_v 7) (pm_v 9)) (pm_v 8))))) (fun _ _ _ _ _ => (pm_v 9))) am_nil)) (pm_v 4))))) (sm_one (sm_pt c (pm_tup (am_cons pm_int (am_cons pm_int am_nil))) (pm_v 10) (pm_v 8))) sm_nil))))
    (sm_cons (sm_for po c (pim_seq (pm_lst (am_cons pm_str (am_cons pm_str am_nil)))) (gm_v 11 c) (sm_cut (sm_cons (sm_st 12 c (pm_call G_fewest_by_make c (hr.mono (by decide)) (by rfl) g_fewest_by_make F_fewest_by_make.kp b_fewest_by_make (passTk tk) (am_cons (pm_v 3) (am_cons (pm_v 5) (am_cons (pm_v 2) (am_cons (pm_v 11) am_nil))))))
    (sm_cons (sm_st 13 c pm_dN)
    (sm_cons (sm_if (bm_not (bm_val (pm_call G__law_told c (hr.mono (by decide)) (by rfl) g__law_told F__law_told.kp b__law_told pass (am_cons (pm_v 7) (am_cons (pm_v 6) (am_cons (pm_v 10) (am_cons (pm_v 2) (am_cons (pm_v 11) (am_cons (pm_v 12) (am_cons (pm_v 13) am_nil)))))))))) (sm_one (sm_ret pm_bl)) sm_nil)
    (sm_cons (sm_if (PW.pt (bm_and (bm_cmp om_gt (pm_v 12) pm_int (nomark _)) (bm_and1 (bm_val (pm_call G__law_told c (hr.mono (by decide)) (by rfl) g__law_told F__law_told.kp b__law_told pass (am_cons (pm_v 7) (am_cons (pm_v 6) (am_cons (pm_v 10) (am_cons (pm_v 2) (am_cons (pm_v 11) (am_cons (pm_bin om_sub (pm_v 12) pm_int) (am_cons (pm_v 13) am_nil)))))))))))) (sm_one (sm_ret pm_bl)) sm_nil)
    (sm_one (sm_if (PW.pt (bm_or (bm_cmp (om_ne c) (pm_call G__law_asked c (hr.mono (by decide)) (by rfl) g__law_asked F__law_asked.kp b__law_asked (passTk tk) (am_cons pm_int (am_cons (pm_v 2) (am_cons (pm_v 11) am_nil)))) (pm_un um_neg pm_int) (nomark _)) (bm_or1 (bm_cmp (om_ne c) (pm_call G__law_asked c (hr.mono (by decide)) (by rfl) g__law_asked F__law_asked.kp b__law_asked (passTk tk) (am_cons pm_int (am_cons (pm_v 2) (am_cons (pm_v 11) am_nil)))) (pm_bin om_mul pm_int (pm_ix c (pm_lst (am_cons (pm_bin om_add (pm_bin om_mul pm_int (pm_v 2)) pm_int) (am_cons (pm_bin om_add (pm_v 2) pm_int) am_nil))) (pm_bt cm_int z_int b_int (am_cons (pm_cmp (om_eq c) (pm_v 11) pm_str (nomark _)) am_nil)))) (nomark _))))) (sm_one (sm_ret pm_bl)) sm_nil))))))))
    (sm_one (sm_ret pm_bl)))))))))))))
end
/-- what is left to show -/
def Goal : Prop := ∀ ns : List Int, ns.length ≤ 63 → c_law [.scr ns] (fun _ _ => False) [] (fun d _ => d = .bl true)
theorem all_mk {l : PySem.W.OpenLaw} {w : World} {K : PySem.W.Frag} {h : Heap} {mg : Str → Option Value} {fa f_most_tests f_inside f_parts f_taken f_Search_ways f_Search_worth f_Search_best f_Search_needed f_which_are_in f_ancestors f_offspring f_classes f_marks f_tests f_marked_tests f_Search___init__ f_check_size f_fewest_from f_start f_fewest f_fewest_by_make f__law_long_chain f__law_asked f__law_alive f__law_key f__law_told f__law_above f__law_breaks f__law_classes f__law_draw f__law_skips f__law_parents f__law_history f__law_cell f__law_digits f_law : Addr} (X : K.In h) (G : h.Ns mainGlobals mg) (hfa : mg "law" = some (.ref fa))
    {od_most_tests an_most_tests : Option Addr} {sl_most_tests : Array (Option Value)} {oc_most_tests kV_most_tests dc_most_tests pm_most_tests cd_most_tests ct_most_tests : Value}
    {od_inside an_inside : Option Addr} {sl_inside : Array (Option Value)} {oc_inside kV_inside dc_inside pm_inside cd_inside ct_inside : Value}
    {od_parts an_parts : Option Addr} {sl_parts : Array (Option Value)} {oc_parts kV_parts dc_parts pm_parts cd_parts ct_parts : Value}
    {od_taken an_taken : Option Addr} {sl_taken : Array (Option Value)} {oc_taken kV_taken dc_taken pm_taken cd_taken ct_taken : Value}
    {od_Search_ways an_Search_ways : Option Addr} {sl_Search_ways : Array (Option Value)} {oc_Search_ways kV_Search_ways dc_Search_ways pm_Search_ways cd_Search_ways ct_Search_ways : Value}
    {od_Search_worth an_Search_worth : Option Addr} {sl_Search_worth : Array (Option Value)} {oc_Search_worth kV_Search_worth dc_Search_worth pm_Search_worth cd_Search_worth ct_Search_worth : Value}
    {od_Search_best an_Search_best : Option Addr} {sl_Search_best : Array (Option Value)} {oc_Search_best kV_Search_best dc_Search_best pm_Search_best cd_Search_best ct_Search_best : Value}
    {od_Search_needed an_Search_needed : Option Addr} {sl_Search_needed : Array (Option Value)} {oc_Search_needed kV_Search_needed dc_Search_needed pm_Search_needed cd_Search_needed ct_Search_needed : Value}
    {od_which_are_in an_which_are_in : Option Addr} {sl_which_are_in : Array (Option Value)} {oc_which_are_in kV_which_are_in dc_which_are_in pm_which_are_in cd_which_are_in ct_which_are_in : Value}
    {od_ancestors an_ancestors : Option Addr} {sl_ancestors : Array (Option Value)} {oc_ancestors kV_ancestors dc_ancestors pm_ancestors cd_ancestors ct_ancestors : Value}
    {od_offspring an_offspring : Option Addr} {sl_offspring : Array (Option Value)} {oc_offspring kV_offspring dc_offspring pm_offspring cd_offspring ct_offspring : Value}
    {od_classes an_classes : Option Addr} {sl_classes : Array (Option Value)} {oc_classes kV_classes dc_classes pm_classes cd_classes ct_classes : Value}
    {od_marks an_marks : Option Addr} {sl_marks : Array (Option Value)} {oc_marks kV_marks dc_marks pm_marks cd_marks ct_marks : Value}
    {od_tests an_tests : Option Addr} {sl_tests : Array (Option Value)} {oc_tests kV_tests dc_tests pm_tests cd_tests ct_tests : Value}
    {od_marked_tests an_marked_tests : Option Addr} {sl_marked_tests : Array (Option Value)} {oc_marked_tests kV_marked_tests dc_marked_tests pm_marked_tests cd_marked_tests ct_marked_tests : Value}
    {od_Search___init__ an_Search___init__ : Option Addr} {sl_Search___init__ : Array (Option Value)} {oc_Search___init__ kV_Search___init__ dc_Search___init__ pm_Search___init__ cd_Search___init__ ct_Search___init__ : Value}
    {od_check_size an_check_size : Option Addr} {sl_check_size : Array (Option Value)} {oc_check_size kV_check_size dc_check_size pm_check_size cd_check_size ct_check_size : Value}
    {od_fewest_from an_fewest_from : Option Addr} {sl_fewest_from : Array (Option Value)} {oc_fewest_from kV_fewest_from dc_fewest_from pm_fewest_from cd_fewest_from ct_fewest_from : Value}
    {od_start an_start : Option Addr} {sl_start : Array (Option Value)} {oc_start kV_start dc_start pm_start cd_start ct_start : Value}
    {od_fewest an_fewest : Option Addr} {sl_fewest : Array (Option Value)} {oc_fewest kV_fewest dc_fewest pm_fewest cd_fewest ct_fewest : Value}
    {od_fewest_by_make an_fewest_by_make : Option Addr} {sl_fewest_by_make : Array (Option Value)} {oc_fewest_by_make kV_fewest_by_make dc_fewest_by_make pm_fewest_by_make cd_fewest_by_make ct_fewest_by_make : Value}
    {od__law_long_chain an__law_long_chain : Option Addr} {sl__law_long_chain : Array (Option Value)} {oc__law_long_chain kV__law_long_chain dc__law_long_chain pm__law_long_chain cd__law_long_chain ct__law_long_chain : Value}
    {od__law_asked an__law_asked : Option Addr} {sl__law_asked : Array (Option Value)} {oc__law_asked kV__law_asked dc__law_asked pm__law_asked cd__law_asked ct__law_asked : Value}
    {od__law_alive an__law_alive : Option Addr} {sl__law_alive : Array (Option Value)} {oc__law_alive kV__law_alive dc__law_alive pm__law_alive cd__law_alive ct__law_alive : Value}
    {od__law_key an__law_key : Option Addr} {sl__law_key : Array (Option Value)} {oc__law_key kV__law_key dc__law_key pm__law_key cd__law_key ct__law_key : Value}
    {od__law_told an__law_told : Option Addr} {sl__law_told : Array (Option Value)} {oc__law_told kV__law_told dc__law_told pm__law_told cd__law_told ct__law_told : Value}
    {od__law_above an__law_above : Option Addr} {sl__law_above : Array (Option Value)} {oc__law_above kV__law_above dc__law_above pm__law_above cd__law_above ct__law_above : Value}
    {od__law_breaks an__law_breaks : Option Addr} {sl__law_breaks : Array (Option Value)} {oc__law_breaks kV__law_breaks dc__law_breaks pm__law_breaks cd__law_breaks ct__law_breaks : Value}
    {od__law_classes an__law_classes : Option Addr} {sl__law_classes : Array (Option Value)} {oc__law_classes kV__law_classes dc__law_classes pm__law_classes cd__law_classes ct__law_classes : Value}
    {od__law_draw an__law_draw : Option Addr} {sl__law_draw : Array (Option Value)} {oc__law_draw kV__law_draw dc__law_draw pm__law_draw cd__law_draw ct__law_draw : Value}
    {od__law_skips an__law_skips : Option Addr} {sl__law_skips : Array (Option Value)} {oc__law_skips kV__law_skips dc__law_skips pm__law_skips cd__law_skips ct__law_skips : Value}
    {od__law_parents an__law_parents : Option Addr} {sl__law_parents : Array (Option Value)} {oc__law_parents kV__law_parents dc__law_parents pm__law_parents cd__law_parents ct__law_parents : Value}
    {od__law_history an__law_history : Option Addr} {sl__law_history : Array (Option Value)} {oc__law_history kV__law_history dc__law_history pm__law_history cd__law_history ct__law_history : Value}
    {od__law_cell an__law_cell : Option Addr} {sl__law_cell : Array (Option Value)} {oc__law_cell kV__law_cell dc__law_cell pm__law_cell cd__law_cell ct__law_cell : Value}
    {od__law_digits an__law_digits : Option Addr} {sl__law_digits : Array (Option Value)} {oc__law_digits kV__law_digits dc__law_digits pm__law_digits cd__law_digits ct__law_digits : Value}
    {od_law an_law : Option Addr} {sl_law : Array (Option Value)} {oc_law kV_law dc_law pm_law cd_law ct_law : Value}
    {C_Search : Addr} (a_Search : PySem.W.nsIn K mainGlobals "Search" = some (some (.ref C_Search))) (p_Search : PySem.W.plainGet K C_Search Str.empty = true) (h_Search : PySem.W.hasDictIn K C_Search = true) (o_Search : PySem.W.plainOver K C_Search = true) (s_Search : PySem.W.findIn K (.ref C_Search) "__setattr__" = some (some (.builtin "object.__setattr__")))
    (m_Search : PySem.W.makesIn K C_Search = true) (kc_Search : PySem.W.keepIn K (.ref C_Search) = true)
    (na_Search_known : PySem.W.findIn K (.ref C_Search) "known" = some none)
    (na_Search_marked : PySem.W.findIn K (.ref C_Search) "marked" = some none)
    (na_Search_step : PySem.W.findIn K (.ref C_Search) "step" = some none)
    (a_most_tests : PySem.W.nsIn K mainGlobals "most_tests" = some (some (.ref f_most_tests))) (l_most_tests : K.lookup f_most_tests = some ⟨oc_most_tests, od_most_tests, .func (PySem.W.fnOf "most_tests" "most_tests" (defArgs stm_most_tests) (defBody stm_most_tests) (defScope stm_most_tests) .none kV_most_tests dc_most_tests pm_most_tests an_most_tests cd_most_tests ct_most_tests), sl_most_tests⟩) (c_most_tests : PySem.W.codeIn K cd_most_tests "most_tests" = true) (k_most_tests : PySem.W.keepIn K (.ref f_most_tests) = true)
    (a_inside : PySem.W.nsIn K mainGlobals "inside" = some (some (.ref f_inside))) (l_inside : K.lookup f_inside = some ⟨oc_inside, od_inside, .func (PySem.W.fnOf "inside" "inside" (defArgs stm_inside) (defBody stm_inside) (defScope stm_inside) .none kV_inside dc_inside pm_inside an_inside cd_inside ct_inside), sl_inside⟩) (c_inside : PySem.W.codeIn K cd_inside "inside" = true) (k_inside : PySem.W.keepIn K (.ref f_inside) = true)
    (a_parts : PySem.W.nsIn K mainGlobals "parts" = some (some (.ref f_parts))) (l_parts : K.lookup f_parts = some ⟨oc_parts, od_parts, .func (PySem.W.fnOf "parts" "parts" (defArgs stm_parts) (defBody stm_parts) (defScope stm_parts) .none kV_parts dc_parts pm_parts an_parts cd_parts ct_parts), sl_parts⟩) (c_parts : PySem.W.codeIn K cd_parts "parts" = true) (k_parts : PySem.W.keepIn K (.ref f_parts) = true)
    (a_taken : PySem.W.nsIn K mainGlobals "taken" = some (some (.ref f_taken))) (l_taken : K.lookup f_taken = some ⟨oc_taken, od_taken, .func (PySem.W.fnOf "taken" "taken" (defArgs stm_taken) (defBody stm_taken) (defScope stm_taken) .none kV_taken dc_taken pm_taken an_taken cd_taken ct_taken), sl_taken⟩) (c_taken : PySem.W.codeIn K cd_taken "taken" = true) (k_taken : PySem.W.keepIn K (.ref f_taken) = true)
    (i_Search_ways : PySem.W.findIn K (.ref C_Search) "ways" = some (some (.ref f_Search_ways))) (n_Search_ways : PySem.W.isFn K (.ref f_Search_ways) = true) (l_Search_ways : K.lookup f_Search_ways = some ⟨oc_Search_ways, od_Search_ways, .func (PySem.W.fnOf "ways" "Search.ways" (defArgs stm_Search_ways) (defBody stm_Search_ways) (defScope stm_Search_ways) .none kV_Search_ways dc_Search_ways pm_Search_ways an_Search_ways cd_Search_ways ct_Search_ways), sl_Search_ways⟩) (c_Search_ways : PySem.W.codeIn K cd_Search_ways "Search.ways" = true) (k_Search_ways : PySem.W.keepIn K (.ref f_Search_ways) = true)
    (i_Search_worth : PySem.W.findIn K (.ref C_Search) "worth" = some (some (.ref f_Search_worth))) (n_Search_worth : PySem.W.isFn K (.ref f_Search_worth) = true) (l_Search_worth : K.lookup f_Search_worth = some ⟨oc_Search_worth, od_Search_worth, .func (PySem.W.fnOf "worth" "Search.worth" (defArgs stm_Search_worth) (defBody stm_Search_worth) (defScope stm_Search_worth) .none kV_Search_worth dc_Search_worth pm_Search_worth an_Search_worth cd_Search_worth ct_Search_worth), sl_Search_worth⟩) (c_Search_worth : PySem.W.codeIn K cd_Search_worth "Search.worth" = true) (k_Search_worth : PySem.W.keepIn K (.ref f_Search_worth) = true)
    (i_Search_best : PySem.W.findIn K (.ref C_Search) "best" = some (some (.ref f_Search_best))) (n_Search_best : PySem.W.isFn K (.ref f_Search_best) = true) (l_Search_best : K.lookup f_Search_best = some ⟨oc_Search_best, od_Search_best, .func (PySem.W.fnOf "best" "Search.best" (defArgs stm_Search_best) (defBody stm_Search_best) (defScope stm_Search_best) .none kV_Search_best dc_Search_best pm_Search_best an_Search_best cd_Search_best ct_Search_best), sl_Search_best⟩) (c_Search_best : PySem.W.codeIn K cd_Search_best "Search.best" = true) (k_Search_best : PySem.W.keepIn K (.ref f_Search_best) = true)
    (i_Search_needed : PySem.W.findIn K (.ref C_Search) "needed" = some (some (.ref f_Search_needed))) (n_Search_needed : PySem.W.isFn K (.ref f_Search_needed) = true) (l_Search_needed : K.lookup f_Search_needed = some ⟨oc_Search_needed, od_Search_needed, .func (PySem.W.fnOf "needed" "Search.needed" (defArgs stm_Search_needed) (defBody stm_Search_needed) (defScope stm_Search_needed) .none kV_Search_needed dc_Search_needed pm_Search_needed an_Search_needed cd_Search_needed ct_Search_needed), sl_Search_needed⟩) (c_Search_needed : PySem.W.codeIn K cd_Search_needed "Search.needed" = true) (k_Search_needed : PySem.W.keepIn K (.ref f_Search_needed) = true)
    (a_which_are_in : PySem.W.nsIn K mainGlobals "which_are_in" = some (some (.ref f_which_are_in))) (l_which_are_in : K.lookup f_which_are_in = some ⟨oc_which_are_in, od_which_are_in, .func (PySem.W.fnOf "which_are_in" "which_are_in" (defArgs stm_which_are_in) (defBody stm_which_are_in) (defScope stm_which_are_in) .none kV_which_are_in dc_which_are_in pm_which_are_in an_which_are_in cd_which_are_in ct_which_are_in), sl_which_are_in⟩) (c_which_are_in : PySem.W.codeIn K cd_which_are_in "which_are_in" = true) (k_which_are_in : PySem.W.keepIn K (.ref f_which_are_in) = true)
    (a_ancestors : PySem.W.nsIn K mainGlobals "ancestors" = some (some (.ref f_ancestors))) (l_ancestors : K.lookup f_ancestors = some ⟨oc_ancestors, od_ancestors, .func (PySem.W.fnOf "ancestors" "ancestors" (defArgs stm_ancestors) (defBody stm_ancestors) (defScope stm_ancestors) .none kV_ancestors dc_ancestors pm_ancestors an_ancestors cd_ancestors ct_ancestors), sl_ancestors⟩) (c_ancestors : PySem.W.codeIn K cd_ancestors "ancestors" = true) (k_ancestors : PySem.W.keepIn K (.ref f_ancestors) = true)
    (a_offspring : PySem.W.nsIn K mainGlobals "offspring" = some (some (.ref f_offspring))) (l_offspring : K.lookup f_offspring = some ⟨oc_offspring, od_offspring, .func (PySem.W.fnOf "offspring" "offspring" (defArgs stm_offspring) (defBody stm_offspring) (defScope stm_offspring) .none kV_offspring dc_offspring pm_offspring an_offspring cd_offspring ct_offspring), sl_offspring⟩) (c_offspring : PySem.W.codeIn K cd_offspring "offspring" = true) (k_offspring : PySem.W.keepIn K (.ref f_offspring) = true)
    (a_classes : PySem.W.nsIn K mainGlobals "classes" = some (some (.ref f_classes))) (l_classes : K.lookup f_classes = some ⟨oc_classes, od_classes, .func (PySem.W.fnOf "classes" "classes" (defArgs stm_classes) (defBody stm_classes) (defScope stm_classes) .none kV_classes dc_classes pm_classes an_classes cd_classes ct_classes), sl_classes⟩) (c_classes : PySem.W.codeIn K cd_classes "classes" = true) (k_classes : PySem.W.keepIn K (.ref f_classes) = true)
    (a_marks : PySem.W.nsIn K mainGlobals "marks" = some (some (.ref f_marks))) (l_marks : K.lookup f_marks = some ⟨oc_marks, od_marks, .func (PySem.W.fnOf "marks" "marks" (defArgs stm_marks) (defBody stm_marks) (defScope stm_marks) .none kV_marks dc_marks pm_marks an_marks cd_marks ct_marks), sl_marks⟩) (c_marks : PySem.W.codeIn K cd_marks "marks" = true) (k_marks : PySem.W.keepIn K (.ref f_marks) = true)
    (a_tests : PySem.W.nsIn K mainGlobals "tests" = some (some (.ref f_tests))) (l_tests : K.lookup f_tests = some ⟨oc_tests, od_tests, .func (PySem.W.fnOf "tests" "tests" (defArgs stm_tests) (defBody stm_tests) (defScope stm_tests) .none kV_tests dc_tests pm_tests an_tests cd_tests ct_tests), sl_tests⟩) (c_tests : PySem.W.codeIn K cd_tests "tests" = true) (k_tests : PySem.W.keepIn K (.ref f_tests) = true)
    (a_marked_tests : PySem.W.nsIn K mainGlobals "marked_tests" = some (some (.ref f_marked_tests))) (l_marked_tests : K.lookup f_marked_tests = some ⟨oc_marked_tests, od_marked_tests, .func (PySem.W.fnOf "marked_tests" "marked_tests" (defArgs stm_marked_tests) (defBody stm_marked_tests) (defScope stm_marked_tests) .none kV_marked_tests dc_marked_tests pm_marked_tests an_marked_tests cd_marked_tests ct_marked_tests), sl_marked_tests⟩) (c_marked_tests : PySem.W.codeIn K cd_marked_tests "marked_tests" = true) (k_marked_tests : PySem.W.keepIn K (.ref f_marked_tests) = true)
    (i_Search___init__ : PySem.W.findIn K (.ref C_Search) "__init__" = some (some (.ref f_Search___init__))) (n_Search___init__ : PySem.W.isFn K (.ref f_Search___init__) = true) (l_Search___init__ : K.lookup f_Search___init__ = some ⟨oc_Search___init__, od_Search___init__, .func (PySem.W.fnOf "__init__" "Search.__init__" (defArgs stm_Search___init__) (defBody stm_Search___init__) (defScope stm_Search___init__) .none kV_Search___init__ dc_Search___init__ pm_Search___init__ an_Search___init__ cd_Search___init__ ct_Search___init__), sl_Search___init__⟩) (c_Search___init__ : PySem.W.codeIn K cd_Search___init__ "Search.__init__" = true) (k_Search___init__ : PySem.W.keepIn K (.ref f_Search___init__) = true)
    (a_check_size : PySem.W.nsIn K mainGlobals "check_size" = some (some (.ref f_check_size))) (l_check_size : K.lookup f_check_size = some ⟨oc_check_size, od_check_size, .func (PySem.W.fnOf "check_size" "check_size" (defArgs stm_check_size) (defBody stm_check_size) (defScope stm_check_size) .none kV_check_size dc_check_size pm_check_size an_check_size cd_check_size ct_check_size), sl_check_size⟩) (c_check_size : PySem.W.codeIn K cd_check_size "check_size" = true) (k_check_size : PySem.W.keepIn K (.ref f_check_size) = true)
    (a_fewest_from : PySem.W.nsIn K mainGlobals "fewest_from" = some (some (.ref f_fewest_from))) (l_fewest_from : K.lookup f_fewest_from = some ⟨oc_fewest_from, od_fewest_from, .func (PySem.W.fnOf "fewest_from" "fewest_from" (defArgs stm_fewest_from) (defBody stm_fewest_from) (defScope stm_fewest_from) .none kV_fewest_from dc_fewest_from pm_fewest_from an_fewest_from cd_fewest_from ct_fewest_from), sl_fewest_from⟩) (c_fewest_from : PySem.W.codeIn K cd_fewest_from "fewest_from" = true) (k_fewest_from : PySem.W.keepIn K (.ref f_fewest_from) = true)
    (a_start : PySem.W.nsIn K mainGlobals "start" = some (some (.ref f_start))) (l_start : K.lookup f_start = some ⟨oc_start, od_start, .func (PySem.W.fnOf "start" "start" (defArgs stm_start) (defBody stm_start) (defScope stm_start) .none kV_start dc_start pm_start an_start cd_start ct_start), sl_start⟩) (c_start : PySem.W.codeIn K cd_start "start" = true) (k_start : PySem.W.keepIn K (.ref f_start) = true)
    (a_fewest : PySem.W.nsIn K mainGlobals "fewest" = some (some (.ref f_fewest))) (l_fewest : K.lookup f_fewest = some ⟨oc_fewest, od_fewest, .func (PySem.W.fnOf "fewest" "fewest" (defArgs stm_fewest) (defBody stm_fewest) (defScope stm_fewest) .none kV_fewest dc_fewest pm_fewest an_fewest cd_fewest ct_fewest), sl_fewest⟩) (c_fewest : PySem.W.codeIn K cd_fewest "fewest" = true) (k_fewest : PySem.W.keepIn K (.ref f_fewest) = true)
    (a_fewest_by_make : PySem.W.nsIn K mainGlobals "fewest_by_make" = some (some (.ref f_fewest_by_make))) (l_fewest_by_make : K.lookup f_fewest_by_make = some ⟨oc_fewest_by_make, od_fewest_by_make, .func (PySem.W.fnOf "fewest_by_make" "fewest_by_make" (defArgs stm_fewest_by_make) (defBody stm_fewest_by_make) (defScope stm_fewest_by_make) .none kV_fewest_by_make dc_fewest_by_make pm_fewest_by_make an_fewest_by_make cd_fewest_by_make ct_fewest_by_make), sl_fewest_by_make⟩) (c_fewest_by_make : PySem.W.codeIn K cd_fewest_by_make "fewest_by_make" = true) (k_fewest_by_make : PySem.W.keepIn K (.ref f_fewest_by_make) = true)
    (a__law_long_chain : PySem.W.nsIn K mainGlobals "_law_long_chain" = some (some (.ref f__law_long_chain))) (l__law_long_chain : K.lookup f__law_long_chain = some ⟨oc__law_long_chain, od__law_long_chain, .func (PySem.W.fnOf "_law_long_chain" "_law_long_chain" (defArgs stm__law_long_chain) (defBody stm__law_long_chain) (defScope stm__law_long_chain) .none kV__law_long_chain dc__law_long_chain pm__law_long_chain an__law_long_chain cd__law_long_chain ct__law_long_chain), sl__law_long_chain⟩) (c__law_long_chain : PySem.W.codeIn K cd__law_long_chain "_law_long_chain" = true) (k__law_long_chain : PySem.W.keepIn K (.ref f__law_long_chain) = true)
    (a__law_asked : PySem.W.nsIn K mainGlobals "_law_asked" = some (some (.ref f__law_asked))) (l__law_asked : K.lookup f__law_asked = some ⟨oc__law_asked, od__law_asked, .func (PySem.W.fnOf "_law_asked" "_law_asked" (defArgs stm__law_asked) (defBody stm__law_asked) (defScope stm__law_asked) .none kV__law_asked dc__law_asked pm__law_asked an__law_asked cd__law_asked ct__law_asked), sl__law_asked⟩) (c__law_asked : PySem.W.codeIn K cd__law_asked "_law_asked" = true) (k__law_asked : PySem.W.keepIn K (.ref f__law_asked) = true)
    (a__law_alive : PySem.W.nsIn K mainGlobals "_law_alive" = some (some (.ref f__law_alive))) (l__law_alive : K.lookup f__law_alive = some ⟨oc__law_alive, od__law_alive, .func (PySem.W.fnOf "_law_alive" "_law_alive" (defArgs stm__law_alive) (defBody stm__law_alive) (defScope stm__law_alive) .none kV__law_alive dc__law_alive pm__law_alive an__law_alive cd__law_alive ct__law_alive), sl__law_alive⟩) (c__law_alive : PySem.W.codeIn K cd__law_alive "_law_alive" = true) (k__law_alive : PySem.W.keepIn K (.ref f__law_alive) = true)
    (a__law_key : PySem.W.nsIn K mainGlobals "_law_key" = some (some (.ref f__law_key))) (l__law_key : K.lookup f__law_key = some ⟨oc__law_key, od__law_key, .func (PySem.W.fnOf "_law_key" "_law_key" (defArgs stm__law_key) (defBody stm__law_key) (defScope stm__law_key) .none kV__law_key dc__law_key pm__law_key an__law_key cd__law_key ct__law_key), sl__law_key⟩) (c__law_key : PySem.W.codeIn K cd__law_key "_law_key" = true) (k__law_key : PySem.W.keepIn K (.ref f__law_key) = true)
    (a__law_told : PySem.W.nsIn K mainGlobals "_law_told" = some (some (.ref f__law_told))) (l__law_told : K.lookup f__law_told = some ⟨oc__law_told, od__law_told, .func (PySem.W.fnOf "_law_told" "_law_told" (defArgs stm__law_told) (defBody stm__law_told) (defScope stm__law_told) .none kV__law_told dc__law_told pm__law_told an__law_told cd__law_told ct__law_told), sl__law_told⟩) (c__law_told : PySem.W.codeIn K cd__law_told "_law_told" = true) (k__law_told : PySem.W.keepIn K (.ref f__law_told) = true)
    (a__law_above : PySem.W.nsIn K mainGlobals "_law_above" = some (some (.ref f__law_above))) (l__law_above : K.lookup f__law_above = some ⟨oc__law_above, od__law_above, .func (PySem.W.fnOf "_law_above" "_law_above" (defArgs stm__law_above) (defBody stm__law_above) (defScope stm__law_above) .none kV__law_above dc__law_above pm__law_above an__law_above cd__law_above ct__law_above), sl__law_above⟩) (c__law_above : PySem.W.codeIn K cd__law_above "_law_above" = true) (k__law_above : PySem.W.keepIn K (.ref f__law_above) = true)
    (a__law_breaks : PySem.W.nsIn K mainGlobals "_law_breaks" = some (some (.ref f__law_breaks))) (l__law_breaks : K.lookup f__law_breaks = some ⟨oc__law_breaks, od__law_breaks, .func (PySem.W.fnOf "_law_breaks" "_law_breaks" (defArgs stm__law_breaks) (defBody stm__law_breaks) (defScope stm__law_breaks) .none kV__law_breaks dc__law_breaks pm__law_breaks an__law_breaks cd__law_breaks ct__law_breaks), sl__law_breaks⟩) (c__law_breaks : PySem.W.codeIn K cd__law_breaks "_law_breaks" = true) (k__law_breaks : PySem.W.keepIn K (.ref f__law_breaks) = true)
    (a__law_classes : PySem.W.nsIn K mainGlobals "_law_classes" = some (some (.ref f__law_classes))) (l__law_classes : K.lookup f__law_classes = some ⟨oc__law_classes, od__law_classes, .func (PySem.W.fnOf "_law_classes" "_law_classes" (defArgs stm__law_classes) (defBody stm__law_classes) (defScope stm__law_classes) .none kV__law_classes dc__law_classes pm__law_classes an__law_classes cd__law_classes ct__law_classes), sl__law_classes⟩) (c__law_classes : PySem.W.codeIn K cd__law_classes "_law_classes" = true) (k__law_classes : PySem.W.keepIn K (.ref f__law_classes) = true)
    (a__law_draw : PySem.W.nsIn K mainGlobals "_law_draw" = some (some (.ref f__law_draw))) (l__law_draw : K.lookup f__law_draw = some ⟨oc__law_draw, od__law_draw, .func (PySem.W.fnOf "_law_draw" "_law_draw" (defArgs stm__law_draw) (defBody stm__law_draw) (defScope stm__law_draw) .none kV__law_draw dc__law_draw pm__law_draw an__law_draw cd__law_draw ct__law_draw), sl__law_draw⟩) (c__law_draw : PySem.W.codeIn K cd__law_draw "_law_draw" = true) (k__law_draw : PySem.W.keepIn K (.ref f__law_draw) = true)
    (a__law_skips : PySem.W.nsIn K mainGlobals "_law_skips" = some (some (.ref f__law_skips))) (l__law_skips : K.lookup f__law_skips = some ⟨oc__law_skips, od__law_skips, .func (PySem.W.fnOf "_law_skips" "_law_skips" (defArgs stm__law_skips) (defBody stm__law_skips) (defScope stm__law_skips) .none kV__law_skips dc__law_skips pm__law_skips an__law_skips cd__law_skips ct__law_skips), sl__law_skips⟩) (c__law_skips : PySem.W.codeIn K cd__law_skips "_law_skips" = true) (k__law_skips : PySem.W.keepIn K (.ref f__law_skips) = true)
    (a__law_parents : PySem.W.nsIn K mainGlobals "_law_parents" = some (some (.ref f__law_parents))) (l__law_parents : K.lookup f__law_parents = some ⟨oc__law_parents, od__law_parents, .func (PySem.W.fnOf "_law_parents" "_law_parents" (defArgs stm__law_parents) (defBody stm__law_parents) (defScope stm__law_parents) .none kV__law_parents dc__law_parents pm__law_parents an__law_parents cd__law_parents ct__law_parents), sl__law_parents⟩) (c__law_parents : PySem.W.codeIn K cd__law_parents "_law_parents" = true) (k__law_parents : PySem.W.keepIn K (.ref f__law_parents) = true)
    (a__law_history : PySem.W.nsIn K mainGlobals "_law_history" = some (some (.ref f__law_history))) (l__law_history : K.lookup f__law_history = some ⟨oc__law_history, od__law_history, .func (PySem.W.fnOf "_law_history" "_law_history" (defArgs stm__law_history) (defBody stm__law_history) (defScope stm__law_history) .none kV__law_history dc__law_history pm__law_history an__law_history cd__law_history ct__law_history), sl__law_history⟩) (c__law_history : PySem.W.codeIn K cd__law_history "_law_history" = true) (k__law_history : PySem.W.keepIn K (.ref f__law_history) = true)
    (a__law_cell : PySem.W.nsIn K mainGlobals "_law_cell" = some (some (.ref f__law_cell))) (l__law_cell : K.lookup f__law_cell = some ⟨oc__law_cell, od__law_cell, .func (PySem.W.fnOf "_law_cell" "_law_cell" (defArgs stm__law_cell) (defBody stm__law_cell) (defScope stm__law_cell) .none kV__law_cell dc__law_cell pm__law_cell an__law_cell cd__law_cell ct__law_cell), sl__law_cell⟩) (c__law_cell : PySem.W.codeIn K cd__law_cell "_law_cell" = true) (k__law_cell : PySem.W.keepIn K (.ref f__law_cell) = true)
    (a__law_digits : PySem.W.nsIn K mainGlobals "_law_digits" = some (some (.ref f__law_digits))) (l__law_digits : K.lookup f__law_digits = some ⟨oc__law_digits, od__law_digits, .func (PySem.W.fnOf "_law_digits" "_law_digits" (defArgs stm__law_digits) (defBody stm__law_digits) (defScope stm__law_digits) .none kV__law_digits dc__law_digits pm__law_digits an__law_digits cd__law_digits ct__law_digits), sl__law_digits⟩) (c__law_digits : PySem.W.codeIn K cd__law_digits "_law_digits" = true) (k__law_digits : PySem.W.keepIn K (.ref f__law_digits) = true)
    (a_law : PySem.W.nsIn K mainGlobals "law" = some (some (.ref f_law))) (l_law : K.lookup f_law = some ⟨oc_law, od_law, .func (PySem.W.fnOf "law" "law" (defArgs stm_law) (defBody stm_law) (defScope stm_law) .none kV_law dc_law pm_law an_law cd_law ct_law), sl_law⟩) (c_law : PySem.W.codeIn K cd_law "law" = true) (k_law : PySem.W.keepIn K (.ref f_law) = true)
    {C_TooGreat : Addr} (o_gn : PySem.W.specialIn K (.builtin "object.__class__") "__get__" = some (some (.builtin "getset_descriptor.__get__"))) (o_tk : PySem.W.takesIn K (.builtin "object.__class__") = some true)
    (aC_TooGreat : PySem.W.nsIn K mainGlobals "TooGreat" = some (some (.ref C_TooGreat))) (iC_TooGreat : PySem.W.isClsIn K C_TooGreat = true) (uC_TooGreat : PySem.W.findIn K (.ref C_TooGreat) "__getattribute__" = some (some (.builtin "BaseException.__getattribute__"))) (vC_TooGreat : PySem.W.findIn K (.ref C_TooGreat) "__getattr__" = some none) (sC_TooGreat : PySem.W.subIn K (.ref C_TooGreat) (.type "BaseException") = some true) (dC_TooGreat : PySem.W.findIn K (.ref C_TooGreat) "__class__" = some (some (.builtin "object.__class__"))) (mC_TooGreat : PySem.W.mroIn K C_TooGreat (.type "object") = some true) (tC_TooGreat : PySem.W.typeIn K (.ref C_TooGreat) = some (.type "type"))
    (xp_TooGreat : PySem.W.excIn K C_TooGreat [.type "ValueError", .type "Exception", .type "BaseException", .type "object"] "ValueError.__new__" = true) (kp_TooGreat : PySem.W.keepIn K (.ref C_TooGreat) = true)
    (s_TooGreat_TooGreat : PySem.W.subIn K (.ref C_TooGreat) (.ref C_TooGreat) = some true)
    {t_MOST_STATES : Tok} (h_MOST_STATES : PySem.W.nsIn K mainGlobals "MOST_STATES" = some (some (.int 20000 t_MOST_STATES)))
    (z_any : PySem.W.nsIn K mainGlobals "any" = some none) (z_dict : PySem.W.nsIn K mainGlobals "dict" = some none) (z_enumerate : PySem.W.nsIn K mainGlobals "enumerate" = some none) (z_int : PySem.W.nsIn K mainGlobals "int" = some none) (z_len : PySem.W.nsIn K mainGlobals "len" = some none) (z_max : PySem.W.nsIn K mainGlobals "max" = some none) (z_min : PySem.W.nsIn K mainGlobals "min" = some none) (z_range : PySem.W.nsIn K mainGlobals "range" = some none) (z_set : PySem.W.nsIn K mainGlobals "set" = some none) (z_sorted : PySem.W.nsIn K mainGlobals "sorted" = some none) (z_tuple : PySem.W.nsIn K mainGlobals "tuple" = some none) (z_zip : PySem.W.nsIn K mainGlobals "zip" = some none) :
    ∃ fd : FuncData, (∀ (s : Shared) (v : Value), BindsTo s fd ⟨[v], []⟩ [("script", v)]) ∧ ∀ base : Heap, K.In base → base.Ns mainGlobals mg → FnG l.prog w K mg base (L2.CX l.prog w) 30 fa fd ["script"] (spTop K K26.c_law) := by
  have e := hfa.symm.trans (PySem.W.mg_of X G a_law)
  cases e
  have F_most_tests := fun_mk (st := stm_most_tests) l_most_tests c_most_tests k_most_tests
  have b_most_tests := F_most_tests.binds (ps := ["k", "rule"]) fun _ _ _ _ _ _ us hl => match us, hl with | [_, _], _ => rfl
  have g_most_tests := PySem.W.mg_of X G a_most_tests
  have F_inside := fun_mk (st := stm_inside) l_inside c_inside k_inside
  have b_inside := F_inside.binds (ps := ["state"]) fun _ _ _ _ _ _ us hl => match us, hl with | [_], _ => rfl
  have g_inside := PySem.W.mg_of X G a_inside
  have F_parts := fun_mk (st := stm_parts) l_parts c_parts k_parts
  have b_parts := F_parts.binds (ps := ["state", "marked"]) fun _ _ _ _ _ _ us hl => match us, hl with | [_, _], _ => rfl
  have g_parts := PySem.W.mg_of X G a_parts
  have F_taken := fun_mk (st := stm_taken) l_taken c_taken k_taken
  have b_taken := F_taken.binds (ps := ["state", "marked", "kind"]) fun _ _ _ _ _ _ us hl => match us, hl with | [_, _, _], _ => rfl
  have g_taken := PySem.W.mg_of X G a_taken
  have F_Search_ways := fun_mk (st := stm_Search_ways) l_Search_ways c_Search_ways k_Search_ways
  have b_Search_ways := F_Search_ways.binds (ps := ["self", "state"]) fun _ _ _ _ _ _ us hl => match us, hl with | [_, _], _ => rfl
  have me_Search_ways : Meth K (clsAt K "Search") "ways" f_Search_ways := by rw [clsAt_of a_Search]; exact ⟨i_Search_ways, n_Search_ways, k_Search_ways⟩
  have F_Search_worth := fun_mk (st := stm_Search_worth) l_Search_worth c_Search_worth k_Search_worth
  have b_Search_worth := F_Search_worth.binds (ps := ["self", "state", "m", "broken", "works"]) fun _ _ _ _ _ _ us hl => match us, hl with | [_, _, _, _, _], _ => rfl
  have me_Search_worth : Meth K (clsAt K "Search") "worth" f_Search_worth := by rw [clsAt_of a_Search]; exact ⟨i_Search_worth, n_Search_worth, k_Search_worth⟩
  have F_Search_best := fun_mk (st := stm_Search_best) l_Search_best c_Search_best k_Search_best
  have b_Search_best := F_Search_best.binds (ps := ["self", "state"]) fun _ _ _ _ _ _ us hl => match us, hl with | [_, _], _ => rfl
  have me_Search_best : Meth K (clsAt K "Search") "best" f_Search_best := by rw [clsAt_of a_Search]; exact ⟨i_Search_best, n_Search_best, k_Search_best⟩
  have F_Search_needed := fun_mk (st := stm_Search_needed) l_Search_needed c_Search_needed k_Search_needed
  have b_Search_needed := F_Search_needed.binds (ps := ["self", "state"]) fun _ _ _ _ _ _ us hl => match us, hl with | [_, _], _ => rfl
  have me_Search_needed : Meth K (clsAt K "Search") "needed" f_Search_needed := by rw [clsAt_of a_Search]; exact ⟨i_Search_needed, n_Search_needed, k_Search_needed⟩
  have F_which_are_in := fun_mk (st := stm_which_are_in) l_which_are_in c_which_are_in k_which_are_in
  have b_which_are_in := F_which_are_in.binds (ps := ["candidates", "row"]) fun _ _ _ _ _ _ us hl => match us, hl with | [_, _], _ => rfl
  have g_which_are_in := PySem.W.mg_of X G a_which_are_in
  have F_ancestors := fun_mk (st := stm_ancestors) l_ancestors c_ancestors k_ancestors
  have b_ancestors := F_ancestors.binds (ps := ["history", "m"]) fun _ _ _ _ _ _ us hl => match us, hl with | [_, _], _ => rfl
  have g_ancestors := PySem.W.mg_of X G a_ancestors
  have F_offspring := fun_mk (st := stm_offspring) l_offspring c_offspring k_offspring
  have b_offspring := F_offspring.binds (ps := ["history", "m"]) fun _ _ _ _ _ _ us hl => match us, hl with | [_, _], _ => rfl
  have g_offspring := PySem.W.mg_of X G a_offspring
  have F_classes := fun_mk (st := stm_classes) l_classes c_classes k_classes
  have b_classes := F_classes.binds (ps := ["history", "skipped"]) fun _ _ _ _ _ _ us hl => match us, hl with | [_, _], _ => rfl
  have g_classes := PySem.W.mg_of X G a_classes
  have F_marks := fun_mk (st := stm_marks) l_marks c_marks k_marks
  have b_marks := F_marks.binds (ps := ["history", "skipped", "makes"]) fun _ _ _ _ _ _ us hl => match us, hl with | [_, _, _], _ => rfl
  have g_marks := PySem.W.mg_of X G a_marks
  have F_tests := fun_mk (st := stm_tests) l_tests c_tests k_tests
  have b_tests := F_tests.binds (ps := ["history", "skipped"]) fun _ _ _ _ _ _ us hl => match us, hl with | [_, _], _ => rfl
  have g_tests := PySem.W.mg_of X G a_tests
  have F_marked_tests := fun_mk (st := stm_marked_tests) l_marked_tests c_marked_tests k_marked_tests
  have b_marked_tests := F_marked_tests.binds (ps := ["history", "skipped"]) fun _ _ _ _ _ _ us hl => match us, hl with | [_, _], _ => rfl
  have g_marked_tests := PySem.W.mg_of X G a_marked_tests
  have F_Search___init__ := fun_mk (st := stm_Search___init__) l_Search___init__ c_Search___init__ k_Search___init__
  have b_Search___init__ := F_Search___init__.binds (ps := ["self", "history", "skipped", "step"]) fun _ _ _ _ _ _ us hl => match us, hl with | [_, _, _, _], _ => rfl
  have F_check_size := fun_mk (st := stm_check_size) l_check_size c_check_size k_check_size
  have b_check_size := F_check_size.binds (ps := ["state"]) fun _ _ _ _ _ _ us hl => match us, hl with | [_], _ => rfl
  have g_check_size := PySem.W.mg_of X G a_check_size
  have F_fewest_from := fun_mk (st := stm_fewest_from) l_fewest_from c_fewest_from k_fewest_from
  have b_fewest_from := F_fewest_from.binds (ps := ["history", "skipped", "state"]) fun _ _ _ _ _ _ us hl => match us, hl with | [_, _, _], _ => rfl
  have g_fewest_from := PySem.W.mg_of X G a_fewest_from
  have F_start := fun_mk (st := stm_start) l_start c_start k_start
  have b_start := F_start.binds (ps := ["history", "skipped", "k"]) fun _ _ _ _ _ _ us hl => match us, hl with | [_, _, _], _ => rfl
  have g_start := PySem.W.mg_of X G a_start
  have F_fewest := fun_mk (st := stm_fewest) l_fewest c_fewest k_fewest
  have b_fewest := F_fewest.binds (ps := ["history", "skipped", "k"]) fun _ _ _ _ _ _ us hl => match us, hl with | [_, _, _], _ => rfl
  have g_fewest := PySem.W.mg_of X G a_fewest
  have F_fewest_by_make := fun_mk (st := stm_fewest_by_make) l_fewest_by_make c_fewest_by_make k_fewest_by_make
  have b_fewest_by_make := F_fewest_by_make.binds (ps := ["history", "skipped", "k", "rule"]) fun _ _ _ _ _ _ us hl => match us, hl with | [_, _, _, _], _ => rfl
  have g_fewest_by_make := PySem.W.mg_of X G a_fewest_by_make
  have F__law_long_chain := fun_mk (st := stm__law_long_chain) l__law_long_chain c__law_long_chain k__law_long_chain
  have b__law_long_chain := F__law_long_chain.binds (ps := ["many"]) fun _ _ _ _ _ _ us hl => match us, hl with | [_], _ => rfl
  have g__law_long_chain := PySem.W.mg_of X G a__law_long_chain
  have F__law_asked := fun_mk (st := stm__law_asked) l__law_asked c__law_asked k__law_asked
  have b__law_asked := F__law_asked.binds (ps := ["many", "k", "rule"]) fun _ _ _ _ _ _ us hl => match us, hl with | [_, _, _], _ => rfl
  have g__law_asked := PySem.W.mg_of X G a__law_asked
  have F__law_alive := fun_mk (st := stm__law_alive) l__law_alive c__law_alive k__law_alive
  have b__law_alive := F__law_alive.binds (ps := ["table", "classes_v", "counts", "k", "rule"]) fun _ _ _ _ _ _ us hl => match us, hl with | [_, _, _, _, _], _ => rfl
  have g__law_alive := PySem.W.mg_of X G a__law_alive
  have F__law_key := fun_mk (st := stm__law_key) l__law_key c__law_key k__law_key
  have b__law_key := F__law_key.binds (ps := ["counts", "q"]) fun _ _ _ _ _ _ us hl => match us, hl with | [_, _], _ => rfl
  have g__law_key := PySem.W.mg_of X G a__law_key
  have F__law_told := fun_mk (st := stm__law_told) l__law_told c__law_told k__law_told
  have b__law_told := F__law_told.binds (ps := ["table", "classes_v", "counts", "k", "rule", "q", "seen"]) fun _ _ _ _ _ _ us hl => match us, hl with | [_, _, _, _, _, _, _], _ => rfl
  have g__law_told := PySem.W.mg_of X G a__law_told
  have F__law_above := fun_mk (st := stm__law_above) l__law_above c__law_above k__law_above
  have b__law_above := F__law_above.binds (ps := ["history", "make"]) fun _ _ _ _ _ _ us hl => match us, hl with | [_, _], _ => rfl
  have g__law_above := PySem.W.mg_of X G a__law_above
  have F__law_breaks := fun_mk (st := stm__law_breaks) l__law_breaks c__law_breaks k__law_breaks
  have b__law_breaks := F__law_breaks.binds (ps := ["history", "candidate", "make"]) fun _ _ _ _ _ _ us hl => match us, hl with | [_, _, _], _ => rfl
  have g__law_breaks := PySem.W.mg_of X G a__law_breaks
  have F__law_classes := fun_mk (st := stm__law_classes) l__law_classes c__law_classes k__law_classes
  have b__law_classes := F__law_classes.binds (ps := ["history", "skipped"]) fun _ _ _ _ _ _ us hl => match us, hl with | [_, _], _ => rfl
  have g__law_classes := PySem.W.mg_of X G a__law_classes
  have F__law_draw := fun_mk (st := stm__law_draw) l__law_draw c__law_draw k__law_draw
  have b__law_draw := F__law_draw.binds (ps := ["box", "many"]) fun _ _ _ _ _ _ us hl => match us, hl with | [_, _], _ => rfl
  have g__law_draw := PySem.W.mg_of X G a__law_draw
  have F__law_skips := fun_mk (st := stm__law_skips) l__law_skips c__law_skips k__law_skips
  have b__law_skips := F__law_skips.binds (ps := ["box", "history"]) fun _ _ _ _ _ _ us hl => match us, hl with | [_, _], _ => rfl
  have g__law_skips := PySem.W.mg_of X G a__law_skips
  have F__law_parents := fun_mk (st := stm__law_parents) l__law_parents c__law_parents k__law_parents
  have b__law_parents := F__law_parents.binds (ps := ["box", "k", "ends"]) fun _ _ _ _ _ _ us hl => match us, hl with | [_, _, _], _ => rfl
  have g__law_parents := PySem.W.mg_of X G a__law_parents
  have F__law_history := fun_mk (st := stm__law_history) l__law_history c__law_history k__law_history
  have b__law_history := F__law_history.binds (ps := ["box", "most"]) fun _ _ _ _ _ _ us hl => match us, hl with | [_, _], _ => rfl
  have g__law_history := PySem.W.mg_of X G a__law_history
  have F__law_cell := fun_mk (st := stm__law_cell) l__law_cell c__law_cell k__law_cell
  have b__law_cell := F__law_cell.binds (ps := ["script", "k"]) fun _ _ _ _ _ _ us hl => match us, hl with | [_, _], _ => rfl
  have g__law_cell := PySem.W.mg_of X G a__law_cell
  have F__law_digits := fun_mk (st := stm__law_digits) l__law_digits c__law_digits k__law_digits
  have b__law_digits := F__law_digits.binds (ps := ["script", "first", "last"]) fun _ _ _ _ _ _ us hl => match us, hl with | [_, _, _], _ => rfl
  have g__law_digits := PySem.W.mg_of X G a__law_digits
  have F_law := fun_mk (st := stm_law) l_law c_law k_law
  have b_law := F_law.binds (ps := ["script"]) fun _ _ _ _ _ _ us hl => match us, hl with | [_], _ => rfl
  have cc_Search : Cls K (clsAt K "Search") := by rw [clsAt_of a_Search]; exact ⟨p_Search, h_Search, o_Search, s_Search⟩
  have mk_Search : Mk K (clsAt K "Search") f_Search___init__ := by rw [clsAt_of a_Search]; exact ⟨m_Search, i_Search___init__, n_Search___init__, kc_Search⟩
  have gm_Search : mg "Search" = some (.ref (clsAt K "Search")) := by rw [clsAt_of a_Search]; exact PySem.W.mg_of X G a_Search
  have nb_Search_known : NoAttr K (clsAt K "Search") "known" := by rw [clsAt_of a_Search]; exact na_Search_known
  have nb_Search_marked : NoAttr K (clsAt K "Search") "marked" := by rw [clsAt_of a_Search]; exact na_Search_marked
  have nb_Search_step : NoAttr K (clsAt K "Search") "step" := by rw [clsAt_of a_Search]; exact na_Search_step
  have y_any := PySem.W.mg_none_of X G z_any
  have y_dict := PySem.W.mg_none_of X G z_dict
  have y_enumerate := PySem.W.mg_none_of X G z_enumerate
  have y_int := PySem.W.mg_none_of X G z_int
  have y_len := PySem.W.mg_none_of X G z_len
  have y_max := PySem.W.mg_none_of X G z_max
  have y_min := PySem.W.mg_none_of X G z_min
  have y_range := PySem.W.mg_none_of X G z_range
  have y_set := PySem.W.mg_none_of X G z_set
  have y_sorted := PySem.W.mg_none_of X G z_sorted
  have y_tuple := PySem.W.mg_none_of X G z_tuple
  have y_zip := PySem.W.mg_none_of X G z_zip
  have w_MOST_STATES := PySem.W.mg_of X G h_MOST_STATES
  have cl_TooGreat : ExCl K mg "TooGreat" C_TooGreat := ⟨PySem.W.mg_of X G aC_TooGreat, ⟨iC_TooGreat, uC_TooGreat, vC_TooGreat, sC_TooGreat, dC_TooGreat, o_gn, o_tk, mC_TooGreat⟩, sC_TooGreat, tC_TooGreat, iC_TooGreat⟩
  refine ⟨PySem.W.fnOf "law" "law" (defArgs stm_law) (defBody stm_law) (defScope stm_law) .none kV_law dc_law pm_law an_law cd_law ct_law, fun s v => .of_eq rfl, fun base _ _ => ?_⟩
  have G_most_tests := ok_most_tests (P := l.prog) (w := w) (K := K) (mg := mg) (base := base) F_most_tests 
  have G_inside := ok_inside (P := l.prog) (w := w) (K := K) (mg := mg) (base := base) F_inside y_enumerate y_tuple
  have G_parts := ok_parts (P := l.prog) (w := w) (K := K) (mg := mg) (base := base) F_parts F_inside G_inside g_inside b_inside
  have G_taken := ok_taken (P := l.prog) (w := w) (K := K) (mg := mg) (base := base) F_taken y_tuple y_zip
  have G_Search_ways := ok_Search_ways (P := l.prog) (w := w) (K := K) (mg := mg) (base := base) F_Search_ways F_parts G_parts g_parts b_parts F_taken G_taken g_taken b_taken cc_Search nb_Search_marked nb_Search_step (clsAt_of a_taken)
  have G_Search_worth := ok_Search_worth (P := l.prog) (w := w) (K := K) (mg := mg) (base := base) F_Search_worth y_max
  have G_Search_best := ok_Search_best (P := l.prog) (w := w) (K := K) (mg := mg) (base := base) F_Search_best F_Search_ways G_Search_ways me_Search_ways b_Search_ways F_Search_worth G_Search_worth me_Search_worth b_Search_worth y_min cc_Search nb_Search_known me_Search_best b_Search_best 20
  have G_Search_needed := ok_Search_needed (P := l.prog) (w := w) (K := K) (mg := mg) (base := base) F_Search_needed F_Search_best G_Search_best me_Search_best b_Search_best cc_Search
  have G_which_are_in := ok_which_are_in (P := l.prog) (w := w) (K := K) (mg := mg) (base := base) F_which_are_in y_tuple
  have G_ancestors := ok_ancestors (P := l.prog) (w := w) (K := K) (mg := mg) (base := base) F_ancestors y_enumerate y_range y_tuple
  have G_offspring := ok_offspring (P := l.prog) (w := w) (K := K) (mg := mg) (base := base) F_offspring y_any y_enumerate y_tuple
  have G_classes := ok_classes (P := l.prog) (w := w) (K := K) (mg := mg) (base := base) F_classes F_offspring G_offspring g_offspring b_offspring y_len y_range y_tuple
  have G_marks := ok_marks (P := l.prog) (w := w) (K := K) (mg := mg) (base := base) F_marks F_which_are_in G_which_are_in g_which_are_in b_which_are_in F_ancestors G_ancestors g_ancestors b_ancestors F_classes G_classes g_classes b_classes y_tuple
  have G_tests := ok_tests (P := l.prog) (w := w) (K := K) (mg := mg) (base := base) F_tests y_len y_range y_tuple
  have G_marked_tests := ok_marked_tests (P := l.prog) (w := w) (K := K) (mg := mg) (base := base) F_marked_tests F_marks G_marks g_marks b_marks F_tests G_tests g_tests b_tests y_tuple y_zip
  have G_Search___init__ := ok_Search___init__ (P := l.prog) (w := w) (K := K) (mg := mg) (base := base) F_Search___init__ F_marked_tests G_marked_tests g_marked_tests b_marked_tests cc_Search nb_Search_known nb_Search_marked nb_Search_step
  have G_check_size := ok_check_size (P := l.prog) (w := w) (K := K) (mg := mg) (base := base) F_check_size y_max w_MOST_STATES cl_TooGreat xp_TooGreat kp_TooGreat
  have G_fewest_from := ok_fewest_from (P := l.prog) (w := w) (K := K) (mg := mg) (base := base) F_fewest_from F_Search_needed G_Search_needed me_Search_needed b_Search_needed F_Search___init__ G_Search___init__ b_Search___init__ F_taken G_taken g_taken b_taken F_check_size G_check_size g_check_size b_check_size cc_Search mk_Search gm_Search (clsAt_of a_taken)
  have G_start := ok_start (P := l.prog) (w := w) (K := K) (mg := mg) (base := base) F_start F_classes G_classes g_classes b_classes y_tuple
  have G_fewest := ok_fewest (P := l.prog) (w := w) (K := K) (mg := mg) (base := base) F_fewest F_fewest_from G_fewest_from g_fewest_from b_fewest_from F_start G_start g_start b_start
  have G_fewest_by_make := ok_fewest_by_make (P := l.prog) (w := w) (K := K) (mg := mg) (base := base) F_fewest_by_make F_most_tests G_most_tests g_most_tests b_most_tests F_fewest G_fewest g_fewest b_fewest
  have G__law_long_chain := ok__law_long_chain (P := l.prog) (w := w) (K := K) (mg := mg) (base := base) F__law_long_chain y_int y_range y_tuple
  have G__law_asked := ok__law_asked (P := l.prog) (w := w) (K := K) (mg := mg) (base := base) F__law_asked F_fewest_by_make G_fewest_by_make g_fewest_by_make b_fewest_by_make F__law_long_chain G__law_long_chain g__law_long_chain b__law_long_chain cl_TooGreat s_TooGreat_TooGreat
  have G__law_alive := ok__law_alive (P := l.prog) (w := w) (K := K) (mg := mg) (base := base) F__law_alive y_int
  have G__law_key := ok__law_key (P := l.prog) (w := w) (K := K) (mg := mg) (base := base) F__law_key y_sorted y_tuple
  have G__law_told := ok__law_told (P := l.prog) (w := w) (K := K) (mg := mg) (base := base) F__law_told F__law_alive G__law_alive g__law_alive b__law_alive F__law_key G__law_key g__law_key b__law_key y_dict y_int y_sorted g__law_told b__law_told 20
  have G__law_above := ok__law_above (P := l.prog) (w := w) (K := K) (mg := mg) (base := base) F__law_above y_range
  have G__law_breaks := ok__law_breaks (P := l.prog) (w := w) (K := K) (mg := mg) (base := base) F__law_breaks F__law_above G__law_above g__law_above b__law_above
  have G__law_classes := ok__law_classes (P := l.prog) (w := w) (K := K) (mg := mg) (base := base) F__law_classes F__law_breaks G__law_breaks g__law_breaks b__law_breaks y_len y_range y_tuple
  have G__law_draw := ok__law_draw (P := l.prog) (w := w) (K := K) (mg := mg) (base := base) F__law_draw y_int y_len
  have G__law_skips := ok__law_skips (P := l.prog) (w := w) (K := K) (mg := mg) (base := base) F__law_skips F__law_draw G__law_draw g__law_draw b__law_draw y_len y_range y_tuple
  have G__law_parents := ok__law_parents (P := l.prog) (w := w) (K := K) (mg := mg) (base := base) F__law_parents F__law_draw G__law_draw g__law_draw b__law_draw y_len y_set y_sorted y_tuple
  have G__law_history := ok__law_history (P := l.prog) (w := w) (K := K) (mg := mg) (base := base) F__law_history F__law_parents G__law_parents g__law_parents b__law_parents F__law_draw G__law_draw g__law_draw b__law_draw y_range y_tuple
  have G__law_cell := ok__law_cell (P := l.prog) (w := w) (K := K) (mg := mg) (base := base) F__law_cell y_len
  have G__law_digits := ok__law_digits (P := l.prog) (w := w) (K := K) (mg := mg) (base := base) F__law_digits F__law_cell G__law_cell g__law_cell b__law_cell y_int y_range
  have G_law := ok_law (P := l.prog) (w := w) (K := K) (mg := mg) (base := base) F_law F__law_asked G__law_asked g__law_asked b__law_asked F__law_told G__law_told g__law_told b__law_told F_fewest_by_make G_fewest_by_make g_fewest_by_make b_fewest_by_make F__law_breaks G__law_breaks g__law_breaks b__law_breaks F__law_classes G__law_classes g__law_classes b__law_classes F__law_skips G__law_skips g__law_skips b__law_skips F__law_history G__law_history g__law_history b__law_history F__law_draw G__law_draw g__law_draw b__law_draw F__law_digits G__law_digits g__law_digits b__law_digits y_int y_len y_range
  exact fnG_top G_law
section
open Sp

theorem dKz {ρ : DEnv} {E : Exn → Th → Prop} {θ : Th} {R : Dv → Th → Prop} : mDK ρ E θ R = R (.obj θ.length) (θ ++ [.dK []]) := (rfl)
theorem goal : ∀ ns : List Int, ns.length ≤ 63 → c_law [.scr ns] (fun _ _ => False) [] (fun d _ => d = .bl true) := by
  intro ns _
  unfold c_law m_law
  simp only [mxDN, List.map_cons, List.map_nil, List.replicate, List.cons_append, List.nil_append, List.set_cons_zero, List.set_cons_succ, wipeE]
  refine ⟨rfl, s_digits (a := 0) (b := 63) (by omega) (by omega) fun ds => ?_⟩
  refine ⟨two_line, ?_⟩
  rw [x_seqN]
  simp only [mxDN, List.map_cons, List.map_nil, List.replicate, List.cons_append, List.nil_append, List.set_cons_zero, List.set_cons_succ, wipeE]
  refine ⟨rfl, s_draw (by omega) fun v k0 k1 => ?_⟩
  obtain ⟨k, rfl⟩ : ∃ k : Nat, v = (k : Int) := ⟨v.toNat, by omega⟩
  rw [x_seqN]
  simp only [mxDN, List.map_cons, List.map_nil, List.replicate, List.cons_append, List.nil_append, List.set_cons_zero, List.set_cons_succ, wipeE]
  rw [List.append_nil, show (5 : Int) - (k : Nat) = ((5 - k : Nat) : Int) from by omega]
  refine ⟨rfl, s_history3 (ds := ds) (most := 5 - k) (by omega) (by omega) fun n h a1 n0 n1 gv => ?_⟩
  have hn := gv.len
  have ah := gv.ahead
  have anh := gv.toGV.an
  have hl : h.length ≤ 1000 := by omega
  have hp : ∀ k, (par h k).length ≤ 1000 := fun k => by
    unfold par
    cases e : h[k]? with
    | none => exact Nat.zero_le _
    | some x => have := gv.few x (List.mem_of_getElem? e); show x.2.length ≤ 1000; omega
  rw [x_seqN]
  simp only [mxDN, List.map_cons, List.map_nil, List.replicate, List.cons_append, List.nil_append, List.set_cons_zero, List.set_cons_succ, wipeE, x_h1, List.length_map]
  rw [x_seqN]
  simp only [mxDN, List.map_cons, List.map_nil, List.replicate, List.cons_append, List.nil_append, List.set_cons_zero, List.set_cons_succ, wipeE]
  refine ⟨rfl, s_skips (by omega) fun p a2 => ?_⟩
  obtain ⟨sk, hsk⟩ : ∃ sk, sk = (List.range h.length).filter p := ⟨_, rfl⟩
  rw [← hsk]
  have hskl : ∀ m ∈ sk, m < h.length := fun m hm => by rw [hsk] at hm; exact List.mem_range.mp (List.mem_filter.mp hm).1
  have nl := nc_le (h := h) (sk := sk)
  have tl := tel_len (h := h) (sk := sk)
  rw [x_seqN]
  simp only [mxDN, List.map_cons, List.map_nil, List.replicate, List.cons_append, List.nil_append, List.set_cons_zero, List.set_cons_succ, wipeE]
  refine ⟨rfl, s_lcls anh hl fun θ1 jc e1 hc => ?_⟩
  clear e1
  rw [x_seqN]
  simp only [mxDN, List.map_cons, List.map_nil, List.replicate, List.cons_append, List.nil_append, List.set_cons_zero, List.set_cons_succ, wipeE]
  refine ⟨⟨by omega, by omega⟩, ?_⟩
  rw [show ((h.length : Int)).toNat = h.length from rfl]
  refine lc_rule h.length (fun i θ' => ∃ js : List Nat, θ'[θ1.length]? = some (.lst (js.map Dv.obj)) ∧ js.length = i ∧ Kept θ1.length (θ1 ++ [.lst []]) θ' ∧ ∀ c j : Nat, js[c]? = some j → j ≠ θ1.length ∧ θ'[j]? = some (.lst ((List.range h.length).map fun m => .bl (anc h m c)))) ⟨[], th_last, rfl, .refl, fun c j e => by cases e⟩ ?_ ?_
  · rintro i θ2 hi ⟨js, j1, j2, K2, j3⟩
    refine ⟨.int (i : Nat), _, by rw [rng_at hi]; simp, rfl, fun K5 k0 k1 => ?_⟩
    simp only [mxDN, List.map_cons, List.map_nil, List.replicate, List.cons_append, List.nil_append, List.set_cons_zero, List.set_cons_succ]
    refine k1 _ fun K6 h6 => ?_
    simp only [mxDN, List.map_cons, List.map_nil, List.replicate, List.cons_append, List.nil_append, List.set_cons_zero, List.set_cons_succ, wipeE]
    refine ⟨⟨by omega, by omega⟩, ?_⟩
    rw [show ((h.length : Int)).toNat = h.length from rfl]
    refine lc_all1 (List.range h.length) (fun m => .int (m : Nat)) (fun m => .bl (anc h m i)) (by rw [List.length_range]; exact lt_line hl) srcR ?_ ?_
    · intro m hm θ3 e3
      refine ⟨_, rfl, fun K7 h7 => ?_⟩
      simp only [mxDN, List.map_cons, List.map_nil, List.replicate, List.cons_append, List.nil_append, List.set_cons_zero, List.set_cons_succ]
      refine ⟨rfl, s_breaks anh (List.mem_range.mp hm) hl ?_⟩
      exact h7 _ .refl
    · intro θ3 e3 h3
      have hl1 : θ1.length < θ2.length := (List.getElem?_eq_some_iff.mp j1).1
      refine h6 _ _ _ (e3.at j1) (by rw [List.length_map]; exact lt_line (by omega)) ⟨js ++ [θ2.length], ?_, by rw [List.length_append, j2]; rfl, K2.trans ((Kept.ext e3).trans ⟨by rw [List.length_set]; exact Nat.le_refl _, fun n o hn ho => ?_⟩), fun c j e => ?_⟩
      · rw [List.getElem?_set_self (List.getElem?_eq_some_iff.mp (e3.at j1)).1, List.map_append]
        rfl
      · rw [List.getElem?_set_ne (fun e => hn e.symm)]
        exact ho
      · by_cases hc2 : c < js.length
        · rw [List.getElem?_append_left hc2] at e
          obtain ⟨q1, q2⟩ := j3 c j e
          refine ⟨q1, ?_⟩
          rw [List.getElem?_set_ne (fun e => q1 e.symm)]
          exact e3.at q2
        · rw [List.getElem?_append_right (by omega)] at e
          have ec : c - js.length = 0 := by
            have := (List.getElem?_eq_some_iff.mp e).1
            rw [List.length_singleton] at this
            omega
          rw [ec] at e
          have ej : θ2.length = j := Option.some.inj e
          subst ej
          refine ⟨by omega, ?_⟩
          rw [List.getElem?_set_ne (by omega), h3]
          have : c = i := by omega
          rw [this]
  rintro θ2 ⟨js, j1, j2, K2, j3⟩
  refine ⟨rng_end, ?_⟩
  have e2 : Ext θ1 θ2 := ext_kept .app K2 (Nat.le_refl _)
  have ht : TabW h θ1.length θ2 := ⟨js, j1, j2, fun c j e => (j3 c j e).2⟩
  have hc2 := e2.at hc
  generalize θ1.length = jt at ht
  clear j1 j3 K2 e2 hc
  rw [x_seqN]
  simp only [mxDN, List.map_cons, List.map_nil, List.replicate, List.cons_append, List.nil_append, List.set_cons_zero, List.set_cons_succ, wipeE]
  rw [dKz, x_seqN]
  simp only [mxDN, List.map_cons, List.map_nil, List.replicate, List.cons_append, List.nil_append, List.set_cons_zero, List.set_cons_succ, wipeE]
  refine ⟨⟨by omega, by omega⟩, ?_⟩
  rw [show ((h.length : Int)).toNat = h.length from rfl]
  have hd0 : (θ2 ++ [Ob.dK []])[θ2.length]? = some (.dK []) := th_last
  have e3 : Ext θ2 (θ2 ++ [Ob.dK []]) := .app
  have hjd : jc ≠ θ2.length := by have := (List.getElem?_eq_some_iff.mp hc2).1; omega
  have ht3 := ht.ext e3
  have hc3 := e3.at hc2
  have njt : jt ≠ θ2.length := fun e => by
    obtain ⟨js, h1, _⟩ := ht.js
    have := (List.getElem?_eq_some_iff.mp h1).1
    omega
  generalize θ2.length = jd at hd0 hjd njt ⊢
  generalize (θ2 ++ [Ob.dK []]) = θ3 at hd0 ht3 hc3 ⊢
  clear e3 ht hc2
  have htK : ∀ θ', Kept jd θ3 θ' → TabW h jt θ' := fun θ' K => by
    obtain ⟨js, h1, h2, h3⟩ := ht3.js
    exact ⟨js, K.at' _ _ njt h1, h2, fun c j hc => K.at' _ _ (fun e => by subst e; rw [h3 c _ hc] at hd0; cases hd0) (h3 c j hc)⟩
  have etel : ∀ i, ((List.range h.length).take i).filter (fun m => !decide (m ∈ sk) && (decide (0 < ((List.range h.length).filter fun c => anc h m c).length) && decide (((List.range h.length).filter fun c => anc h m c).length < h.length))) = ((List.range h.length).take i).filter (fun m => decide (m ∈ telM h sk)) := fun i => by
    refine List.filter_congr fun m hm => ?_
    have hmr := List.mem_of_mem_take hm
    rw [Bool.eq_iff_iff, decide_eq_true_eq]
    unfold telM
    rw [List.mem_filter]
    exact ⟨fun e => ⟨hmr, e⟩, fun e => e.2⟩
  refine for_rule h.length (fun i ρ θ' => ∃ x8 : Option Dv, ρ = [some (.scr ns), some (.obj 1), some (.int (k : Nat)), some (hD h), some (.int (h.length : Nat)), some (.tup (nd sk)), some (.obj jc), some (.obj jt), x8, none, some (.obj jd), none, none, none] ∧ Kept jd θ3 θ' ∧ θ'[jd]? = some (.dK ((((List.range h.length).take i).filter fun m => !decide (m ∈ sk) && (decide (0 < ((List.range h.length).filter fun c => anc h m c).length) && decide (((List.range h.length).filter fun c => anc h m c).length < h.length))).map fun m => (.inl ((m : Nat) : Int), pC [] m)))) ⟨none, rfl, .refl, hd0⟩ ?_ ?_
  · rintro i ρ θ4 hi ⟨x8, rfl, K4, hd4⟩
    refine ⟨.int (i : Nat), _, by rw [rng_at hi]; simp, rfl, fun K LK => ?_⟩
    rw [x_cut]
    have fin : ∀ (b : Bool) θ' kvs, Kept jd θ4 θ' → b = (!decide (i ∈ sk) && (decide (0 < ((List.range h.length).filter fun c => anc h i c).length) && decide (((List.range h.length).filter fun c => anc h i c).length < h.length))) → θ'[jd]? = some (.dK kvs) → kvs = (((((List.range h.length).take i).filter fun m => !decide (m ∈ sk) && (decide (0 < ((List.range h.length).filter fun c => anc h m c).length) && decide (((List.range h.length).filter fun c => anc h m c).length < h.length))).map fun m => ((.inl ((m : Nat) : Int) : Key), pC [] m)) ++ (if b then [((.inl ((i : Nat) : Int) : Key), pC [] i)] else [])) → outCut θ4 K (.nx [some (.scr ns), some (.obj 1), some (.int (k : Nat)), some (hD h), some (.int (h.length : Nat)), some (.tup (nd sk)), some (.obj jc), some (.obj jt), some (.int (i : Nat)), none, some (.obj jd), none, none, none]) θ' := fun b θ' kvs K' eb hd' ek => by
      refine cut_same (LK.nx _ _ ⟨_, rfl, some (.int (i : Nat)), rfl, K4.trans K', ?_⟩)
      rw [hd', ek, List.take_add_one, List.getElem?_range hi, Option.toList, List.filter_append, List.map_append, eb, List.filter_cons, List.filter_nil]
      congr 3
      split <;> rfl
    generalize outCut θ4 K = K' at fin ⊢
    clear LK
    simp only [mxDN, List.map_cons, List.map_nil, List.replicate, List.cons_append, List.nil_append, List.set_cons_zero, List.set_cons_succ, wipeE]
    refine notin_intsT ?_
    rw [x_boolK]
    have hk4 := hd4
    cases hs : decide (i ∈ sk) with
    | true =>
      simp only [Bool.not_true, Bool.false_eq_true, if_false]
      exact fin false θ4 _ .refl (by rw [hs]; rfl) hd4 (by simp)
    | false =>
      simp only [Bool.not_false, if_true]
      refine ⟨⟨by omega, by omega⟩, ?_⟩
      rw [show ((h.length : Int)).toNat = h.length from rfl]
      have ht4 := htK θ4 K4
      refine lc_list (List.range h.length) (fun c => .int (c : Nat)) (fun c => anc h i c) (fun c => .int (c : Nat)) (by rw [List.length_range]; exact lt_line hl) srcR ?_ ?_
      · intro c hc θ5 e5
        refine ⟨_, rfl, fun K hK => ?_⟩
        obtain ⟨js, j1, j2, j3⟩ := (ht4.ext e5).js
        have hcl := List.mem_range.mp hc
        obtain ⟨jr, hjr⟩ : ∃ jr, js[c]? = some jr := ⟨_, List.getElem?_eq_getElem (by omega)⟩
        have a1 : atI (js.map Dv.obj) ((c : Nat) : Int) = some (.obj jr) := at_nat (by rw [List.getElem?_map, hjr]; rfl)
        have a2 : atI ((List.range h.length).map fun m => Dv.bl (anc h m c)) ((i : Nat) : Int) = some (.bl (anc h i c)) := at_nat (by rw [List.getElem?_map, List.getElem?_range hi]; rfl)
        have j4 := j3 _ _ hjr
        simp only [mxDN, List.map_cons, List.map_nil, List.replicate, List.cons_append, List.nil_append, List.set_cons_zero, List.set_cons_succ, j1, a1, j4, a2]
        refine hK θ5 .refl fun _ K2 h2 => ?_
        simp only [mxDN, List.map_cons, List.map_nil, List.replicate, List.cons_append, List.nil_append, List.set_cons_zero, List.set_cons_succ]
        exact h2 _ .refl
      · intro θ5 e5 h5
        rw [h5, x_lenL, x_lt, x_chK, List.length_map]
        rw [show decide ((0 : Int) < ((((List.range h.length).filter fun c => anc h i c).length : Nat) : Int)) = decide (0 < ((List.range h.length).filter fun c => anc h i c).length) from decide_eq_decide.mpr (by omega)]
        cases hz : decide (0 < ((List.range h.length).filter fun c => anc h i c).length) with
        | false =>
          rw [if_neg Bool.false_ne_true, x_boolK, if_neg Bool.false_ne_true]
          exact fin false θ5 _ (.ext e5) (by rw [hs, hz]; rfl) (e5.at hd4) (by simp)
        | true =>
          rw [if_pos rfl, x_lt, x_boolK]
          rw [show decide (((((List.range h.length).filter fun c => anc h i c).length : Nat) : Int) < (h.length : Nat)) = decide (((List.range h.length).filter fun c => anc h i c).length < h.length) from decide_eq_decide.mpr (by omega)]
          cases hz2 : decide (((List.range h.length).filter fun c => anc h i c).length < h.length) with
          | false =>
            rw [if_neg Bool.false_ne_true]
            exact fin false θ5 _ (.ext e5) (by rw [hs, hz, hz2]; rfl) (e5.at hd4) (by simp)
          | true =>
            rw [if_pos rfl]
            have hd5 := e5.at hd4
            refine ⟨two_line, ?_⟩
            rw [hd5, x_putKK]
            refine ⟨?_, ?_⟩
            · rw [List.length_map]
              refine lt_line (Nat.le_trans (List.length_filter_le _ _) ?_)
              rw [List.length_take, List.length_range]
              omega
            · refine fin true _ _ ((Kept.ext e5).trans ⟨by rw [List.length_set]; exact Nat.le_refl _, fun n o hn ho => by rw [List.getElem?_set_ne (fun e => hn e.symm)]; exact ho⟩) (by rw [hs, hz, hz2]; rfl) (List.getElem?_set_self (List.getElem?_eq_some_iff.mp hd5).1) ?_
              unfold putD
              rw [if_neg, if_pos rfl]
              · rfl
              · rw [List.any_eq_true]
                rintro ⟨x, hx, ex⟩
                obtain ⟨m, hm, rfl⟩ := List.mem_map.mp hx
                have hm := (List.mem_filter.mp hm).1
                rw [List.take_range, List.mem_range] at hm
                have ex := of_decide_eq_true ex
                injection ex with ex
                omega
  · rintro ρ θ4 ⟨x8, rfl, K4, hd4⟩
    refine ⟨rng_end, ?_⟩
    have ed : ((((List.range h.length).take h.length).filter fun m => !decide (m ∈ sk) && (decide (0 < ((List.range h.length).filter fun c => anc h m c).length) && decide (((List.range h.length).filter fun c => anc h m c).length < h.length))).map fun m => ((.inl ((m : Nat) : Int) : Key), pC [] m)) = Dl h sk [] := by
      rw [List.take_of_length_le (by rw [List.length_range]; exact Nat.le_refl _)]
      rfl
    rw [ed] at hd4
    have ht4 := htK θ4 K4
    have hc4 := K4.at' _ _ hjd hc3
    have k2 : k ≤ 2 := by omega
    have hF : needS h sk (st0 h sk) ≤ 5 - k := Nat.le_trans (need_mu _ _ (st0_k).len (Nat.le_refl _)) (by have := mu_st0 (h := h) (sk := sk); omega)
    have hmu : muS (st0 h sk) < 12 := by have := mu_st0 (h := h) (sk := sk); omega
    have hMF : ∀ two, mst two k * needS h sk (st0 h sk) ≤ 15 := fun two => by
      have m1 := mst_le (two := two) (k := k)
      have := Nat.mul_le_mul m1 hF
      have : k = 0 ∨ k = 1 ∨ k = 2 := by omega
      rcases this with rfl | rfl | rfl <;> omega
    have hpw : (k + 3) ^ (2 * (telM h sk).length) ≤ 100000 := by
      have : k = 0 ∨ k = 1 ∨ k = 2 := by omega
      rcases this with rfl | rfl | rfl
      · exact Nat.le_trans (Nat.pow_le_pow_right (n := 3) (by omega) (show 2 * (telM h sk).length ≤ 10 by omega)) (by decide)
      · exact Nat.le_trans (Nat.pow_le_pow_right (n := 4) (by omega) (show 2 * (telM h sk).length ≤ 8 by omega)) (by decide)
      · exact Nat.le_trans (Nat.pow_le_pow_right (n := 5) (by omega) (show 2 * (telM h sk).length ≤ 6 by omega)) (by decide)
    have htop : (0 + 2) ^ nc h sk ≤ 20000 := Nat.le_trans (Nat.pow_le_pow_right (n := 2) (by omega) (show nc h sk ≤ 5 by omega)) (by decide)
    rw [x_seqN]
    simp only [mxDN, List.map_cons, List.map_nil, List.replicate, List.cons_append, List.nil_append, List.set_cons_zero, List.set_cons_succ, wipeE]
    refine ⟨two_line, ?_⟩
    rw [th_last, x_srcL]
    have hL : (θ4 ++ [Ob.lst [Dv.str "two", Dv.str "one"]])[θ4.length]? = some (.lst [Dv.str "two", Dv.str "one"]) := th_last
    have e5 : Ext θ4 (θ4 ++ [Ob.lst [Dv.str "two", Dv.str "one"]]) := .app
    generalize θ4.length = L at hL ⊢
    generalize (θ4 ++ [Ob.lst [Dv.str "two", Dv.str "one"]]) = θ5 at hL e5 ⊢
    have ht5 := ht4.ext e5
    have hc5 := e5.at hc4
    have hd5 := e5.at hd4
    refine for_rule 2 (fun i ρ θ' => ∃ x11 x12 x13 : Option Dv, ρ = [some (.scr ns), some (.obj 1), some (.int (k : Nat)), some (hD h), some (.int (h.length : Nat)), some (.tup (nd sk)), some (.obj jc), some (.obj jt), x8, none, some (.obj jd), x11, x12, x13] ∧ Ext θ5 θ') ⟨none, none, none, rfl, .refl⟩ ?_ ?_
    · rintro i ρ θ6 hi ⟨x11, x12, x13, rfl, e6⟩
      obtain ⟨two, htwo⟩ : ∃ two, [Dv.str "two", Dv.str "one"][i]? = some (.str (rl two)) := by
        match i, hi with
        | 0, _ => exact ⟨true, rfl⟩
        | 1, _ => exact ⟨false, rfl⟩
      refine ⟨.str (rl two), _, by rw [src_L (e6.at hL), htwo], rfl, fun K LK => ?_⟩
      rw [x_cut]
      have fin : ∀ x12 x13 θ', Ext θ6 θ' → outCut θ6 K (.nx [some (.scr ns), some (.obj 1), some (.int (k : Nat)), some (hD h), some (.int (h.length : Nat)), some (.tup (nd sk)), some (.obj jc), some (.obj jt), x8, none, some (.obj jd), some (.str (rl two)), x12, x13]) θ' := fun x12 x13 θ' e => cut_same (LK.nx _ _ ⟨_, rfl, some (.str (rl two)), x12, x13, rfl, e6.trans e⟩)
      generalize outCut θ6 K = K' at fin ⊢
      clear LK
      have ht6 := ht5.ext e6
      have hc6 := e6.at hc5
      have hd6 := e6.at hd5
      simp only [mxDN, List.map_cons, List.map_nil, List.replicate, List.cons_append, List.nil_append, List.set_cons_zero, List.set_cons_succ, wipeE]
      refine ⟨rfl, s_fbm23 ah hl hp (by omega) (by omega) htop (by omega) ?_⟩
      have hq := hMF two
      generalize hmany : mst two k * needS h sk (st0 h sk) = q at hq ⊢
      have tol := fun q' => tol_is (k := k) (two := two) gv hmu q'
      rw [hmany] at tol
      rw [x_seqN]
      simp only [mxDN, List.map_cons, List.map_nil, List.replicate, List.cons_append, List.nil_append, List.set_cons_zero, List.set_cons_succ, wipeE]
      rw [x_dN, x_seqN]
      simp only [mxDN, List.map_cons, List.map_nil, List.replicate, List.cons_append, List.nil_append, List.set_cons_zero, List.set_cons_succ, wipeE]
      refine ⟨rfl, s_ltoldN (N := 20) (by omega) hpw (Nat.le_refl _) 20 q [] jd (θ6 ++ [.dN []]) [] _ _ (by omega) (by omega) (fun m => ⟨Nat.zero_le _, Nat.zero_le _⟩) (ht6.ext .app) (th_left hc6) (th_left hd6) th_last .nil fun θ7 kvs7 K7 hk7 W7 => ?_⟩
      rw [tol, decide_eq_true (Nat.le_refl _)]
      have e7 : Ext θ6 θ7 := ext_kept .app K7 (Nat.le_refl _)
      rw [x_boolK, Bool.not_true, if_neg Bool.false_ne_true, x_seqN]
      simp only [mxDN, List.map_cons, List.map_nil, List.replicate, List.cons_append, List.nil_append, List.set_cons_zero, List.set_cons_succ, wipeE]
      generalize hR : seqK _ (fun _ _ => False) K' _ = R
      have rest : ∀ θ', Ext θ6 θ' → R θ' := fun θ' e => by
        subst hR
        rw [x_seqN]
        simp only [mxDN, List.map_cons, List.map_nil, List.replicate, List.cons_append, List.nil_append, List.set_cons_zero, List.set_cons_succ, wipeE]
        refine ⟨rfl, s_asked15 (by omega) ?_⟩
        rw [x_neI, x_boolK, if_neg (by decide)]
        refine ⟨rfl, s_asked14 (by omega) ?_⟩
        refine ⟨.inl ⟨by omega, by omega⟩, two_line, ?_⟩
        have e1 : ∀ x : Str, Str.ofString "one" = x → decide (rl two = x) = !two := fun x hx => by subst hx; exact rl_one two
        rw [th_last, x_ixL, e1 _ rfl]
        have e2 : atI [Dv.int (2 * (k : Nat) + 1), Dv.int ((k : Nat) + 1)] (if (!two) = true then 1 else 0) = some (.int (mst two k : Nat)) := by cases two <;> rfl
        rw [e2, x_optW, x_mulI]
        have m1 := mst_le (two := two) (k := k)
        refine ⟨.inl ⟨by omega, by omega⟩, ?_⟩
        rw [x_neI, x_boolK]
        have e3 : ((mst two k * 4 : Nat) : Int) = 4 * ((mst two k : Nat) : Int) := by rw [Int.natCast_mul]; omega
        rw [e3, if_neg (by simp)]
        exact fin _ _ _ (e.trans .app)
      clear hR
      by_cases hq0 : q = 0
      · rw [if_neg (by rw [decide_eq_true_eq]; omega), if_neg Bool.false_ne_true]
        exact rest θ7 e7
      · rw [if_pos (decide_eq_true (by omega)), show ((q : Nat) : Int) - 1 = ((q - 1 : Nat) : Int) from by omega]
        have K67 : Kept θ6.length θ6 θ7 := (Kept.ext .app).trans K7
        have hdn : θ6.length ≠ jd := by have := (List.getElem?_eq_some_iff.mp hd6).1; omega
        have hcn : θ6.length ≠ jc := by have := (List.getElem?_eq_some_iff.mp hc6).1; omega
        refine ⟨rfl, s_ltoldN (N := 20) (by omega) hpw (Nat.le_refl _) 20 (q - 1) [] jd θ7 kvs7 _ _ (by omega) (by omega) (fun m => ⟨Nat.zero_le _, Nat.zero_le _⟩) (ht6.ext e7) (e7.at hc6) (e7.at hd6) hk7 W7 fun θ8 kvs8 K8 hk8 W8 => ?_⟩
        rw [tol, decide_eq_false (by omega), x_boolK, if_neg Bool.false_ne_true]
        exact rest θ8 (ext_kept e7 K8 (Nat.le_refl _))
    · rintro ρ θ6 ⟨x11, x12, x13, rfl, e6⟩
      refine ⟨by rw [src_L (e6.at hL)]; rfl, ?_⟩
      rw [x_seqN]
      simp only [mxDN, List.map_cons, List.map_nil, List.replicate, List.cons_append, List.nil_append, List.set_cons_zero, List.set_cons_succ, wipeE]
      exact end_same rfl

end
end K26
open PySem PySem.W PyProof.Rows
set_option maxHeartbeats 0 in
theorem PySem.Challenge.cw_firstbreak_k26_fewest_by_all_tests_holds : PySem.Challenge.rw_firstbreak_k26_fewest_by_all_tests.Holds := by
  w_on; o_law; k_head; (case hw => w_witness2)
  k_fill
  refine Mn.walk_ofG (l := PySem.Challenge.rw_firstbreak_k26_fewest_by_all_tests) (n := 63) (k := 30) (x := "script") (CX := fun w => L2.CX (PySem.Challenge.rw_firstbreak_k26_fewest_by_all_tests).prog w) (sp := fun w => Mn.spTop _ K26.c_law) rfl (by decide) rfl ⟨rfl, by decide, by decide⟩ (fun w h Y => PySem.W.kIn_of Y) ?F (fun w H a ns hl hS => Mn.top_hS K26.goal hl hS) (fun w H a ns hl h1 hS => Mn.top_hK K26.goal hl h1 hS) (fun _ _ _ _ _ h => Mn.noCX h)
  case F =>
    intro w mg fa h KX G hmg
    refine' K26.all_mk KX G hmg ?a_Search ?p_Search ?h_Search ?o_Search ?s_Search ?m_Search ?kc_Search ?na_Search_known ?na_Search_marked ?na_Search_step ?a_most_tests ?l_most_tests ?c_most_tests ?k_most_tests ?a_inside ?l_inside ?c_inside ?k_inside ?a_parts ?l_parts ?c_parts ?k_parts ?a_taken ?l_taken ?c_taken ?k_taken ?i_Search_ways ?n_Search_ways ?l_Search_ways ?c_Search_ways ?k_Search_ways ?i_Search_worth ?n_Search_worth ?l_Search_worth ?c_Search_worth ?k_Search_worth ?i_Search_best ?n_Search_best ?l_Search_best ?c_Search_best ?k_Search_best ?i_Search_needed ?n_Search_needed ?l_Search_needed ?c_Search_needed ?k_Search_needed ?a_which_are_in ?l_which_are_in ?c_which_are_in ?k_which_are_in ?a_ancestors ?l_ancestors ?c_ancestors ?k_ancestors ?a_offspring ?l_offspring ?c_offspring ?k_offspring ?a_classes ?l_classes ?c_classes ?k_classes ?a_marks ?l_marks ?c_marks ?k_marks ?a_tests ?l_tests ?c_tests ?k_tests ?a_marked_tests ?l_marked_tests ?c_marked_tests ?k_marked_tests ?i_Search___init__ ?n_Search___init__ ?l_Search___init__ ?c_Search___init__ ?k_Search___init__ ?a_check_size ?l_check_size ?c_check_size ?k_check_size ?a_fewest_from ?l_fewest_from ?c_fewest_from ?k_fewest_from ?a_start ?l_start ?c_start ?k_start ?a_fewest ?l_fewest ?c_fewest ?k_fewest ?a_fewest_by_make ?l_fewest_by_make ?c_fewest_by_make ?k_fewest_by_make ?a__law_long_chain ?l__law_long_chain ?c__law_long_chain ?k__law_long_chain ?a__law_asked ?l__law_asked ?c__law_asked ?k__law_asked ?a__law_alive ?l__law_alive ?c__law_alive ?k__law_alive ?a__law_key ?l__law_key ?c__law_key ?k__law_key ?a__law_told ?l__law_told ?c__law_told ?k__law_told ?a__law_above ?l__law_above ?c__law_above ?k__law_above ?a__law_breaks ?l__law_breaks ?c__law_breaks ?k__law_breaks ?a__law_classes ?l__law_classes ?c__law_classes ?k__law_classes ?a__law_draw ?l__law_draw ?c__law_draw ?k__law_draw ?a__law_skips ?l__law_skips ?c__law_skips ?k__law_skips ?a__law_parents ?l__law_parents ?c__law_parents ?k__law_parents ?a__law_history ?l__law_history ?c__law_history ?k__law_history ?a__law_cell ?l__law_cell ?c__law_cell ?k__law_cell ?a__law_digits ?l__law_digits ?c__law_digits ?k__law_digits ?a_law ?l_law ?c_law ?k_law ?o_gn ?o_tk ?aC_TooGreat ?iC_TooGreat ?uC_TooGreat ?vC_TooGreat ?sC_TooGreat ?dC_TooGreat ?mC_TooGreat ?tC_TooGreat ?xp_TooGreat ?kp_TooGreat ?s_TooGreat_TooGreat ?h_MOST_STATES ?z_any ?z_dict ?z_enumerate ?z_int ?z_len ?z_max ?z_min ?z_range ?z_set ?z_sorted ?z_tuple ?z_zip
    (case a_Search => k_is); (case p_Search => k_is); (case h_Search => k_is); (case o_Search => k_is); (case s_Search => k_is); (case m_Search => k_is); (case kc_Search => k_is); (case na_Search_known => k_is); (case na_Search_marked => k_is); (case na_Search_step => k_is); (case a_most_tests => k_is); (case l_most_tests => k_is); (case c_most_tests => k_is); (case k_most_tests => k_is); (case a_inside => k_is); (case l_inside => k_is); (case c_inside => k_is); (case k_inside => k_is); (case a_parts => k_is); (case l_parts => k_is); (case c_parts => k_is); (case k_parts => k_is); (case a_taken => k_is); (case l_taken => k_is); (case c_taken => k_is); (case k_taken => k_is); (case i_Search_ways => k_is); (case n_Search_ways => k_is); (case l_Search_ways => k_is); (case c_Search_ways => k_is); (case k_Search_ways => k_is); (case i_Search_worth => k_is); (case n_Search_worth => k_is); (case l_Search_worth => k_is); (case c_Search_worth => k_is); (case k_Search_worth => k_is); (case i_Search_best => k_is); (case n_Search_best => k_is); (case l_Search_best => k_is); (case c_Search_best => k_is); (case k_Search_best => k_is); (case i_Search_needed => k_is); (case n_Search_needed => k_is); (case l_Search_needed => k_is); (case c_Search_needed => k_is); (case k_Search_needed => k_is); (case a_which_are_in => k_is); (case l_which_are_in => k_is); (case c_which_are_in => k_is); (case k_which_are_in => k_is); (case a_ancestors => k_is); (case l_ancestors => k_is); (case c_ancestors => k_is); (case k_ancestors => k_is); (case a_offspring => k_is); (case l_offspring => k_is); (case c_offspring => k_is); (case k_offspring => k_is); (case a_classes => k_is); (case l_classes => k_is); (case c_classes => k_is); (case k_classes => k_is); (case a_marks => k_is); (case l_marks => k_is); (case c_marks => k_is); (case k_marks => k_is); (case a_tests => k_is); (case l_tests => k_is); (case c_tests => k_is); (case k_tests => k_is); (case a_marked_tests => k_is); (case l_marked_tests => k_is); (case c_marked_tests => k_is); (case k_marked_tests => k_is); (case i_Search___init__ => k_is); (case n_Search___init__ => k_is); (case l_Search___init__ => k_is); (case c_Search___init__ => k_is); (case k_Search___init__ => k_is); (case a_check_size => k_is); (case l_check_size => k_is); (case c_check_size => k_is); (case k_check_size => k_is); (case a_fewest_from => k_is); (case l_fewest_from => k_is); (case c_fewest_from => k_is); (case k_fewest_from => k_is); (case a_start => k_is); (case l_start => k_is); (case c_start => k_is); (case k_start => k_is); (case a_fewest => k_is); (case l_fewest => k_is); (case c_fewest => k_is); (case k_fewest => k_is); (case a_fewest_by_make => k_is); (case l_fewest_by_make => k_is); (case c_fewest_by_make => k_is); (case k_fewest_by_make => k_is); (case a__law_long_chain => k_is); (case l__law_long_chain => k_is); (case c__law_long_chain => k_is); (case k__law_long_chain => k_is); (case a__law_asked => k_is); (case l__law_asked => k_is); (case c__law_asked => k_is); (case k__law_asked => k_is); (case a__law_alive => k_is); (case l__law_alive => k_is); (case c__law_alive => k_is); (case k__law_alive => k_is); (case a__law_key => k_is); (case l__law_key => k_is); (case c__law_key => k_is); (case k__law_key => k_is); (case a__law_told => k_is); (case l__law_told => k_is); (case c__law_told => k_is); (case k__law_told => k_is); (case a__law_above => k_is); (case l__law_above => k_is); (case c__law_above => k_is); (case k__law_above => k_is); (case a__law_breaks => k_is); (case l__law_breaks => k_is); (case c__law_breaks => k_is); (case k__law_breaks => k_is); (case a__law_classes => k_is); (case l__law_classes => k_is); (case c__law_classes => k_is); (case k__law_classes => k_is); (case a__law_draw => k_is); (case l__law_draw => k_is); (case c__law_draw => k_is); (case k__law_draw => k_is); (case a__law_skips => k_is); (case l__law_skips => k_is); (case c__law_skips => k_is); (case k__law_skips => k_is); (case a__law_parents => k_is); (case l__law_parents => k_is); (case c__law_parents => k_is); (case k__law_parents => k_is); (case a__law_history => k_is); (case l__law_history => k_is); (case c__law_history => k_is); (case k__law_history => k_is); (case a__law_cell => k_is); (case l__law_cell => k_is); (case c__law_cell => k_is); (case k__law_cell => k_is); (case a__law_digits => k_is); (case l__law_digits => k_is); (case c__law_digits => k_is); (case k__law_digits => k_is); (case a_law => k_is); (case l_law => k_is); (case c_law => k_is); (case k_law => k_is); (case o_gn => k_is); (case o_tk => k_is); (case aC_TooGreat => k_is); (case iC_TooGreat => k_is); (case uC_TooGreat => k_is); (case vC_TooGreat => k_is); (case sC_TooGreat => k_is); (case dC_TooGreat => k_is); (case mC_TooGreat => k_is); (case tC_TooGreat => k_is); (case xp_TooGreat => k_exc); (case kp_TooGreat => k_is); (case s_TooGreat_TooGreat => k_is); (case h_MOST_STATES => k_is); (case z_any => k_is); (case z_dict => k_is); (case z_enumerate => k_is); (case z_int => k_is); (case z_len => k_is); (case z_max => k_is); (case z_min => k_is); (case z_range => k_is); (case z_set => k_is); (case z_sorted => k_is); (case z_tuple => k_is); (case z_zip => k_is)

