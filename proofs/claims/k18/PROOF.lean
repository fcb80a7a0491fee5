import PyProof.Rows.All
import Wide.All
import OpenK.AllK
import Wide.FinOn
import HandS.ForMost
import HandS.Zip
import HandS.IsInst
import HandS.SetKeys
import HandS.TupAny
import HandS.SortInts
import HandS.TupMul
import KE.KeyNested
import HandS.Deep
import HandS.Style
import KE.GoesEnum
import KE.KDictWalk
import PyProof.ReprRoads
import HandS.Conv
import PyProof.DictMoreH
import HandS.Words
import HandS.SetFor
import HandS.Strs
import HandS.WideBits
import HandS.SortOrd
import KE.KMathGC
import HandS.TryOnly
import HandS.ExcOwn
import HandS.WordsExc
import KE.KExcIs
import KE.DataMinMax
import KE.DatumOrd
import HandS.ExcInit
import HandS.ExcField
import HandS.FStr
import KE.KExcSuper
import KE.KSuper
import HandS.SortKw
import HandS.Star
import KE.SortData
import HandS.Text
import PyProof.StrBlock2
import HandS.DictComp
import KE.GoesEnumKw
import PyProof.SumAny
import PyProof.Rows.SumAny
import HandS.TryMany
import KE.KUnpackStar
import HandS.RaiseMore
import KE.KDictZip
import PyProof.TupleOfGen
import HandS.TupLe
import HandS.More
import KE.GoesMore
import HandS.Flow
import KE.KDictDisplayH
import KE.DataCmp
import PyProof.ReprLen
import PySem.Challenge.RW_firstbreak_k18_fewest_by_counts
set_option Elab.async false
set_option linter.all false
set_option maxRecDepth 100000
set_option autoImplicit false
/-! Mn: programs by a store of mutable objects and pure data: the relation to the hand layer. -/
namespace Mn
open PySem PySem.Spec PyProof.Rows L2

/-- data: what a value is, tuples all through; obj k: the k-th mutable object; scr: the law's script, never written; pt: a tuple known to be a bare object; fn: a def or a class of the program, by its name -/
inductive Dv where
  | non | bl (b : Bool) | int (i : Int) | str (x : Str) | tup (ds : List Dv) | obj (k : Nat) | rf (a : Addr) | scr (ns : List Int) | pt (ds : List Dv) | fn (x : Str) | st (ds : List Dv)

/-! nested keys: tuples of ints and of such tuples, as the tracked tuples have them -/
mutual
inductive NkH (H : Hp) : NestedKey → V → Prop
  | int (i : Int) : NkH H (.num i) (.int i)
  | tup {b : Addr} {us : List V} {ks : List NestedKey} : H b = some (.tup us) → NkHs H ks us → NkH H (.tup ks) (.ref b)
inductive NkHs (H : Hp) : List NestedKey → List V → Prop
  | nil : NkHs H [] []
  | cons {k : NestedKey} {v : V} {ks : List NestedKey} {vs : List V} : NkH H k v → NkHs H ks vs → NkHs H (k :: ks) (v :: vs)
end
mutual
theorem NkH.mono {H H' : Hp} (t : ∀ p vs, H p = some (.tup vs) → H' p = some (.tup vs)) : ∀ (k : NestedKey) (v : V), NkH H k v → NkH H' k v
  | .none, _, h => by cases h
  | .num i, _, h => by cases h; exact .int i
  | .text x, _, h => by cases h
  | .tup ks, _, h => by
    cases h with
    | tup h1 h2 => exact .tup (t _ _ h1) (NkHs.mono t ks _ h2)
theorem NkHs.mono {H H' : Hp} (t : ∀ p vs, H p = some (.tup vs) → H' p = some (.tup vs)) : ∀ (ks : List NestedKey) (vs : List V), NkHs H ks vs → NkHs H' ks vs
  | [], _, h => by cases h; exact .nil
  | k :: ks, _, h => by
    cases h with
    | cons h1 h2 => exact .cons (NkH.mono t k _ h1) (NkHs.mono t ks _ h2)
end
mutual
/-- the hash of a key without texts -/
def nkHash : NestedKey → Int
  | .num i => hashInt i
  | .tup ks => reduceHash (Builtin.Tuple.tupleHashOf (nkHashes ks))
  | _ => 0
def nkHashes : List NestedKey → List Int
  | [] => []
  | k :: ks => nkHash k :: nkHashes ks
end
/-- the dict at p, by its object alone: keys, values; bs: where the keys' tuples stand -/
def NdOk (p : Addr) (kvs : List (NestedKey × V)) (bs : List Addr) (h : Heap) : Prop := kvs.length ≤ sizeLine ∧ (p == sysModules) = false ∧ ∃ xs : List (NestedKey × Addr × Value),
  Paired (fun (a : NestedKey × V) (b : NestedKey × Addr × Value) => a.1 = b.1 ∧ RelV a.2 b.2.2) kvs xs ∧ xs.map (·.2.1) = bs ∧
  ∃ o es ep, h.get? p = some o ∧ o.ExactDict ∧ o.data = .dict es ep ∧ es.toList = xs.map (fun x => (⟨nkHash x.1, .ref x.2.1, x.2.2⟩ : DictEntry)) ∧ (xs.map (·.1)).Nodup
/-- the keys stand there -/
def NdKs (H : Hp) (kvs : List (NestedKey × V)) (bs : List Addr) : Prop := Paired (fun (a : NestedKey × V) (b : Addr) => NkH H a.1 (.ref b) ∧ a.1.depth ≤ 8) kvs bs
theorem NdKs.mono {H H' : Hp} (t : ∀ p vs, H p = some (.tup vs) → H' p = some (.tup vs)) {kvs : List (NestedKey × V)} {bs : List Addr} (h : NdKs H kvs bs) : NdKs H' kvs bs := Paired.mapP h fun _ _ z => ⟨NkH.mono t _ _ z.1, z.2⟩
/-- a mutable object: a list; dicts by flat keys, by tuples of flat keys; an instance -/
inductive Ob where
  | lst (xs : List Dv) | dK (kvs : List (Key × Dv)) | dT (kvs : List (List Key × Dv)) | dKf (kvs : List (Key × Dv)) | dTf (kvs : List (List Key × Dv)) | ins (C : Str) (fs : List (Str × Dv))
  | dN (kvs : List (NestedKey × Dv))
  | dNf (kvs : List (NestedKey × Dv))

abbrev Th := List Ob
abbrev DEnv := List (Option Dv)

/-- where a def or a class stands -/
def clsAt (K : PySem.W.Frag) (x : Str) : Addr := match PySem.W.nsIn K mainGlobals x with
  | some (some (.ref a)) => a
  | _ => 0
/-- a list that is never written: locked, or of the written part -/
def Scr (K : PySem.W.Frag) (H : Hp) (p : Addr) (xs : List V) : Prop := (∃ o, H p = some (.frz o (.lst xs))) ∨ SqL K (fun _ => none) p xs
/-- a tuple of the module, never written -/
def StT (K : PySem.W.Frag) (p : Addr) (xs : List V) : Prop := ∃ (o : Obj) (its : Array Value) (n : Nat), K.lookup p = some o ∧ o.cls = .type "tuple" ∧ o.data = .seq its n ∧ its.size ≤ sizeLine ∧ Vals xs its.toList
theorem StT.sq {K : PySem.W.Frag} {H : Hp} {p : Addr} {xs : List V} (h : StT K p xs) : SqT K H p xs := .inr h
mutual
def Rp (K : PySem.W.Frag) (H : Hp) (α : List Addr) : Dv → V → Prop
  | .non, v => v = .non
  | .bl b, v => v = .bl b
  | .int i, v => v = .int i
  | .str x, v => v = .str x
  | .tup ds, v => ∃ p vs, v = .ref p ∧ H p = some (.tup vs) ∧ Rps K H α ds vs
  | .obj k, v => ∃ p, α[k]? = some p ∧ v = .ref p
  | .rf a, v => v = .ref a
  | .scr ns, v => ∃ p, v = .ref p ∧ Scr K H p (ns.map V.int)
  | .fn x, v => v = .ref (clsAt K x)
  | .st ds, v => ∃ p vs, v = .ref p ∧ StT K p vs ∧ Rps K H α ds vs
  | .pt ds, v => ∃ p vs o, v = .ref p ∧ H p = some (.frz o (.tup vs)) ∧ (o.cls = .type "tuple" ∧ o.dict = none) ∧ Rps K H α ds vs
def Rps (K : PySem.W.Frag) (H : Hp) (α : List Addr) : List Dv → List V → Prop
  | [], vs => vs = []
  | d :: ds, vs => ∃ v r, vs = v :: r ∧ Rp K H α d v ∧ Rps K H α ds r
end
/-- pairs of a key and a datum -/
def RpK {κ : Type} (K : PySem.W.Frag) (H : Hp) (α : List Addr) : List (κ × Dv) → List (κ × V) → Prop
  | [], vs => vs = []
  | (k, d) :: ds, vs => ∃ v r, vs = (k, v) :: r ∧ Rp K H α d v ∧ RpK K H α ds r
/-- not locked -/
def Ob.live : Ob → Bool
  | .dKf _ => false
  | .dTf _ => false
  | .dNf _ => false
  | _ => true
def ObR (K : PySem.W.Frag) (H : Hp) (α : List Addr) (p : Addr) : Ob → Prop
  | .lst ds => ∃ vs, H p = some (.lst vs) ∧ Rps K H α ds vs
  | .dK kvs => ∃ vs, H p = some (.dK vs) ∧ RpK K H α kvs vs
  | .dT kvs => ∃ vs, H p = some (.dT vs) ∧ RpK K H α kvs vs
  | .dKf kvs => ∃ vs o, H p = some (.frz o (.dK vs)) ∧ RpK K H α kvs vs
  | .dTf kvs => ∃ vs o, H p = some (.frz o (.dT vs)) ∧ RpK K H α kvs vs
  | .ins C fs => ∃ dx vs, H p = some (.ins (clsAt K C) dx vs) ∧ RpK K H α fs vs
  | .dN kvs => ∃ vs bs, H p = some (.ext (NdOk p vs bs)) ∧ NdKs H vs bs ∧ RpK K H α kvs vs
  | .dNf kvs => ∃ vs bs o, H p = some (.frz o (.ext (NdOk p vs bs))) ∧ NdKs H vs bs ∧ RpK K H α kvs vs
structure Okk (K : PySem.W.Frag) (H : Hp) (α : List Addr) (θ : Th) : Prop where
  len : α.length = θ.length
  nd : α.Nodup
  ob : ∀ (k : Nat) (p : Addr) (o : Ob), α[k]? = some p → θ[k]? = some o → ObR K H α p o

/-- from (H, α) to (H', α'): tuples stay, objects come -/
structure Nx (K : PySem.W.Frag) (H : Hp) (α : List Addr) (H' : Hp) (α' : List Addr) : Prop where
  ext : ∃ β, α' = α ++ β
  tup : ∀ p vs, H p = some (.tup vs) → H' p = some (.tup vs)
  xd : ∀ p fs, H p = some (.xd fs) → H' p = some (.xd fs)
  fz : ∀ p o u, H p = some (.frz o u) → H' p = some (.frz o u)

/-- as far as data lean on it -/
structure Nw (H : Hp) (α : List Addr) (H' : Hp) (α' : List Addr) : Prop where
  ext : ∃ β, α' = α ++ β
  tup : ∀ p vs, H p = some (.tup vs) → H' p = some (.tup vs)
  fl : ∀ p o xs, H p = some (.frz o (.lst xs)) → H' p = some (.frz o (.lst xs))
  ft : ∀ p o xs, H p = some (.frz o (.tup xs)) → H' p = some (.frz o (.tup xs))
theorem Nx.w {K : PySem.W.Frag} {H H' : Hp} {α α' : List Addr} (n : Nx K H α H' α') : Nw H α H' α' := ⟨n.ext, n.tup, fun p o xs => n.fz p o _, fun p o xs => n.fz p o _⟩
section
variable {K : PySem.W.Frag} {H H' H2 : Hp} {α α' α2 : List Addr} {θ θ' : Th}
theorem Nx.refl : Nx K H α H α := ⟨⟨[], by simp⟩, fun _ _ h => h, fun _ _ h => h, fun _ _ _ h => h⟩
theorem Nx.trans (a : Nx K H α H' α') (b : Nx K H' α' H2 α2) : Nx K H α H2 α2 := by
  obtain ⟨β, e⟩ := a.ext
  obtain ⟨γ, e2⟩ := b.ext
  exact ⟨⟨β ++ γ, by rw [e2, e, List.append_assoc]⟩, fun p vs h => b.tup p vs (a.tup p vs h), fun p fs h => b.xd p fs (a.xd p fs h), fun p o xs h => b.fz p o xs (a.fz p o xs h)⟩
theorem Nx.at (a : Nx K H α H' α') {k : Nat} {p : Addr} (h : α[k]? = some p) : α'[k]? = some p := by
  obtain ⟨β, e⟩ := a.ext
  rw [e, List.getElem?_append_left (by have := (List.getElem?_eq_some_iff.mp h).1; exact this)]
  exact h
theorem Nw.at (a : Nw H α H' α') {k : Nat} {p : Addr} (h : α[k]? = some p) : α'[k]? = some p := by
  obtain ⟨β, e⟩ := a.ext
  rw [e, List.getElem?_append_left (by have := (List.getElem?_eq_some_iff.mp h).1; exact this)]
  exact h
mutual
theorem Rp.monoW (a : Nw H α H' α') : ∀ {d : Dv} {v : V}, Rp K H α d v → Rp K H' α' d v
  | .non, _, h => by simpa [Rp] using h
  | .bl _, _, h => by simpa [Rp] using h
  | .int _, _, h => by simpa [Rp] using h
  | .str _, _, h => by simpa [Rp] using h
  | .rf _, _, h => by simpa [Rp] using h
  | .fn _, _, h => by simpa [Rp] using h
  | .scr ns, v, h => by
    unfold Rp at h ⊢
    obtain ⟨p, e, q⟩ := h
    exact ⟨p, e, q.imp (fun ⟨o, z⟩ => ⟨o, a.fl p o _ z⟩) id⟩
  | .tup ds, v, h => by
    unfold Rp at h ⊢
    obtain ⟨p, vs, e, t, r⟩ := h
    exact ⟨p, vs, e, a.tup p vs t, Rps.monoW a r⟩
  | .st ds, v, h => by
    unfold Rp at h ⊢
    obtain ⟨p, vs, e, t, r⟩ := h
    exact ⟨p, vs, e, t, Rps.monoW a r⟩
  | .pt ds, v, h => by
    unfold Rp at h ⊢
    obtain ⟨p, vs, o, e, t, d, r⟩ := h
    exact ⟨p, vs, o, e, a.ft p o vs t, d, Rps.monoW a r⟩
  | .obj k, v, h => by
    unfold Rp at h ⊢
    obtain ⟨p, e, r⟩ := h
    exact ⟨p, a.at e, r⟩
theorem Rps.monoW (a : Nw H α H' α') : ∀ {ds : List Dv} {vs : List V}, Rps K H α ds vs → Rps K H' α' ds vs
  | [], _, h => by unfold Rps at h ⊢; exact h
  | d :: ds, _, h => by
    unfold Rps at h ⊢
    obtain ⟨v, r, e, h1, h2⟩ := h
    exact ⟨v, r, e, Rp.monoW a h1, Rps.monoW a h2⟩
end
theorem RpK.monoW {κ : Type} (a : Nw H α H' α') : ∀ {ds : List (κ × Dv)} {vs : List (κ × V)}, RpK K H α ds vs → RpK K H' α' ds vs
  | [], _, h => by unfold RpK at h ⊢; exact h
  | (k, d) :: ds, _, h => by
    unfold RpK at h ⊢
    obtain ⟨v, r, e, h1, h2⟩ := h
    exact ⟨v, r, e, Rp.monoW a h1, RpK.monoW a h2⟩
theorem Rp.mono (a : Nx K H α H' α') {d : Dv} {v : V} (h : Rp K H α d v) : Rp K H' α' d v := h.monoW a.w
theorem Rps.mono (a : Nx K H α H' α') {ds : List Dv} {vs : List V} (h : Rps K H α ds vs) : Rps K H' α' ds vs := h.monoW a.w
theorem RpK.mono {κ : Type} (a : Nx K H α H' α') {ds : List (κ × Dv)} {vs : List (κ × V)} (h : RpK K H α ds vs) : RpK K H' α' ds vs := h.monoW a.w
theorem Rps.length : ∀ {ds : List Dv} {vs : List V}, Rps K H α ds vs → vs.length = ds.length
  | [], _, h => by unfold Rps at h; subst h; rfl
  | d :: ds, _, h => by
    unfold Rps at h
    obtain ⟨v, r, rfl, _, h2⟩ := h
    simp [Rps.length h2]
theorem Rps.get : ∀ {ds : List Dv} {vs : List V} {i : Nat} {d : Dv}, Rps K H α ds vs → ds[i]? = some d → ∃ v, vs[i]? = some v ∧ Rp K H α d v
  | [], _, _, _, _, e => by simp at e
  | d :: ds, _, 0, d', h, e => by
    unfold Rps at h
    obtain ⟨v, r, rfl, h1, h2⟩ := h
    simp at e
    subst e
    exact ⟨v, by simp, h1⟩
  | d :: ds, _, i + 1, d', h, e => by
    unfold Rps at h
    obtain ⟨v, r, rfl, h1, h2⟩ := h
    obtain ⟨v', e', h'⟩ := Rps.get (i := i) h2 (by simpa using e)
    exact ⟨v', by simpa using e', h'⟩
theorem Rps.nil : Rps K H α [] [] := by unfold Rps; rfl
theorem Rps.cons {d : Dv} {v : V} {ds : List Dv} {vs : List V} (h : Rp K H α d v) (r : Rps K H α ds vs) : Rps K H α (d :: ds) (v :: vs) := by unfold Rps; exact ⟨v, vs, rfl, h, r⟩
theorem Rps.append : ∀ {ds es : List Dv} {vs us : List V}, Rps K H α ds vs → Rps K H α es us → Rps K H α (ds ++ es) (vs ++ us)
  | [], _, _, _, h, r => by unfold Rps at h; subst h; exact r
  | d :: ds, _, _, _, h, r => by
    unfold Rps at h
    obtain ⟨v, q, rfl, h1, h2⟩ := h
    exact Rps.cons h1 (Rps.append h2 r)
theorem Rps.set {d : Dv} {v : V} (q : Rp K H α d v) : ∀ {ds : List Dv} {vs : List V} {i : Nat}, Rps K H α ds vs → Rps K H α (ds.set i d) (vs.set i v)
  | [], _, _, h => by unfold Rps at h; subst h; exact Rps.nil
  | e :: ds, _, 0, h => by
    unfold Rps at h
    obtain ⟨u, r, rfl, h1, h2⟩ := h
    exact Rps.cons q h2
  | e :: ds, _, i + 1, h => by
    unfold Rps at h
    obtain ⟨u, r, rfl, h1, h2⟩ := h
    exact Rps.cons h1 (Rps.set q h2)
theorem Rps.drop : ∀ {ds : List Dv} {vs : List V} (i : Nat), Rps K H α ds vs → Rps K H α (ds.drop i) (vs.drop i)
  | _, _, 0, h => by simpa using h
  | [], _, _ + 1, h => by unfold Rps at h; subst h; exact Rps.nil
  | e :: ds, _, i + 1, h => by
    unfold Rps at h
    obtain ⟨u, r, rfl, h1, h2⟩ := h
    simpa using Rps.drop i h2
theorem Rps.take : ∀ {ds : List Dv} {vs : List V} (i : Nat), Rps K H α ds vs → Rps K H α (ds.take i) (vs.take i)
  | _, _, 0, h => by simpa using Rps.nil
  | [], _, _ + 1, h => by unfold Rps at h; subst h; exact Rps.nil
  | e :: ds, _, i + 1, h => by
    unfold Rps at h
    obtain ⟨u, r, rfl, h1, h2⟩ := h
    exact Rps.cons h1 (Rps.take i h2)
theorem Rps.split : ∀ {ds es : List Dv} {vs : List V}, Rps K H α (ds ++ es) vs → ∃ us ws, vs = us ++ ws ∧ Rps K H α ds us ∧ Rps K H α es ws
  | [], _, vs, h => ⟨[], vs, rfl, Rps.nil, h⟩
  | d :: ds, _, _, h => by
    rw [List.cons_append] at h
    unfold Rps at h
    obtain ⟨v, r, rfl, h1, h2⟩ := h
    obtain ⟨us, ws, rfl, h3, h4⟩ := Rps.split h2
    exact ⟨v :: us, ws, rfl, Rps.cons h1 h3, h4⟩
/-! what is stored is of kinds that no tuple is -/
theorem tup_upd {p q : Addr} {o : HO} {vs : List V} (h : H p = some (.tup vs)) (hq : ∀ us, H q ≠ some (.tup us)) : upd H q o p = some (.tup vs) := by
  rw [upd_ne (fun e => by subst e; exact hq vs h)]
  exact h
theorem notup_none {q : Addr} (h : H q = none) : ∀ us, H q ≠ some (.tup us) := fun us r => by rw [h] at r; cases r
theorem notup_of {q : Addr} {o : HO} (h : H q = some o) (n : ∀ us, o ≠ .tup us) : ∀ us, H q ≠ some (.tup us) := fun us r => by
  rw [h] at r
  exact n us (Option.some.inj r)
/-- an object that comes, or one that changes -/
theorem Nx.new {q : Addr} {o : HO} (h : H q = none) (β : List Addr) : Nx K H α (upd H q o) (α ++ β) :=
  ⟨⟨β, rfl⟩, fun _ _ t => tup_upd t (notup_none h), fun p fs e => by rw [upd_ne (ne_of_none e h)]; exact e, fun p o xs e => by rw [upd_ne (ne_of_none e h)]; exact e⟩
theorem Nx.new0 {q : Addr} {o : HO} (h : H q = none) : Nx K H α (upd H q o) α := by
  have := Nx.new (K := K) (α := α) (o := o) h []
  simpa using this
theorem ObR.notup {p : Addr} {o : Ob} (h : ObR K H α p o) : ∀ us, H p ≠ some (.tup us) := by
  cases o with
  | lst ds => obtain ⟨vs, e, _⟩ := h; exact notup_of e (fun _ z => nomatch z)
  | dK ds => obtain ⟨vs, e, _⟩ := h; exact notup_of e (fun _ z => nomatch z)
  | dT ds => obtain ⟨vs, e, _⟩ := h; exact notup_of e (fun _ z => nomatch z)
  | dKf ds => obtain ⟨vs, b, e, _⟩ := h; exact notup_of e (fun _ z => nomatch z)
  | dTf ds => obtain ⟨vs, b, e, _⟩ := h; exact notup_of e (fun _ z => nomatch z)
  | ins C fs => obtain ⟨dx, vs, e, _⟩ := h; exact notup_of e (fun _ z => nomatch z)
  | dN ds => obtain ⟨vs, bs, e, _⟩ := h; exact notup_of e (fun _ z => nomatch z)
  | dNf ds => obtain ⟨vs, bs, b, e, _⟩ := h; exact notup_of e (fun _ z => nomatch z)
theorem ObR.noxd {p : Addr} {o : Ob} (h : ObR K H α p o) : ∀ fs, H p ≠ some (.xd fs) := by
  intro fs x
  cases o with
  | lst ds => obtain ⟨vs, e, _⟩ := h; rw [x] at e; cases e
  | dK ds => obtain ⟨vs, e, _⟩ := h; rw [x] at e; cases e
  | dT ds => obtain ⟨vs, e, _⟩ := h; rw [x] at e; cases e
  | dKf ds => obtain ⟨vs, b, e, _⟩ := h; rw [x] at e; cases e
  | dTf ds => obtain ⟨vs, b, e, _⟩ := h; rw [x] at e; cases e
  | ins C fs => obtain ⟨dx, vs, e, _⟩ := h; rw [x] at e; cases e
  | dN ds => obtain ⟨vs, bs, e, _⟩ := h; rw [x] at e; cases e
  | dNf ds => obtain ⟨vs, bs, b, e, _⟩ := h; rw [x] at e; cases e
theorem ObR.nofz {p : Addr} {o : Ob} (h : ObR K H α p o) (lv : o.live = true) : ∀ b u, H p ≠ some (.frz b u) := by
  intro b₀ u₀ x
  cases o with
  | lst ds => obtain ⟨vs, e, _⟩ := h; rw [x] at e; cases e
  | dK ds => obtain ⟨vs, e, _⟩ := h; rw [x] at e; cases e
  | dT ds => obtain ⟨vs, e, _⟩ := h; rw [x] at e; cases e
  | dKf ds => cases lv
  | dTf ds => cases lv
  | ins C fs => obtain ⟨dx, vs, e, _⟩ := h; rw [x] at e; cases e
  | dN ds => obtain ⟨vs, bs, e, _⟩ := h; rw [x] at e; cases e
  | dNf ds => cases lv
theorem ObR.some {p : Addr} {o : Ob} (h : ObR K H α p o) : ∃ u, H p = some u := by
  cases o with
  | lst ds => obtain ⟨vs, e, _⟩ := h; exact ⟨_, e⟩
  | dK ds => obtain ⟨vs, e, _⟩ := h; exact ⟨_, e⟩
  | dT ds => obtain ⟨vs, e, _⟩ := h; exact ⟨_, e⟩
  | dKf ds => obtain ⟨vs, b, e, _⟩ := h; exact ⟨_, e⟩
  | dTf ds => obtain ⟨vs, b, e, _⟩ := h; exact ⟨_, e⟩
  | ins C fs => obtain ⟨dx, vs, e, _⟩ := h; exact ⟨_, e⟩
  | dN ds => obtain ⟨vs, bs, e, _⟩ := h; exact ⟨_, e⟩
  | dNf ds => obtain ⟨vs, bs, b, e, _⟩ := h; exact ⟨_, e⟩
theorem Nx.chg {q : Addr} {o : HO} {u : Ob} (h : ObR K H α q u) (lv : u.live = true := by rfl) : Nx K H α (upd H q o) α :=
  ⟨⟨[], by simp⟩, fun _ _ t => tup_upd t h.notup, fun p fs e => by rw [upd_ne (fun z => by subst z; exact h.noxd fs e)]; exact e, fun p o xs e => by rw [upd_ne (fun z => by subst z; exact h.nofz lv o xs e)]; exact e⟩
/-- an object's word leans on its own address alone -/
theorem ObR.monoW {p : Addr} {o : Ob} (a : Nw H α H' α') (e : H' p = H p) (h : ObR K H α p o) : ObR K H' α' p o := by
  cases o with
  | lst ds => obtain ⟨vs, h1, h2⟩ := h; exact ⟨vs, e.trans h1, h2.monoW a⟩
  | dK ds => obtain ⟨vs, h1, h2⟩ := h; exact ⟨vs, e.trans h1, h2.monoW a⟩
  | dT ds => obtain ⟨vs, h1, h2⟩ := h; exact ⟨vs, e.trans h1, h2.monoW a⟩
  | dKf ds => obtain ⟨vs, b, h1, h2⟩ := h; exact ⟨vs, b, e.trans h1, h2.monoW a⟩
  | dTf ds => obtain ⟨vs, b, h1, h2⟩ := h; exact ⟨vs, b, e.trans h1, h2.monoW a⟩
  | ins C fs => obtain ⟨dx, vs, h1, h2⟩ := h; exact ⟨dx, vs, e.trans h1, h2.monoW a⟩
  | dN ds => obtain ⟨vs, bs, h1, h2, h3⟩ := h; exact ⟨vs, bs, e.trans h1, h2.mono a.tup, h3.monoW a⟩
  | dNf ds => obtain ⟨vs, bs, b, h1, h2, h3⟩ := h; exact ⟨vs, bs, b, e.trans h1, h2.mono a.tup, h3.monoW a⟩
theorem ObR.mono {p : Addr} {o : Ob} (a : Nx K H α H' α') (e : H' p = H p) (h : ObR K H α p o) : ObR K H' α' p o := h.monoW a.w e
theorem Okk.fresh (h : Okk K H α θ) {q : Addr} (n : H q = none) : q ∉ α := fun m => by
  obtain ⟨k, hk, e⟩ := List.mem_iff_getElem.mp m
  have e1 : α[k]? = some q := by rw [List.getElem?_eq_getElem hk, e]
  obtain ⟨u, hu⟩ := (h.ob k q (θ[k]'(by rw [← h.len]; exact hk)) e1 (by rw [List.getElem?_eq_getElem])).some
  rw [n] at hu; cases hu
/-- an untracked thing comes (a tuple): the store stays -/
theorem Okk.new0 (h : Okk K H α θ) {q : Addr} {o : HO} (n : H q = none) : Okk K (upd H q o) α θ :=
  ⟨h.len, h.nd, fun k p ob e1 e2 => (h.ob k p ob e1 e2).mono (Nx.new0 n) (upd_ne fun z => h.fresh n (z ▸ List.mem_of_getElem? e1))⟩
/-- a mutable object comes -/
theorem Okk.new (h : Okk K H α θ) {q : Addr} {o : HO} {ob : Ob} (n : H q = none) (r : ObR K (upd H q o) (α ++ [q]) q ob) : Okk K (upd H q o) (α ++ [q]) (θ ++ [ob]) := by
  refine ⟨by simp [h.len], ?_, fun k p u e1 e2 => ?_⟩
  · rw [List.nodup_append]
    exact ⟨h.nd, by simp, fun a ha b hb e => by simp at hb; subst hb; subst e; exact h.fresh n ha⟩
  · by_cases hk : k < α.length
    · rw [List.getElem?_append_left hk] at e1
      rw [List.getElem?_append_left (by rw [← h.len]; exact hk)] at e2
      exact (h.ob k p u e1 e2).mono (Nx.new n _) (upd_ne fun z => h.fresh n (z ▸ List.mem_of_getElem? e1))
    · have hk2 : k = α.length := by
        have := (List.getElem?_eq_some_iff.mp e1).1
        simp at this
        omega
      subst hk2
      simp at e1
      rw [h.len] at e2
      simp at e2
      subst e1 e2
      exact r
/-- a mutable object changes -/
theorem Okk.chg (h : Okk K H α θ) {k : Nat} {q : Addr} {o : HO} {ob u : Ob} (e1 : α[k]? = some q) (e2 : θ[k]? = some u) (r : ObR K (upd H q o) α q ob) (lv : u.live = true := by rfl) : Okk K (upd H q o) α (θ.set k ob) := by
  refine ⟨by simp [h.len], h.nd, fun j p w f1 f2 => ?_⟩
  by_cases hj : k = j
  · subst hj
    rw [List.getElem?_set_self (List.getElem?_eq_some_iff.mp e2).1] at f2
    rw [e1] at f1
    cases f1
    cases f2
    exact r
  · rw [List.getElem?_set_ne hj] at f2
    refine (h.ob j p w f1 f2).mono (Nx.chg (h.ob k q u e1 e2) lv) (upd_ne fun z => ?_)
    subst z
    obtain ⟨a1, b1⟩ := List.getElem?_eq_some_iff.mp e1
    obtain ⟨a2, b2⟩ := List.getElem?_eq_some_iff.mp f1
    exact hj ((List.getElem_inj h.nd).mp (b1.trans b2.symm))
theorem Okk.addr (h : Okk K H α θ) {k : Nat} {o : Ob} (e : θ[k]? = some o) : ∃ p, α[k]? = some p := by
  have := (List.getElem?_eq_some_iff.mp e).1
  exact ⟨α[k]'(by rw [h.len]; exact this), List.getElem?_eq_getElem _⟩
end

/-- slots -/
def RS (K : PySem.W.Frag) (H : Hp) (α : List Addr) (σ : L2.St) (ρ : DEnv) : Prop :=
  σ.length = ρ.length ∧ ∀ (i : Nat) (d : Dv), ρ[i]? = some (some d) → ∃ v, σ[i]? = some (some v) ∧ Rp K H α d v
section
variable {K : PySem.W.Frag} {H H' : Hp} {α α' : List Addr} {θ θ' : Th} {σ : L2.St} {ρ : DEnv}
theorem RS.mono (h : RS K H α σ ρ) (a : Nx K H α H' α') : RS K H' α' σ ρ := ⟨h.1, fun i d e => let ⟨v, e1, r⟩ := h.2 i d e; ⟨v, e1, r.mono a⟩⟩
theorem RS.set (h : RS K H α σ ρ) {d : Dv} {v : V} (r : Rp K H α d v) (i : Nat) : RS K H α (σ.set i (some v)) (ρ.set i (some d)) := by
  refine ⟨by simp [h.1], fun j d' e => ?_⟩
  by_cases hj : i = j
  · subst hj
    by_cases hi : i < ρ.length
    · rw [List.getElem?_set_self hi] at e
      cases e
      exact ⟨v, List.getElem?_set_self (by rw [h.1]; exact hi), r⟩
    · rw [List.getElem?_eq_none (by simpa using hi)] at e
      cases e
  · rw [List.getElem?_set_ne hj] at e
    obtain ⟨u, e1, r1⟩ := h.2 j d' e
    exact ⟨u, by rw [List.getElem?_set_ne hj]; exact e1, r1⟩
theorem RS.set_none (h : RS K H α σ ρ) (x : Option V) (i : Nat) : RS K H α (σ.set i x) (ρ.set i none) := by
  refine ⟨by simp [h.1], fun j d' e => ?_⟩
  by_cases hj : i = j
  · subst hj
    by_cases hi : i < ρ.length
    · rw [List.getElem?_set_self hi] at e
      cases e
    · rw [List.getElem?_eq_none (by simpa using hi)] at e
      cases e
  · rw [List.getElem?_set_ne hj] at e
    obtain ⟨u, e1, r1⟩ := h.2 j d' e
    exact ⟨u, by rw [List.getElem?_set_ne hj]; exact e1, r1⟩
def wipeE (ρ : DEnv) : List Nat → DEnv
  | [] => ρ
  | v :: vs => (wipeE ρ vs).set v none
theorem RS.wipe (h : RS K H α σ ρ) : ∀ vs : List Nat, RS K H α (wipe σ vs) (wipeE ρ vs)
  | [] => h
  | v :: vs => (RS.wipe h vs).set_none none v
end

/-! ### programs by two wishes: of an exception, of a value -/
/-- an exception: its class, its fields -/
structure Exn where
  cls : Str
  fs : List (Str × Dv)
def MX (β : Type) : Type := (Exn → Th → Prop) → Th → (β → Th → Prop) → Prop
instance : Monad MX where
  pure a := fun _ θ Q => Q a θ
  bind m f := fun E θ Q => m E θ fun a θ' => f a E θ' Q
def MX.stuck {β : Type} : MX β := fun _ _ _ => False
def MX.get : MX Th := fun _ θ Q => Q θ θ
def MX.put (θ' : Th) : MX Unit := fun _ _ Q => Q () θ'
def MX.need (p : Prop) : MX Unit := fun _ θ Q => p ∧ Q () θ
def MX.opt {β : Type} : Option β → MX β
  | some a => pure a
  | none => MX.stuck
abbrev ME := DEnv → MX Dv

/-- where a body stands: the entry's heap and objects, what is wished of an exception on both sides -/
structure Wd (K : PySem.W.Frag) (mg : Str → Option Value) where
  H0 : Hp
  α0 : List Addr
  En : Exn → Th → Prop
  E : XK
/-- an exception's object: its class's address, its dict -/
def ExR (K : PySem.W.Frag) (mg : Str → Option Value) (H : Hp) (α : List Addr) (x : Exn) (cls : Value) (d : Option Addr) : Prop :=
  ∃ C, mg x.cls = some (.ref C) ∧ cls = .ref C ∧ match d with
    | none => x.fs = []
    | some p => ∃ vs, H p = some (.xd vs) ∧ RpK K H α x.fs vs
structure Wd.Ok {K : PySem.W.Frag} {mg : Str → Option Value} (W : Wd K mg) : Prop where
  link : ∀ x θ α H cls d, W.En x θ → Okk K H α θ → Nx K W.H0 W.α0 H α → ExR K mg H α x cls d → W.E cls d H
/-- nothing is raised -/
def Wd.calm {K : PySem.W.Frag} {mg : Str → Option Value} (W : Wd K mg) : Wd K mg := { W with En := fun _ _ => False, E := fun _ _ _ => False }
section
variable {K : PySem.W.Frag} {mg : Str → Option Value}
/-- the state: the store is told, it came from the entry -/
structure At (W : Wd K mg) (H : Hp) (α : List Addr) (θ : Th) : Prop where
  ok : Okk K H α θ
  nx : Nx K W.H0 W.α0 H α
/-- what is wanted of data is enough for what is wanted of values -/
def Up (K : PySem.W.Frag) (H : Hp) (α : List Addr) (Qm : Dv → Th → Prop) (Q : VK) : Prop :=
  ∀ d θ' α' H' v, Qm d θ' → Okk K H' α' θ' → Nx K H α H' α' → Rp K H' α' d v → Q v H'
theorem Up.mono {H H' : Hp} {α α' : List Addr} {Qm : Dv → Th → Prop} {Q : VK} (u : Up K H α Qm Q) (a : Nx K H α H' α') : Up K H' α' Qm Q :=
  fun d θ2 α2 H2 v q o n r => u d θ2 α2 H2 v q o (a.trans n) r
/-- an expression's reading by data -/
def tM (W : Wd K mg) (m : ME) : TE := fun σ H Q => ∃ ρ α θ Qm, At W H α θ ∧ RS K H α σ ρ ∧ m ρ W.En θ Qm ∧ Up K H α Qm Q
def tMs (W : Wd K mg) (m : DEnv → MX (List Dv)) : TA := fun σ H Q => ∃ ρ α θ Qm, At W H α θ ∧ RS K H α σ ρ ∧ m ρ W.En θ Qm ∧
  ∀ ds θ' α' H' vs, Qm ds θ' → Okk K H' α' θ' → Nx K H α H' α' → Rps K H' α' ds vs → Q vs H'
def tMb (W : Wd K mg) (m : DEnv → MX Bool) : TT := fun σ H Q => ∃ ρ α θ Qm, At W H α θ ∧ RS K H α σ ρ ∧ m ρ W.En θ Qm ∧
  ∀ b θ' α' H', Qm b θ' → Okk K H' α' θ' → Nx K H α H' α' → Q b H'
inductive Out where
  | nx (ρ : DEnv) | rt (d : Dv) | bk (ρ : DEnv) | ct (ρ : DEnv)
abbrev MS := DEnv → MX Out
def UpS (K : PySem.W.Frag) (H : Hp) (α : List Addr) (Qm : Out → Th → Prop) (D : Ends) : Prop :=
  ∀ o θ' α' H', Qm o θ' → Okk K H' α' θ' → Nx K H α H' α' → match o with
    | .nx ρ' => ∀ σ', RS K H' α' σ' ρ' → D.nx σ' H'
    | .bk ρ' => ∀ σ', RS K H' α' σ' ρ' → D.bk σ' H'
    | .ct ρ' => ∀ σ', RS K H' α' σ' ρ' → D.ct σ' H'
    | .rt d => ∀ v, Rp K H' α' d v → D.rt v H'
theorem UpS.mono {H H' : Hp} {α α' : List Addr} {Qm : Out → Th → Prop} {D : Ends} (u : UpS K H α Qm D) (a : Nx K H α H' α') : UpS K H' α' Qm D :=
  fun o θ2 α2 H2 q ok n => u o θ2 α2 H2 q ok (a.trans n)
def tS (W : Wd K mg) (m : MS) : TS := fun D σ H => ∃ ρ α θ Qm, At W H α θ ∧ RS K H α σ ρ ∧ m ρ W.En θ Qm ∧ UpS K H α Qm D
end
/-! weakening of the hand layer's judgements -/
section
variable {X : Cx}
theorem pe_w {e : Expr} {t t' : TE} (h : PE X e t) (w : ∀ σ H Q, t' σ H Q → t σ H Q) : PE X e t' := ⟨fun pins s σ H Q I q => h.run pins s σ H Q I (w σ H Q q)⟩
theorem pt_w {e : Expr} {t t' : TT} (h : PT X e t) (w : ∀ σ H Q, t' σ H Q → t σ H Q) : PT X e t' := ⟨fun pins s σ H Q I q => h.run pins s σ H Q I (w σ H Q q)⟩
theorem pw_w {e : Expr} {t t' : TT} (h : PW X e t) (w : ∀ σ H Q, t' σ H Q → t σ H Q) : PW X e t' := ⟨fun wh pins s σ H Q I q => h.run wh pins s σ H Q I (w σ H Q q)⟩
theorem pa_w {e : List Expr} {t t' : TA} (h : PA X e t) (w : ∀ σ H Q, t' σ H Q → t σ H Q) : PA X e t' := ⟨fun p pins s σ H Q I q => h.run p pins s σ H Q I (w σ H Q q)⟩
theorem ps_w {e : Stmt} {t t' : TS} (h : PS X e t) (w : ∀ D σ H, t' D σ H → t D σ H) : PS X e t' := ⟨fun pins s σ H D I q => h.run pins s σ H D I (w D σ H q)⟩
theorem pss_w {e : List Stmt} {t t' : TS} (h : PSs X e t) (w : ∀ D σ H, t' D σ H → t D σ H) : PSs X e t' := ⟨fun pins s σ H D I q => h.run pins s σ H D I (w D σ H q)⟩
end
end Mn

/-! Mn2: what a def promises where no repr is under way; its call; its body; the law's end. -/
namespace Mn
open PySem PySem.Spec PyProof.Rows L2

structure FnG (P : Program) (w : World) (K : PySem.W.Frag) (mg : Str → Option Value) (base : Heap) (CX : CXT) (k : Nat) (f : Addr) (fd : FuncData) (ps : List Str) (sp : Sp) : Prop where
  arity : ∀ vs H Q E, sp vs H Q E → vs.length = ps.length
  go : ∀ (A : Around) (outer : List Env) (s : Shared) (H : Hp) (args : Args) (us : List Value) (vs : List V) (Q : VK) (E : XK),
    A.guards = some [] → Room k A → Env0 P w K mg base A outer s H → BindsTo s fd args (ps.zip us) → Vals vs us → sp vs H Q E →
    codeAny (model P w) A (.call (.ref f) args) (CR CX outer P w H s Q E) s
section
variable {P : Program} {w : World} {K : PySem.W.Frag} {mg : Str → Option Value} {base : Heap} {CX : CXT} {j k : Nat} {f : Addr} {fd : FuncData} {ps : List Str} {sp sp' : Sp}
theorem FnG.mono (F : FnG P w K mg base CX j f fd ps sp) (h : j ≤ k) : FnG P w K mg base CX k f fd ps sp :=
  ⟨F.arity, fun A outer s H args us vs Q E hg hr => F.go A outer s H args us vs Q E hg (hr.mono h)⟩
theorem FnG.imp (F : FnG P w K mg base CX k f fd ps sp) (h : ∀ vs H Q E, sp' vs H Q E → sp vs H Q E) : FnG P w K mg base CX k f fd ps sp' :=
  ⟨fun vs H Q E q => F.arity vs H Q E (h _ _ _ _ q), fun A outer s H args us vs Q E hg hr he hb hv hs => F.go A outer s H args us vs Q E hg hr he hb hv (h _ _ _ _ hs)⟩
end

section
variable {X : Cx} {CX : CXT} {k : Nat} {f : Addr} {fd : FuncData} {ps : List Str} {sp : Sp} {dvs : List V} {ds : List Value} {E : XK} {x : Str} {p pos : Pos} {e : Expr} {es : List Expr} {t : TA}
theorem runG {pins : List (Addr × Obj)} {σ : L2.St} {H : Hp} {s : Shared} {Q : VK} {us : List Value} {vs : List V} (F : FnG X.prog X.w X.K X.mg X.base CX k f fd ps sp)
    (gd : X.A.guards = some []) (hr : Room k X.A) (hb : Binds X.K fd ps ds) (hd : Vals dvs ds) (hx : Passes CX X E)
    (I : Inv X pins σ H s) (r : Vals vs us) (h : sp (vs ++ dvs) H Q E) : wpAny (model X.prog X.w) X.A (call (.ref f) us) (EP X pins σ Q) X.xe s := by
  have r2 := Vals.append r hd
  have hl : (us ++ ds).length = ps.length := by
    rw [← r2.length]
    exact F.arity _ _ _ _ h
  have main := F.go X.A X.stack s H ⟨us, []⟩ (us ++ ds) (vs ++ dvs) Q E gd hr I.env0 (hb s us I.kIn hl) r2 h
  refine wpAny_call (codeAny_mono main ?_)
  intro r s' hq
  cases r with
  | error z => exact hx pins σ H s z s' I hq
  | ok fl =>
    cases fl <;> first
      | exact I.after hq
      | exact False.elim hq
theorem pe_callG (F : FnG X.prog X.w X.K X.mg X.base CX k f fd ps sp) (gd : X.A.guards = some []) (hr : Room k X.A) (hg : Gl X x) (hm : X.mg x = some (.ref f)) (hk : PySem.W.keepIn X.K (.ref f) = true)
    (hb : Binds X.K fd ps ds) (hd : Vals dvs ds) (hx : Passes CX X E) (ha : PA X (e :: es) t)
    (hdb : (x == ("__debug__" : Str)) = false := by decide) (he : starEach (e :: es) X.env = (false, eval e X.env) :: starEach es X.env := by rfl)
    (hpl : (backTo pos (starEach es X.env)).any (·.1) = false := by rfl) :
    PE X (.Call (.Name x p) (e :: es) [] pos) (tCall sp dvs E t) := by
  constructor
  intro pins s σ H Q I h
  apply wpAny_Call_Name_kw (ld_glob I hg hm ?_ hdb)
  have step := fun us s1 (z : AP X pins σ (fun vs H1 => sp (vs ++ dvs) H1 Q E) us s1) => (show X.K.In s1.heap ∧ wpAny (model X.prog X.w) X.A (call (.ref f) us) (EP X pins σ Q) X.xe s1 from by
    obtain ⟨vs, H1, I1, r, q⟩ := z
    exact ⟨I1.kIn, runG F gd hr hb hd hx I1 r q⟩)
  exact PySem.W.callWith_K (h₀ := X.base) I.ok.mod.kin hk (thn (ha.run pos pins s σ H _ I h) step) he hpl
end

/-- a def by its body -/
theorem fnG_of {CX : CXT} {P : Program} {w : World} {K : PySem.W.Frag} {mg : Str → Option Value} {base : Heap} {k : Nat} {f : Addr} {name qual : Str} {params : Arguments} {body : List Stmt} {scope : Scope} {dV kV doc pm cdv ct oc : Value} {an od : Option Addr}
    {osl : Array (Option Value)} {N ps : List Str} {sp : Sp} (lk : K.lookup f = some ⟨oc, od, .func (PySem.W.fnOf name qual params body scope dV kV doc pm an cdv ct), osl⟩)
    (hcd : PySem.W.codeIn K cdv qual = true) (S : FnScope N ps scope) (arity : ∀ vs H Q E, sp vs H Q E → vs.length = ps.length)
    (hbody : ∀ (A : Around) (outer : List Env) (s : Shared) (H : Hp) (vs : List V) (Q : VK) (E : XK), A.guards = some [] → Room k (A.deeper (envOfC qual scope s.heap.objs.size f cdv)) → sp vs H Q E →
      ∃ t, PSs (cxOf CX P w K mg base N qual scope f cdv A outer s H E) body t ∧ t { nx := fun _ H' => Q .non H', rt := Q } (start N vs) H) :
    FnG P w K mg base CX (k + 1) f (PySem.W.fnOf name qual params body scope dV kV doc pm an cdv ct) ps sp := by
  constructor
  · exact arity
  intro A outer s H args us vs Q E gd hr e0 hb r hsp
  have hl := arity _ _ _ _ hsp
  have old : ∀ (b : Addr) (o : Obj), base.get? b = some o → s.heap.get? b = some o := fun b o e => (e0.bs b o e).1
  have KX : K.In s.heap := e0.mod.kin.keeps old
  have lim : s.heap.NoLimit := e0.mod.nolimit.keeps old
  have hkind : ∀ y ∈ ps.zip us, scope.names.lookup y.1 = some .local ∨
      (scope.names.lookup y.1 = some .cell ∧ ((cellsFrom (s.heap.objs.size + 1) scope.names []).lookup y.1).isSome = true) := by
    rintro ⟨n, v⟩ hy
    have q := S.par n (List.of_mem_zip hy).1
    cases q with
    | inl q => exact Or.inl q
    | inr q => exact Or.inr ⟨q, PySem.W.cellsFrom_some _ _ _ (Or.inl q)⟩
  apply codeAny_call_function hr.depth (KX _ _ lk) rfl S.co S.gen rfl (PySem.W.codeRec_of KX hcd)
  apply hb
  refine wpAny_newFunctionEnv_cells S.kind hkind ?_
  intro env he s1 x
  subst he
  constructor
  · exact lim.keeps x.toInCall.keep
  apply codeAny_func
  obtain ⟨t, ht, hq⟩ := hbody A outer s H vs Q E gd (hr.deeper _) hsp
  have I := inv_start (CX := CX) (P := P) (w := w) (K := K) (mg := mg) (base := base) (qual := qual) (f := f) (cd := cdv) (outer := outer) (E := E) S hr.hd e0 hl r x
  refine wpAny_mono (ht.run [] s1 (start N vs) H _ I hq) ?_ (fun _ _ hs => hs)
  intro fl s' hs
  cases fl with
  | ret u =>
    obtain ⟨v, σ', H', J, rv, q⟩ := hs
    exact ⟨v, H', J.os, J.bare, J.base, J.hok, rv, q⟩
  | next =>
    obtain ⟨σ', H', J, q⟩ := hs
    exact ⟨V.non, H', J.os, J.bare, J.base, J.hok, rfl, q⟩
  | brk => exact hs.elim fun _ h => h.elim fun _ h => False.elim h.2
  | cont => exact hs.elim fun _ h => h.elim fun _ h => False.elim h.2

/-- the law's call at the heap behind the top -/
theorem law_callG {P : Program} {w : World} {K : PySem.W.Frag} {mg mb : Str → Option Value} {CX : CXT} {k : Nat} {fa a : Addr} {fd : FuncData} {x : Str} {sp : Sp} {s₁ : Shared} {vs : List Value} {ns : List Int}
    (KX : K.In s₁.heap) (hns : s₁.heap.Ns mainGlobals mg) (hb : s₁.heap.Ns builtinsNs mb) (hbb : ∀ x : Str, x ≠ "__name__" → mb x = bootBuiltins x) (hlim : s₁.heap.NoLimit) (hg : s₁.gens = #[])
    (ha : s₁.heap.get? a = some { cls := .type "list", data := .seq vs.toArray }) (hi : IntsAre vs ns) (hl : ns.length ≤ sizeLine) (hr : Room k callerA)
    (F : ∀ base : Heap, K.In base → base.Ns mainGlobals mg → FnG P w K mg base CX k fa fd [x] sp) (hbind : ∀ (s : Shared) (u : Value), BindsTo s fd ⟨[u], []⟩ [(x, u)])
    (hsp : ∀ H : Hp, (∃ o, H a = some (.frz o (.lst (ns.map V.int)))) → sp [.ref a] H (fun v _ => v = .bl true) fun _ _ _ => False)
    (hspK : ∀ H : Hp, (∀ b, H b = none) → SqL K H a (ns.map V.int) → sp [.ref a] H (fun v _ => v = .bl true) fun _ _ _ => False)
    (hCX : ∀ H e s', CX [] H s₁ (fun _ _ _ => False) e s' → False) :
    codeAny (model P w) callerA (.call (.ref fa) ⟨[.ref a], []⟩) (fun r s' => r = .ok (.ret (.bool true)) ∧ OldK s₁.heap s'.heap ∧ s'.os = s₁.os ∧ AllBare s'.gens) s₁ := by
  have rv := vals_ints hi
  have lenV := hi.length
  have core : ∀ H : Hp, (∀ b, H b = none ∨ ∃ o xs, H b = some (.frz o (.lst xs))) → sp [.ref a] H (fun v _ => v = .bl true) (fun _ _ _ => False) → HOk P w H s₁.heap →
      (∀ b, H b ≠ none → b = a) → (H a ≠ none → K.lookup a = none) →
      codeAny (model P w) callerA (.call (.ref fa) ⟨[.ref a], []⟩) (fun r s' => r = .ok (.ret (.bool true)) ∧ OldK s₁.heap s'.heap ∧ s'.os = s₁.os ∧ AllBare s'.gens) s₁ := by
    intro H hO hS hok hA hK
    have noA : ∀ {b : Addr} {o : Obj} {es : Array DictEntry} {ep : Nat}, s₁.heap.get? b = some o → o.data = .dict es ep → H b = none := by
      intro b o es ep e d
      refine Option.eq_none_iff_forall_ne_some.mpr fun u q => ?_
      have e' : b = a := hA b (by rw [q]; exact fun z => nomatch z)
      subst e'
      rw [ha] at e
      cases e
      cases (show Data.seq vs.toArray _ = Data.dict es ep from d)
    have nsK : ∀ {b : Addr} {m : Str → Option Value}, s₁.heap.Ns b m → (hidT s₁.heap H).Ns b m := by
      intro b m z
      obtain ⟨o, es, ep, e, d, r⟩ := z
      exact ⟨o, es, ep, hidT_get e (noA e d), d, r⟩
    have hKb : K.In (hidT s₁.heap H) := by
      intro b o e
      refine hidT_get (KX b o e) (Option.eq_none_iff_forall_ne_some.mpr fun u q => ?_)
      have ne : H b ≠ none := by rw [q]; exact fun z => nomatch z
      have e' := hA b ne
      subst e'
      rw [hK ne] at e
      cases e
    have hM : Mod K mg (hidT s₁.heap H) := by
      obtain ⟨mc, h1, h2⟩ := hlim
      exact ⟨hKb, nsK hns, ⟨mb, nsK hb, hbb⟩, ⟨mc, nsK h1, h2⟩⟩
    have e0 : Env0 P w K mg (hidT s₁.heap H) callerA [] s₁ H :=
      ⟨rfl, hM, fun b o e => of_hidT e, Nat.le_of_eq (hidT_size _ _), trivial, fun b hb => (List.not_mem_nil (show b ∈ ([] : List Addr) from hb)).elim, hok, .of_eq hg⟩
    have run := (F _ hKb (nsK hns)).go callerA [] s₁ H ⟨[.ref a], []⟩ [.ref a] [.ref a] _ _ rfl hr e0 (hbind s₁ (.ref a)) (.cons rfl .nil) hS
    refine codeAny_mono run ?_
    intro r s' h
    cases r with
    | error e => exact (hCX H e s' h).elim
    | ok fl =>
      cases fl with
      | ret u =>
        obtain ⟨v, H', os, bare, un, hok', r', q⟩ := h
        have q' : v = .bl true := q
        subst q'
        obtain rfl : u = Value.bool true := r'
        refine ⟨rfl, OldK.of_keep ?_, os, bare⟩
        intro b o e
        have nf : b ∉ frs ([] : List Env) := fun z => (List.not_mem_nil (show b ∈ ([] : List Addr) from z)).elim
        rcases hO b with q | ⟨ob, xs, q⟩
        · exact un.keep b o e q nf (fun z => nomatch z)
        · have z2 := un.frzs b ob _ q
          have e1 := (hok b _ q).1
          have e2 := (hok' b _ z2).1
          rw [e] at e1
          cases e1
          exact e2
      | next => exact False.elim h
      | brk => exact False.elim h
      | cont => exact False.elim h
  cases hk : K.lookup a with
  | some o =>
    have e := KX a o hk
    rw [ha] at e
    cases e
    have sq : SqL K (fun _ => none) a (ns.map V.int) := Or.inr ⟨_, vs.toArray, _, hk, rfl, rfl, rfl, by rw [List.size_toArray, lenV]; exact hl, by simpa using rv⟩
    exact core (fun _ => none) (fun _ => Or.inl rfl) (hspK _ (fun _ => rfl) sq) (fun b u z => nomatch z) (fun b z => absurd rfl z) (fun z => absurd rfl z)
  | none =>
    let o₀ : Obj := { cls := .type "list", data := .seq vs.toArray }
    refine core (upd (fun _ => none) a (.frz o₀ (.lst (ns.map V.int)))) (fun b => ?_) (hsp _ ⟨o₀, upd_same⟩) (fun b u z => ?_) (fun b z => ?_) (fun _ => hk)
    · by_cases hb : b = a
      · subst hb
        exact Or.inr ⟨_, _, upd_same⟩
      · exact Or.inl (upd_ne hb)
    · by_cases hb : b = a
      · subst hb
        rw [upd_same] at z
        cases z
        exact ⟨ha, by rw [List.length_map]; exact hl, vs, _, rv, ha⟩
      · rw [upd_ne hb] at z
        cases z
    · by_cases hb : b = a
      · exact hb
      · exact absurd (upd_ne hb) z
theorem walk_ofG {l : PySem.W.OpenLaw} {n k : Nat} {q : Program} {loose : List Str} {XP : (Str → Option Value) → Heap → Prop} {YP : World → Heap → Prop} {d : DefRec} {K : Params → PySem.W.Frag} {CX : World → CXT} {sp : World → Sp} {x : Str}
    (hn : l.most = some n) (hn2 : n ≤ sizeLine) (hdf : d.params.defaults = []) (hr : Room k callerA) (hY : ∀ (w : World) (h : Heap), YP w h → (K w.params).In h)
    (F : ∀ (w : World) (mg : Str → Option Value) (fa : Addr) (h : Heap), (K w.params).In h → h.Ns mainGlobals mg → mg d.name = some (.ref fa) →
      ∃ fd : FuncData, (∀ (s : Shared) (u : Value), BindsTo s fd ⟨[u], []⟩ [(x, u)]) ∧ ∀ base : Heap, (K w.params).In base → base.Ns mainGlobals mg → FnG l.prog w (K w.params) mg base (CX w) k fa fd [x] (sp w))
    (hsp : ∀ (w : World) (H : Hp) (a : Addr) (ns : List Int), ns.length ≤ n → (∃ o, H a = some (.frz o (.lst (ns.map V.int)))) → sp w [.ref a] H (fun v _ => v = .bl true) fun _ _ _ => False)
    (hspK : ∀ (w : World) (H : Hp) (a : Addr) (ns : List Int), ns.length ≤ n → (∀ b, H b = none) → SqL (K w.params) H a (ns.map V.int) → sp w [.ref a] H (fun v _ => v = .bl true) fun _ _ _ => False)
    (hCX : ∀ (w : World) (H : Hp) (s : Shared) (e : Value) (s' : Shared), CX w [] H s (fun _ _ _ => False) e s' → False) :
    PySem.W.WalkO q loose XP YP l.row.toRowW d [] (fun f vs => PySem.call f vs) := by
  refine Att.attach_call hn hdf ?_
  intro w s₀ s₁ mg mb fa o pm cd doc a vs ns G Y ho hd hcd hmg hobj hints hlen hg
  have KX := hY w _ Y
  obtain ⟨fd, hb, hF⟩ := F w mg fa _ KX G.T.g hmg
  exact law_callG KX G.T.g G.T.b G.T.builtins G.T.nolimit hg hobj hints (Nat.le_trans hlen hn2) hr hF hb (fun H h => hsp w H a ns hlen h) (fun H h1 h2 => hspK w H a ns hlen h1 h2) (fun H e s' => hCX w H s₁ e s')
end Mn

/-! Mn3: expressions. -/
namespace Mn
open PySem PySem.Spec PyProof.Rows L2

/-- what a body's context always has -/
structure Cf (X : Cx) : Prop where
  calm : X.calm = true
  gd : X.A.guards = some []
  un : X.A.units + 100 < cLine
  nd : X.N.Nodup

/-! ### the ops by data -/
def mVar (i : Nat) : ME := fun ρ => MX.opt (ρ.getD i none)
def mC (d : Dv) : ME := fun _ => pure d
def mBin (o : Dv → Dv → MX Dv) (a b : ME) : ME := fun ρ => do
  let x ← a ρ
  let y ← b ρ
  o x y
def mUn (o : Dv → MX Dv) (a : ME) : ME := fun ρ => do
  let x ← a ρ
  o x
def mAnd (a b : ME) : ME := fun ρ => do
  let x ← a ρ
  match x with
  | .bl true => b ρ
  | .bl false => pure (.bl false)
  | _ => MX.stuck
def mOr (a b : ME) : ME := fun ρ => do
  let x ← a ρ
  match x with
  | .bl false => b ρ
  | .bl true => pure (.bl true)
  | _ => MX.stuck
def oNot : Dv → MX Dv
  | .bl b => pure (.bl !b)
  | _ => MX.stuck
def mIf (c : DEnv → MX Bool) (a b : ME) : ME := fun ρ => do
  let k ← c ρ
  if k then a ρ else b ρ
def msNil : DEnv → MX (List Dv) := fun _ => pure []
def msCons (a : ME) (r : DEnv → MX (List Dv)) : DEnv → MX (List Dv) := fun ρ => do
  let x ← a ρ
  let xs ← r ρ
  pure (x :: xs)
def mkTup (ds : List Dv) : MX Dv := fun _ θ Q => ds.length ≤ sizeLine ∧ Q (.tup ds) θ
def mkLst (ds : List Dv) : MX Dv := fun _ θ Q => ds.length ≤ sizeLine ∧ Q (.obj θ.length) (θ ++ [.lst ds])
def mTup (r : DEnv → MX (List Dv)) : ME := fun ρ => do mkTup (← r ρ)
def mLst (r : DEnv → MX (List Dv)) : ME := fun ρ => do mkLst (← r ρ)
/-- tests -/
def asBool : Dv → MX Bool
  | .bl b => pure b
  | _ => MX.stuck
def bB (a : ME) : DEnv → MX Bool := fun ρ => do asBool (← a ρ)
def bAnd (a b : DEnv → MX Bool) : DEnv → MX Bool := fun ρ => do
  let x ← a ρ
  if x then b ρ else pure false
def bOr (a b : DEnv → MX Bool) : DEnv → MX Bool := fun ρ => do
  let x ← a ρ
  if x then pure true else b ρ
def bNot (a : DEnv → MX Bool) : DEnv → MX Bool := fun ρ => do
  let x ← a ρ
  pure !x
/-- a value's truth -/
def truth : Dv → MX Bool
  | .bl b => pure b
  | .non => pure false
  | .int i => pure (i != 0)
  | .str z => fun _ θ Q => z.length ≤ sizeLine ∧ Q ((z.length : Int) != 0) θ
  | .tup ds => pure (!ds.isEmpty)
  | .obj k => fun _ θ Q => match θ[k]? with
    | some (.lst ds) => Q (!ds.isEmpty) θ
    | some (.dK kvs) => Q (!kvs.isEmpty) θ
    | _ => False
  | _ => MX.stuck
def bTru (a : ME) : DEnv → MX Bool := fun ρ => do truth (← a ρ)

/-! ### going up -/
section
variable {K : PySem.W.Frag} {mg : Str → Option Value} {W : Wd K mg} {H : Hp} {α : List Addr} {θ : Th} {Qm : Dv → Th → Prop} {Q : VK}
theorem up_same {d : Dv} {v : V} (u : Up K H α Qm Q) (a : At W H α θ) (q : Qm d θ) (r : Rp K H α d v) : Q v H := u d θ α H v q a.ok Nx.refl r
theorem up_tup {ds : List Dv} {vs : List V} (u : Up K H α Qm Q) (a : At W H α θ) (q : Qm (.tup ds) θ) (r : Rps K H α ds vs) : ∀ p, H p = none → Q (.ref p) (upd H p (.tup vs)) := fun p hp =>
  u (.tup ds) θ α _ (.ref p) q (a.ok.new0 hp) (Nx.new0 hp) (by
    unfold Rp
    exact ⟨p, vs, rfl, upd_same, r.mono (Nx.new0 hp)⟩)
theorem up_lst {ds : List Dv} {vs : List V} (u : Up K H α Qm Q) (a : At W H α θ) (q : Qm (.obj θ.length) (θ ++ [.lst ds])) (r : Rps K H α ds vs) : ∀ p, H p = none → Q (.ref p) (upd H p (.lst vs)) := fun p hp =>
  u (.obj θ.length) _ (α ++ [p]) _ (.ref p) q (a.ok.new hp ⟨vs, upd_same, r.mono (Nx.new hp _)⟩) (Nx.new hp _) (by
    unfold Rp
    refine ⟨p, ?_, rfl⟩
    rw [← a.ok.len]
    simp)
theorem At.lst (a : At W H α θ) {k : Nat} {ds : List Dv} {x : V} (e : θ[k]? = some (.lst ds)) (r : Rp K H α (.obj k) x) : ∃ p vs, x = .ref p ∧ α[k]? = some p ∧ H p = some (.lst vs) ∧ Rps K H α ds vs := by
  unfold Rp at r
  obtain ⟨p, e1, rfl⟩ := r
  obtain ⟨vs, h1, h2⟩ := a.ok.ob k p _ e1 e
  exact ⟨p, vs, rfl, e1, h1, h2⟩
theorem up_chg {k : Nat} {p : Addr} {o : HO} {ob u₀ : Ob} {d : Dv} {v : V} (u : Up K H α Qm Q) (a : At W H α θ) (e1 : α[k]? = some p) (e2 : θ[k]? = some u₀) (ro : ObR K (upd H p o) α p ob) (q : Qm d (θ.set k ob)) (r : Rp K (upd H p o) α d v) (lv : u₀.live = true := by rfl) : Q v (upd H p o) :=
  u d _ α _ v q (a.ok.chg e1 e2 ro lv) (Nx.chg (a.ok.ob k p u₀ e1 e2) lv) r
theorem rp_tup {ds : List Dv} {x : V} (r : Rp K H α (.tup ds) x) : ∃ p vs, x = .ref p ∧ H p = some (.tup vs) ∧ Rps K H α ds vs := by
  unfold Rp at r
  exact r
theorem rp_int {i : Int} : Rp K H α (.int i) (.int i) := by unfold Rp; rfl
theorem rp_bl {i : Bool} : Rp K H α (.bl i) (.bl i) := by unfold Rp; rfl
theorem rp_str {i : Str} : Rp K H α (.str i) (.str i) := by unfold Rp; rfl
theorem rp_non : Rp K H α .non .non := by unfold Rp; rfl
theorem rp_obj {k : Nat} {p : Addr} (e : α[k]? = some p) : Rp K H α (.obj k) (.ref p) := by unfold Rp; exact ⟨p, e, rfl⟩
theorem of_int {i : Int} {x : V} (r : Rp K H α (.int i) x) : x = .int i := by unfold Rp at r; exact r
theorem of_bl {i : Bool} {x : V} (r : Rp K H α (.bl i) x) : x = .bl i := by unfold Rp at r; exact r
theorem of_str {i : Str} {x : V} (r : Rp K H α (.str i) x) : x = .str i := by unfold Rp at r; exact r
theorem of_non {x : V} (r : Rp K H α .non x) : x = .non := by unfold Rp at r; exact r
end

section
variable {X : Cx} {W : Wd X.K X.mg} {a b c : Expr} {ma mb mc : ME} {ba bb : DEnv → MX Bool} {pos : Pos}
theorem pm_var {i : Nat} {x : Str} (h : PE X (.Name x pos) (tVar i)) : PE X (.Name x pos) (tM W (mVar i)) := pe_w h fun σ H Q ⟨ρ, α, θ, Qm, at', rs, q, u⟩ => by
  have q' : (MX.opt (ρ.getD i none) : MX Dv) W.En θ Qm := q
  cases e : ρ.getD i none with
  | none => rw [e] at q'; exact False.elim q'
  | some d =>
    rw [e] at q'
    have e' : ρ[i]? = some (some d) := by
      rw [List.getD_eq_getElem?_getD] at e
      cases z : ρ[i]? with
      | none => rw [z] at e; cases e
      | some o => rw [z] at e; rw [show o = some d from e]
    obtain ⟨v, h1, h2⟩ := rs.2 i d e'
    exact ⟨v, h1, up_same u at' q' h2⟩
theorem pm_const {e : Expr} {d : Dv} {v : V} (h : PE X e (tC v)) (r : ∀ H α, Rp X.K H α d v) : PE X e (tM W (mC d)) := pe_w h fun σ H Q ⟨ρ, α, θ, Qm, at', rs, q, u⟩ => up_same (Q := Q) u at' q (r H α)
theorem pm_int {i : Int} {j : Nat} : PE X (.Constant (.int i) j pos) (tM W (mC (.int i))) := pm_const pe_int fun _ _ => rp_int
theorem pm_bl {i : Bool} {j : Nat} : PE X (.Constant (.bool i) j pos) (tM W (mC (.bl i))) := pm_const pe_bl fun _ _ => rp_bl
/-- a constant of the module -/
theorem pm_glob {x : Str} {d : Dv} {v : V} {u : Value} (hg : Gl X x) (hm : X.mg x = some u) (r : RelV v u) (r2 : ∀ H α, Rp X.K H α d v) (hd : (x == ("__debug__" : Str)) = false := by decide) : PE X (.Name x pos) (tM W (mC d)) := pm_const (pe_glob hg hm r hd) r2

def rM2 (W : Wd X.K X.mg) (o : Dv → Dv → MX Dv) : R2 := fun x y H Q => ∃ α θ dx dy Qm, At W H α θ ∧ Rp X.K H α dx x ∧ Rp X.K H α dy y ∧ o dx dy W.En θ Qm ∧ Up X.K H α Qm Q
def OpM (W : Wd X.K X.mg) (f : Value → Value → Sem Value) (o : Dv → Dv → MX Dv) : Prop := OpR X f (rM2 W o)
theorem OpR.w {f : Value → Value → Sem Value} {r r' : R2} (h : OpR X f r) (w : ∀ x y H Q, r' x y H Q → r x y H Q) : OpR X f r' := fun pins s σ H x y v u Q I rx ry q => h pins s σ H x y v u Q I rx ry (w x y H Q q)
theorem OpR.or {f : Value → Value → Sem Value} {r r' : R2} (h : OpR X f r) (h' : OpR X f r') : OpR X f (fun x y H Q => r x y H Q ∨ r' x y H Q) := fun pins s σ H x y v u Q I rx ry q => q.elim (fun q => h pins s σ H x y v u Q I rx ry q) (fun q => h' pins s σ H x y v u Q I rx ry q)
theorem opm_of {f : Value → Value → Sem Value} {r : R2} {o : Dv → Dv → MX Dv} (h : OpR X f r) (w : ∀ {H : Hp} {α : List Addr} {θ : Th} {dx dy : Dv} {x y : V} {Qm : Dv → Th → Prop} {Q : VK}, At W H α θ → Rp X.K H α dx x → Rp X.K H α dy y → o dx dy W.En θ Qm → Up X.K H α Qm Q → r x y H Q) : OpM W f o :=
  OpR.w h fun x y H Q ⟨_, _, _, _, _, h1, h2, h3, h4, h5⟩ => w h1 h2 h3 h4 h5
theorem tm_bin {o : Dv → Dv → MX Dv} (σ : L2.St) (H : Hp) (Q : VK) : tM W (mBin o ma mb) σ H Q → tOp (rM2 W o) (tM W ma) (tM W mb) σ H Q := fun ⟨ρ, α, θ, Qm, at', rs, q, u⟩ =>
  ⟨ρ, α, θ, _, at', rs, q, fun d θ1 α1 H1 v q1 ok1 nx1 r1 => ⟨ρ, α1, θ1, _, ⟨ok1, at'.nx.trans nx1⟩, rs.mono nx1, q1, fun d2 θ2 α2 H2 v2 q2 ok2 nx2 r2 =>
    ⟨α2, θ2, d, d2, Qm, ⟨ok2, (at'.nx.trans nx1).trans nx2⟩, r1.mono nx2, r2, q2, u.mono (nx1.trans nx2)⟩⟩⟩
theorem pm_bin {op : Operator} {o : Dv → Dv → MX Dv} (ho : OpM W (binaryOp op) o) (ha : PE X a (tM W ma)) (hb : PE X b (tM W mb)) : PE X (.BinOp a op b pos) (tM W (mBin o ma mb)) := pe_w (pe_op ho ha hb) tm_bin
theorem pm_cmp {op : CmpOp} {o : Dv → Dv → MX Dv} (ho : OpM W (compareOp op) o) (ha : PE X a (tM W ma)) (hb : PE X b (tM W mb)) (hm : behindInMarks op b = false) : PE X (.Compare a [op] [b] pos) (tM W (mBin o ma mb)) := pe_w (pe_cmpR ho ha hb hm) tm_bin
/-- a < b < c -/
def mChain (o o' : Dv → Dv → MX Dv) (a b c : ME) : ME := fun ρ => do
  let x ← a ρ
  let y ← b ρ
  let k ← o x y
  match k with
  | .bl true => do
    let z ← c ρ
    o' y z
  | .bl false => pure (.bl false)
  | _ => MX.stuck
/-! one place -/
def rM1 (W : Wd X.K X.mg) (o : Dv → MX Dv) : V → Hp → VK → Prop := fun x H Q => ∃ α θ dx Qm, At W H α θ ∧ Rp X.K H α dx x ∧ o dx W.En θ Qm ∧ Up X.K H α Qm Q
def UnM (W : Wd X.K X.mg) (f : Value → Sem Value) (o : Dv → MX Dv) : Prop := UnR X f (rM1 W o)
theorem unm_of {f : Value → Sem Value} {r : V → Hp → VK → Prop} {o : Dv → MX Dv} (h : UnR X f r) (w : ∀ {H : Hp} {α : List Addr} {θ : Th} {dx : Dv} {x : V} {Qm : Dv → Th → Prop} {Q : VK}, At W H α θ → Rp X.K H α dx x → o dx W.En θ Qm → Up X.K H α Qm Q → r x H Q) : UnM W f o :=
  fun pins s σ H x v Q I rx ⟨_, _, _, _, h1, h2, h3, h4⟩ => h pins s σ H x v Q I rx (w h1 h2 h3 h4)
theorem tm_un {o : Dv → MX Dv} (σ : L2.St) (H : Hp) (Q : VK) : tM W (mUn o ma) σ H Q → tUn (rM1 W o) (tM W ma) σ H Q := fun ⟨ρ, α, θ, Qm, at', rs, q, u⟩ =>
  ⟨ρ, α, θ, _, at', rs, q, fun d θ1 α1 H1 v q1 ok1 nx1 r1 => ⟨α1, θ1, d, Qm, ⟨ok1, at'.nx.trans nx1⟩, r1, q1, u.mono nx1⟩⟩
theorem pm_un {op : UnaryOp} {o : Dv → MX Dv} (ho : UnM W (unaryOp op) o) (ha : PE X a (tM W ma)) : PE X (.UnaryOp op a pos) (tM W (mUn o ma)) := pe_w (pe_un ho ha) tm_un
/-! and, or, not -/
theorem pm_one {op : BoolOp} (h : PE X a (tM W ma)) : PE X (.BoolOp op [a] pos) (tM W ma) := pe_one h
theorem pm_and {rest : List Expr} (ha : PE X a (tM W ma)) (hb : PE X (.BoolOp .And (b :: rest) pos) (tM W mb)) : PE X (.BoolOp .And (a :: b :: rest) pos) (tM W (mAnd ma mb)) :=
  pe_w (pe_and ha hb) fun σ H Q ⟨ρ, α, θ, Qm, at', rs, q, u⟩ => ⟨ρ, α, θ, _, at', rs, q, fun d θ1 α1 H1 v q1 ok1 nx1 r1 => by
    have a1 : At W H1 α1 θ1 := ⟨ok1, at'.nx.trans nx1⟩
    cases d with
    | bl k =>
      cases of_bl r1
      cases k with
      | true => exact ⟨true, rfl, iteT ⟨ρ, α1, θ1, _, a1, rs.mono nx1, q1, u.mono nx1⟩⟩
      | false => exact ⟨false, rfl, iteF (up_same (u.mono nx1) a1 q1 rp_bl)⟩
    | _ => exact False.elim q1⟩
/-! tests -/
theorem tb_of (σ : L2.St) (H : Hp) (Q : Bool → Hp → Prop) : tMb W (bB ma) σ H Q → tB (tM W ma) σ H Q := fun ⟨ρ, α, θ, Qm, at', rs, q, u⟩ =>
  ⟨ρ, α, θ, _, at', rs, q, fun d θ1 α1 H1 v q1 ok1 nx1 r1 => by
    cases d with
    | bl k =>
      cases of_bl r1
      exact ⟨k, rfl, u k θ1 α1 H1 q1 ok1 nx1⟩
    | _ => exact False.elim q1⟩
theorem bm_val (h : PE X a (tM W ma)) (he : ∀ whole, isTrue a X.env whole = (do let v ← whole; standAt a.pos; holding [v] (truthy v)) := by intro _; rfl) : PT X a (tMb W (bB ma)) := pt_w (pt_val h he) tb_of
theorem bm_cmp {op : CmpOp} {o : Dv → Dv → MX Dv} (ho : OpM W (compareOp op) o) (ha : PE X a (tM W ma)) (hb : PE X b (tM W mb)) (hm : behindInMarks op b = false) : PT X (.Compare a [op] [b] pos) (tMb W (bB (mBin o ma mb))) :=
  pt_w (pt_cmpR ho ha hb hm) fun σ H Q ⟨ρ, α, θ, Qm, at', rs, q, u⟩ => tm_bin σ H _ ⟨ρ, α, θ, _, at', rs, q, fun d θ1 α1 H1 v q1 ok1 nx1 r1 => by
    cases d with
    | bl k =>
      cases of_bl r1
      exact ⟨k, rfl, u k θ1 α1 H1 q1 ok1 nx1⟩
    | _ => exact False.elim q1⟩
theorem bm_tru (h : PE X a (tM W ma)) (he : ∀ whole, isTrue a X.env whole = (do let v ← whole; standAt a.pos; holding [v] (truthy v)) := by intro _; rfl) : PT X a (tMb W (bTru ma)) :=
  pt_w (pt_truth h he) fun σ H Q ⟨ρ, α, θ, Qm, at', rs, q, u⟩ => ⟨ρ, α, θ, _, at', rs, q, fun d θ1 α1 H1 v q1 ok1 nx1 r1 => by
    cases d with
    | bl k => cases of_bl r1; exact ⟨k, rfl, u _ θ1 α1 H1 q1 ok1 nx1⟩
    | non => cases of_non r1; exact ⟨false, rfl, u _ θ1 α1 H1 q1 ok1 nx1⟩
    | int i => cases of_int r1; exact ⟨_, rfl, u _ θ1 α1 H1 q1 ok1 nx1⟩
    | str z => cases of_str r1; exact ⟨_, ⟨q1.1, rfl⟩, u _ θ1 α1 H1 q1.2 ok1 nx1⟩
    | tup ds =>
      obtain ⟨p, vs, rfl, h1, h2⟩ := rp_tup r1
      refine ⟨!vs.isEmpty, Or.inr (Or.inl ⟨vs, Or.inl (Or.inl h1), rfl⟩), u _ θ1 α1 H1 ?_ ok1 nx1⟩
      have e : vs.isEmpty = ds.isEmpty := by
        have := h2.length
        cases vs <;> cases ds <;> simp_all
      rw [e]
      exact q1
    | obj k =>
      have q2 : (match θ1[k]? with
        | some (.lst ds) => Qm (!ds.isEmpty) θ1
        | some (.dK kvs) => Qm (!kvs.isEmpty) θ1
        | _ => False) := q1
      split at q2
      · rename_i ds e
        obtain ⟨p, vs, rfl, _, h1, h2⟩ := At.lst (W := W) ⟨ok1, at'.nx.trans nx1⟩ e r1
        refine ⟨!vs.isEmpty, Or.inl ⟨vs, Or.inl (Or.inl h1), rfl⟩, u _ θ1 α1 H1 ?_ ok1 nx1⟩
        have e : vs.isEmpty = ds.isEmpty := by
          have := h2.length
          cases vs <;> cases ds <;> simp_all
        rw [e]
        exact q2
      · rename_i kvs e
        unfold Rp at r1
        obtain ⟨p, e1, rfl⟩ := r1
        obtain ⟨vs, h1, h2⟩ := ok1.ob k p _ e1 e
        refine ⟨!vs.isEmpty, Or.inr (Or.inr ⟨vs, h1, rfl⟩), u _ θ1 α1 H1 ?_ ok1 nx1⟩
        have e : vs.isEmpty = kvs.isEmpty := by
          cases kvs with
          | nil => unfold RpK at h2; subst h2; rfl
          | cons kv r => obtain ⟨k, d⟩ := kv; unfold RpK at h2; obtain ⟨v, r, rfl, _⟩ := h2; rfl
        rw [e]
        exact q2
      · exact q2.elim
    | _ => exact False.elim q1⟩
theorem bm_and1 (h : PT X a (tMb W ba)) : PW X (.BoolOp .And [a] pos) (tMb W ba) := pw_and1 h
theorem bm_or1 (h : PT X a (tMb W ba)) : PW X (.BoolOp .Or [a] pos) (tMb W ba) := pw_or1 h
theorem bm_and {rest : List Expr} (ha : PT X a (tMb W ba)) (hb : PW X (.BoolOp .And (b :: rest) pos) (tMb W bb)) : PW X (.BoolOp .And (a :: b :: rest) pos) (tMb W (bAnd ba bb)) :=
  pw_w (pw_and ha hb) fun σ H Q ⟨ρ, α, θ, Qm, at', rs, q, u⟩ => ⟨ρ, α, θ, _, at', rs, q, fun k θ1 α1 H1 q1 ok1 nx1 => by
    cases k with
    | true => exact iteT ⟨ρ, α1, θ1, Qm, ⟨ok1, at'.nx.trans nx1⟩, rs.mono nx1, q1, fun b2 θ2 α2 H2 q2 ok2 nx2 => u b2 θ2 α2 H2 q2 ok2 (nx1.trans nx2)⟩
    | false => exact iteF (u false θ1 α1 H1 q1 ok1 nx1)⟩
theorem bm_or {rest : List Expr} (ha : PT X a (tMb W ba)) (hb : PW X (.BoolOp .Or (b :: rest) pos) (tMb W bb)) : PW X (.BoolOp .Or (a :: b :: rest) pos) (tMb W (bOr ba bb)) :=
  pw_w (pw_or ha hb) fun σ H Q ⟨ρ, α, θ, Qm, at', rs, q, u⟩ => ⟨ρ, α, θ, _, at', rs, q, fun k θ1 α1 H1 q1 ok1 nx1 => by
    cases k with
    | false => exact iteF ⟨ρ, α1, θ1, Qm, ⟨ok1, at'.nx.trans nx1⟩, rs.mono nx1, q1, fun b2 θ2 α2 H2 q2 ok2 nx2 => u b2 θ2 α2 H2 q2 ok2 (nx1.trans nx2)⟩
    | true => exact iteT (u true θ1 α1 H1 q1 ok1 nx1)⟩
theorem bm_not (ha : PT X a (tMb W ba)) : PT X (.UnaryOp .Not a pos) (tMb W (bNot ba)) := pt_w (pt_not ha) fun σ H Q ⟨ρ, α, θ, Qm, at', rs, q, u⟩ => ⟨ρ, α, θ, _, at', rs, q, fun k θ1 α1 H1 q1 ok1 nx1 => u (!k) θ1 α1 H1 q1 ok1 nx1⟩
theorem pm_if (hc : PT X c (tMb W ba)) (ha : PE X a (tM W ma)) (hb : PE X b (tM W mb)) : PE X (.IfExp c a b pos) (tM W (mIf ba ma mb)) :=
  pe_w (pe_ifExp hc ha hb) fun σ H Q ⟨ρ, α, θ, Qm, at', rs, q, u⟩ => ⟨ρ, α, θ, _, at', rs, q, fun k θ1 α1 H1 q1 ok1 nx1 => by
    cases k with
    | true => exact iteT ⟨ρ, α1, θ1, Qm, ⟨ok1, at'.nx.trans nx1⟩, rs.mono nx1, q1, u.mono nx1⟩
    | false => exact iteF ⟨ρ, α1, θ1, Qm, ⟨ok1, at'.nx.trans nx1⟩, rs.mono nx1, q1, u.mono nx1⟩⟩
/-! arguments, displays -/
theorem am_nil : PA X [] (tMs W msNil) := pa_w pa_nil fun σ H Q ⟨ρ, α, θ, Qm, at', rs, q, u⟩ => u [] θ α H [] q at'.ok Nx.refl Rps.nil
theorem am_cons {es : List Expr} {ms : DEnv → MX (List Dv)} (ha : PE X a (tM W ma)) (hr : PA X es (tMs W ms)) (hs : starEach (a :: es) X.env = (false, eval a X.env) :: starEach es X.env := by rfl) : PA X (a :: es) (tMs W (msCons ma ms)) :=
  pa_w (pa_cons ha hr hs) fun σ H Q ⟨ρ, α, θ, Qm, at', rs, q, u⟩ => ⟨ρ, α, θ, _, at', rs, q, fun d θ1 α1 H1 v q1 ok1 nx1 r1 => ⟨ρ, α1, θ1, _, ⟨ok1, at'.nx.trans nx1⟩, rs.mono nx1, q1, fun ds θ2 α2 H2 vs q2 ok2 nx2 r2 =>
    u _ θ2 α2 H2 _ q2 ok2 (nx1.trans nx2) (Rps.cons (r1.mono nx2) r2)⟩⟩
theorem pm_tup {es : List Expr} {ms : DEnv → MX (List Dv)} {k : Nat} (h : PA X es (tMs W ms)) : PE X (.Tuple es k pos) (tM W (mTup ms)) :=
  pe_w (pe_tup h) fun σ H Q ⟨ρ, α, θ, Qm, at', rs, q, u⟩ => ⟨ρ, α, θ, _, at', rs, q, fun ds θ1 α1 H1 vs q1 ok1 nx1 r1 =>
    ⟨by rw [r1.length]; exact q1.1, up_tup (W := W) (u.mono nx1) ⟨ok1, at'.nx.trans nx1⟩ q1.2 r1⟩⟩
theorem pm_lst {es : List Expr} {ms : DEnv → MX (List Dv)} (h : PA X es (tMs W ms)) : PE X (.List es pos) (tM W (mLst ms)) :=
  pe_w (pe_lst h) fun σ H Q ⟨ρ, α, θ, Qm, at', rs, q, u⟩ => ⟨ρ, α, θ, _, at', rs, q, fun ds θ1 α1 H1 vs q1 ok1 nx1 r1 =>
    ⟨by rw [r1.length]; exact q1.1, up_lst (W := W) (u.mono nx1) ⟨ok1, at'.nx.trans nx1⟩ q1.2 r1⟩⟩
end
end Mn

/-! Mn4: operations on data. -/
namespace Mn
open PySem PySem.Spec PyProof.Rows L2

def allSome {β γ : Type} (f : β → Option γ) : List β → Option (List γ)
  | [] => some []
  | d :: r => match f d, allSome f r with
    | some x, some xs => some (x :: xs)
    | _, _ => none
/-- a datum as data all through, lists read in the store -/
def toPy (θ : Th) : Nat → Dv → Option PyData
  | _, .non => some .none
  | _, .bl b => some (.bool b)
  | _, .int i => some (.int i)
  | _, .str s => some (.str s)
  | n + 1, .tup ds => (allSome (toPy θ n) ds).map .tuple
  | n + 1, .st ds => (allSome (toPy θ n) ds).map .tuple
  | n + 1, .obj k => match θ[k]? with
    | some (.lst ds) => (allSome (toPy θ n) ds).map .list
    | _ => none
  | _, _ => none
section
variable {K : PySem.W.Frag} {H : Hp} {α : List Addr} {θ : Th}
theorem dpAll_of {f : Dv → Option PyData} (h : ∀ d v e, f d = some e → Rp K H α d v → Dp K H v e) : ∀ {ds : List Dv} {vs : List V} {es : List PyData}, allSome f ds = some es → Rps K H α ds vs → DpAll K H vs es
  | [], _, _, e, r => by
    unfold Rps at r
    subst r
    cases e
    exact .nil
  | d :: ds, _, es, e, r => by
    unfold Rps at r
    obtain ⟨v, us, rfl, h1, h2⟩ := r
    unfold allSome at e
    split at e
    · rename_i x xs e1 e2
      cases e
      exact .cons (h d v x e1 h1) (dpAll_of h e2 h2)
    · cases e
theorem toPy_dp (ok : Okk K H α θ) : ∀ (n : Nat) (d : Dv) (v : V) (e : PyData), toPy θ n d = some e → Rp K H α d v → Dp K H v e := by
  intro n
  induction n with
  | zero =>
    intro d v e h r
    cases d with
    | non => cases of_non r; simp [toPy] at h; subst h; exact .non
    | bl b => cases of_bl r; simp [toPy] at h; subst h; exact .bl b
    | int b => cases of_int r; simp [toPy] at h; subst h; exact .int b
    | str b => cases of_str r; simp [toPy] at h; subst h; exact .str b
    | _ => simp [toPy] at h
  | succ n ih =>
    intro d v e h r
    cases d with
    | non => cases of_non r; simp [toPy] at h; subst h; exact .non
    | bl b => cases of_bl r; simp [toPy] at h; subst h; exact .bl b
    | int b => cases of_int r; simp [toPy] at h; subst h; exact .int b
    | str b => cases of_str r; simp [toPy] at h; subst h; exact .str b
    | tup ds =>
      obtain ⟨p, vs, rfl, h1, h2⟩ := rp_tup r
      unfold toPy at h
      obtain ⟨es, h3, rfl⟩ := Option.map_eq_some_iff.mp h
      exact .tup (SqT.of h1) (dpAll_of (fun d v e => ih d v e) h3 h2)
    | st ds =>
      unfold Rp at r
      obtain ⟨p, vs, rfl, h1, h2⟩ := r
      unfold toPy at h
      obtain ⟨es, h3, rfl⟩ := Option.map_eq_some_iff.mp h
      exact .tup h1.sq (dpAll_of (fun d v e => ih d v e) h3 h2)
    | obj k =>
      unfold toPy at h
      unfold Rp at r
      obtain ⟨p, e1, rfl⟩ := r
      split at h
      · rename_i ds e2
        obtain ⟨es, h3, rfl⟩ := Option.map_eq_some_iff.mp h
        obtain ⟨vs, h1, h2⟩ := ok.ob k p _ e1 e2
        exact .lst (SqL.of h1) (dpAll_of (fun d v e => ih d v e) h3 h2)
      · cases h
    | _ => simp [toPy] at h
end

def isFlat : Dv → Bool
  | .non | .bl _ | .int _ | .str _ => true
  | _ => false
/-- keys -/
def fKey : Dv → Option Key
  | .int i => some (.inl i)
  | .str s => some (.inr s)
  | _ => none
def tKey : Dv → Option (List Key)
  | .tup ds => allSome fKey ds
  | _ => none
section
variable {κ : Type} [DecidableEq κ]
def lookD (kvs : List (κ × Dv)) (k : κ) : Option Dv := (kvs.find? fun kv => decide (kv.1 = k)).map (·.2)
def putD (kvs : List (κ × Dv)) (k : κ) (v : Dv) : List (κ × Dv) :=
  if (kvs.any fun kv => decide (kv.1 = k)) = true then kvs.map (fun kv => if kv.1 = k then (kv.1, v) else kv) else kvs ++ [(k, v)]
variable {K : PySem.W.Frag} {H : Hp} {α : List Addr} {θ : Th}
theorem RpK.look : ∀ {ds : List (κ × Dv)} {vs : List (κ × V)} (k : κ), RpK K H α ds vs →
    match lookD ds k with
    | none => valV vs k = none
    | some d => ∃ v, valV vs k = some v ∧ Rp K H α d v
  | [], _, k, h => by unfold RpK at h; subst h; rfl
  | (j, d) :: ds, _, k, h => by
    unfold RpK at h
    obtain ⟨v, r, rfl, h1, h2⟩ := h
    by_cases e : j = k
    · have e1 : lookD ((j, d) :: ds) k = some d := by simp [lookD, List.find?_cons, e]
      rw [e1]
      exact ⟨v, by simp [valV, List.find?_cons, e], h1⟩
    · have e1 : lookD ((j, d) :: ds) k = lookD ds k := by simp [lookD, List.find?_cons, e]
      have e2 : valV ((j, v) :: r) k = valV r k := by simp [valV, List.find?_cons, e]
      rw [e1, e2]
      exact RpK.look k h2
theorem RpK.any : ∀ {ds : List (κ × Dv)} {vs : List (κ × V)} (k : κ), RpK K H α ds vs → (vs.any fun kv => decide (kv.1 = k)) = (ds.any fun kv => decide (kv.1 = k))
  | [], _, k, h => by unfold RpK at h; subst h; rfl
  | (j, d) :: ds, _, k, h => by
    unfold RpK at h
    obtain ⟨v, r, rfl, h1, h2⟩ := h
    simp only [List.any_cons, RpK.any k h2]
theorem RpK.repl {d : Dv} {v : V} (q : Rp K H α d v) (k : κ) : ∀ {ds : List (κ × Dv)} {vs : List (κ × V)}, RpK K H α ds vs → RpK K H α (ds.map fun kv => if kv.1 = k then (kv.1, d) else kv) (vs.map fun kv => if kv.1 = k then (kv.1, v) else kv)
  | [], _, h => by unfold RpK at h; subst h; unfold RpK; rfl
  | (j, e) :: ds, _, h => by
    unfold RpK at h
    obtain ⟨u, r, rfl, h1, h2⟩ := h
    simp only [List.map_cons]
    by_cases z : j = k
    · rw [if_pos z, if_pos z]
      unfold RpK
      exact ⟨v, _, rfl, q, RpK.repl q k h2⟩
    · rw [if_neg z, if_neg z]
      unfold RpK
      exact ⟨u, _, rfl, h1, RpK.repl q k h2⟩
theorem RpK.app : ∀ {ds es : List (κ × Dv)} {vs us : List (κ × V)}, RpK K H α ds vs → RpK K H α es us → RpK K H α (ds ++ es) (vs ++ us)
  | [], _, _, _, h, r => by unfold RpK at h; subst h; exact r
  | (j, e) :: ds, _, _, _, h, r => by
    unfold RpK at h
    obtain ⟨u, q, rfl, h1, h2⟩ := h
    rw [List.cons_append, List.cons_append]
    unfold RpK
    exact ⟨u, _, rfl, h1, RpK.app h2 r⟩
theorem RpK.put {ds : List (κ × Dv)} {vs : List (κ × V)} {d : Dv} {v : V} (k : κ) (q : Rp K H α d v) (h : RpK K H α ds vs) : RpK K H α (putD ds k d) (putK vs k v) := by
  unfold putD putK
  rw [RpK.any k h]
  split
  · exact RpK.repl q k h
  · refine RpK.app h ?_
    unfold RpK
    exact ⟨v, [], rfl, q, by unfold RpK; rfl⟩
theorem RpK.length : ∀ {ds : List (κ × Dv)} {vs : List (κ × V)}, RpK K H α ds vs → vs.length = ds.length
  | [], _, h => by unfold RpK at h; subst h; rfl
  | (j, e) :: ds, _, h => by
    unfold RpK at h
    obtain ⟨u, q, rfl, h1, h2⟩ := h
    simp [RpK.length h2]
end
theorem fKey_v {K : PySem.W.Frag} {H : Hp} {α : List Addr} {d : Dv} {k : Key} {v : V} (e : fKey d = some k) (r : Rp K H α d v) : v = kV k := by
  cases d with
  | int i => cases of_int r; cases e; rfl
  | str i => cases of_str r; cases e; rfl
  | _ => cases e
theorem fKeys_v {K : PySem.W.Frag} {H : Hp} {α : List Addr} : ∀ {ds : List Dv} {ks : List Key} {vs : List V}, allSome fKey ds = some ks → Rps K H α ds vs → vs = ks.map kV
  | [], _, _, e, r => by unfold Rps at r; subst r; cases e; rfl
  | d :: ds, ks, vs, e, r => by
    unfold Rps at r
    obtain ⟨v, us, rfl, h1, h2⟩ := r
    unfold allSome at e
    split at e
    · rename_i x xs e1 e2
      cases e
      rw [List.map_cons, fKey_v e1 h1, fKeys_v e2 h2]
    · cases e
theorem tKey_v {K : PySem.W.Frag} {H : Hp} {α : List Addr} {d : Dv} {k : List Key} {v : V} (e : tKey d = some k) (r : Rp K H α d v) : ∃ b, v = .ref b ∧ H b = some (.tup (k.map kV)) := by
  cases d with
  | tup ds =>
    obtain ⟨p, vs, rfl, h1, h2⟩ := rp_tup r
    have e2 := fKeys_v (show allSome fKey ds = some k from e) h2
    subst e2
    exact ⟨p, rfl, h1⟩
  | _ => cases e

/-! ### arithmetic -/
def ret (d : Dv) : MX Dv := fun _ θ Q => Q d θ
def when' (p : Prop) (d : Dv) : MX Dv := fun _ θ Q => p ∧ Q d θ
def oAdd : Dv → Dv → MX Dv
  | .int i, .int j => ret (.int (i + j))
  | .str a, .str b => when' (a.length + b.length ≤ sizeLine) (.str (a ++ b))
  | .tup a, .tup b => when' (a.length + b.length ≤ sizeLine) (.tup (a ++ b))
  | .st a, .tup b => when' (a = [] ∧ b.length ≤ sizeLine) (.tup b)
  | .obj j, .obj k => fun _ θ Q => match θ[j]?, θ[k]? with
    | some (.lst a), some (.lst b) => a.length + b.length ≤ sizeLine ∧ Q (.obj θ.length) (θ ++ [.lst (a ++ b)])
    | _, _ => False
  | _, _ => MX.stuck
def oAddI : Dv → Dv → MX Dv
  | .int i, .int j => ret (.int (i + j))
  | _, _ => MX.stuck
def oMulI : Dv → Dv → MX Dv
  | .int i, .int j => when' (CMul i j) (.int (i * j))
  | _, _ => MX.stuck
def oSub : Dv → Dv → MX Dv
  | .int i, .int j => ret (.int (i - j))
  | _, _ => MX.stuck
def oMul : Dv → Dv → MX Dv
  | .int i, .int j => when' (CMul i j) (.int (i * j))
  | .obj j, .int k => fun _ θ Q => match θ[j]? with
    | some (.lst a) => -(2 ^ 63) ≤ k ∧ k < 2 ^ 63 ∧ a.length * k.toNat ≤ sizeLine ∧ Q (.obj θ.length) (θ ++ [.lst (List.replicate k.toNat a).flatten])
    | _ => False
  | _, _ => MX.stuck
def oFdiv : Dv → Dv → MX Dv
  | .int i, .int j => when' (CDiv i j) (.int (i / j))
  | _, _ => MX.stuck
def oMod : Dv → Dv → MX Dv
  | .int i, .int j => when' (0 < j) (.int (i % j))
  | _, _ => MX.stuck
def oPow : Dv → Dv → MX Dv
  | .int i, .int j => when' (CPow i j) (.int (i ^ j.toNat))
  | _, _ => MX.stuck
def oShl : Dv → Dv → MX Dv
  | .int i, .int j => when' (CPow i j) (.int (i * 2 ^ j.toNat))
  | _, _ => MX.stuck
def oLt : Dv → Dv → MX Dv
  | .int i, .int j => ret (.bl (decide (i < j)))
  | _, _ => MX.stuck
def oLe : Dv → Dv → MX Dv
  | .int i, .int j => ret (.bl (decide (i ≤ j)))
  | _, _ => MX.stuck
def oGt : Dv → Dv → MX Dv
  | .int i, .int j => ret (.bl (decide (j < i)))
  | _, _ => MX.stuck
def oGe : Dv → Dv → MX Dv
  | .int i, .int j => ret (.bl (decide (j ≤ i)))
  | _, _ => MX.stuck
def eqPy (x y : Dv) (f : Bool → Bool) : MX Dv := fun _ θ Q => match toPy θ 66 x, toPy θ 66 y with
  | some d, some e => SeqAt.shaped d = true ∧ SeqAt.shaped e = true ∧ Q (.bl (f (PyData.eqv d e))) θ
  | _, _ => False
def oEq : Dv → Dv → MX Dv
  | .int i, .int j => ret (.bl (decide (i = j)))
  | .bl i, .bl j => ret (.bl (decide (i = j)))
  | .str i, .str j => ret (.bl (decide (i = j)))
  | x, y => eqPy x y id
def oNe : Dv → Dv → MX Dv
  | .int i, .int j => ret (.bl (!decide (i = j)))
  | .bl i, .bl j => ret (.bl (!decide (i = j)))
  | .str i, .str j => ret (.bl (!decide (i = j)))
  | x, y => eqPy x y not
def isNn : Dv → Bool
  | .non => true
  | _ => false
def oIs : Dv → Dv → MX Dv
  | .bl a, .bl b => ret (.bl (decide (a = b)))
  | x, .non => ret (.bl (isNn x))
  | _, _ => MX.stuck
def oIsNot : Dv → Dv → MX Dv
  | .bl a, .bl b => ret (.bl (!decide (a = b)))
  | x, .non => ret (.bl (!(isNn x)))
  | _, _ => MX.stuck
def oNeg : Dv → MX Dv
  | .int i => ret (.int (-i))
  | _ => MX.stuck
/-- == of flat data -/
def eqF : Dv → Dv → Bool
  | .non, .non => true
  | .bl a, .bl b => a == b
  | .bl a, .int b => (if a then 1 else 0) == b
  | .int a, .bl b => a == (if b then 1 else 0)
  | .int a, .int b => a == b
  | .str a, .str b => a == b
  | _, _ => false
def inF (x : Dv) (ds : List Dv) : Bool := ds.any fun y => eqF y x
def inO (f : Bool → Bool) (x y : Dv) : MX Dv := fun _ θ Q => match y with
  | .tup ds => (isFlat x = true ∧ ds.all isFlat = true) ∧ Q (.bl (f (inF x ds))) θ
  | .st ds => (isFlat x = true ∧ ds.all isFlat = true) ∧ Q (.bl (f (inF x ds))) θ
  | .obj k => (match θ[k]? with
    | some (.lst ds) => (ds.all isFlat = true ∧ isFlat x = true ∧ Q (.bl (f (inF x ds))) θ) ∨ (match toPy θ 66 x, toPy θ 66 (.obj k) with
      | some d, some (.list es) => SeqAt.shaped d = true ∧ SeqAt.shaped (.list es) = true ∧ Q (.bl (f (es.any fun z => PyData.eqv z d))) θ
      | _, _ => False)
    | some (.dK kvs) => (match fKey x with
      | some q => Q (.bl (f (lookD kvs q).isSome)) θ
      | none => False)
    | some (.dT kvs) => (match tKey x with
      | some q => Q (.bl (f (lookD kvs q).isSome)) θ
      | none => False)
    | _ => False)
  | .str z => (match x with
    | .str w => ∃ c, w = ⟨#[c]⟩ ∧ Q (.bl (f (decide (c ∈ z.cps.toList)))) θ
    | _ => False)
  | _ => False
def oIn := inO id
def oNotIn := inO not
/-- a subscript -/
def optW (o : Option Dv) (θ : Th) (Q : Dv → Th → Prop) : Prop := match o with
  | some d => Q d θ
  | none => False
def oIx (x y : Dv) : MX Dv := fun _ θ Q => match x with
  | .tup ds => (match y with
    | .int i => optW (atI ds i) θ Q
    | _ => False)
  | .st ds => (match y with
    | .int i => optW (atI ds i) θ Q
    | _ => False)
  | .scr ns => (match y with
    | .int i => optW ((atI ns i).map Dv.int) θ Q
    | _ => False)
  | .str z => (match y with
    | .int i => z.length ≤ sizeLine ∧ ∃ c, atI z.cps.toList i = some c ∧ Q (.str ⟨#[c]⟩) θ
    | _ => False)
  | .obj k => (match θ[k]? with
    | some (.lst ds) => (match y with
      | .int i => optW (atI ds i) θ Q
      | _ => False)
    | some (.dK kvs) => (match fKey y with
      | some q => optW (lookD kvs q) θ Q
      | none => False)
    | some (.dT kvs) => (match tKey y with
      | some q => optW (lookD kvs q) θ Q
      | none => False)
    | _ => False)
  | _ => False
theorem atI_rps {K : PySem.W.Frag} {H : Hp} {α : List Addr} {ds : List Dv} {vs : List V} {i : Int} {d : Dv} (r : Rps K H α ds vs) (h : atI ds i = some d) : ∃ v, atI vs i = some v ∧ Rp K H α d v := by
  unfold atI at h ⊢
  rw [r.length]
  cases e : ixN ds.length i with
  | none => rw [e] at h; cases h
  | some j =>
    rw [e] at h
    exact r.get h

section
variable {X : Cx} {W : Wd X.K X.mg}
theorem om_add : OpM W (binaryOp .Add) oAdd := opm_of (OpR.or op_add (OpR.or op_add_str (OpR.or op_catA op_cat))) fun {H α θ dx dy x y Qm Q} a r1 r2 q u => by
  cases dx with
  | int i =>
    cases dy with
    | int j => cases of_int r1; cases of_int r2; exact .inl ⟨i, j, rfl, rfl, up_same u a q rp_int⟩
    | _ => exact False.elim q
  | str i =>
    cases dy with
    | str j => cases of_str r1; cases of_str r2; exact .inr (.inl ⟨i, j, rfl, rfl, q.1, up_same u a q.2 rp_str⟩)
    | _ => exact False.elim q
  | tup i =>
    cases dy with
    | tup j =>
      obtain ⟨p, vs, rfl, h1, h2⟩ := rp_tup r1
      obtain ⟨p2, vs2, rfl, h3, h4⟩ := rp_tup r2
      obtain ⟨q1, q2⟩ := q
      refine .inr (.inr (.inl ⟨p, p2, vs, vs2, rfl, rfl, SqT.of h1, SqT.of h3, by rw [h2.length, h4.length]; exact q1, ?_, ?_, ?_⟩))
      · intro e
        subst e
        have : i = [] := by have := h2.length; cases i <;> simp_all
        subst this
        exact up_same u a q2 r2
      · intro _ e
        subst e
        have : j = [] := by have := h4.length; cases j <;> simp_all
        subst this
        rw [List.append_nil] at q2
        exact up_same u a q2 r1
      · intro _ _
        exact up_tup u a q2 (h2.append h4)
    | _ => exact False.elim q
  | st i =>
    cases dy with
    | tup j =>
      unfold Rp at r1
      obtain ⟨p, vs, rfl, h1, h2⟩ := r1
      obtain ⟨p2, vs2, rfl, h3, h4⟩ := rp_tup r2
      obtain ⟨⟨q1, q1'⟩, q2⟩ := q
      subst q1
      unfold Rps at h2
      subst h2
      exact .inr (.inr (.inl ⟨p, p2, [], vs2, rfl, rfl, h1.sq, SqT.of h3, by rw [h4.length]; simpa using q1', fun _ => up_same u a q2 r2, fun e => absurd rfl e, fun e => absurd rfl e⟩))
    | _ => exact False.elim q
  | obj i =>
    cases dy with
    | obj j =>
      have q' : (match θ[i]?, θ[j]? with
        | some (.lst a), some (.lst b) => a.length + b.length ≤ sizeLine ∧ Qm (.obj θ.length) (θ ++ [.lst (a ++ b)])
        | _, _ => False) := q
      split at q'
      · rename_i l1 l2 e1 e2
        obtain ⟨p, vs, rfl, _, h1, h2⟩ := a.lst e1 r1
        obtain ⟨p2, vs2, rfl, _, h3, h4⟩ := a.lst e2 r2
        exact .inr (.inr (.inr ⟨p, p2, vs, vs2, rfl, rfl, h1, h3, by rw [h2.length, h4.length]; exact q'.1, up_lst u a q'.2 (h2.append h4)⟩))
      · exact q'.elim
    | _ => exact False.elim q
  | _ => cases dy <;> exact False.elim q
theorem om_sub : OpM W (binaryOp .Sub) oSub := opm_of op_sub fun {H α θ dx dy x y Qm Q} a r1 r2 q u => by
  cases dx <;> cases dy <;> first | exact False.elim q | skip
  cases of_int r1; cases of_int r2; exact ⟨_, _, rfl, rfl, up_same u a q rp_int⟩
theorem rep_rps {K : PySem.W.Frag} {H : Hp} {α : List Addr} {ds : List Dv} {vs : List V} (r : Rps K H α ds vs) : ∀ n, Rps K H α (List.replicate n ds).flatten (List.replicate n vs).flatten
  | 0 => by simpa using Rps.nil
  | n + 1 => by
    rw [List.replicate_succ, List.replicate_succ, List.flatten_cons, List.flatten_cons]
    exact r.append (rep_rps r n)
theorem om_mul : OpM W (binaryOp .Mult) oMul := opm_of (OpR.or op_mul op_rep) fun {H α θ dx dy x y Qm Q} a r1 r2 q u => by
  cases dx with
  | int i =>
    cases dy with
    | int j => cases of_int r1; cases of_int r2; exact .inl ⟨i, j, rfl, rfl, q.1, up_same u a q.2 rp_int⟩
    | _ => exact False.elim q
  | obj i =>
    cases dy with
    | int j =>
      cases of_int r2
      have q' : (match θ[i]? with
        | some (.lst a) => -(2 ^ 63) ≤ j ∧ j < 2 ^ 63 ∧ a.length * j.toNat ≤ sizeLine ∧ Qm (.obj θ.length) (θ ++ [.lst (List.replicate j.toNat a).flatten])
        | _ => False) := q
      split at q'
      · rename_i l1 e1
        obtain ⟨p, vs, rfl, _, h1, h2⟩ := a.lst e1 r1
        obtain ⟨q1, q2, q3, q4⟩ := q'
        exact .inr ⟨p, j, vs, rfl, rfl, h1, q1, q2, by rw [h2.length]; exact q3, up_lst u a q4 (rep_rps h2 _)⟩
      · exact q'.elim
    | _ => exact False.elim q
  | _ => cases dy <;> exact False.elim q
theorem om_fdiv : OpM W (binaryOp .FloorDiv) oFdiv := opm_of op_fdiv fun {H α θ dx dy x y Qm Q} a r1 r2 q u => by
  cases dx <;> cases dy <;> first | exact False.elim q | skip
  cases of_int r1; cases of_int r2; exact ⟨_, _, rfl, rfl, q.1, up_same u a q.2 rp_int⟩
theorem om_mod : OpM W (binaryOp .Mod) oMod := opm_of op_mod fun {H α θ dx dy x y Qm Q} a r1 r2 q u => by
  cases dx <;> cases dy <;> first | exact False.elim q | skip
  cases of_int r1; cases of_int r2; exact ⟨_, _, rfl, rfl, q.1, up_same u a q.2 rp_int⟩
theorem om_pow : OpM W (binaryOp .Pow) oPow := opm_of op_pow fun {H α θ dx dy x y Qm Q} a r1 r2 q u => by
  cases dx <;> cases dy <;> first | exact False.elim q | skip
  cases of_int r1; cases of_int r2; exact ⟨_, _, rfl, rfl, q.1, up_same u a q.2 rp_int⟩
theorem om_shl : OpM W (binaryOp .LShift) oShl := opm_of op_shl fun {H α θ dx dy x y Qm Q} a r1 r2 q u => by
  cases dx <;> cases dy <;> first | exact False.elim q | skip
  cases of_int r1; cases of_int r2; exact ⟨_, _, rfl, rfl, q.1, up_same u a q.2 rp_int⟩
theorem om_lt : OpM W (compareOp .Lt) oLt := opm_of op_lt fun {H α θ dx dy x y Qm Q} a r1 r2 q u => by
  cases dx <;> cases dy <;> first | exact False.elim q | skip
  cases of_int r1; cases of_int r2; exact ⟨_, _, rfl, rfl, up_same u a q rp_bl⟩
theorem om_le : OpM W (compareOp .LtE) oLe := opm_of op_le fun {H α θ dx dy x y Qm Q} a r1 r2 q u => by
  cases dx <;> cases dy <;> first | exact False.elim q | skip
  cases of_int r1; cases of_int r2; exact ⟨_, _, rfl, rfl, up_same u a q rp_bl⟩
theorem om_gt : OpM W (compareOp .Gt) oGt := opm_of op_gt fun {H α θ dx dy x y Qm Q} a r1 r2 q u => by
  cases dx <;> cases dy <;> first | exact False.elim q | skip
  cases of_int r1; cases of_int r2; exact ⟨_, _, rfl, rfl, up_same u a q rp_bl⟩
theorem om_ge : OpM W (compareOp .GtE) oGe := opm_of op_ge fun {H α θ dx dy x y Qm Q} a r1 r2 q u => by
  cases dx <;> cases dy <;> first | exact False.elim q | skip
  cases of_int r1; cases of_int r2; exact ⟨_, _, rfl, rfl, up_same u a q rp_bl⟩
theorem um_neg : UnM W (unaryOp .USub) oNeg := unm_of un_neg fun {H α θ dx x Qm Q} a r1 q u => by
  cases dx <;> first | exact False.elim q | skip
  cases of_int r1; exact ⟨_, rfl, up_same u a q rp_int⟩
theorem eqPy_up {H : Hp} {α : List Addr} {θ : Th} {dx dy : Dv} {x y : V} {Qm : Dv → Th → Prop} {Q : VK} {f : Bool → Bool} (a : At W H α θ) (r1 : Rp X.K H α dx x) (r2 : Rp X.K H α dy y) (q : eqPy dx dy f W.En θ Qm) (u : Up X.K H α Qm Q) :
    ∃ d e, Dp X.K H x d ∧ Dp X.K H y e ∧ SeqAt.shaped d = true ∧ SeqAt.shaped e = true ∧ Q (.bl (f (PyData.eqv d e))) H := by
  unfold eqPy at q
  split at q
  · rename_i d e h1 h2
    exact ⟨d, e, toPy_dp a.ok _ _ _ _ h1 r1, toPy_dp a.ok _ _ _ _ h2 r2, q.1, q.2.1, up_same u a q.2.2 rp_bl⟩
  · exact q.elim
theorem om_eq (c : Cf X) : OpM W (compareOp .Eq) oEq := opm_of (OpR.or op_eq (op_eqD (by have := c.un; omega))) fun {H α θ dx dy x y Qm Q} a r1 r2 q u => by
  unfold oEq at q
  split at q
  · cases of_int r1; cases of_int r2; exact .inl ⟨rfl, up_same u a q (by simpa using rp_bl)⟩
  · cases of_bl r1; cases of_bl r2; exact .inl ⟨rfl, up_same u a q (by simpa using rp_bl)⟩
  · cases of_str r1; cases of_str r2; exact .inl ⟨rfl, up_same u a q (by simpa using rp_bl)⟩
  · exact .inr (eqPy_up a r1 r2 q u)
theorem om_ne (c : Cf X) : OpM W (compareOp .NotEq) oNe := opm_of (OpR.or op_ne (op_neD (by have := c.un; omega))) fun {H α θ dx dy x y Qm Q} a r1 r2 q u => by
  unfold oNe at q
  split at q
  · cases of_int r1; cases of_int r2; exact .inl ⟨rfl, up_same u a q (by simpa using rp_bl)⟩
  · cases of_bl r1; cases of_bl r2; exact .inl ⟨rfl, up_same u a q (by simpa using rp_bl)⟩
  · cases of_str r1; cases of_str r2; exact .inl ⟨rfl, up_same u a q (by simpa using rp_bl)⟩
  · exact .inr (eqPy_up a r1 r2 q u)
/-! ### in -/
def rDIn (f : Bool → Bool) : R2 := fun y x H Q => ∃ a o, x = .ref a ∧ DGet H a y o ∧ Q (.bl (f o.isSome)) H
theorem op_dNotIn (c : Cf X) : OpR X (compareOp .NotIn) (rDIn not) := fun pins s σ H x y v u Q I rx ry ⟨a, o, e, g, q⟩ => by
  subst e
  cases (show u = Value.ref a from ry)
  exact d_notIn (by have := c.un; omega) I g rx fun s' I' => ⟨.bl !o.isSome, H, I', rfl, q⟩
theorem flat_v {H : Hp} {α : List Addr} {d : Dv} {x : V} (r : Rp X.K H α d x) (h : isFlat d = true) : flatV x = true := by
  cases d with
  | non => cases of_non r; rfl
  | bl _ => cases of_bl r; rfl
  | int _ => cases of_int r; rfl
  | str _ => cases of_str r; rfl
  | _ => cases h
theorem flats_v {H : Hp} {α : List Addr} : ∀ {ds : List Dv} {vs : List V}, Rps X.K H α ds vs → ds.all isFlat = true → vs.all flatV = true
  | [], _, r, _ => by unfold Rps at r; subst r; rfl
  | d :: ds, _, r, h => by
    unfold Rps at r
    obtain ⟨v, us, rfl, h1, h2⟩ := r
    simp only [List.all_cons, Bool.and_eq_true] at h ⊢
    exact ⟨flat_v h1 h.1, flats_v h2 h.2⟩
theorem eqF_v {H : Hp} {α : List Addr} {d e : Dv} {x y : V} (r : Rp X.K H α d x) (r2 : Rp X.K H α e y) (h : isFlat d = true) (h2 : isFlat e = true) : eqV x y = eqF d e := by
  cases d with
  | non => cases of_non r; cases e with
    | non => cases of_non r2; rfl
    | bl _ => cases of_bl r2; rfl
    | int _ => cases of_int r2; rfl
    | str _ => cases of_str r2; rfl
    | _ => cases h2
  | bl _ => cases of_bl r; cases e with
    | non => cases of_non r2; rfl
    | bl _ => cases of_bl r2; rfl
    | int _ => cases of_int r2; rfl
    | str _ => cases of_str r2; rfl
    | _ => cases h2
  | int _ => cases of_int r; cases e with
    | non => cases of_non r2; rfl
    | bl _ => cases of_bl r2; rfl
    | int _ => cases of_int r2; rfl
    | str _ => cases of_str r2; rfl
    | _ => cases h2
  | str _ => cases of_str r; cases e with
    | non => cases of_non r2; rfl
    | bl _ => cases of_bl r2; rfl
    | int _ => cases of_int r2; rfl
    | str _ => cases of_str r2; rfl
    | _ => cases h2
  | _ => cases h
theorem inF_v {H : Hp} {α : List Addr} {d : Dv} {x : V} (r : Rp X.K H α d x) (h : isFlat d = true) : ∀ {ds : List Dv} {vs : List V}, Rps X.K H α ds vs → ds.all isFlat = true → inV x vs = inF d ds
  | [], _, q, _ => by unfold Rps at q; subst q; rfl
  | e :: ds, _, q, g => by
    unfold Rps at q
    obtain ⟨v, us, rfl, h1, h2⟩ := q
    simp only [List.all_cons, Bool.and_eq_true] at g
    have ih := inF_v r h h2 g.2
    unfold inV inF at ih ⊢
    simp only [List.any_cons, eqF_v h1 r g.1 h, ih]
/-- «in» by any of its roads -/
def rInA (K : PySem.W.Frag) (neg : Bool) : R2 := fun x y H Q => rIn K neg x y H Q ∨ (∃ d ds, Dp K H x d ∧ Dp K H y (.list ds) ∧ SeqAt.shaped d = true ∧ SeqAt.shaped (.list ds) = true ∧ Q (.bl (if neg then !(ds.any fun z => PyData.eqv z d) else ds.any fun z => PyData.eqv z d)) H) ∨
  (∃ a o, y = .ref a ∧ DGet H a x o ∧ Q (.bl (if neg then !o.isSome else o.isSome)) H) ∨ ∃ (c : Nat) (z : Str), x = .str ⟨#[c]⟩ ∧ y = .str z ∧ Q (.bl (if neg then !decide (c ∈ z.cps.toList) else decide (c ∈ z.cps.toList))) H
theorem op_ninA (c : Cf X) : OpR X (compareOp .NotIn) (rInA X.K true) :=
  OpR.w (OpR.or op_notIn_seq (OpR.or (op_notInD (by have := c.un; omega)) (OpR.or (op_dNotIn c) op_notIn_sign))) fun x y H Q h => h
theorem inO_up {neg : Bool} {f : Bool → Bool} (hf : ∀ b, f b = if neg then !b else b) {H : Hp} {α : List Addr} {θ : Th} {dx dy : Dv} {x y : V} {Qm : Dv → Th → Prop} {Q : VK} (a : At W H α θ) (r1 : Rp X.K H α dx x) (r2 : Rp X.K H α dy y) (q : inO f dx dy W.En θ Qm) (u : Up X.K H α Qm Q) : rInA X.K neg x y H Q := by
  unfold inO at q
  split at q
  · rename_i ds
    obtain ⟨p, vs, rfl, h1, h2⟩ := rp_tup r2
    obtain ⟨⟨q1, q2⟩, q3⟩ := q
    refine .inl ⟨p, vs, rfl, .inr (SqT.of h1), flat_v r1 q1, flats_v h2 q2, ?_⟩
    rw [inF_v r1 q1 h2 q2]
    refine up_same u a q3 ?_
    rw [hf]
    cases neg <;> exact rp_bl
  · rename_i ds
    unfold Rp at r2
    obtain ⟨p, vs, rfl, h1, h2⟩ := r2
    obtain ⟨⟨q1, q2⟩, q3⟩ := q
    refine .inl ⟨p, vs, rfl, .inr h1.sq, flat_v r1 q1, flats_v h2 q2, ?_⟩
    rw [inF_v r1 q1 h2 q2]
    refine up_same u a q3 ?_
    rw [hf]
    cases neg <;> exact rp_bl
  · rename_i k
    have r2' := r2
    unfold Rp at r2
    obtain ⟨p, e1, rfl⟩ := r2
    split at q
    · rename_i ds e2
      rcases q with ⟨q1, q2, q3⟩ | q
      · obtain ⟨vs, h1, h2⟩ := a.ok.ob k p _ e1 e2
        refine .inl ⟨p, vs, rfl, .inl (SqL.of h1), flat_v r1 q2, flats_v h2 q1, ?_⟩
        rw [inF_v r1 q2 h2 q1]
        refine up_same u a q3 ?_
        rw [hf]
        cases neg <;> exact rp_bl
      · split at q
        · rename_i d es h1 h2
          refine .inr (.inl ⟨d, es, toPy_dp a.ok _ _ _ _ h1 r1, toPy_dp a.ok _ _ _ _ h2 r2', q.1, q.2.1, up_same u a q.2.2 ?_⟩)
          rw [hf]
          cases neg <;> exact rp_bl
        · exact q.elim
    · rename_i kvs e2
      split at q
      · rename_i k' hk
        obtain ⟨vs, h1, h2⟩ := a.ok.ob k p _ e1 e2
        have ex := fKey_v hk r1
        subst ex
        have g : DGet H p (kV k') (valV vs k') := DGet.k h1
        have lk := h2.look k'
        refine .inr (.inr (.inl ⟨p, _, rfl, g, up_same u a q ?_⟩))
        have : (valV vs k').isSome = (lookD kvs k').isSome := by
          cases e : lookD kvs k' with
          | none => rw [e] at lk; rw [lk]; rfl
          | some d => rw [e] at lk; obtain ⟨v, lk, _⟩ := lk; rw [lk]; rfl
        rw [hf, this]
        cases neg <;> exact rp_bl
      · exact q.elim
    · rename_i kvs e2
      split at q
      · rename_i k' hk
        obtain ⟨vs, h1, h2⟩ := a.ok.ob k p _ e1 e2
        obtain ⟨b, rfl, hb⟩ := tKey_v hk r1
        have g : DGet H p (.ref b) (valV vs k') := DGet.t h1 hb
        have lk := h2.look k'
        refine .inr (.inr (.inl ⟨p, _, rfl, g, up_same u a q ?_⟩))
        have : (valV vs k').isSome = (lookD kvs k').isSome := by
          cases e : lookD kvs k' with
          | none => rw [e] at lk; rw [lk]; rfl
          | some d => rw [e] at lk; obtain ⟨v, lk, _⟩ := lk; rw [lk]; rfl
        rw [hf, this]
        cases neg <;> exact rp_bl
      · exact q.elim
    · exact q.elim
  · rename_i w
    cases of_str r2
    split at q
    · rename_i z
      cases of_str r1
      obtain ⟨c, q1, q2⟩ := q
      refine .inr (.inr (.inr ⟨c, w, by rw [q1], rfl, up_same u a q2 ?_⟩))
      rw [hf]
      cases neg <;> exact rp_bl
    · exact False.elim q
  · exact False.elim q
theorem om_notin (c : Cf X) : OpM W (compareOp .NotIn) oNotIn := opm_of (op_ninA c) fun {H α θ dx dy x y Qm Q} a r1 r2 q u => inO_up (neg := true) (f := not) (fun b => rfl) a r1 r2 q u
/-! ### subscripts -/
theorem IxR.w {r r' : R2} (h : IxR X r) (w : ∀ x y H Q, r' x y H Q → r x y H Q) : IxR X r' := fun va sl pins s σ H x y v u Q I rx ry q hs => h va sl pins s σ H x y v u Q I rx ry (w x y H Q q) hs
def rIxDc : R2 := fun x y H Q => ∃ a v, x = .ref a ∧ DGet H a y (some v) ∧ Q v H
theorem ix_dct (c : Cf X) : IxR X rIxDc := fun va sl pins s σ H x y v u Q I rx ry ⟨a, w, e, g, q⟩ hs => by
  subst e
  cases (show v = Value.ref a from rx)
  exact tail_any (dict_typeIs I g) PySem.F.slot_dict_getitem.lookup (d_getItem (by have := c.un; omega) I g ry fun w' s' I' rw' => ⟨w, H, I', rw', q⟩) hs
theorem pm_ix {a b : Expr} {ma mb : ME} {pos : Pos} (c : Cf X) (ha : PE X a (tM W ma)) (hb : PE X b (tM W mb)) (hs : PlainIx b := by exact fun _ _ => rfl) : PE X (.Subscript a b pos) (tM W (mBin oIx ma mb)) := by
  refine pe_w (pe_ix (IxR.w (IxR.or ix_seq (ix_dct c)) ?_) ha hb hs) tm_bin
  rintro x y H Q ⟨α, θ, dx, dy, Qm, a, r1, r2, q, u⟩
  unfold oIx at q
  split at q
  · rename_i ds
    split at q
    · rename_i i
      cases of_int r2
      obtain ⟨p, vs, rfl, h1, h2⟩ := rp_tup r1
      cases e : atI ds i with
      | none => rw [e] at q; exact False.elim q
      | some d =>
        rw [e] at q
        obtain ⟨v, hv, rv⟩ := atI_rps h2 e
        exact .inl (.inr (.inl ⟨p, vs, i, v, rfl, rfl, SqT.of h1, hv, up_same u a q rv⟩))
    · exact q.elim
  · rename_i ds
    split at q
    · rename_i i
      cases of_int r2
      unfold Rp at r1
      obtain ⟨p, vs, rfl, h1, h2⟩ := r1
      cases e : atI ds i with
      | none => rw [e] at q; exact False.elim q
      | some d =>
        rw [e] at q
        obtain ⟨v, hv, rv⟩ := atI_rps h2 e
        exact .inl (.inr (.inl ⟨p, vs, i, v, rfl, rfl, h1.sq, hv, up_same u a q rv⟩))
    · exact q.elim
  · rename_i ns
    split at q
    · rename_i i
      cases of_int r2
      unfold Rp at r1
      obtain ⟨p, rfl, hq⟩ := r1
      cases e : atI ns i with
      | none => rw [e] at q; exact False.elim q
      | some d =>
        rw [e] at q
        have hv : atI (ns.map V.int) i = some (V.int d) := by
          unfold atI at e ⊢
          rw [List.length_map]
          cases z : ixN ns.length i with
          | none => rw [z] at e; cases e
          | some j =>
            rw [z] at e
            show (ns.map V.int)[j]? = _
            rw [List.getElem?_map, show ns[j]? = some d from e]
            rfl
        have sq : SqL X.K H p (ns.map V.int) := by
          rcases hq with ⟨o, hq⟩ | hq
          · exact .inl (.inr ⟨o, hq⟩)
          · rcases hq with (hq | ⟨o, hq⟩) | hq
            · cases hq
            · cases hq
            · exact .inr hq
        exact .inl (.inl ⟨p, _, i, _, rfl, rfl, sq, hv, up_same u a q rp_int⟩)
    · exact q.elim
  · rename_i z
    split at q
    · rename_i i
      cases of_str r1
      cases of_int r2
      obtain ⟨q1, d, q2, q3⟩ := q
      exact .inl (.inr (.inr ⟨z, i, d, rfl, rfl, q1, q2, up_same u a q3 rp_str⟩))
    · exact q.elim
  · rename_i k
    unfold Rp at r1
    obtain ⟨p, e1, rfl⟩ := r1
    split at q
    · rename_i ds e2
      split at q
      · rename_i i
        cases of_int r2
        obtain ⟨vs, h1, h2⟩ := a.ok.ob k p _ e1 e2
        cases e : atI ds i with
        | none => rw [e] at q; exact False.elim q
        | some d =>
          rw [e] at q
          obtain ⟨v, hv, rv⟩ := atI_rps h2 e
          exact .inl (.inl ⟨p, vs, i, v, rfl, rfl, SqL.of h1, hv, up_same u a q rv⟩)
      · exact q.elim
    · rename_i kvs e2
      split at q
      · rename_i k' hk
        obtain ⟨vs, h1, h2⟩ := a.ok.ob k p _ e1 e2
        have ex := fKey_v hk r2
        subst ex
        have lk := h2.look k'
        cases e : lookD kvs k' with
        | none => rw [e] at q; exact False.elim q
        | some d =>
          rw [e] at q lk
          obtain ⟨v, lk, rv⟩ := lk
          exact .inr ⟨p, v, rfl, by rw [← lk]; exact DGet.k h1, up_same u a q rv⟩
      · exact q.elim
    · rename_i kvs e2
      split at q
      · rename_i k' hk
        obtain ⟨vs, h1, h2⟩ := a.ok.ob k p _ e1 e2
        obtain ⟨b, rfl, hb⟩ := tKey_v hk r2
        have lk := h2.look k'
        cases e : lookD kvs k' with
        | none => rw [e] at q; exact False.elim q
        | some d =>
          rw [e] at q lk
          obtain ⟨v, lk, rv⟩ := lk
          exact .inr ⟨p, v, rfl, by rw [← lk]; exact DGet.t h1 hb, up_same u a q rv⟩
      · exact q.elim
    · exact q.elim
  · exact False.elim q
/-! ### slices -/
def cutD (ds : List Dv) (lo hi : Option Int) : List Dv := (ds.drop (HT.sIx ds.length 0 lo)).take (HT.sIx ds.length ds.length hi - HT.sIx ds.length 0 lo)
def oSl (x : Dv) (lo hi : Option Int) : MX Dv := fun _ θ Q => match x with
  | .tup ds => Q (.tup (cutD ds lo hi)) θ
  | .str z => z.length ≤ sizeLine ∧ Q (.str (cutS z lo hi)) θ
  | .obj k => (match θ[k]? with
    | some (.lst ds) => Q (.obj θ.length) (θ ++ [.lst (cutD ds lo hi)])
    | _ => False)
  | _ => False
def oPart : Dv → MX (Option Int)
  | .int i => pure (some i)
  | _ => MX.stuck
def pNo : DEnv → MX (Option Int) := fun _ => pure none
def pSo (a : ME) : DEnv → MX (Option Int) := fun ρ => do oPart (← a ρ)
def mSl (a : ME) (lo hi : DEnv → MX (Option Int)) : ME := fun ρ => do
  let x ← a ρ
  let l ← lo ρ
  let h ← hi ρ
  oSl x l h
def tMo (W : Wd X.K X.mg) (m : DEnv → MX (Option Int)) : TO := fun σ H Q => ∃ ρ α θ Qm, At W H α θ ∧ RS X.K H α σ ρ ∧ m ρ W.En θ Qm ∧ ∀ o θ' α' H', Qm o θ' → Okk X.K H' α' θ' → Nx X.K H α H' α' → Q o H'
theorem po_w {e : Option Expr} {t t' : TO} (h : PO X e t) (w : ∀ σ H Q, t' σ H Q → t σ H Q) : PO X e t' := ⟨fun pins s σ H Q I q => h.run pins s σ H Q I (w σ H Q q)⟩
theorem pom_none : PO X none (tMo W pNo) := po_w po_none fun σ H Q ⟨ρ, α, θ, Qm, at', rs, q, u⟩ => u none θ α H q at'.ok Nx.refl
theorem pom_some {e : Expr} {m : ME} (h : PE X e (tM W m)) : PO X (some e) (tMo W (pSo m)) := po_w (po_some h) fun σ H Q ⟨ρ, α, θ, Qm, at', rs, q, u⟩ => ⟨ρ, α, θ, _, at', rs, q, fun d θ1 α1 H1 v q1 ok1 nx1 r1 => by
  cases d with
  | int i => cases of_int r1; exact ⟨i, rfl, u _ θ1 α1 H1 q1 ok1 nx1⟩
  | _ => exact False.elim q1⟩
theorem cut_rps {K : PySem.W.Frag} {H : Hp} {α : List Addr} {ds : List Dv} {vs : List V} (r : Rps K H α ds vs) (lo hi : Option Int) : Rps K H α (cutD ds lo hi) (cutV vs lo hi) := by
  unfold cutD cutV
  rw [r.length]
  exact (r.drop _).take _
theorem SlR.w {r r' : V → Option Int → Option Int → Hp → VK → Prop} (h : SlR X r) (w : ∀ x l u H Q, r' x l u H Q → r x l u H Q) : SlR X r' := fun pins s σ H x v vl vu lo hi sl Q I rx hs pl pu q => h pins s σ H x v vl vu lo hi sl Q I rx hs pl pu (w x lo hi H Q q)
def rMs (W : Wd X.K X.mg) : V → Option Int → Option Int → Hp → VK → Prop := fun x lo hi H Q => ∃ α θ dx Qm, At W H α θ ∧ Rp X.K H α dx x ∧ oSl dx lo hi W.En θ Qm ∧ Up X.K H α Qm Q
theorem sl_any : SlR X (rMs W) := SlR.w (SlR.or sl_tupA (SlR.or sl_str sl_list)) fun x lo hi H Q ⟨α, θ, dx, Qm, a, r1, q, u⟩ => by
  unfold oSl at q
  split at q
  · rename_i ds
    obtain ⟨p, vs, rfl, h1, h2⟩ := rp_tup r1
    refine .inl ⟨p, vs, rfl, SqT.of h1, fun e => up_same u a q ?_, fun _ => up_tup u a q (cut_rps h2 lo hi)⟩
    have e' : cutD ds lo hi = ds := by
      unfold cutD
      rw [h2.length] at e
      rw [e.1, e.2]
      simp
    rw [e']
    exact r1
  · rename_i z
    cases of_str r1
    exact .inr (.inl ⟨z, rfl, q.1, up_same u a q.2 rp_str⟩)
  · rename_i k
    split at q
    · rename_i ds e2
      obtain ⟨p, vs, rfl, _, h1, h2⟩ := a.lst e2 r1
      exact .inr (.inr ⟨p, vs, rfl, SqL.of h1, up_lst u a q (cut_rps h2 lo hi)⟩)
    · exact False.elim q
  · exact False.elim q
theorem pm_sl {e : Expr} {m : ME} {lo hi : Option Expr} {ml mh : DEnv → MX (Option Int)} {p2 pos : Pos} (he : PE X e (tM W m)) (hl : PO X lo (tMo W ml)) (hu : PO X hi (tMo W mh)) : PE X (.Subscript e (.Slice lo hi none p2) pos) (tM W (mSl m ml mh)) :=
  pe_w (pe_slice sl_any he hl hu) fun σ H Q ⟨ρ, α, θ, Qm, at', rs, q, u⟩ => ⟨ρ, α, θ, _, at', rs, q, fun d θ1 α1 H1 v q1 ok1 nx1 r1 => ⟨ρ, α1, θ1, _, ⟨ok1, at'.nx.trans nx1⟩, rs.mono nx1, q1, fun o2 θ2 α2 H2 q2 ok2 nx2 =>
    ⟨ρ, α2, θ2, _, ⟨ok2, (at'.nx.trans nx1).trans nx2⟩, rs.mono (nx1.trans nx2), q2, fun o3 θ3 α3 H3 q3 ok3 nx3 => ⟨α3, θ3, d, Qm, ⟨ok3, ((at'.nx.trans nx1).trans nx2).trans nx3⟩, r1.mono (nx2.trans nx3), q3, u.mono ((nx1.trans nx2).trans nx3)⟩⟩⟩⟩
end
end Mn

/-! Mn5: enumerate and zip over lists and tuples in any mix. -/
namespace Mn
open PySem PySem.Spec PyProof.Rows L2

/-- a sequence that is tracked at a: a list (true) or a tuple -/
def Sq (kd : Bool) (H : Hp) (a : Addr) (xs : List V) : Prop := H a = some (if kd then HO.lst xs else HO.tup xs)
def itF (kd : Bool) (h : Heap) (it a : Addr) (i : Nat) : Prop := if kd then h.IsListIter it a i else h.IsTupleIter it a i
def hasF (kd : Bool) (h : Heap) (a : Addr) (items : Array Value) : Prop := if kd then h.IsList a items else h.IsTuple a items
def itO (kd : Bool) (a : Addr) : Obj := if kd then { cls := .type "list_iterator", data := .fields #[.ref a, .int 0 0] } else { cls := .type "tuple_iterator", data := .fields #[.ref a, .int 0 0] }
theorem Sq.inj {kd : Bool} {H : Hp} {a : Addr} {xs ys : List V} (h : Sq kd H a xs) (h' : Sq kd H a ys) : xs = ys := by
  unfold Sq at h h'
  rw [h] at h'
  cases kd <;> (cases h'; rfl)
theorem Sq.has {X : Cx} {pins : List (Addr × Obj)} {σ : L2.St} {H : Hp} {s : Shared} {kd : Bool} {a : Addr} {xs : List V} (I : Inv X pins σ H s) (h : Sq kd H a xs) : ∃ its : List Value, Vals xs its ∧ hasF kd s.heap a its.toArray := by
  cases kd with
  | true =>
    obtain ⟨its, rv, p, _⟩ := I.list (SqL.of (show H a = some (.lst xs) from h))
    exact ⟨its, rv, p.isList⟩
  | false =>
    obtain ⟨its, rv, p, _⟩ := I.tuple (SqT.of (show H a = some (.tup xs) from h))
    exact ⟨its, rv, p⟩
theorem Sq.ne {kd : Bool} {H : Hp} {a b : Addr} {xs : List V} (h : Sq kd H a xs) (n : H b = none) : a ≠ b := fun e => by
  subst e
  unfold Sq at h
  rw [n] at h
  cases h
theorem itF.stays {kd : Bool} {h h' : Heap} {it a : Addr} {i : Nat} (x : itF kd h it a i) (k : ∀ o, h.get? it = some o → h'.get? it = some o) : itF kd h' it a i := by
  cases kd
  · exact Heap.IsTupleIter.at (show h.IsTupleIter it a i from x) k
  · exact Heap.IsListIter.at (show h.IsListIter it a i from x) k
theorem itF.obj {kd : Bool} {h : Heap} {it a : Addr} {i : Nat} (x : itF kd h it a i) : ∃ o, h.get? it = some o ∧ ∀ v, o.data ≠ .cell v := by
  cases kd with
  | false =>
    obtain ⟨o, e, c, d⟩ := (show h.IsTupleIter it a i from x)
    exact ⟨o, e, fun v z => by rw [d] at z; cases z⟩
  | true =>
    obtain ⟨o, e, c, d⟩ := (show h.IsListIter it a i from x)
    exact ⟨o, e, fun v z => by rw [d] at z; cases z⟩
theorem itF.new {kd : Bool} {h : Heap} {it a : Addr} (e : h.get? it = some (itO kd a)) : itF kd h it a 0 := by
  cases kd
  · exact ⟨_, e, rfl, rfl⟩
  · exact ⟨_, e, rfl, rfl⟩
theorem draws {kd : Bool} {prog : Program} {w : World} {A : Around} (hh : A.handled = none) (it a : Addr) (ne : a ≠ it) (items : Array Value) :
    Draws prog w A it [it, a] items.size (fun i v => items[i]? = some v) (fun i h => itF kd h it a i ∧ hasF kd h a items) := by
  cases kd
  · exact Draws.tuple hh it a ne items
  · exact Draws.list hh it a ne items
theorem begins {kd : Bool} (a : Addr) (items : Array Value) : Begins (.ref a) (itO kd a) (fun h => hasF kd h a items) := by
  cases kd
  · exact begins_tuple a items
  · exact begins_list a items

/-! ### a turn that gives a new pair -/
theorem turn_pair {X : Cx} {pins : List (Addr × Obj)} {s : Shared} {σ : L2.St} {H : Hp} {E : Value → Shared → Prop} {e : Addr} {fpW wr fp : List Addr} {n i : Nat} {Pt : Nat → Array Value → Prop} {St : Nat → Heap → Prop} {Mid : Nat → Addr → Heap → Prop}
    {elts : List Expr} {kk : Nat} {tpos : Pos} {x y : V} {tn : Heap → Prop} {Y : V → Hp → Prop}
    (I : Inv X pins σ H s) (hf : ∀ b ∈ fp, FpOk X pins H b) (W : WalksT X.prog X.w X.A e fpW wr n Pt St Mid) (sub : ∀ b ∈ wr, b ∈ fp) (hi : i < n) (st : St i s.heap)
    (vals : ∀ vs, Pt i vs → Vals [x, y] vs.toList) (next : ∀ h', St (i + 1) h' → tn h') (old : ∀ b ∈ fp, b < s.heap.objs.size) (yld : ∀ T, H T = none → Y (.ref T) (upd H T (.tup [x, y]))) :
    wpAny (model X.prog X.w) X.A (pyNext (.ref e)) (fun r s1 => ∃ u, r = some u ∧
      wpAny (model X.prog X.w) X.A (letOwnedTupleGo (.Tuple elts kk tpos) (.ref e) u) (fun _ s2 => ∃ x H', Inv X pins σ H' s2 ∧ RelV x u ∧ Y x H' ∧ tn s2.heap ∧ ∀ b ∈ fp, H' b = none) E s1) E s := by
  refine W.item i s _ E hi st fun T vs h' tk hP hT hTup hmid hk => ⟨_, rfl, ?_⟩
  refine W.go elts kk tpos i T { s with heap := h', toks := tk } _ E hmid fun h2 st2 hk2 => ?_
  have hn : H T = none := I.hok.fresh hT
  have apart := W.apart i T h' hmid
  have k : ∀ b o, b ∉ wr → s.heap.get? b = some o → h2.get? b = some o := fun b o hb q => hk2 b o hb (hk b o hb q)
  obtain ⟨o, ho, hc, m, hd⟩ := hTup
  have new : ObjOk X.prog X.w (upd H T (.tup [x, y])) h2 T (.tup [x, y]) :=
    ⟨by show 2 ≤ sizeLine; decide, vs.toList, vals vs hP, o, hk2 T o apart ho, hc, m, by simp [hd]⟩
  have I1 : Inv X pins σ (upd H T (.tup [x, y])) { s with heap := h2, toks := tk } := I.turnedNew (t' := tk) k (fun b hb => hf b (sub b hb)) hT new
  refine ⟨.ref T, _, I1, rfl, yld T hn, next h2 st2, fun b hb => ?_⟩
  have hlt := old b hb
  rw [upd_ne (Nat.ne_of_lt (Nat.lt_of_lt_of_le hlt hT))]
  exact (hf b hb).1
theorem turn_end {X : Cx} {pins : List (Addr × Obj)} {s : Shared} {σ : L2.St} {H : Hp} {E : Value → Shared → Prop} {e : Addr} {fpW wr fp : List Addr} {n : Nat} {Pt : Nat → Array Value → Prop} {St : Nat → Heap → Prop} {Mid : Nat → Addr → Heap → Prop}
    (I : Inv X pins σ H s) (hf : ∀ b ∈ fp, FpOk X pins H b) (W : WalksT X.prog X.w X.A e fpW wr n Pt St Mid) (sub : ∀ b ∈ wr, b ∈ fp) (st : St n s.heap) :
    wpAny (model X.prog X.w) X.A (pyNext (.ref e)) (fun r s1 => r = none ∧ Inv X pins σ H s1) E s :=
  W.done s _ E st fun h' tk hk => ⟨rfl, I.turnedL (t' := tk) (ch := wr) hk fun b hb => hf b (sub b hb)⟩

/-! ### enumerate -/
def Jen (kd : Bool) (a : Addr) : It :=
  ⟨fun i H => ∃ xs : List V, Sq kd H a xs ∧ i < xs.length, fun i H v H' => ∃ T x xs, v = .ref T ∧ H T = none ∧ H' = upd H T (.tup [.int (i : Nat), x]) ∧ Sq kd H a xs ∧ xs[i]? = some x, fun i H => ∃ xs : List V, Sq kd H a xs ∧ xs.length = i⟩
theorem turn_en {P : Program} {w : World} {K : PySem.W.Frag} {elts : List Expr} {kk : Nat} {tpos : Pos} (kd : Bool) (a e it : Addr) (ne : e ≠ it) :
    Turn P w K (.Tuple elts kk tpos) (Jen kd a) [e, it] e (fun i h => (∃ old, IsEnum h e it (0 + (i : Int)) old) ∧ itF kd h it a i) where
  mem := by simp
  obj := fun i h st b hb => by
    obtain ⟨⟨old, he⟩, hi⟩ := st
    have e' : b = e ∨ b = it := by simpa using hb
    rcases e' with z | z
    · rw [z]
      exact ⟨_, he, fun v q => nomatch q⟩
    · rw [z]
      exact hi.obj
  keep := fun i h h' st k => by
    obtain ⟨⟨old, he⟩, hi⟩ := st
    exact ⟨⟨old, k e (by simp) _ he⟩, hi.stays fun o q => k it (by simp) o q⟩
  item := by
    intro X hP hw hK hc i pins s σ H E I hf st hg
    subst hP hw hK
    obtain ⟨⟨old, he⟩, hi⟩ := st
    obtain ⟨xs, hq, hlt⟩ := hg
    obtain ⟨its, rv, hh⟩ := hq.has I
    have na : a ≠ it := hq.ne (hf it (by simp)).1
    have ea : e ≠ a := fun z => hq.ne (hf e (by simp)).1 z.symm
    have D := draws (kd := kd) (prog := X.prog) (w := X.w) (A := X.A.in1) (I.ok.hd hc) it a na its.toArray
    have W := WalksT.enumFrom 0 D e ne (by simp [ne, ea]) (by simp)
    have hx : xs[i]? = some xs[i] := List.getElem?_eq_getElem hlt
    obtain ⟨o2, ho2, _⟩ := hi.obj
    refine turn_pair (x := .int (i : Nat)) (y := xs[i]) (tn := fun h => (∃ old, IsEnum h e it (0 + ((i + 1 : Nat) : Int)) old) ∧ itF kd h it a (i + 1)) (Y := (Jen kd a).yld i H) I hf W (fun b hb => hb) (by simp only [List.size_toArray, ← rv.length]; omega) ⟨⟨old, he⟩, hi, hh⟩ (fun vs hv => ?_) (fun h' st2 => ⟨st2.1, st2.2.1⟩) (fun b hb => ?_) (fun T hT => ⟨T, _, xs, rfl, hT, rfl, hq, hx⟩)
    · obtain ⟨t, u, hu, rfl⟩ := hv
      obtain ⟨u', hu', ru⟩ := rv.get hx
      have : u = u' := by
        rw [List.getElem?_toArray] at hu
        rw [hu] at hu'
        exact Option.some.inj hu'
      subst this
      exact .cons ⟨t, by rw [Int.zero_add]⟩ (.cons ru .nil)
    · have e' : b = e ∨ b = it := by simpa using hb
      rcases e' with z | z
      · rw [z]; exact Heap.lt_size he
      · rw [z]; exact Heap.lt_size ho2
  done := by
    intro X hP hw hK hc i pins s σ H E I hf st hg
    subst hP hw hK
    obtain ⟨⟨old, he⟩, hi⟩ := st
    obtain ⟨xs, hq, hlt⟩ := hg
    obtain ⟨its, rv, hh⟩ := hq.has I
    have na : a ≠ it := hq.ne (hf it (by simp)).1
    have ea : e ≠ a := fun z => hq.ne (hf e (by simp)).1 z.symm
    have D := draws (kd := kd) (prog := X.prog) (w := X.w) (A := X.A.in1) (I.ok.hd hc) it a na its.toArray
    have W := WalksT.enumFrom 0 D e ne (by simp [ne, ea]) (by simp)
    have hn : its.toArray.size = i := by simp [← rv.length, hlt]
    rw [← hn] at he hi
    exact turn_end I hf W (fun b hb => hb) ⟨⟨old, he⟩, hi, hh⟩
  self := fun A i s Q E st h => by
    obtain ⟨⟨old, he⟩, _⟩ := st
    exact wpAny_pyIter_enum he h
set_option maxHeartbeats 2000000 in
theorem meets_en1 {v : Value} {o : Obj} {H : Heap → Prop} (B : Begins v o H) :
    Meets (Builtin.«enumerate.__new__» ⟨[.type "enumerate", v], []⟩) (fun _ R s => H s.heap ∧
      R (.ok (.ret (.ref (s.heap.push o).objs.size))) { s with heap := (s.heap.push o).push { cls := .type "enumerate", data := .fields #[.none, .bool false, .ref s.heap.objs.size, rawInt 0, .none, .none] } }) := by
  refine .of_wp fun prog w A R s h => ?_
  obtain ⟨hp, g, d, tk, os⟩ := s
  obtain ⟨h1, h⟩ := h
  have hsub := sub_enumerate
  have q1 : ∀ {A' : Around} {E : Value → Shared → Prop} {Q : Value → Shared → Prop}, Q (.ref hp.objs.size) ⟨hp.push o, g, d, tk, os⟩ → wpAny (model prog w) A' (pyIter v) Q E ⟨hp, g, d, tk, os⟩ := fun q =>
    B.iter prog w _ _ ⟨hp, g, d, tk, os⟩ _ h1 q
  wp_walk using q1
  refine wpAny_stack_any fun st => wpAny_pure ?_
  split
  · rename_i c _ _ _ _ _
    cases (c == Value.type "enumerate") <;>
      (wp_walk using q1
       exact ⟨_, rfl, h⟩)
  · wp_walk using q1
    exact ⟨_, rfl, h⟩
theorem call_en {prog : Program} {w : World} {A : Around} {E : Value → Shared → Prop} {s : Shared} {v : Value} {o : Obj} {H : Heap → Prop} {Q : Value → Shared → Prop} (B : Begins v o H) (h1 : H s.heap)
    (h : ∀ h', IsEnum h' (s.heap.objs.size + 1) s.heap.objs.size 0 .none → h'.get? s.heap.objs.size = some o → (∀ b o, s.heap.get? b = some o → h'.get? b = some o) → Q (.ref (s.heap.objs.size + 1)) { s with heap := h' }) :
    wpAny (model prog w) A (call (.type "enumerate") [v]) Q E s := by
  have hz : (s.heap.push o).objs.size = s.heap.objs.size + 1 := Heap.size_push ..
  have he : IsEnum ((s.heap.push o).push { cls := .type "enumerate", data := .fields #[.none, .bool false, .ref s.heap.objs.size, rawInt 0, .none, .none] }) (s.heap.objs.size + 1) s.heap.objs.size 0 .none := by
    have := Heap.get?_push_size (s.heap.push o) (o := { cls := .type "enumerate", data := .fields #[.none, .bool false, .ref s.heap.objs.size, rawInt 0, .none, .none] }) rfl
    rw [hz] at this
    exact this
  refine callType_new F.called_enumerate (by decide) (F.typeCall_enumerate_1 _) (F.newCall_enumerate_1 _) (fun obj => F.args_object_init_2 obj _) F.entry_enumerate_new (meets_en1 B) ⟨h1, ?_⟩
  show _ ∧ _
  rw [hz]
  exact ⟨⟨_, he, rfl⟩, h _ he (Heap.get?_push_of_some _ (Heap.get?_push_size _ B.free)) fun b ob x => Heap.get?_push_of_some _ (Heap.get?_push_of_some _ x)⟩
def iEn (ta : TA) : TI := fun σ H R => ta σ H fun vs H1 => ∃ kd a xs, vs = [.ref a] ∧ Sq kd H1 a xs ∧ R (Jen kd a) H1
theorem pi_en {X : Cx} {e : Expr} {ta : TA} {p pos tpos : Pos} {elts : List Expr} {kk : Nat} (hg : Gl X "enumerate") (hm : X.mg "enumerate" = none) (ha : PA X [e] ta) (hs : starEach [e] X.env = [(false, eval e X.env)] := by rfl) :
    PI X (.Tuple elts kk tpos) (.Call (.Name "enumerate" p) [e] [] pos) (iEn ta) := by
  constructor
  intro pins s σ H R I h
  refine Call_ (ld_blt I hg hm boot_enumerate (PyProof.Rows.callWith_type1 (thn (ha.run pos pins s σ H _ I h) ?_) hs rfl))
  rintro us s1 ⟨vs, H1, I1, r1, kd, a, xs, ex, hq, q⟩
  subst ex
  cases r1 with
  | cons r rr =>
    cases rr
    cases r
    obtain ⟨its, rv, hh⟩ := hq.has I1
    refine call_en (begins (kd := kd) a its.toArray) hh fun h' he hit hk => wpAny_pyIter_enum he ?_
    have I2 : Inv X pins σ H1 { s1 with heap := h' } := I1.kept (t' := s1.toks) hk
    refine ⟨s1.heap.objs.size + 1, [s1.heap.objs.size + 1, s1.heap.objs.size], _, _, H1, rfl, I2, turn_en kd a _ _ (Nat.succ_ne_self _), ⟨⟨.none, he⟩, itF.new hit⟩, fun b hb => ?_, q⟩
    have hle : s1.heap.objs.size ≤ b := by
      have e' : b = s1.heap.objs.size + 1 ∨ b = s1.heap.objs.size := by simpa using hb
      rcases e' with z | z <;> rw [z]
      · exact Nat.le_add_right _ _
      · exact Nat.le_refl _
    exact I1.fpOk hle (I1.hok.fresh hle)

/-! ### zip of two -/
def Jzp (k1 k2 : Bool) (a b : Addr) : It :=
  ⟨fun i H => ∃ xs ys : List V, Sq k1 H a xs ∧ Sq k2 H b ys ∧ i < xs.length ∧ i < ys.length,
   fun i H v H' => ∃ T x y xs ys, v = .ref T ∧ H T = none ∧ H' = upd H T (.tup [x, y]) ∧ Sq k1 H a xs ∧ Sq k2 H b ys ∧ xs[i]? = some x ∧ ys[i]? = some y,
   fun i H => ∃ xs ys : List V, Sq k1 H a xs ∧ Sq k2 H b ys ∧ min xs.length ys.length = i⟩
theorem turn_zp {P : Program} {w : World} {K : PySem.W.Frag} {elts : List Expr} {kk : Nat} {tpos : Pos} (k1 k2 : Bool) (a b z TI TO i1 i2 : Addr)
    (d1 : TI ≠ z) (d2 : TO ≠ z) (d3 : TI ≠ TO) (d4 : TI ≠ i1) (d5 : TI ≠ i2) (d6 : z ≠ i1) (d7 : z ≠ i2) (d8 : TO ≠ i1) (d9 : TO ≠ i2) (d10 : i1 ≠ i2) :
    Turn P w K (.Tuple elts kk tpos) (Jzp k1 k2 a b) [z, TI, TO, i1, i2] z (fun i h => (IsZip h z TI TO .none ∧ IsTupOf2 h TI (.ref i1) (.ref i2) ∧ (∃ a1 a2, IsTupOf2 h TO a1 a2)) ∧ itF k1 h i1 a i ∧ itF k2 h i2 b i) where
  mem := by simp
  obj := fun i h st c hc => by
    obtain ⟨⟨hz, hI, a1, a2, hO⟩, h1, h2⟩ := st
    have e' : c = z ∨ c = TI ∨ c = TO ∨ c = i1 ∨ c = i2 := by simpa using hc
    rcases e' with q | q | q | q | q <;> rw [q]
    · exact ⟨_, hz, fun v q => nomatch q⟩
    · exact ⟨_, hI, fun v q => nomatch q⟩
    · exact ⟨_, hO, fun v q => nomatch q⟩
    · exact h1.obj
    · exact h2.obj
  keep := fun i h h' st k => by
    obtain ⟨⟨hz, hI, a1, a2, hO⟩, h1, h2⟩ := st
    exact ⟨⟨k z (by simp) _ hz, k TI (by simp) _ hI, a1, a2, k TO (by simp) _ hO⟩, h1.stays fun o q => k i1 (by simp) o q, h2.stays fun o q => k i2 (by simp) o q⟩
  item := by
    intro X hP hw hK hc i pins s σ H E I hf st hg
    subst hP hw hK
    obtain ⟨⟨hz, hI, hO⟩, h1, h2⟩ := st
    obtain ⟨xs, ys, hq1, hq2, hl1, hl2⟩ := hg
    obtain ⟨its1, rv1, hh1⟩ := hq1.has I
    obtain ⟨its2, rv2, hh2⟩ := hq2.has I
    have fr : ∀ c ∈ [z, TI, TO, i1, i2], a ≠ c ∧ b ≠ c := fun c hc => ⟨hq1.ne (hf c hc).1, hq2.ne (hf c hc).1⟩
    have nz := fr z (by simp)
    have nTO := fr TO (by simp)
    have n1 := fr i1 (by simp)
    have n2 := fr i2 (by simp)
    have D1 := draws (kd := k1) (prog := X.prog) (w := X.w) (A := X.A.in1) (I.ok.hd hc) i1 a n1.1 its1.toArray
    have D2 := draws (kd := k2) (prog := X.prog) (w := X.w) (A := X.A.in1) (I.ok.hd hc) i2 b n2.2 its2.toArray
    have S : ZipSep2 z TI TO i1 i2 [i1, a] [i2, b] :=
      { TIz := d1, TOz := d2, TITO := d3, TIi1 := d4, mem1 := by simp, zf1 := by simp [d6, nz.1.symm], Tf1 := by simp [d8, nTO.1.symm], TIi2 := d5, mem2 := by simp, zf2 := by simp [d7, nz.2.symm], Tf2 := by simp [d9, nTO.2.symm],
        sep1_2 := by simp [d10, n1.2.symm], sep2_1 := by simp [d10.symm, n2.1.symm] }
    have W := WalksT.zipD2 S D1 D2
    have hx : xs[i]? = some xs[i] := List.getElem?_eq_getElem hl1
    have hy : ys[i]? = some ys[i] := List.getElem?_eq_getElem hl2
    obtain ⟨o1, ho1, _⟩ := h1.obj
    obtain ⟨o2, ho2, _⟩ := h2.obj
    obtain ⟨a1, a2, hO'⟩ := hO
    refine turn_pair (x := xs[i]) (y := ys[i]) (tn := fun h => (IsZip h z TI TO .none ∧ IsTupOf2 h TI (.ref i1) (.ref i2) ∧ (∃ a1 a2, IsTupOf2 h TO a1 a2)) ∧ itF k1 h i1 a (i + 1) ∧ itF k2 h i2 b (i + 1)) (Y := (Jzp k1 k2 a b).yld i H) I hf W (fun c hc => ?_) (by simp only [List.size_toArray, ← rv1.length, ← rv2.length]; omega) ⟨hz, hI, ⟨a1, a2, hO'⟩, ⟨h1, hh1⟩, h2, hh2⟩ (fun vs hv => ?_)
      (fun h' st2 => ⟨⟨st2.1, st2.2.1, st2.2.2.1⟩, st2.2.2.2.1.1, st2.2.2.2.2.1⟩) (fun c hc => ?_) (fun T hT => ⟨T, _, _, xs, ys, rfl, hT, rfl, hq1, hq2, hx, hy⟩)
    · have : c = z ∨ c = TO ∨ c = i1 ∨ c = i2 := by simpa using hc
      rcases this with q | q | q | q <;> simp [q]
    · obtain ⟨u1, u2, e1, e2, rfl⟩ := hv
      obtain ⟨v1, hv1, ru1⟩ := rv1.get hx
      obtain ⟨v2, hv2, ru2⟩ := rv2.get hy
      rw [List.getElem?_toArray] at e1 e2
      rw [e1] at hv1
      rw [e2] at hv2
      cases hv1
      cases hv2
      exact .cons ru1 (.cons ru2 .nil)
    · have e' : c = z ∨ c = TI ∨ c = TO ∨ c = i1 ∨ c = i2 := by simpa using hc
      rcases e' with q | q | q | q | q <;> rw [q]
      · exact Heap.lt_size hz
      · exact Heap.lt_size hI
      · exact Heap.lt_size hO'
      · exact Heap.lt_size ho1
      · exact Heap.lt_size ho2
  done := by
    intro X hP hw hK hc i pins s σ H E I hf st hg
    subst hP hw hK
    obtain ⟨⟨hz, hI, hO⟩, h1, h2⟩ := st
    obtain ⟨xs, ys, hq1, hq2, hl⟩ := hg
    obtain ⟨its1, rv1, hh1⟩ := hq1.has I
    obtain ⟨its2, rv2, hh2⟩ := hq2.has I
    have fr : ∀ c ∈ [z, TI, TO, i1, i2], a ≠ c ∧ b ≠ c := fun c hc => ⟨hq1.ne (hf c hc).1, hq2.ne (hf c hc).1⟩
    have nz := fr z (by simp)
    have nTO := fr TO (by simp)
    have n1 := fr i1 (by simp)
    have n2 := fr i2 (by simp)
    have D1 := draws (kd := k1) (prog := X.prog) (w := X.w) (A := X.A.in1) (I.ok.hd hc) i1 a n1.1 its1.toArray
    have D2 := draws (kd := k2) (prog := X.prog) (w := X.w) (A := X.A.in1) (I.ok.hd hc) i2 b n2.2 its2.toArray
    have S : ZipSep2 z TI TO i1 i2 [i1, a] [i2, b] :=
      { TIz := d1, TOz := d2, TITO := d3, TIi1 := d4, mem1 := by simp, zf1 := by simp [d6, nz.1.symm], Tf1 := by simp [d8, nTO.1.symm], TIi2 := d5, mem2 := by simp, zf2 := by simp [d7, nz.2.symm], Tf2 := by simp [d9, nTO.2.symm],
        sep1_2 := by simp [d10, n1.2.symm], sep2_1 := by simp [d10.symm, n2.1.symm] }
    have W := WalksT.zipD2 S D1 D2
    have hn : min its1.toArray.size its2.toArray.size = i := by simp only [List.size_toArray, ← rv1.length, ← rv2.length]; omega
    rw [← hn] at h1 h2
    refine turn_end I hf W (fun c hc => ?_) ⟨hz, hI, hO, ⟨h1, hh1⟩, h2, hh2⟩
    have : c = z ∨ c = TO ∨ c = i1 ∨ c = i2 := by simpa using hc
    rcases this with q | q | q | q <;> simp [q]
  self := fun A i s Q E st h => by
    obtain ⟨⟨hz, _⟩, _⟩ := st
    exact wpAny_pyIter_zip hz h
def iZp (ta : TA) : TI := fun σ H R => ta σ H fun vs H1 => ∃ k1 k2 a b xs ys, vs = [.ref a, .ref b] ∧ Sq k1 H1 a xs ∧ Sq k2 H1 b ys ∧ R (Jzp k1 k2 a b) H1
theorem pi_zp {X : Cx} {e e2 : Expr} {ta : TA} {p pos tpos : Pos} {elts : List Expr} {kk : Nat} (hg : Gl X "zip") (hm : X.mg "zip" = none) (ha : PA X [e, e2] ta)
    (hs : starEach [e, e2] X.env = [(false, eval e X.env), (false, eval e2 X.env)] := by rfl) (hs2 : starEach [e2] X.env = [(false, eval e2 X.env)] := by rfl) :
    PI X (.Tuple elts kk tpos) (.Call (.Name "zip" p) [e, e2] [] pos) (iZp ta) := by
  constructor
  intro pins s σ H R I h
  refine Call_ (ld_blt I hg hm boot_zip (PyProof.Rows.callWith_type1 (thn (ha.run pos pins s σ H _ I h) ?_) (by rw [hs, hs2]) (by rw [hs2]; rfl)))
  rintro us s1 ⟨vs, H1, I1, r1, k1, k2, a, b, xs, ys, ex, hq1, hq2, q⟩
  subst ex
  cases r1 with
  | cons r rr =>
    cases rr with
    | cons r2 rr =>
      cases rr
      cases r
      cases r2
      obtain ⟨its1, rv1, hh1⟩ := hq1.has I1
      obtain ⟨its2, rv2, hh2⟩ := hq2.has I1
      refine zip_begins2 (begins (kd := k1) a its1.toArray) (begins (kd := k2) b its2.toArray) hh1 hh2 fun h' hz hI hO e1 e2 hsz hk => wpAny_pyIter_zip hz ?_
      have I2 : Inv X pins σ H1 { s1 with heap := h' } := I1.kept (t' := s1.toks) hk
      have o1 : ∀ j k : Nat, j ≠ k → s1.heap.objs.size + j ≠ s1.heap.objs.size + k := fun j k ne z => ne (Nat.add_left_cancel z)
      have o0 : ∀ j : Nat, j ≠ 0 → s1.heap.objs.size + j ≠ s1.heap.objs.size := fun j ne z => ne (by omega)
      refine ⟨_, [s1.heap.objs.size + 4, s1.heap.objs.size + 2, s1.heap.objs.size + 3, s1.heap.objs.size, s1.heap.objs.size + 1], _, _, H1, rfl, I2,
        turn_zp k1 k2 a b (s1.heap.objs.size + 4) (s1.heap.objs.size + 2) (s1.heap.objs.size + 3) s1.heap.objs.size (s1.heap.objs.size + 1)
          (o1 _ _ (by decide)) (o1 _ _ (by decide)) (o1 _ _ (by decide)) (o0 _ (by decide)) (o1 _ _ (by decide)) (o0 _ (by decide)) (o1 _ _ (by decide)) (o0 _ (by decide)) (o1 _ _ (by decide)) (o0 1 (by decide)).symm,
        ⟨⟨hz, hI, _, _, hO⟩, itF.new e1, itF.new e2⟩, fun c hc => ?_, q⟩
      have hle : s1.heap.objs.size ≤ c := by
        have e' : c = s1.heap.objs.size + 4 ∨ c = s1.heap.objs.size + 2 ∨ c = s1.heap.objs.size + 3 ∨ c = s1.heap.objs.size ∨ c = s1.heap.objs.size + 1 := by simpa using hc
        rcases e' with z | z | z | z | z <;> rw [z] <;> first | exact Nat.le_add_right _ _ | exact Nat.le_refl _
      exact I1.fpOk hle (I1.hok.fresh hle)
end Mn

/-! Mn6: targets, statements, what is walked, loops, comprehensions. -/
namespace Mn
open PySem PySem.Spec PyProof.Rows L2

/-! ### targets -/
inductive Tg where
  | nm (i : Nat) | tp (ts : List Tg)
mutual
def Tg.vars : Tg → List Nat
  | .nm i => [i]
  | .tp ts => Tg.varss ts
def Tg.varss : List Tg → List Nat
  | [] => []
  | t :: ts => t.vars ++ Tg.varss ts
end
mutual
def asgT : Tg → Dv → DEnv → Option DEnv
  | .nm i, d, ρ => some (ρ.set i (some d))
  | .tp ts, .tup ds, ρ => asgTs ts ds ρ
  | .tp ts, .st ds, ρ => asgTs ts ds ρ
  | .tp _, _, _ => none
def asgTs : List Tg → List Dv → DEnv → Option DEnv
  | [], [], ρ => some ρ
  | t :: ts, d :: ds, ρ => match asgT t d ρ with
    | some ρ' => asgTs ts ds ρ'
    | none => none
  | _, _, _ => none
end
mutual
def gT (K : PySem.W.Frag) : Tg → TG
  | .nm i => gName i
  | .tp ts => gTup K ts.length (gTs K ts)
def gTs (K : PySem.W.Frag) : List Tg → TGs
  | [] => gNil
  | t :: ts => gCons (gT K t) (gTs K ts)
end
/-- σ' is σ but at vs -/
structure But (vs : List Nat) (σ σ' : L2.St) : Prop where
  len : σ'.length = σ.length
  at' : ∀ (i : Nat), i ∉ vs → σ'[i]? = σ[i]?
theorem But.refl (vs : List Nat) (σ : L2.St) : But vs σ σ := ⟨rfl, fun _ _ => rfl⟩
theorem But.trans {vs : List Nat} {a b c : L2.St} (h : But vs a b) (g : But vs b c) : But vs a c := ⟨g.len.trans h.len, fun i hi => (g.at' i hi).trans (h.at' i hi)⟩
theorem But.mono {vs us : List Nat} {a b : L2.St} (h : But vs a b) (s : ∀ i ∈ vs, i ∈ us) : But us a b := ⟨h.len, fun i hi => h.at' i fun z => hi (s i z)⟩
theorem But.set (σ : L2.St) (i : Nat) (x : Option V) : But [i] σ (σ.set i x) := ⟨by simp, fun j hj => by rw [List.getElem?_set_ne (by simpa using fun e => hj (by simp [e]))]⟩
theorem wipe_get (σ : L2.St) : ∀ (vs : List Nat) (i : Nat), (wipe σ vs)[i]? = if i ∈ vs then (if i < σ.length then some none else none) else σ[i]?
  | [], i => by simp [wipe]
  | v :: vs, i => by
    unfold wipe
    by_cases h : v = i
    · subst h
      simp only [List.mem_cons_self, if_true]
      by_cases hl : v < σ.length
      · rw [if_pos hl, List.getElem?_set_self (by rw [wipe_length]; exact hl)]
      · rw [if_neg hl, List.getElem?_eq_none (by rw [List.length_set, wipe_length]; omega)]
    · rw [List.getElem?_set_ne h, wipe_get σ vs i]
      have : (i ∈ v :: vs) = (i ∈ vs) := by
        have h' : ¬ i = v := fun e => h e.symm
        simp [h']
      simp only [this]
theorem wipe_but {vs : List Nat} {σ σ' : L2.St} (h : But vs σ σ') : wipe σ' vs = wipe σ vs := by
  apply List.ext_getElem?
  intro i
  rw [wipe_get, wipe_get, h.len]
  split
  · rfl
  · exact h.at' i (by assumption)
theorem wipe_wipe (σ : L2.St) (vs : List Nat) : wipe (wipe σ vs) vs = wipe σ vs := wipe_but ⟨wipe_length σ vs, fun i hi => by rw [wipe_get, if_neg hi]⟩
section
variable {K : PySem.W.Frag} {H : Hp} {α : List Addr}
mutual
theorem gT_ok : ∀ {T : Tg} {d : Dv} {v : V} {σ : L2.St} {ρ ρ' : DEnv} {Q : L2.St → Hp → Prop}, Rp K H α d v → RS K H α σ ρ → asgT T d ρ = some ρ' → (∀ σ', RS K H α σ' ρ' → But T.vars σ σ' → Q σ' H) → gT K T v σ H Q
  | .nm i, d, v, σ, ρ, ρ', Q, r, rs, e, k => by
    simp only [asgT, Option.some.injEq] at e
    subst e
    exact k _ (rs.set r i) (But.set σ i _)
  | .tp ts, d, v, σ, ρ, ρ', Q, r, rs, e, k => by
    cases d with
    | tup ds =>
      obtain ⟨p, vs, rfl, h1, h2⟩ := rp_tup r
      unfold gT
      have e' : asgTs ts ds ρ = some ρ' := by unfold asgT at e; exact e
      exact ⟨p, vs, rfl, SqT.of h1, by rw [h2.length]; exact (asgTs_len e').symm, gTs_ok h2 rs e' (fun σ' a b => k σ' a (by unfold Tg.vars; exact b))⟩
    | st ds =>
      unfold Rp at r
      obtain ⟨p, vs, rfl, h1, h2⟩ := r
      unfold gT
      have e' : asgTs ts ds ρ = some ρ' := by unfold asgT at e; exact e
      exact ⟨p, vs, rfl, h1.sq, by rw [h2.length]; exact (asgTs_len e').symm, gTs_ok h2 rs e' (fun σ' a b => k σ' a (by unfold Tg.vars; exact b))⟩
    | _ => simp [asgT] at e
theorem gTs_ok : ∀ {ts : List Tg} {ds : List Dv} {vs : List V} {σ : L2.St} {ρ ρ' : DEnv} {Q : L2.St → Hp → Prop}, Rps K H α ds vs → RS K H α σ ρ → asgTs ts ds ρ = some ρ' → (∀ σ', RS K H α σ' ρ' → But (Tg.varss ts) σ σ' → Q σ' H) → gTs K ts vs σ H Q
  | [], ds, vs, σ, ρ, ρ', Q, r, rs, e, k => by
    cases ds with
    | nil =>
      unfold Rps at r
      subst r
      simp only [asgTs, Option.some.injEq] at e
      subst e
      unfold gTs
      exact ⟨rfl, k σ rs (But.refl _ _)⟩
    | cons d ds => simp [asgTs] at e
  | t :: ts, ds, vs, σ, ρ, ρ', Q, r, rs, e, k => by
    cases ds with
    | nil => simp [asgTs] at e
    | cons d ds =>
      unfold Rps at r
      obtain ⟨v, us, rfl, h1, h2⟩ := r
      unfold asgTs at e
      cases e1 : asgT t d ρ with
      | none => rw [e1] at e; cases e
      | some ρ1 =>
        rw [e1] at e
        unfold gTs
        refine ⟨v, us, rfl, gT_ok h1 rs e1 fun σ1 rs1 b1 => gTs_ok h2 rs1 e fun σ2 rs2 b2 => k σ2 rs2 ?_⟩
        unfold Tg.varss
        exact (b1.mono fun i hi => List.mem_append_left _ hi).trans (b2.mono fun i hi => List.mem_append_right _ hi)
theorem asgTs_len : ∀ {ts : List Tg} {ds : List Dv} {ρ ρ' : DEnv}, asgTs ts ds ρ = some ρ' → ts.length = ds.length
  | [], [], _, _, _ => rfl
  | [], _ :: _, _, _, e => by simp [asgTs] at e
  | _ :: _, [], _, _, e => by simp [asgTs] at e
  | t :: ts, d :: ds, ρ, ρ', e => by
    unfold asgTs at e
    cases e1 : asgT t d ρ with
    | none => rw [e1] at e; cases e
    | some ρ1 =>
      rw [e1] at e
      simp [asgTs_len e]
end
end
section
variable {X : Cx}
theorem gm_nm {i : Nat} {x : Str} {pos : Pos} (h : PG X (.Name x pos) (gName i)) : PG X (.Name x pos) (gT X.K (.nm i)) := by unfold gT; exact h
theorem gms_nil : PGs X [] (gTs X.K []) := by unfold gTs; exact pgs_nil
theorem gms_cons {e : Expr} {es : List Expr} {t : Tg} {ts : List Tg} (h1 : PG X e (gT X.K t)) (h2 : PGs X es (gTs X.K ts)) (hs : List.map (fun x => x.snd) (assignEach (e :: es) X.env) = assign e X.env :: List.map (fun x => x.snd) (assignEach es X.env) := by rfl) : PGs X (e :: es) (gTs X.K (t :: ts)) := by unfold gTs; exact pgs_cons h1 h2 hs
theorem gm_tp {es : List Expr} {k : Nat} {ts : List Tg} {pos : Pos} (c : Cf X) (hl : es.length = ts.length) (h : PGs X es (gTs X.K ts)) (h' : PGs X es (gTs X.K ts) → PG X (.Tuple es k pos) (gTup X.K ts.length (gTs X.K ts))) : PG X (.Tuple es k pos) (gT X.K (.tp ts)) := by
  unfold gT
  exact h' h
end

/-! ### statements -/
def sSeq (a b : MS) : MS := fun ρ => do
  let o ← a ρ
  match o with
  | .nx ρ' => b ρ'
  | o => pure o
def sNil : MS := fun ρ => pure (.nx ρ)
def sSet (i : Nat) (e : ME) : MS := fun ρ => do
  let d ← e ρ
  pure (.nx (ρ.set i (some d)))
def sAsg (T : Tg) (e : ME) : MS := fun ρ => do
  let d ← e ρ
  let ρ' ← MX.opt (asgT T d ρ)
  pure (.nx ρ')
def sDrop (e : ME) : MS := fun ρ => do
  let _ ← e ρ
  pure (.nx ρ)
def sRet (e : ME) : MS := fun ρ => do
  let d ← e ρ
  pure (.rt d)
def sRetN : MS := fun _ => pure (.rt .non)
def sIf (c : DEnv → MX Bool) (a b : MS) : MS := fun ρ => do
  let k ← c ρ
  if k then a ρ else b ρ
def sBrk : MS := fun ρ => pure (.bk ρ)
def sCt : MS := fun ρ => pure (.ct ρ)
def sAug (i : Nat) (o : Dv → Dv → MX Dv) (e : ME) : MS := fun ρ => do
  let x ← MX.opt (ρ.getD i none)
  let y ← e ρ
  let z ← o x y
  pure (.nx (ρ.set i (some z)))
/-- o[i] = v -/
def setO (x y v : Dv) : MX Unit := fun _ θ Q => match x with
  | .obj k => (match θ[k]? with
    | some (.lst ds) => (match y with
      | .int i => (match ixN ds.length i with
        | some j => Q () (θ.set k (.lst (ds.set j v)))
        | none => False)
      | _ => False)
    | some (.dK kvs) => (match fKey y with
      | some q => kvs.length < sizeLine ∧ Q () (θ.set k (.dK (putD kvs q v)))
      | none => False)
    | some (.dT kvs) => (match tKey y with
      | some q => kvs.length < sizeLine ∧ Q () (θ.set k (.dT (putD kvs q v)))
      | none => False)
    | _ => False)
  | _ => False
def sPut (o i e : ME) : MS := fun ρ => do
  let v ← e ρ
  let x ← o ρ
  let y ← i ρ
  setO x y v
  pure (.nx ρ)
def sWhileGo (c : DEnv → MX Bool) (b : MS) : Nat → DEnv → MX Out
  | 0, _ => MX.stuck
  | n + 1, ρ => do
    let k ← c ρ
    if k then do
      let o ← b ρ
      match o with
      | .nx ρ' => sWhileGo c b n ρ'
      | .ct ρ' => sWhileGo c b n ρ'
      | .bk ρ' => pure (.nx ρ')
      | .rt d => pure (.rt d)
    else pure (.nx ρ)
def sWhile (c : DEnv → MX Bool) (b : MS) : MS := fun ρ E θ Q => ∃ n, sWhileGo c b n ρ E θ Q

section
variable {X : Cx} {W : Wd X.K X.mg} {st : Stmt} {sts : List Stmt} {pos : Pos}
theorem sm_nil : PSs X [] (tS W sNil) := pss_w pss_nil fun D σ H ⟨ρ, α, θ, Qm, at', rs, q, u⟩ => u (.nx ρ) θ α H q at'.ok Nx.refl σ rs
theorem sm_one {m : MS} (h : PS X st (tS W m)) : PSs X [st] (tS W m) := pss_one h
theorem sm_cons {a b : MS} (h1 : PS X st (tS W a)) (h2 : PSs X sts (tS W b)) : PSs X (st :: sts) (tS W (sSeq a b)) :=
  pss_w (pss_cons h1 h2) fun D σ H ⟨ρ, α, θ, Qm, at', rs, q, u⟩ => ⟨ρ, α, θ, _, at', rs, q, fun o θ1 α1 H1 q1 ok1 nx1 => by
    cases o with
    | nx ρ1 => exact fun σ1 rs1 => ⟨ρ1, α1, θ1, Qm, ⟨ok1, at'.nx.trans nx1⟩, rs1, q1, u.mono nx1⟩
    | rt d => exact u (.rt d) θ1 α1 H1 q1 ok1 nx1
    | bk ρ1 => exact u (.bk ρ1) θ1 α1 H1 q1 ok1 nx1
    | ct ρ1 => exact u (.ct ρ1) θ1 α1 H1 q1 ok1 nx1⟩
theorem ts_set {i : Nat} {m : ME} (D : Ends) (σ : L2.St) (H : Hp) : tS W (sSet i m) D σ H → tAsg (tM W m) (gName i) D σ H := fun ⟨ρ, α, θ, Qm, at', rs, q, u⟩ =>
  ⟨ρ, α, θ, _, at', rs, q, fun d θ1 α1 H1 v q1 ok1 nx1 r1 => u _ θ1 α1 H1 q1 ok1 nx1 _ ((rs.mono nx1).set r1 i)⟩
theorem sm_setLc {i : Nat} {m : ME} {t : TE} (h : PS X st (tAsg t (gName i))) (w : ∀ σ H Q, tM W m σ H Q → t σ H Q) : PS X st (tS W (sSet i m)) := ps_w h fun D σ H q => w σ H _ (ts_set D σ H q)
theorem sm_asg {T : Tg} {m : ME} (h : PS X st (tAsg (tM W m) (gT X.K T))) : PS X st (tS W (sAsg T m)) := ps_w h fun D σ H ⟨ρ, α, θ, Qm, at', rs, q, u⟩ =>
  ⟨ρ, α, θ, _, at', rs, q, fun d θ1 α1 H1 v q1 ok1 nx1 r1 => by
    have q2 : (MX.opt (asgT T d ρ) : MX DEnv) W.En θ1 (fun ρ' θ' => Qm (.nx ρ') θ') := q1
    cases e : asgT T d ρ with
    | none => rw [e] at q2; exact False.elim q2
    | some ρ1 =>
      rw [e] at q2
      exact gT_ok r1 (rs.mono nx1) e fun σ1 rs1 _ => u _ θ1 α1 H1 q2 ok1 nx1 σ1 rs1⟩
theorem sm_drop {m : ME} (h : PS X st (tDrop (tM W m))) : PS X st (tS W (sDrop m)) := ps_w h fun D σ H ⟨ρ, α, θ, Qm, at', rs, q, u⟩ =>
  ⟨ρ, α, θ, _, at', rs, q, fun d θ1 α1 H1 v q1 ok1 nx1 r1 => u _ θ1 α1 H1 q1 ok1 nx1 σ (rs.mono nx1)⟩
theorem sm_ret {e : Expr} {m : ME} (h : PE X e (tM W m)) : PS X (.Return (some e) pos) (tS W (sRet m)) := ps_w (ps_ret h) fun D σ H ⟨ρ, α, θ, Qm, at', rs, q, u⟩ =>
  ⟨ρ, α, θ, _, at', rs, q, fun d θ1 α1 H1 v q1 ok1 nx1 r1 => u _ θ1 α1 H1 q1 ok1 nx1 v r1⟩
theorem sm_if {c : Expr} {a b : List Stmt} {mc : DEnv → MX Bool} {ma mb : MS} (hc : PT X c (tMb W mc)) (ha : PSs X a (tS W ma)) (hb : PSs X b (tS W mb)) : PS X (.If c a b pos) (tS W (sIf mc ma mb)) :=
  ps_w (ps_if hc ha hb) fun D σ H ⟨ρ, α, θ, Qm, at', rs, q, u⟩ => ⟨ρ, α, θ, _, at', rs, q, fun k θ1 α1 H1 q1 ok1 nx1 => by
    cases k with
    | true => exact iteT ⟨ρ, α1, θ1, Qm, ⟨ok1, at'.nx.trans nx1⟩, rs.mono nx1, q1, u.mono nx1⟩
    | false => exact iteF ⟨ρ, α1, θ1, Qm, ⟨ok1, at'.nx.trans nx1⟩, rs.mono nx1, q1, u.mono nx1⟩⟩
def IpM (W : Wd X.K X.mg) (op : Operator) (o : Dv → Dv → MX Dv) : Prop := PIp X op (rM2 W o)
theorem sm_aug {i : Nat} {o : Dv → Dv → MX Dv} {m : ME} (h : PS X st (tAug i (tM W m) (rM2 W o))) : PS X st (tS W (sAug i o m)) := ps_w h fun D σ H ⟨ρ, α, θ, Qm, at', rs, q, u⟩ => by
  have q' : (MX.opt (ρ.getD i none) : MX Dv) W.En θ (fun x θ1 => m ρ W.En θ1 fun y θ2 => o x y W.En θ2 fun z θ3 => Qm (.nx (ρ.set i (some z))) θ3) := q
  cases e : ρ.getD i none with
  | none => rw [e] at q'; exact False.elim q'
  | some d =>
    rw [e] at q'
    have e' : ρ[i]? = some (some d) := by
      rw [List.getD_eq_getElem?_getD] at e
      cases z : ρ[i]? with
      | none => rw [z] at e; cases e
      | some o => rw [z] at e; rw [show o = some d from e]
    obtain ⟨v, h1, h2⟩ := rs.2 i d e'
    refine ⟨v, h1, ρ, α, θ, _, at', rs, q', fun y θ1 α1 H1 vy q1 ok1 nx1 r1 => ?_⟩
    exact ⟨α1, θ1, d, y, _, ⟨ok1, at'.nx.trans nx1⟩, h2.mono nx1, r1, q1, fun z θ2 α2 H2 vz q2 ok2 nx2 r2 => u _ θ2 α2 H2 q2 ok2 (nx1.trans nx2) _ ((rs.mono (nx1.trans nx2)).set r2 i)⟩
theorem ipm_of {op : Operator} {r : TIp} {o : Dv → Dv → MX Dv} (h : PIp X op r) (w : ∀ {H : Hp} {α : List Addr} {θ : Th} {dx dy : Dv} {x y : V} {Qm : Dv → Th → Prop} {Q : VK}, At W H α θ → Rp X.K H α dx x → Rp X.K H α dy y → o dx dy W.En θ Qm → Up X.K H α Qm Q → r x y H Q) : IpM W op o :=
  fun pins s σ H x y v u Q I rx ry ⟨_, _, _, _, _, h1, h2, h3, h4, h5⟩ => h pins s σ H x y v u Q I rx ry (w h1 h2 h3 h4 h5)
theorem ipm_addI : IpM W .Add oAddI := ipm_of ip_add fun {H α θ dx dy x y Qm Q} a r1 r2 q u => by
  cases dx <;> cases dy <;> first | exact False.elim q | skip
  cases of_int r1; cases of_int r2; exact ⟨_, _, rfl, rfl, up_same u a q rp_int⟩
/-! stores to a place -/
theorem PSet.w {t t' : TSet} (h : PSet X t) (w : ∀ o i v H Q, t' o i v H Q → t o i v H Q) : PSet X t' := fun pins s σ H o i v ov iv u Q I r1 r2 r3 q => h pins s σ H o i v ov iv u Q I r1 r2 r3 (w o i v H Q q)
theorem PSet.or {t t' : TSet} (h : PSet X t) (h' : PSet X t') : PSet X (fun o i v H Q => t o i v H Q ∨ t' o i v H Q) := fun pins s σ H o i v ov iv u Q I r1 r2 r3 q => q.elim (fun q => h pins s σ H o i v ov iv u Q I r1 r2 r3 q) (fun q => h' pins s σ H o i v ov iv u Q I r1 r2 r3 q)
def rSetD : TSet := fun o i v H Q => ∃ a H', o = .ref a ∧ DPut H a i v H' ∧ Q H'
theorem set_dict (c : Cf X) : PSet X rSetD := fun pins s σ H o i v ov iv u Q I r1 r2 r3 ⟨a, H', e, g, q⟩ => by
  subst e
  cases (show ov = Value.ref a from r1)
  exact d_setItem (by have := c.un; omega) I g r2 r3 fun s' I' => ⟨H', I', q⟩
def rSetM (W : Wd X.K X.mg) : TSet := fun o i v H Q => ∃ α θ dx dy dv Qm, At W H α θ ∧ Rp X.K H α dx o ∧ Rp X.K H α dy i ∧ Rp X.K H α dv v ∧ setO dx dy dv W.En θ Qm ∧ ∀ θ' H', Qm () θ' → Okk X.K H' α θ' → Nx X.K H α H' α → Q H'
theorem set_any (c : Cf X) : PSet X (rSetM W) := PSet.w (PSet.or set_list (set_dict c)) fun o i v H Q ⟨α, θ, dx, dy, dv, Qm, a, r1, r2, r3, q, k⟩ => by
  unfold setO at q
  split at q
  · rename_i n
    have r1' := r1
    unfold Rp at r1
    obtain ⟨p, e1, rfl⟩ := r1
    split at q
    · rename_i ds e2
      split at q
      · rename_i z
        cases of_int r2
        split at q
        · rename_i j hj
          obtain ⟨vs, h1, h2⟩ := a.ok.ob n p _ e1 e2
          have nx := Nx.chg (o := .lst (vs.set j v)) (a.ok.ob n p _ e1 e2)
          exact .inl ⟨p, vs, z, j, rfl, rfl, h1, by rw [h2.length]; exact hj, k _ _ q (a.ok.chg e1 e2 ⟨_, upd_same, (h2.set r3).mono nx⟩) nx⟩
        · exact q.elim
      · exact q.elim
    · rename_i kvs e2
      split at q
      · rename_i k' hk
        obtain ⟨vs, h1, h2⟩ := a.ok.ob n p _ e1 e2
        have ex := fKey_v hk r2
        subst ex
        have nx := Nx.chg (o := .dK (putK vs k' v)) (a.ok.ob n p _ e1 e2)
        exact .inr ⟨p, _, rfl, DPut.k h1 (by rw [h2.length]; exact q.1), k _ _ q.2 (a.ok.chg e1 e2 ⟨_, upd_same, (h2.put k' r3).mono nx⟩) nx⟩
      · exact q.elim
    · rename_i kvs e2
      split at q
      · rename_i k' hk
        obtain ⟨vs, h1, h2⟩ := a.ok.ob n p _ e1 e2
        obtain ⟨b, rfl, hb⟩ := tKey_v hk r2
        have nx := Nx.chg (o := .dT (putK vs k' v)) (a.ok.ob n p _ e1 e2)
        exact .inr ⟨p, _, rfl, DPut.t h1 hb (by rw [h2.length]; exact q.1), k _ _ q.2 (a.ok.chg e1 e2 ⟨_, upd_same, (h2.put k' r3).mono nx⟩) nx⟩
      · exact q.elim
    · exact q.elim
  · exact q.elim
theorem sm_put {o i e : Expr} {mo mi m : ME} {pos' : Pos} (c : Cf X) (he : PE X e (tM W m)) (ho : PE X o (tM W mo)) (hi : PE X i (tM W mi))
    (pg : ∀ t, PSet X t → PG X (.Subscript o i pos') (gSub (tM W mo) (tM W mi) t)) (ps : ∀ g, PG X (.Subscript o i pos') g → PS X st (tAsg (tM W m) g)) : PS X st (tS W (sPut mo mi m)) :=
  ps_w (ps _ (pg _ (set_any (W := W) c))) fun D σ H ⟨ρ, α, θ, Qm, at', rs, q, u⟩ => ⟨ρ, α, θ, _, at', rs, q, fun d θ1 α1 H1 v q1 ok1 nx1 r1 =>
    ⟨ρ, α1, θ1, _, ⟨ok1, at'.nx.trans nx1⟩, rs.mono nx1, q1, fun d2 θ2 α2 H2 v2 q2 ok2 nx2 r2 => ⟨ρ, α2, θ2, _, ⟨ok2, (at'.nx.trans nx1).trans nx2⟩, rs.mono (nx1.trans nx2), q2, fun d3 θ3 α3 H3 v3 q3 ok3 nx3 r3 =>
      ⟨α3, θ3, d2, d3, d, _, ⟨ok3, ((at'.nx.trans nx1).trans nx2).trans nx3⟩, r2.mono nx3, r3, r1.mono (nx2.trans nx3), q3, fun θ4 H4 q4 ok4 nx4 =>
        u _ θ4 α3 H4 q4 ok4 (((nx1.trans nx2).trans nx3).trans nx4) σ (rs.mono (((nx1.trans nx2).trans nx3).trans nx4))⟩⟩⟩⟩
theorem sm_while {c : Expr} {b : List Stmt} {mc : DEnv → MX Bool} {mb : MS} (hp : PassesOwn (model X.prog X.w) X.A X.env X.xe) (hc : PT X c (tMb W mc)) (hb : PSs X b (tS W mb)) : PS X (.While c b [] pos) (tS W (sWhile mc mb)) :=
  ps_w (ps_while hp hc hb) fun D σ H ⟨ρ, α, θ, Qm, at', rs, ⟨n, q⟩, u⟩ => by
    refine ⟨fun m σ1 H1 => ∃ ρ1 α1 θ1, At W H1 α1 θ1 ∧ RS X.K H1 α1 σ1 ρ1 ∧ Nx X.K H α H1 α1 ∧ sWhileGo mc mb m ρ1 W.En θ1 Qm, ⟨n, ρ, α, θ, at', rs, Nx.refl, q⟩, ?_⟩
    rintro m σ1 H1 ⟨ρ1, α1, θ1, at1, rs1, nx1, q1⟩
    cases m with
    | zero => exact False.elim q1
    | succ m =>
      refine ⟨ρ1, α1, θ1, _, at1, rs1, q1, fun k θ2 α2 H2 q2 ok2 nx2 => ?_⟩
      have at2 : At W H2 α2 θ2 := ⟨ok2, at1.nx.trans nx2⟩
      cases k with
      | false => exact iteF (u _ θ2 α2 H2 q2 ok2 (nx1.trans nx2) σ1 (rs1.mono nx2))
      | true =>
        refine iteT ⟨fun σ3 H3 => ∃ ρ3 α3 θ3, At W H3 α3 θ3 ∧ RS X.K H3 α3 σ3 ρ3 ∧ Nx X.K H α H3 α3 ∧ sWhileGo mc mb m ρ3 W.En θ3 Qm, fun σ3 H3 h3 => ⟨m, Nat.lt_succ_self m, h3⟩, ?_⟩
        refine ⟨ρ1, α2, θ2, _, at2, rs1.mono nx2, q2, fun o θ3 α3 H3 q3 ok3 nx3 => ?_⟩
        have nx03 := (nx1.trans nx2).trans nx3
        cases o with
        | nx ρ3 => exact fun σ3 rs3 => ⟨ρ3, α3, θ3, ⟨ok3, at2.nx.trans nx3⟩, rs3, nx03, q3⟩
        | ct ρ3 => exact fun σ3 rs3 => ⟨ρ3, α3, θ3, ⟨ok3, at2.nx.trans nx3⟩, rs3, nx03, q3⟩
        | bk ρ3 => exact fun σ3 rs3 => u (.nx ρ3) θ3 α3 H3 q3 ok3 nx03 σ3 rs3
        | rt d => exact fun v r => u (.rt d) θ3 α3 H3 q3 ok3 nx03 v r
end
end Mn

/-! Mn7: what is walked; for; comprehensions. -/
namespace Mn
open PySem PySem.Spec PyProof.Rows L2

/-! ### a sequence or a text, whichever the value is -/
def iSeq (K : PySem.W.Frag) (tl : TE) : TI := fun σ H R => tl σ H fun x H1 => (∃ a xs, x = .ref a ∧ SqL K H1 a xs ∧ R (Itl K a) H1) ∨ (∃ a xs, x = .ref a ∧ SqT K H1 a xs ∧ R (Itt K a) H1) ∨ ∃ z, x = .str z ∧ R (Its z) H1
theorem pi_seq {X : Cx} {tg l : Expr} {tl : TE} (hl : PE X l tl) : PI X tg l (iSeq X.K tl) := by
  constructor
  intro pins s σ H R I h
  refine thn (hl.run pins s σ H _ I h) ?_
  rintro v s1 ⟨x, H1, I1, r1, ⟨a, xs, e, hq, q⟩ | ⟨a, xs, e, hq, q⟩ | ⟨z, e, q⟩⟩
  · subst e
    cases r1
    obtain ⟨its, rv, p, hz⟩ := I1.list hq
    exact wpAny_pyIter_list p.isList (pi_one (tk := s1.toks) I1 _ (turn_list a _) ⟨_, Heap.get?_push_size _ rfl, rfl, rfl⟩ q)
  · subst e
    cases r1
    obtain ⟨its, rv, p, hz⟩ := I1.tuple hq
    exact wpAny_pyIter_tuple (show s1.heap.IsTuple a its.toArray from p) (pi_one (tk := s1.toks) I1 _ (turn_tuple a _) ⟨_, Heap.get?_push_size _ rfl, rfl, rfl⟩ q)
  · subst e
    obtain ⟨t, rfl⟩ := r1
    cases ha : z.cps.all (· < 128)
    · exact wpAny_pyIter_wide ha (pi_one (tk := s1.toks) I1 _ (turn_str _ z t "str_iterator" (.inr rfl)) ⟨_, Heap.get?_push_size _ rfl, rfl, rfl⟩ q)
    · exact wpAny_pyIter_ascii ha (pi_one (tk := s1.toks) I1 _ (turn_str _ z t "str_ascii_iterator" (.inl rfl)) ⟨_, Heap.get?_push_size _ rfl, rfl, rfl⟩ q)

/-! ### the values of a locked dict, whatever its keys -/
def Lkv (H : Hp) (d : Addr) (o : Obj) (vs : List V) : Prop := (∃ kvs : List (Key × V), H d = some (.frz o (.dK kvs)) ∧ kvs.map (·.2) = vs) ∨ ∃ kvs : List (List Key × V), H d = some (.frz o (.dT kvs)) ∧ kvs.map (·.2) = vs
theorem Lkv.at {X : Cx} {pins : List (Addr × Obj)} {σ : L2.St} {H : Hp} {s : Shared} {d : Addr} {o : Obj} {vs : List V} (I : Inv X pins σ H s) (h : Lkv H d o vs) :
    (d == sysModules) = false ∧ s.heap.get? d = some o ∧ ∃ es ep, s.heap.DictRaw d es ep ∧ o.data = .dict es ep ∧ es.size = vs.length ∧ ∀ (i : Nat) (hi : i < es.size) (x : V), vs[i]? = some x → RelV x es[i].val := by
  rcases h with ⟨kvs, h, e⟩ | ⟨kvs, h, e⟩
  · obtain ⟨ho, hs, hd, us, rel, dd⟩ := (show ObjOk X.prog X.w H s.heap d (.frz o (.dK kvs)) from I.hok d _ h)
    obtain ⟨es, ep, raw, hsz, hv⟩ := dd.raw
    obtain ⟨o', ho', hx, hdt⟩ := id raw
    rw [ho] at ho'
    cases ho'
    have l2 : kvs.length = us.length := Paired.length rel
    refine ⟨hd, ho, es, ep, raw, hdt, by rw [hsz, ← e, List.length_map, l2], fun i hi x hx => ?_⟩
    rw [← e, List.getElem?_map] at hx
    obtain ⟨⟨k, v⟩, h1, h2⟩ := Option.map_eq_some_iff.mp hx
    cases h2
    obtain ⟨u, hu, ru⟩ := kv_get rel h1
    rw [(hv i hi k u hu).2]
    exact ru
  · obtain ⟨ho, hs, hd, us, rel, dd⟩ := (show ObjOk X.prog X.w H s.heap d (.frz o (.dT kvs)) from I.hok d _ h)
    obtain ⟨o', es, ep, ho', hx, hdt, he, _⟩ := dd
    rw [ho] at ho'
    cases ho'
    have l2 : kvs.length = us.length := Paired.length rel
    have hsz : es.size = us.length := size_of_entries he
    refine ⟨hd, ho, es, ep, ⟨o, ho, hx, hdt⟩, hdt, by rw [hsz, ← e, List.length_map, l2], fun i hi x hx => ?_⟩
    rw [← e, List.getElem?_map] at hx
    obtain ⟨⟨k, v⟩, h1, h2⟩ := Option.map_eq_some_iff.mp hx
    cases h2
    obtain ⟨b, hb, _, _, ru⟩ := paired_get rel h1
    have q := entry_at he i
    rw [hb, Array.getElem?_eq_getElem hi] at q
    have q' : es[i] = entryOfKey _ b := Option.some.inj q
    rw [q']
    exact ru
/-! ### sources by data -/
inductive Sd where
  | T (ds : List Dv) | L (k : Nat)
def lstAt (θ : Th) (k : Nat) : Option (List Dv) := match θ[k]? with
  | some (.lst ds) => some ds
  | _ => none
def Sd.items (θ : Th) : Sd → Option (List Dv)
  | .T ds => some ds
  | .L k => lstAt θ k
inductive Src where
  | sd (s : Sd) | en (s : Sd) | enS (k : Int) (s : Sd) | zp (s t : Sd) | rng (lo c : Int) (n : Nat) | str (z : Str) | vals (k : Nat)
def enAt (o : Option (List Dv)) (i : Nat) : Option (Option Dv) := match o with
  | some ds => if i ≤ ds.length then some (ds[i]?.map fun d => .tup [.int (i : Nat), d]) else none
  | none => none
def enSAt (k : Int) (o : Option (List Dv)) (i : Nat) : Option (Option Dv) := match o with
  | some ds => if i ≤ ds.length then some (ds[i]?.map fun d => .tup [.int (k + (i : Nat)), d]) else none
  | none => none
def pairO (d e : Option Dv) : Option Dv := match d, e with
  | some d, some e => some (.tup [d, e])
  | _, _ => none
def zpAt (o o' : Option (List Dv)) (i : Nat) : Option (Option Dv) := match o, o' with
  | some ds, some es => if i < min ds.length es.length then some (pairO ds[i]? es[i]?) else if i = min ds.length es.length then some none else none
  | _, _ => none
def vlAt (o : Option Ob) (i : Nat) : Option (Option Dv) := match o with
  | some (.dKf kvs) => some ((kvs.map (·.2))[i]?)
  | some (.dTf kvs) => some ((kvs.map (·.2))[i]?)
  | _ => none
def Src.at (θ : Th) : Src → Nat → Option (Option Dv)
  | .sd s, i => (s.items θ).map (·[i]?)
  | .en s, i => enAt (s.items θ) i
  | .enS k s, i => enSAt k (s.items θ) i
  | .zp s t, i => zpAt (s.items θ) (t.items θ) i
  | .rng lo c n, i => some (if i < n then some (.int (lo + (i : Nat) * c)) else none)
  | .str z, i => some (z.cps[i]?.map fun c => .str ⟨#[c]⟩)
  | .vals k, i => vlAt θ[k]? i
abbrev Wk (K : PySem.W.Frag) (J : It) (i : Nat) (H1 : Hp) (α1 : List Addr) (θ1 : Th) (r : Option Dv) : Prop := match r with
  | some d => J.go i H1 ∧ ∀ x H2, J.yld i H1 x H2 → Okk K H2 α1 θ1 ∧ Nx K H1 α1 H2 α1 ∧ Rp K H2 α1 d x
  | none => J.stop i H1
/-- the iterator J gives what src says, wherever the store has come from here -/
def Walks (K : PySem.W.Frag) (src : Src) (H : Hp) (α : List Addr) (J : It) : Prop :=
  ∀ H1 α1 θ1, Nx K H α H1 α1 → Okk K H1 α1 θ1 → ∀ (i : Nat) r, src.at θ1 i = some r → Wk K J i H1 α1 θ1 r
section
variable {X : Cx} {W : Wd X.K X.mg}
def tIm (W : Wd X.K X.mg) (m : DEnv → MX Src) : TI := fun σ H R => ∃ ρ α θ Qm, At W H α θ ∧ RS X.K H α σ ρ ∧ m ρ W.En θ Qm ∧ ∀ src θ' α' H', Qm src θ' → Okk X.K H' α' θ' → Nx X.K H α H' α' → ∀ J, Walks X.K src H' α' J → R J H'
theorem pi_w {tg e : Expr} {t t' : TI} (h : PI X tg e t) (w : ∀ σ H R, t' σ H R → t σ H R) : PI X tg e t' := ⟨fun pins s σ H R I q => h.run pins s σ H R I (w σ H R q)⟩
/-- what is known of a side -/
theorem Sd.sq {H : Hp} {α : List Addr} {θ : Th} {s : Sd} {ds : List Dv} {a : Addr} {kd : Bool} (h : match s with
    | .T es => ∃ vs, kd = false ∧ H a = some (.tup vs) ∧ Rps X.K H α es vs
    | .L k => kd = true ∧ α[k]? = some a) (ok : Okk X.K H α θ) (e : s.items θ = some ds) : ∃ vs, Sq kd H a vs ∧ Rps X.K H α ds vs := by
  cases s with
  | T es =>
    obtain ⟨vs, rfl, h1, h2⟩ := h
    cases e
    exact ⟨vs, h1, h2⟩
  | L k =>
    obtain ⟨rfl, h1⟩ := h
    have e : lstAt θ k = some ds := e
    unfold lstAt at e
    split at e
    · rename_i es e2
      cases e
      obtain ⟨vs, h3, h4⟩ := ok.ob k a _ h1 e2
      exact ⟨vs, h3, h4⟩
    · cases e
def Side (H : Hp) (α : List Addr) (K : PySem.W.Frag) (s : Sd) (kd : Bool) (a : Addr) : Prop := match s with
  | .T es => ∃ vs, kd = false ∧ H a = some (.tup vs) ∧ Rps K H α es vs
  | .L k => kd = true ∧ α[k]? = some a
theorem Side.mono {K : PySem.W.Frag} {H H' : Hp} {α α' : List Addr} {s : Sd} {kd : Bool} {a : Addr} (h : Side H α K s kd a) (n : Nx K H α H' α') : Side H' α' K s kd a := by
  cases s with
  | T es =>
    obtain ⟨vs, e, h1, h2⟩ := h
    exact ⟨vs, e, n.tup a vs h1, h2.mono n⟩
  | L k =>
    obtain ⟨e, h1⟩ := h
    exact ⟨e, n.at h1⟩
theorem Side.sq {H : Hp} {α : List Addr} {θ : Th} {s : Sd} {ds : List Dv} {a : Addr} {kd : Bool} (h : Side H α X.K s kd a) (ok : Okk X.K H α θ) (e : s.items θ = some ds) : ∃ vs, Sq kd H a vs ∧ Rps X.K H α ds vs := Sd.sq h ok e
/-- what a value is as a side -/
def asSd : Dv → MX Sd
  | .tup ds => pure (.T ds)
  | .obj k => fun _ θ Q => (match θ[k]? with
    | some (.lst _) => Q (.L k) θ
    | _ => False)
  | _ => MX.stuck
theorem asSd_up {H : Hp} {α : List Addr} {θ : Th} {d : Dv} {x : V} {E : Exn → Th → Prop} {Qm : Sd → Th → Prop} (ok : Okk X.K H α θ) (r : Rp X.K H α d x) (q : asSd d E θ Qm) : ∃ s kd a vs, Qm s θ ∧ Side H α X.K s kd a ∧ x = .ref a ∧ Sq kd H a vs := by
  cases d with
  | tup ds =>
    obtain ⟨p, vs, rfl, h1, h2⟩ := rp_tup r
    exact ⟨.T ds, false, p, vs, q, ⟨vs, rfl, h1, h2⟩, rfl, h1⟩
  | obj k =>
    unfold Rp at r
    obtain ⟨p, e1, rfl⟩ := r
    have q' : (match θ[k]? with
      | some (.lst _) => Qm (.L k) θ
      | _ => False) := q
    split at q'
    · rename_i ds e2
      obtain ⟨vs, h1, _⟩ := ok.ob k p _ e1 e2
      exact ⟨.L k, true, p, vs, q', ⟨rfl, e1⟩, rfl, h1⟩
    · exact q'.elim
  | _ => exact False.elim q
def srcV (a : ME) : DEnv → MX Src := fun ρ => do
  let d ← a ρ
  match d with
  | .str z => pure (.str z)
  | .pt ds => pure (.sd (.T ds))
  | .st ds => pure (.sd (.T ds))
  | d => do
    let s ← asSd d
    pure (.sd s)
theorem walks_sd {H : Hp} {α : List Addr} {s : Sd} {kd : Bool} {a : Addr} (h : Side H α X.K s kd a) : Walks X.K (.sd s) H α (if kd then Itl X.K a else Itt X.K a) := by
  intro H1 α1 θ1 nx ok i r e
  unfold Src.at at e
  obtain ⟨ds, e1, rfl⟩ := Option.map_eq_some_iff.mp e
  obtain ⟨vs, hq, rs⟩ := (h.mono nx).sq ok e1
  cases e2 : ds[i]? with
  | some d =>
    obtain ⟨v, hv, rv⟩ := rs.get e2
    cases kd with
    | true => exact ⟨⟨vs, v, SqL.of hq, hv⟩, fun x H2 y => by
        obtain ⟨rfl, y⟩ := y
        have := y vs (SqL.of hq)
        rw [hv] at this
        cases this
        exact ⟨ok, Nx.refl, rv⟩⟩
    | false => exact ⟨⟨vs, v, SqT.of hq, hv⟩, fun x H2 y => by
        obtain ⟨rfl, y⟩ := y
        have := y vs (SqT.of hq)
        rw [hv] at this
        cases this
        exact ⟨ok, Nx.refl, rv⟩⟩
  | none =>
    have hl : vs.length ≤ i := by rw [rs.length]; exact List.getElem?_eq_none_iff.mp e2
    cases kd with
    | true => exact ⟨vs, SqL.of hq, hl⟩
    | false => exact ⟨vs, SqT.of hq, hl⟩
theorem Rd.fz {H : Hp} {a : Addr} {o : Obj} {u : HO} (h : H a = some (.frz o u)) : Rd H a u := .inr ⟨o, h⟩
theorem SqT.fz {H : Hp} {a : Addr} {o : Obj} {vs : List V} (h : H a = some (.frz o (.tup vs))) : SqT X.K H a vs := .inl (Rd.fz h)
theorem walks_pt {H : Hp} {α : List Addr} {p : Addr} {o : Obj} {vs : List V} {ds : List Dv} (h : H p = some (.frz o (.tup vs))) (rs : Rps X.K H α ds vs) : Walks X.K (.sd (.T ds)) H α (Itt X.K p) := by
  intro H1 α1 θ1 nx ok i r e
  unfold Src.at at e
  obtain ⟨ds', e1, rfl⟩ := Option.map_eq_some_iff.mp e
  cases e1
  have hq : SqT X.K H1 p vs := SqT.fz (nx.fz p o _ h)
  have rs := rs.mono nx
  cases e2 : ds[i]? with
  | some d =>
    obtain ⟨v, hv, rv⟩ := rs.get e2
    exact ⟨⟨vs, v, hq, hv⟩, fun x H2 y => by
        obtain ⟨rfl, y⟩ := y
        have := y vs hq
        rw [hv] at this
        cases this
        exact ⟨ok, Nx.refl, rv⟩⟩
  | none => exact ⟨vs, hq, by rw [rs.length]; exact List.getElem?_eq_none_iff.mp e2⟩
theorem walks_st {H : Hp} {α : List Addr} {p : Addr} {vs : List V} {ds : List Dv} (h : StT X.K p vs) (rs : Rps X.K H α ds vs) : Walks X.K (.sd (.T ds)) H α (Itt X.K p) := by
  intro H1 α1 θ1 nx ok i r e
  unfold Src.at at e
  obtain ⟨ds', e1, rfl⟩ := Option.map_eq_some_iff.mp e
  cases e1
  have hq : SqT X.K H1 p vs := h.sq
  have rs := rs.mono nx
  cases e2 : ds[i]? with
  | some d =>
    obtain ⟨v, hv, rv⟩ := rs.get e2
    exact ⟨⟨vs, v, hq, hv⟩, fun x H2 y => by
        obtain ⟨rfl, y⟩ := y
        have := y vs hq
        rw [hv] at this
        cases this
        exact ⟨ok, Nx.refl, rv⟩⟩
  | none => exact ⟨vs, hq, by rw [rs.length]; exact List.getElem?_eq_none_iff.mp e2⟩
theorem pim_seq {tg e : Expr} {a : ME} (he : PE X e (tM W a)) : PI X tg e (tIm W (srcV a)) := pi_w (pi_seq he) fun σ H R ⟨ρ, α, θ, Qm, at', rs, q, k⟩ => ⟨ρ, α, θ, _, at', rs, q, fun d θ1 α1 H1 v q1 ok1 nx1 r1 => by
  cases d with
  | str z =>
    cases of_str r1
    refine .inr (.inr ⟨z, rfl, k _ θ1 α1 H1 q1 ok1 nx1 _ ?_⟩)
    intro H2 α2 θ2 nx2 ok2 i r e
    unfold Src.at at e
    cases e
    cases e2 : z.cps[i]? with
    | some c => exact ⟨(Array.getElem?_eq_some_iff.mp e2).1, fun x H3 y => by
        obtain ⟨rfl, c', h1, rfl⟩ := y
        rw [e2] at h1
        cases h1
        exact ⟨ok2, Nx.refl, rp_str⟩⟩
    | none => exact Array.getElem?_eq_none_iff.mp e2
  | tup ds =>
    obtain ⟨s, kd, b, vs, q2, sd, rfl, hq⟩ := asSd_up ok1 r1 q1
    have R1 := k _ θ1 α1 H1 q2 ok1 nx1 _ (walks_sd sd)
    cases kd with
    | true => exact .inl ⟨b, vs, rfl, SqL.of hq, R1⟩
    | false => exact .inr (.inl ⟨b, vs, rfl, SqT.of hq, R1⟩)
  | obj j =>
    obtain ⟨s, kd, b, vs, q2, sd, rfl, hq⟩ := asSd_up ok1 r1 q1
    have R1 := k _ θ1 α1 H1 q2 ok1 nx1 _ (walks_sd sd)
    cases kd with
    | true => exact .inl ⟨b, vs, rfl, SqL.of hq, R1⟩
    | false => exact .inr (.inl ⟨b, vs, rfl, SqT.of hq, R1⟩)
  | pt ds =>
    unfold Rp at r1
    obtain ⟨p, vs, o, rfl, hp, _, rs1⟩ := r1
    exact .inr (.inl ⟨p, vs, rfl, SqT.fz hp, k _ θ1 α1 H1 q1 ok1 nx1 _ (walks_pt hp rs1)⟩)
  | st ds =>
    unfold Rp at r1
    obtain ⟨p, vs, rfl, hp, rs1⟩ := r1
    exact .inr (.inl ⟨p, vs, rfl, hp.sq, k _ θ1 α1 H1 q1 ok1 nx1 _ (walks_st hp rs1)⟩)
  | _ => exact False.elim q1⟩
/-! ranges -/
def rk1 (ds : List Dv) : MX Src := fun _ θ Q => match ds with
  | [.int j] => (-(2 ^ 62) ≤ j ∧ j < 2 ^ 62) ∧ Q (.rng 0 1 j.toNat) θ
  | _ => False
def rk2 (ds : List Dv) : MX Src := fun _ θ Q => match ds with
  | [.int i, .int j] => (-(2 ^ 62) ≤ i ∧ i < 2 ^ 62 ∧ -(2 ^ 62) ≤ j ∧ j < 2 ^ 62) ∧ Q (.rng i 1 (j - i).toNat) θ
  | _ => False
/-- range(i, j, -1) -/
def rk3 (ds : List Dv) : MX Src := fun _ θ Q => match ds with
  | [.int i, .int j, .int c] => (-(2 ^ 62) ≤ i ∧ i < 2 ^ 62 ∧ -(2 ^ 62) ≤ j ∧ j < 2 ^ 62 ∧ c = -1) ∧ Q (.rng i (-1) (i - j).toNat) θ
  | _ => False
def rng1 (ms : DEnv → MX (List Dv)) : DEnv → MX Src := fun ρ => do rk1 (← ms ρ)
def rng2 (ms : DEnv → MX (List Dv)) : DEnv → MX Src := fun ρ => do rk2 (← ms ρ)
def rng3 (ms : DEnv → MX (List Dv)) : DEnv → MX Src := fun ρ => do rk3 (← ms ρ)
theorem ds1 {K : PySem.W.Frag} {H : Hp} {α : List Addr} {i : Int} {vs : List V} (r : Rps K H α [.int i] vs) : vs = [.int i] := by
  unfold Rps at r
  obtain ⟨v, us, rfl, h1, h2⟩ := r
  unfold Rps at h2
  subst h2
  rw [of_int h1]
theorem ds2 {K : PySem.W.Frag} {H : Hp} {α : List Addr} {i j : Int} {vs : List V} (r : Rps K H α [.int i, .int j] vs) : vs = [.int i, .int j] := by
  unfold Rps at r
  obtain ⟨v, us, rfl, h1, h2⟩ := r
  rw [ds1 h2, of_int h1]
theorem walks_rng {H : Hp} {α : List Addr} {lo : Int} {n : Nat} : Walks X.K (.rng lo 1 n) H α (Itr lo n) := by
  intro H1 α1 θ1 nx ok i r e
  unfold Src.at at e
  cases e
  by_cases h : i < n
  · simp only [h, if_true]
    exact ⟨h, fun x H2 y => by
      obtain ⟨rfl, rfl⟩ := y
      refine ⟨ok, Nx.refl, ?_⟩
      rw [Int.mul_one]
      exact rp_int⟩
  · simp only [h, if_false]
    exact Nat.le_of_not_lt h
theorem pim_rng1 {tg a : Expr} {ms : DEnv → MX (List Dv)} {p pos : Pos} (hg : Gl X "range") (hm : X.mg "range" = none) (ha : PA X [a] (tMs W ms)) (hs : starEach [a] X.env = [(false, eval a X.env)] := by rfl) : PI X tg (.Call (.Name "range" p) [a] [] pos) (tIm W (rng1 ms)) :=
  pi_w (pi_range1 hg hm ha hs) fun σ H R ⟨ρ, α, θ, Qm, at', rs, q, k⟩ => ⟨ρ, α, θ, _, at', rs, q, fun ds θ1 α1 H1 vs q1 ok1 nx1 r1 => by
    change rk1 ds W.En θ1 Qm at q1
    unfold rk1 at q1
    split at q1
    · rename_i j
      exact ⟨j, ds1 r1, q1.1.1, q1.1.2, k _ θ1 α1 H1 q1.2 ok1 nx1 _ walks_rng⟩
    · exact False.elim q1⟩
theorem pim_rng2 {tg a b : Expr} {ms : DEnv → MX (List Dv)} {p pos : Pos} (hg : Gl X "range") (hm : X.mg "range" = none) (ha : PA X [a, b] (tMs W ms)) (hs : starEach [a, b] X.env = [(false, eval a X.env), (false, eval b X.env)] := by rfl)
    (hs2 : starEach [b] X.env = [(false, eval b X.env)] := by rfl) : PI X tg (.Call (.Name "range" p) [a, b] [] pos) (tIm W (rng2 ms)) :=
  pi_w (pi_range2 hg hm ha hs hs2) fun σ H R ⟨ρ, α, θ, Qm, at', rs, q, k⟩ => ⟨ρ, α, θ, _, at', rs, q, fun ds θ1 α1 H1 vs q1 ok1 nx1 r1 => by
    change rk2 ds W.En θ1 Qm at q1
    unfold rk2 at q1
    split at q1
    · rename_i i j
      exact ⟨i, j, ds2 r1, q1.1, k _ θ1 α1 H1 q1.2 ok1 nx1 _ walks_rng⟩
    · exact False.elim q1⟩
/-! enumerate, zip, values -/
def ek (ds : List Dv) : MX Src := fun E θ Q => match ds with
  | [d] => asSd d E θ fun s θ' => Q (.en s) θ'
  | _ => False
def zk (ds : List Dv) : MX Src := fun E θ Q => match ds with
  | [d, e] => asSd d E θ fun s θ' => asSd e E θ' fun t θ2 => Q (.zp s t) θ2
  | _ => False
def srcEn (ms : DEnv → MX (List Dv)) : DEnv → MX Src := fun ρ => do ek (← ms ρ)
def srcZp (ms : DEnv → MX (List Dv)) : DEnv → MX Src := fun ρ => do zk (← ms ρ)
theorem one_of {K : PySem.W.Frag} {H : Hp} {α : List Addr} {d : Dv} {vs : List V} (r : Rps K H α [d] vs) : ∃ v, vs = [v] ∧ Rp K H α d v := by
  unfold Rps at r
  obtain ⟨v, us, rfl, h1, h2⟩ := r
  unfold Rps at h2
  subst h2
  exact ⟨v, rfl, h1⟩
theorem two_of {K : PySem.W.Frag} {H : Hp} {α : List Addr} {d e : Dv} {vs : List V} (r : Rps K H α [d, e] vs) : ∃ v u, vs = [v, u] ∧ Rp K H α d v ∧ Rp K H α e u := by
  unfold Rps at r
  obtain ⟨v, us, rfl, h1, h2⟩ := r
  obtain ⟨u, rfl, h3⟩ := one_of h2
  exact ⟨v, u, rfl, h1, h3⟩
theorem pair_up {H : Hp} {α : List Addr} {θ : Th} {d e : Dv} {x y : V} {T : Addr} (ok : Okk X.K H α θ) (hT : H T = none) (r1 : Rp X.K H α d x) (r2 : Rp X.K H α e y) :
    Okk X.K (upd H T (.tup [x, y])) α θ ∧ Nx X.K H α (upd H T (.tup [x, y])) α ∧ Rp X.K (upd H T (.tup [x, y])) α (.tup [d, e]) (.ref T) := by
  have nx : Nx X.K H α (upd H T (.tup [x, y])) α := Nx.new0 hT
  refine ⟨ok.new0 hT, nx, ?_⟩
  unfold Rp
  exact ⟨T, _, rfl, upd_same, Rps.cons (r1.mono nx) (Rps.cons (r2.mono nx) Rps.nil)⟩
theorem pim_en {elts : List Expr} {kk : Nat} {tpos : Pos} {e : Expr} {ms : DEnv → MX (List Dv)} {p pos : Pos} (hg : Gl X "enumerate") (hm : X.mg "enumerate" = none) (ha : PA X [e] (tMs W ms)) (hs : starEach [e] X.env = [(false, eval e X.env)] := by rfl) :
    PI X (.Tuple elts kk tpos) (.Call (.Name "enumerate" p) [e] [] pos) (tIm W (srcEn ms)) :=
  pi_w (pi_en hg hm ha hs) fun σ H R ⟨ρ, α, θ, Qm, at', rs, q, k⟩ => ⟨ρ, α, θ, _, at', rs, q, fun ds θ1 α1 H1 vs q1 ok1 nx1 r1 => by
    change ek ds W.En θ1 Qm at q1
    unfold ek at q1
    split at q1
    · rename_i d
      obtain ⟨v, rfl, rv⟩ := one_of r1
      obtain ⟨s, kd, a, us, q2, sd, rfl, hq⟩ := asSd_up ok1 rv q1
      refine ⟨kd, a, us, rfl, hq, k _ θ1 α1 H1 q2 ok1 nx1 _ ?_⟩
      intro H2 α2 θ2 nx2 ok2 i r e
      change enAt (s.items θ2) i = some r at e
      unfold enAt at e
      split at e
      · rename_i es e1
        split at e
        · rename_i hle
          cases e
          obtain ⟨ws, hq2, rs2⟩ := (sd.mono nx2).sq ok2 e1
          cases e2 : es[i]? with
          | some d2 =>
            obtain ⟨w, hw, rw'⟩ := rs2.get e2
            refine ⟨⟨ws, hq2, (List.getElem?_eq_some_iff.mp hw).1⟩, fun x H3 y => ?_⟩
            obtain ⟨T, x', xs', rfl, hT, rfl, hq3, hx'⟩ := y
            have := hq2.inj hq3
            subst this
            rw [hw] at hx'
            cases hx'
            exact pair_up ok2 hT rp_int rw'
          | none =>
            refine ⟨ws, hq2, ?_⟩
            have := List.getElem?_eq_none_iff.mp e2
            rw [rs2.length]
            omega
        · cases e
      · cases e
    · exact False.elim q1⟩
theorem pim_zp {elts : List Expr} {kk : Nat} {tpos : Pos} {e e2 : Expr} {ms : DEnv → MX (List Dv)} {p pos : Pos} (hg : Gl X "zip") (hm : X.mg "zip" = none) (ha : PA X [e, e2] (tMs W ms)) (hs : starEach [e, e2] X.env = [(false, eval e X.env), (false, eval e2 X.env)] := by rfl)
    (hs2 : starEach [e2] X.env = [(false, eval e2 X.env)] := by rfl) : PI X (.Tuple elts kk tpos) (.Call (.Name "zip" p) [e, e2] [] pos) (tIm W (srcZp ms)) :=
  pi_w (pi_zp hg hm ha hs hs2) fun σ H R ⟨ρ, α, θ, Qm, at', rs, q, k⟩ => ⟨ρ, α, θ, _, at', rs, q, fun ds θ1 α1 H1 vs q1 ok1 nx1 r1 => by
    change zk ds W.En θ1 Qm at q1
    unfold zk at q1
    split at q1
    · rename_i d d'
      obtain ⟨v, v', rfl, rv, rv'⟩ := two_of r1
      obtain ⟨s, kd, a, us, q2, sd, rfl, hq⟩ := asSd_up ok1 rv q1
      obtain ⟨s', kd', a', us', q3, sd', rfl, hq'⟩ := asSd_up ok1 rv' q2
      refine ⟨kd, kd', a, a', us, us', rfl, hq, hq', k _ θ1 α1 H1 q3 ok1 nx1 _ ?_⟩
      intro H2 α2 θ2 nx2 ok2 i r e
      change zpAt (s.items θ2) (s'.items θ2) i = some r at e
      unfold zpAt at e
      split at e
      · rename_i es es' e1 e1'
        obtain ⟨ws, hq2, rs2⟩ := (sd.mono nx2).sq ok2 e1
        obtain ⟨ws', hq2', rs2'⟩ := (sd'.mono nx2).sq ok2 e1'
        split at e
        · rename_i hlt
          cases e
          have g1 : es[i]? = some es[i] := List.getElem?_eq_getElem (by omega)
          have g2 : es'[i]? = some es'[i] := List.getElem?_eq_getElem (by omega)
          rw [g1, g2]
          obtain ⟨w, hw, rw'⟩ := rs2.get g1
          obtain ⟨w', hw', rw''⟩ := rs2'.get g2
          refine ⟨⟨ws, ws', hq2, hq2', (List.getElem?_eq_some_iff.mp hw).1, (List.getElem?_eq_some_iff.mp hw').1⟩, fun x H3 y => ?_⟩
          obtain ⟨T, x', y', xs', ys', rfl, hT, rfl, hq3, hq4, hx', hy'⟩ := y
          have := hq2.inj hq3
          subst this
          have := hq2'.inj hq4
          subst this
          rw [hw] at hx'
          rw [hw'] at hy'
          cases hx'
          cases hy'
          exact pair_up ok2 hT rw' rw''
        · split at e
          · rename_i heq
            cases e
            refine ⟨ws, ws', hq2, hq2', ?_⟩
            rw [rs2.length, rs2'.length]
            exact heq.symm
          · cases e
      · cases e
    · exact False.elim q1⟩
def vk (d : Dv) : MX Src := fun _ θ Q => match d with
  | .obj k => (match θ[k]? with
    | some (.dKf _) => Q (.vals k) θ
    | some (.dTf _) => Q (.vals k) θ
    | _ => False)
  | _ => False
def srcVals (a : ME) : DEnv → MX Src := fun ρ => do vk (← a ρ)
theorem RpK.snd {κ : Type} {K : PySem.W.Frag} {H : Hp} {α : List Addr} : ∀ {ds : List (κ × Dv)} {vs : List (κ × V)}, RpK K H α ds vs → Rps K H α (ds.map (·.2)) (vs.map (·.2))
  | [], _, h => by unfold RpK at h; subst h; exact Rps.nil
  | (k, d) :: ds, _, h => by
    unfold RpK at h
    obtain ⟨v, r, rfl, h1, h2⟩ := h
    exact Rps.cons h1 (RpK.snd h2)
end
end Mn

/-! Mn8: for, comprehensions, a dict locked while it is walked. -/
namespace Mn
open PySem PySem.Spec PyProof.Rows L2

def forGo (src : Src) (T : Tg) (body : MS) : Nat → Nat → DEnv → MX Out
  | 0, _, _ => MX.stuck
  | n + 1, i, ρ => fun E θ Q => match src.at θ i with
    | none => False
    | some none => Q (.nx ρ) θ
    | some (some d) => match asgT T d ρ with
      | none => False
      | some ρ1 => body ρ1 E θ fun o θ' => match o with
        | .nx ρ2 => forGo src T body n (i + 1) ρ2 E θ' Q
        | .ct ρ2 => forGo src T body n (i + 1) ρ2 E θ' Q
        | .bk ρ2 => Q (.nx ρ2) θ'
        | .rt d => Q (.rt d) θ'
def sFor (ms : DEnv → MX Src) (T : Tg) (body : MS) : MS := fun ρ E θ Q => ms ρ E θ fun src θ' => ∃ n, forGo src T body n 0 ρ E θ' Q
def lcGo (src : Src) (T : Tg) (cond : DEnv → MX Bool) (elt : ME) (k : Nat) (ρ : DEnv) : Nat → Nat → Th → (Th → Prop) → Prop
  | 0, _, _, _ => False
  | n + 1, i, θ, Q => match src.at θ i with
    | none => False
    | some none => Q θ
    | some (some d) => match asgT T d ρ with
      | none => False
      | some ρ1 => cond ρ1 (fun _ _ => False) θ fun b θ1 => match b with
        | true => elt ρ1 (fun _ _ => False) θ1 fun y θ2 => match θ2[k]? with
          | some (.lst acc) => acc.length < sizeLine ∧ lcGo src T cond elt k ρ n (i + 1) (θ2.set k (.lst (acc ++ [y]))) Q
          | _ => False
        | false => lcGo src T cond elt k ρ n (i + 1) θ1 Q
def mLc (ms : DEnv → MX Src) (T : Tg) (cond : DEnv → MX Bool) (elt : ME) (vs : List Nat) : ME := fun ρ E θ Q => ms ρ E θ fun src θ' =>
  ∃ n, lcGo src T cond elt θ'.length (wipeE ρ vs) n 0 (θ' ++ [.lst []]) fun θ2 => Q (.obj θ'.length) θ2
def bYes : DEnv → MX Bool := fun _ => pure true
/-- while a dict is walked -/
def lockOb : Ob → Option Ob
  | .dK kvs => some (.dKf kvs)
  | .dT kvs => some (.dTf kvs)
  | .dN kvs => some (.dNf kvs)
  | _ => none
def mLock (i : Nat) (m : ME) : ME := fun ρ E θ Q => match ρ.getD i none with
  | some (.obj k) => match θ[k]? with
    | some o => match lockOb o with
      | some f => m ρ E (θ.set k f) fun d θ' => θ'[k]? = some f ∧ Q d (θ'.set k o)
      | none => False
    | none => False
  | _ => False

section
variable {X : Cx} {W : Wd X.K X.mg}
theorem sm_for {tg iter : Expr} {b : List Stmt} {ms : DEnv → MX Src} {T : Tg} {mb : MS} {pos : Pos} (hp : PassesOwn (model X.prog X.w) X.A X.env X.xe) (c : Cf X) (hi : PI X tg iter (tIm W ms)) (hg : PG X tg (gT X.K T)) (hb : PSs X b (tS W mb))
    (hs : ∀ x, foldedSetIterable iter X.env x = pure x := by intro _; rfl) : PS X (.For tg iter b [] pos) (tS W (sFor ms T mb)) :=
  ps_w (ps_for hp c.calm hi hg hb hs) fun D σ H ⟨ρ, α, θ, Qm, at', rs, q, u⟩ => ⟨ρ, α, θ, _, at', rs, q, fun src θ0 α0 H0 ⟨n, q0⟩ ok0 nx0 J wk => by
    refine ⟨fun i m σ1 H1 => ∃ ρ1 α1 θ1, At W H1 α1 θ1 ∧ RS X.K H1 α1 σ1 ρ1 ∧ Nx X.K H0 α0 H1 α1 ∧ forGo src T mb m i ρ1 W.En θ1 Qm, ⟨n, ρ, α0, θ0, ⟨ok0, at'.nx.trans nx0⟩, rs.mono nx0, Nx.refl, q0⟩, ?_⟩
    rintro i m σ1 H1 ⟨ρ1, α1, θ1, at1, rs1, nx1, q1⟩
    cases m with
    | zero => exact False.elim q1
    | succ m =>
      unfold forGo at q1
      have w1 := wk H1 α1 θ1 nx1 at1.ok i
      split at q1
      · exact q1.elim
      · rename_i e
        have st : J.stop i H1 := w1 _ e
        exact .inl ⟨st, u (.nx ρ1) θ1 α1 H1 q1 at1.ok (nx0.trans nx1) σ1 rs1⟩
      · rename_i d e
        obtain ⟨go, yl⟩ : Wk X.K J i H1 α1 θ1 (some d) := w1 _ e
        split at q1
        · exact q1.elim
        · rename_i ρ2 ea
          refine .inr ⟨go, fun σ3 H3 => ∃ ρ3 α3 θ3, At W H3 α3 θ3 ∧ RS X.K H3 α3 σ3 ρ3 ∧ Nx X.K H0 α0 H3 α3 ∧ forGo src T mb m (i + 1) ρ3 W.En θ3 Qm, fun σ3 H3 h3 => ⟨m, Nat.lt_succ_self m, h3⟩, fun x H2 y => ?_⟩
          obtain ⟨ok2, nx2, r2⟩ := yl x H2 y
          refine gT_ok r2 (rs1.mono nx2) ea fun σ2 rs2 _ => ?_
          refine ⟨ρ2, α1, θ1, _, ⟨ok2, at1.nx.trans nx2⟩, rs2, q1, fun o θ3 α3 H3 q3 ok3 nx3 => ?_⟩
          have nxT := (nx1.trans nx2).trans nx3
          have at3 : At W H3 α3 θ3 := ⟨ok3, (at1.nx.trans nx2).trans nx3⟩
          cases o with
          | nx ρ3 => exact fun σ3 rs3 => ⟨ρ3, α3, θ3, at3, rs3, nxT, q3⟩
          | ct ρ3 => exact fun σ3 rs3 => ⟨ρ3, α3, θ3, at3, rs3, nxT, q3⟩
          | bk ρ3 => exact fun σ3 rs3 => u (.nx ρ3) θ3 α3 H3 q3 ok3 (nx0.trans nxT) σ3 rs3
          | rt d => exact fun v r => u (.rt d) θ3 α3 H3 q3 ok3 (nx0.trans nxT) v r⟩
theorem tm_lc {ms : DEnv → MX Src} {T : Tg} {cond : DEnv → MX Bool} {elt : ME} {vs : List Nat} (hv : ∀ i ∈ T.vars, i ∈ vs) (σ : L2.St) (H : Hp) (Q : VK) : tM W (mLc ms T cond elt vs) σ H Q → tLc (tIm W ms) (gT X.K T) (tMb W.calm cond) (tM W.calm elt) vs σ H Q :=
  fun ⟨ρ, α, θ, Qm, at', rs, q, u⟩ => ⟨ρ, α, θ, _, at', rs, q, fun src θ0 α0 H0 ⟨n, q0⟩ ok0 nx0 J wk D hD => by
    have at0 : At W H0 α0 θ0 := ⟨ok0, at'.nx.trans nx0⟩
    have nxD : Nx X.K H0 α0 (upd H0 D (.lst [])) (α0 ++ [D]) := Nx.new hD _
    have okD : Okk X.K (upd H0 D (.lst [])) (α0 ++ [D]) (θ0 ++ [.lst []]) := ok0.new hD ⟨[], upd_same, Rps.nil⟩
    have hk : (α0 ++ [D])[θ0.length]? = some D := by rw [← ok0.len]; simp
    refine ⟨fun i m H1 => ∃ α1 θ1, At W H1 α1 θ1 ∧ Nx X.K (upd H0 D (.lst [])) (α0 ++ [D]) H1 α1 ∧ lcGo src T cond elt θ0.length (wipeE ρ vs) m i θ1 (fun θ2 => Qm (.obj θ0.length) θ2), ⟨n, α0 ++ [D], _, ⟨okD, at0.nx.trans nxD⟩, Nx.refl, q0⟩, ?_⟩
    rintro i m H1 ⟨α1, θ1, at1, nx1, q1⟩
    cases m with
    | zero => exact False.elim q1
    | succ m =>
      unfold lcGo at q1
      have w1 := wk H1 α1 θ1 (nxD.trans nx1) at1.ok i
      have nxA : Nx X.K H α H1 α1 := (nx0.trans nxD).trans nx1
      have rsW : RS X.K H1 α1 (wipe σ vs) (wipeE ρ vs) := (rs.mono nxA).wipe vs
      split at q1
      · exact q1.elim
      · rename_i e
        have st : J.stop i H1 := w1 _ e
        exact .inl ⟨st, u (.obj θ0.length) θ1 α1 H1 (.ref D) q1 at1.ok nxA (rp_obj (nx1.at hk))⟩
      · rename_i d e
        obtain ⟨go, yl⟩ : Wk X.K J i H1 α1 θ1 (some d) := w1 _ e
        split at q1
        · exact q1.elim
        · rename_i ρ2 ea
          refine .inr ⟨go, fun H3 => ∃ α3 θ3, At W H3 α3 θ3 ∧ Nx X.K (upd H0 D (.lst [])) (α0 ++ [D]) H3 α3 ∧ lcGo src T cond elt θ0.length (wipeE ρ vs) m (i + 1) θ3 (fun θ2 => Qm (.obj θ0.length) θ2), fun H3 h3 => ⟨m, Nat.lt_succ_self m, h3⟩, fun x H2 y => ?_⟩
          obtain ⟨ok2, nx2, r2⟩ := yl x H2 y
          refine gT_ok r2 (rsW.mono nx2) ea fun σ2 rs2 bt => ?_
          refine ⟨by rw [wipe_but (bt.mono hv), wipe_wipe], ?_⟩
          have nx12 := nx1.trans nx2
          refine ⟨ρ2, α1, θ1, _, ⟨ok2, at1.nx.trans nx2⟩, rs2, q1, fun b θ3 α3 H3 q3 ok3 nx3 => ?_⟩
          cases b with
          | false => exact iteF ⟨α3, θ3, ⟨ok3, (at1.nx.trans nx2).trans nx3⟩, nx12.trans nx3, q3⟩
          | true =>
            refine iteT ⟨ρ2, α3, θ3, _, ⟨ok3, (at1.nx.trans nx2).trans nx3⟩, rs2.mono nx3, q3, fun yd θ4 α4 H4 yv q4 ok4 nx4 r4 => ?_⟩
            have nxT := (nx12.trans nx3).trans nx4
            split at q4
            · rename_i acc e4
              obtain ⟨us, h1, h2⟩ := ok4.ob θ0.length D _ (nxT.at hk) e4
              have nx5 : Nx X.K H4 α4 (upd H4 D (.lst (us ++ [yv]))) α4 := Nx.chg (ok4.ob θ0.length D _ (nxT.at hk) e4)
              refine ⟨us, h1, by rw [h2.length]; exact q4.1, α4, _, ⟨ok4.chg (ob := .lst (acc ++ [yd])) (nxT.at hk) e4 ⟨_, upd_same, (h2.mono nx5).append (.cons (r4.mono nx5) .nil)⟩, (((at1.nx.trans nx2).trans nx3).trans nx4).trans nx5⟩, nxT.trans nx5, q4.2⟩
            · exact q4.elim⟩
theorem pm_lc {elt tg iter : Expr} {ifs : List Expr} {scope : Scope} {own : List (Str × Nat)} {pos : Pos} {ms : DEnv → MX Src} {T : Tg} {cond : DEnv → MX Bool} {me : ME} (c : Cf X) (hi : PI X tg iter (tIm W ms)) (ok : BlkOk X.N X.env.scope scope own)
    (hg : ∀ (s : Shared) (H : Hp) (C : Addr) (cl : List (Str × Addr)) (fp : List Addr), PG (X.blk s H scope (compEnvC scope cl C X.env) fp) tg (gT X.K T))
    (ht : ∀ (s : Shared) (H : Hp) (C : Addr) (cl : List (Str × Addr)) (fp : List Addr), PTs (X.blk s H scope (compEnvC scope cl C X.env) fp) ifs (tMb W.calm cond))
    (he : ∀ (s : Shared) (H : Hp) (C : Addr) (cl : List (Str × Addr)) (fp : List Addr), PE (X.blk s H scope (compEnvC scope cl C X.env) fp) elt (tM W.calm me))
    (hv : ∀ i ∈ T.vars, i ∈ own.map (·.2) := by decide) (hs : ∀ x, foldedSetIterable iter X.env x = pure x := by intro _; rfl) :
    PE X (.ListComp elt [⟨tg, iter, ifs, 0⟩] scope pos) (tM W (mLc ms T cond me (own.map (·.2)))) := pe_w (pe_lc c.calm c.nd hi ok hg ht he hs) (tm_lc hv)
theorem sm_lc {i : Nat} {y : Str} {py : Pos} {elt tg iter : Expr} {ifs : List Expr} {scope : Scope} {own : List (Str × Nat)} {pos spos : Pos} {ms : DEnv → MX Src} {T : Tg} {cond : DEnv → MX Bool} {me : ME} (c : Cf X) (hy : X.N[i]? = some y) (hyl : X.env.scope.names.lookup y = some .local)
    (hsw : swapsWith (.ListComp elt [⟨tg, iter, ifs, 0⟩] scope pos) (some (.Name y py)) spos.line X.env = pure true) (hi : PI X tg iter (tIm W ms)) (ok : BlkOk X.N X.env.scope scope own)
    (hg : ∀ (s : Shared) (H : Hp) (C : Addr) (cl : List (Str × Addr)) (fp : List Addr), PG (X.blk s H scope (compEnvC scope cl C X.env) fp) tg (gT X.K T))
    (ht : ∀ (s : Shared) (H : Hp) (C : Addr) (cl : List (Str × Addr)) (fp : List Addr), PTs (X.blk s H scope (compEnvC scope cl C X.env) fp) ifs (tMb W.calm cond))
    (he : ∀ (s : Shared) (H : Hp) (C : Addr) (cl : List (Str × Addr)) (fp : List Addr), PE (X.blk s H scope (compEnvC scope cl C X.env) fp) elt (tM W.calm me))
    (hv : ∀ i ∈ T.vars, i ∈ own.map (·.2) := by decide) (hs : ∀ x, foldedSetIterable iter X.env x = pure x := by intro _; rfl) :
    PS X (.Assign [.Name y py] (.ListComp elt [⟨tg, iter, ifs, 0⟩] scope pos) spos) (tS W (sSet i (mLc ms T cond me (own.map (·.2))))) := sm_setLc (ps_setLc c.calm c.nd hy hyl hsw hi ok hg ht he hs) (tm_lc hv)
theorem btm_nil : PTs X [] (tMb W bYes) := ⟨fun pins s σ H Q I ⟨ρ, α, θ, Qm, at', rs, q, u⟩ => pts_nil.run pins s σ H Q I (u true θ α H q at'.ok Nx.refl)⟩
theorem btm_one {e : Expr} {b : DEnv → MX Bool} (h : PT X e (tMb W b)) : PTs X [e] (tMb W b) := pts_one h
/-! ### lock -/
end
end Mn

/-! Mn9: calls of built-ins and of built-in types' methods. -/
namespace Mn
open PySem PySem.Spec PyProof.Rows L2

section
variable {X : Cx} {W : Wd X.K X.mg}
def rMc (W : Wd X.K X.mg) (c : List Dv → MX Dv) : List V → Hp → VK → Prop := fun xs H Q => ∃ α θ ds Qm, At W H α θ ∧ Rps X.K H α ds xs ∧ c ds W.En θ Qm ∧ Up X.K H α Qm Q
def CallM (W : Wd X.K X.mg) (f : Value) (c : List Dv → MX Dv) : Prop := CallR X f (rMc W c)
theorem CallR.w {f : Value} {r r' : List V → Hp → VK → Prop} (h : CallR X f r) (w : ∀ xs H Q, r' xs H Q → r xs H Q) : CallR X f r' := fun pins s σ H xs us Q I r q => h pins s σ H xs us Q I r (w xs H Q q)
theorem cm_of {f : Value} {r : List V → Hp → VK → Prop} {c : List Dv → MX Dv} (h : CallR X f r) (w : ∀ {H : Hp} {α : List Addr} {θ : Th} {ds : List Dv} {xs : List V} {Qm : Dv → Th → Prop} {Q : VK}, At W H α θ → Rps X.K H α ds xs → c ds W.En θ Qm → Up X.K H α Qm Q → r xs H Q) : CallM W f c :=
  CallR.w h fun xs H Q ⟨_, _, _, _, h1, h2, h3, h4⟩ => w h1 h2 h3 h4
def mCall (c : List Dv → MX Dv) (ms : DEnv → MX (List Dv)) : ME := fun ρ => do c (← ms ρ)
theorem tm_call {c : List Dv → MX Dv} {ms : DEnv → MX (List Dv)} (σ : L2.St) (H : Hp) (Q : VK) : tM W (mCall c ms) σ H Q → tCB (rMc W c) (tMs W ms) σ H Q := fun ⟨ρ, α, θ, Qm, at', rs, q, u⟩ =>
  ⟨ρ, α, θ, _, at', rs, q, fun ds θ1 α1 H1 vs q1 ok1 nx1 r1 => ⟨α1, θ1, ds, Qm, ⟨ok1, at'.nx.trans nx1⟩, r1, q1, u.mono nx1⟩⟩
/-! ### one argument -/
def k1 (f : Dv → MX Dv) : List Dv → MX Dv
  | [d] => f d
  | _ => MX.stuck
def lenD (d : Dv) : MX Dv := fun _ θ Q => match d with
  | .tup ds => Q (.int ds.length) θ
  | .scr ns => Q (.int ns.length) θ
  | .pt ds => Q (.int ds.length) θ
  | .st ds => Q (.int ds.length) θ
  | .str z => z.length ≤ sizeLine ∧ Q (.int z.length) θ
  | .obj k => (match θ[k]? with
    | some (.lst ds) => Q (.int ds.length) θ
    | some (.dK kvs) => Q (.int kvs.length) θ
    | _ => False)
  | _ => False
theorem scr_sq {K : PySem.W.Frag} {H : Hp} {p : Addr} {xs : List V} (h : Scr K H p xs) : SqL K H p xs := by
  rcases h with ⟨o, h⟩ | h
  · exact .inl (.inr ⟨o, h⟩)
  · rcases h with (h | ⟨o, h⟩) | h
    · cases h
    · cases h
    · exact .inr h
theorem call_len_dK : CallR X (.builtin "len") (fun xs H Q => ∃ a kvs, xs = [V.ref a] ∧ H a = some (.dK kvs) ∧ Q (.int (kvs.length : Nat)) H) := fun pins s σ H xs us Q I r h => call_lenD pins s σ H xs us Q I r h
theorem cm_len : CallM W (.builtin "len") (k1 lenD) := cm_of (CallR.or call_len_seq (CallR.or call_len_str call_len_dK)) fun {H α θ ds xs Qm Q} a r q u => by
  unfold k1 at q
  split at q
  · rename_i d
    obtain ⟨x, rfl, rx⟩ := one_of r
    unfold lenD at q
    split at q
    · rename_i es
      obtain ⟨p, vs, rfl, h1, h2⟩ := rp_tup rx
      exact .inl ⟨p, vs, rfl, .inr (SqT.of h1), up_same u a q (by rw [h2.length]; exact rp_int)⟩
    · rename_i ns
      unfold Rp at rx
      obtain ⟨p, rfl, hq⟩ := rx
      exact .inl ⟨p, _, rfl, .inl (scr_sq hq), up_same u a q (by rw [List.length_map]; exact rp_int)⟩
    · rename_i es
      unfold Rp at rx
      obtain ⟨p, vs, o, rfl, h1, _, h2⟩ := rx
      exact .inl ⟨p, vs, rfl, .inr (SqT.fz h1), up_same u a q (by rw [h2.length]; exact rp_int)⟩
    · rename_i es
      unfold Rp at rx
      obtain ⟨p, vs, rfl, h1, h2⟩ := rx
      exact .inl ⟨p, vs, rfl, .inr h1.sq, up_same u a q (by rw [h2.length]; exact rp_int)⟩
    · rename_i z
      cases of_str rx
      exact .inr (.inl ⟨z, rfl, q.1, up_same u a q.2 rp_int⟩)
    · rename_i k
      unfold Rp at rx
      obtain ⟨p, ep, rfl⟩ := rx
      split at q
      · rename_i es e2
        obtain ⟨vs, h1, h2⟩ := a.ok.ob k p _ ep e2
        exact .inl ⟨p, vs, rfl, .inl (SqL.of h1), up_same u a q (by rw [h2.length]; exact rp_int)⟩
      · rename_i kvs e2
        obtain ⟨vs, h1, h2⟩ := a.ok.ob k p _ ep e2
        exact .inr (.inr ⟨p, vs, rfl, h1, up_same u a q (by rw [h2.length]; exact rp_int)⟩)
      · exact q.elim
    · exact q.elim
  · exact False.elim q
def intD : Dv → MX Dv
  | .int i => ret (.int i)
  | .bl b => ret (.int (if b then 1 else 0))
  | _ => MX.stuck
theorem cm_int : CallM W (.type "int") (k1 intD) := cm_of call_int1 fun {H α θ ds xs Qm Q} a r q u => by
  unfold k1 at q
  split at q
  · rename_i d
    obtain ⟨x, rfl, rx⟩ := one_of r
    cases d with
    | int i => cases of_int rx; exact .inl ⟨i, rfl, up_same u a q rp_int⟩
    | bl b => cases of_bl rx; exact .inr ⟨b, rfl, up_same u a q rp_int⟩
    | _ => exact False.elim q
  · exact False.elim q
/-! tuple(..), list(..) -/
theorem collect_kdl {prog : Program} {w : World} {A : Around} {E : Value → Shared → Prop} {s : Shared} {T : String} {r d : Addr} {n : Nat} {P : Nat → Value → Prop} {OK : Heap → Prop} {Q : List Value → Shared → Prop} (S : PySem.W.KdlSrc prog w T r d n P OK) (hh : A.handled = none) (hok : OK s.heap) (hn : n ≤ sizeLine)
    (hQ : ∀ (h' : Heap) (tk : Nat) (acc : Array Value), (∀ b o, s.heap.get? b = some o → h'.get? b = some o) → ItemsOf P acc n → Q acc.toList { s with heap := h', toks := tk }) :
    wpAny (model prog w) A (collect (.ref r)) Q E s := by
  unfold collect
  refine wpAny_bind (wpAny_runValue (codeAny_builtin F.entry_proto_collect ?_))
  rw [Around.under_plainId F.plain_proto_collect _]
  show wpAny _ A.in1 (newList [] >>= fun l => again (.builtin "list.__iadd__" ⟨[l, .ref r], []⟩)) _ _ s
  refine wpAny_bind (wpAny_newObj_type ?_)
  refine wpAny_pure ⟨plainId_quiet F.plain_list_iadd _, codeAny_builtin F.entry_list_iadd ?_⟩
  rw [Around.under_plainId F.plain_list_iadd _]
  show wpAny _ A.in1 (Builtin.List.listExtendWith (.ref s.heap.objs.size) (.ref r) (.ref s.heap.objs.size)) _ _ _
  have hS : (s.heap.push { cls := .type "list", data := .seq ([] : List Value).toArray }).get? s.heap.objs.size = some { cls := .type "list", data := .seq #[] 0 } := Heap.get?_push_size _ rfl
  have lt := S.there _ hok
  have hok' : OK (s.heap.push { cls := .type "list", data := .seq ([] : List Value).toArray }) := S.keep _ _ hok fun b _ o e => Heap.get?_push_of_some _ e
  refine wpAny_mono (PySem.W.kdl_extend (A := A) (R := fun rr s' => rr = .ok (.ret (.ref s.heap.objs.size)) ∧ ∃ (h' : Heap) (tk : Nat) (acc : Array Value) (c' : Nat), s' = { s with heap := h', toks := tk } ∧
      (∀ b o, s.heap.get? b = some o → h'.get? b = some o) ∧ h'.get? s.heap.objs.size = some { cls := .type "list", dict := none, data := .seq acc c', slots := #[] } ∧ ItemsOf P acc n)
    (s := { s with heap := s.heap.push { cls := .type "list", data := .seq ([] : List Value).toArray } }) S hh hok' _ (Nat.ne_of_gt lt.1) (Nat.ne_of_gt lt.2) _ 0 hS
    (fun h' tk acc c' hk e hi => ⟨rfl, h', tk, acc, c', rfl, fun b o q => hk b o (Nat.ne_of_lt (Heap.lt_size q)) (Heap.get?_push_of_some _ q), e, hi⟩) hn) ?_ ?_
  · intro fin s' h
    cases fin with
    | done f =>
      obtain ⟨e, h', tk, acc, c', rfl, hk, hS', hi⟩ := h
      cases e
      show wpAny _ A (load s.heap.objs.size >>= _) _ _ _
      exact wpAny_bind (wpAny_load hS' (wpAny_pure (hQ h' tk acc hk hi)))
    | again c' =>
      refine ⟨h.1, codeAny_mono h.2 ?_⟩
      rintro rr s'' ⟨rfl, h', tk, acc, c', rfl, hk, hS', hi⟩
      show wpAny _ A (load s.heap.objs.size >>= _) _ _ _
      exact wpAny_bind (wpAny_load hS' (wpAny_pure (hQ h' tk acc hk hi)))
  · intro e s' h
    exact absurd h.1 (by simp)
theorem code_tup_kdl {prog : Program} {w : World} {A : Around} {E : Value → Shared → Prop} {s : Shared} {T : String} {r d : Addr} {n : Nat} {P : Nat → Value → Prop} {OK : Heap → Prop} {Q₁ : Value → Shared → Prop} (S : PySem.W.KdlSrc prog w T r d n P OK) (hh : A.handled = none) (hok : OK s.heap) (hn : n ≤ sizeLine)
    (h : ∀ (h' : Heap) (tk : Nat) (acc : Array Value), (∀ b o, s.heap.get? b = some o → h'.get? b = some o) → ItemsOf P acc n → Q₁ (.ref h'.objs.size) { s with heap := h'.push { cls := .type "tuple", data := .seq acc }, toks := tk }) :
    codeAny (model prog w) A (.call (.builtin "tuple.__new__") ⟨[.type "tuple", .ref r], []⟩) (wants Q₁ E) s := by
  refine codeAny_of_tree ?_
  show wpAny _ A.in1 (do checkBuiltinCall "tuple.__new__" ⟨[.type "tuple", .ref r], []⟩; again (.builtin "tuple.__new__" ⟨[.type "tuple", .ref r], []⟩)) _ _ s
  refine wpAny_bind (wpAny_of_eq (F.newCall_tuple_1 _) (wpAny_pure ⟨plainId_quiet F.plain_tuple_new _, codeAny_builtin F.entry_tuple_new ?_⟩))
  rw [Around.under_plainId F.plain_tuple_new _]
  have hsub := sub_tuple_self
  have hinit := init_tuple_lookup
  have hmh := madeHere_tuple
  have hTI : s.TypeIs (.ref r) T := S.type s hok
  have hh1 : A.in1.handled = none := hh
  have hnt : (Value.type T == Value.type "tuple") = false := S.notTuple
  wp_walk using wpAny_typeOf hTI, collect_kdl (A := A.in1) S hh1 hok hn
  intro h' tk acc hk hacc
  show wpAny _ _ (Builtin.Tuple.tupleExact acc.toList.toArray >>= fun v => PySem.ret v) _ _ _
  unfold Builtin.Tuple.tupleExact
  refine wpAny_bind (wpAny_newObj_type ?_ (by show acc.toList.toArray.size ≤ sizeLine; simp only [Array.toArray_toList]; rw [hacc.1]; exact hn))
  refine wpAny_pure ?_
  have e : acc.toList.toArray = acc := by simp
  rw [e]
  exact h h' tk acc hk hacc
theorem call_tup_dK (hc : X.calm = true) : CallR X (.type "tuple") (fun xs H Q => ∃ p kvs, xs = [V.ref p] ∧ H p = some (.dK kvs) ∧ ∀ q, H q = none → Q (.ref q) (upd H q (.tup (kvs.map fun kv => kV kv.1)))) := by
  rintro pins s σ H xs us Q I r ⟨p, kvs, e, hk, q⟩
  subst e
  obtain ⟨u, eu, rx⟩ := vals1 r
  subst eu
  obtain rfl : u = Value.ref p := rx
  obtain ⟨z, lo, vs, rk, hd⟩ := (show ObjOk X.prog X.w H s.heap p (.dK kvs) from I.hok p _ hk)
  obtain ⟨ep, hat⟩ := hd.dictAt
  have hl : kvs.length = vs.length := Paired.length rk
  have S := PySem.W.kdl_dict (knd := mixKind X.prog X.w) (kvs := vs) (ep := ep) lo
  refine callType_codes (Q₁ := fun obj s₁ => s₁.TypeIs obj "tuple" ∧ EP X pins σ Q obj s₁) F.called_tuple (F.typeCall_tuple_1 _) F.entry_object_init
    (code_tup_kdl (A := X.A.in1) S (I.ok.hd hc) hat (by rw [← hl]; exact z) fun h' tk acc hk' hacc => ⟨⟨_, Heap.get?_push_size _ rfl, rfl⟩, ?_⟩) fun obj s₁ h₁ => ?_
  · have I1 : Inv X pins σ H { s with heap := h', toks := tk } := I.kept (t' := tk) hk'
    have new : Vals (kvs.map fun kv => kV kv.1) acc.toList := by
      have el : acc.toList.length = acc.size := by simp
      refine vals_of_at (by rw [List.length_map, el, hacc.1, hl]) fun j x w h1 h2 => ?_
      obtain ⟨k, y, hky, hi⟩ := hacc.2 j w (by rw [← Array.getElem?_toList]; exact h2)
      have e1 : (kvs.map (·.1))[j]? = some k := by
        rw [KV.keys rk, List.getElem?_map, hky] <;> rfl
      have e3 : (kvs.map fun kv => kV kv.1) = (kvs.map (·.1)).map kV := by
        rw [List.map_map]
        rfl
      rw [e3, List.getElem?_map, e1] at h1
      cases h1
      exact keyIs_rel hi
    have I2 : Inv X pins σ (upd H h'.objs.size (.tup (kvs.map fun kv => kV kv.1))) { s with heap := h'.push { cls := .type "tuple", data := .seq acc }, toks := tk } :=
      I1.laid (t' := tk) (fun b o e => Heap.get?_push_of_some _ e) (Nat.le_refl _) (show ObjOk X.prog X.w _ _ _ (.tup (kvs.map fun kv => kV kv.1)) from ⟨by rw [List.length_map]; exact z, acc.toList, new, ⟨_, Heap.get?_push_size _ rfl, rfl, 0, by simp⟩⟩)
    exact ⟨.ref h'.objs.size, _, I2, rfl, q _ (I1.hok.fresh (Nat.le_refl _))⟩
  · exact ⟨h₁.1, F.args_object_init_2 obj _, object_init_meets F.called_tuple.init.lookup F.called_tuple.made (by decide) X.prog X.w X.A.in1 _ s₁ ⟨h₁.1, rfl, h₁.2⟩⟩
def keyD : Key → Dv
  | .inl i => .int i
  | .inr s => .str s
theorem rp_keyD {K : PySem.W.Frag} {H : Hp} {α : List Addr} (k : Key) : Rp K H α (keyD k) (kV k) := by
  cases k
  · exact rp_int
  · exact rp_str
theorem rps_keys {K : PySem.W.Frag} {H : Hp} {α : List Addr} : ∀ {ds : List (Key × Dv)} {vs : List (Key × V)}, RpK K H α ds vs → Rps K H α (ds.map fun kv => keyD kv.1) (vs.map fun kv => kV kv.1)
  | [], _, h => by unfold RpK at h; subst h; exact Rps.nil
  | (k, d) :: ds, _, h => by
    unfold RpK at h
    obtain ⟨v, r, rfl, h1, h2⟩ := h
    exact Rps.cons (rp_keyD k) (rps_keys h2)
def tupD (d : Dv) : MX Dv := fun _ θ Q => match d with
  | .tup ds => Q (.tup ds) θ
  | .obj k => (match θ[k]? with
    | some (.lst ds) => Q (.tup ds) θ
    | some (.dK kvs) => Q (.tup (kvs.map fun kv => keyD kv.1)) θ
    | _ => False)
  | _ => False
theorem cm_tup (c : Cf X) : CallM W (.type "tuple") (k1 tupD) := cm_of (CallR.or call_tuple_of (call_tup_dK c.calm)) fun {H α θ ds xs Qm Q} a r q u => by
  unfold k1 at q
  split at q
  · rename_i d
    obtain ⟨x, rfl, rx⟩ := one_of r
    unfold tupD at q
    split at q
    · rename_i es
      obtain ⟨p, vs, rfl, h1, h2⟩ := rp_tup rx
      exact .inl ⟨p, vs, rfl, .inr ⟨SqT.of h1, up_same u a q rx⟩⟩
    · rename_i k
      unfold Rp at rx
      obtain ⟨p, ep, rfl⟩ := rx
      split at q
      · rename_i es e2
        obtain ⟨vs, h1, h2⟩ := a.ok.ob k p _ ep e2
        exact .inl ⟨p, vs, rfl, .inl ⟨SqL.of h1, up_tup u a q h2⟩⟩
      · rename_i kvs e2
        obtain ⟨vs, h1, h2⟩ := a.ok.ob k p _ ep e2
        exact .inr ⟨p, vs, rfl, h1, up_tup u a q (rps_keys h2)⟩
      · exact q.elim
    · exact q.elim
  · exact False.elim q
def lstD (d : Dv) : MX Dv := fun _ θ Q => match d with
  | .tup ds => Q (.obj θ.length) (θ ++ [.lst ds])
  | .obj k => (match θ[k]? with
    | some (.lst ds) => Q (.obj θ.length) (θ ++ [.lst ds])
    | some (.dK kvs) => Q (.obj θ.length) (θ ++ [.lst (kvs.map fun kv => keyD kv.1)])
    | _ => False)
  | _ => False
/-! ### over lists of ints, of bools -/
def intsD : List Dv → Option (List Int)
  | [] => some []
  | .int i :: r => (intsD r).map (i :: ·)
  | _ :: _ => none
def boolsD : List Dv → Option (List Bool)
  | [] => some []
  | .bl i :: r => (boolsD r).map (i :: ·)
  | _ :: _ => none
theorem intsD_v {K : PySem.W.Frag} {H : Hp} {α : List Addr} : ∀ {ds : List Dv} {ns : List Int} {vs : List V}, intsD ds = some ns → Rps K H α ds vs → vs = ns.map V.int
  | [], _, _, e, r => by unfold Rps at r; subst r; cases e; rfl
  | d :: ds, ns, vs, e, r => by
    unfold Rps at r
    obtain ⟨v, us, rfl, h1, h2⟩ := r
    cases d with
    | int i =>
      unfold intsD at e
      obtain ⟨ms, e2, rfl⟩ := Option.map_eq_some_iff.mp e
      rw [of_int h1, intsD_v e2 h2]
      rfl
    | _ => simp [intsD] at e
/-- a list of ints at k: f of them -/
def onInts (f : List Int → MX Dv) (d : Dv) : MX Dv := fun E θ Q => match d with
  | .obj k => (match θ[k]? with
    | some (.lst ds) => (match intsD ds with
      | some ns => f ns E θ Q
      | none => False)
    | _ => False)
  | _ => False
def onBools (f : List Bool → MX Dv) (d : Dv) : MX Dv := fun E θ Q => match d with
  | .obj k => (match θ[k]? with
    | some (.lst ds) => (match boolsD ds with
      | some ns => f ns E θ Q
      | none => False)
    | _ => False)
  | _ => False
theorem onInts_up {H : Hp} {α : List Addr} {θ : Th} {f : List Int → MX Dv} {d : Dv} {x : V} {E : Exn → Th → Prop} {Qm : Dv → Th → Prop} (ok : Okk X.K H α θ) (r : Rp X.K H α d x) (q : onInts f d E θ Qm) : ∃ p ns, x = .ref p ∧ SqL X.K H p (ns.map V.int) ∧ f ns E θ Qm := by
  unfold onInts at q
  split at q
  · rename_i k
    unfold Rp at r
    obtain ⟨p, ep, rfl⟩ := r
    split at q
    · rename_i ds e2
      obtain ⟨vs, h1, h2⟩ := ok.ob k p _ ep e2
      split at q
      · rename_i ns e3
        have := intsD_v e3 h2
        subst this
        exact ⟨p, ns, rfl, SqL.of h1, q⟩
      · exact q.elim
    · exact q.elim
  · exact q.elim
def sumL (ns : List Int) : MX Dv := ret (.int ns.sum)
def anyL (bs : List Bool) : MX Dv := ret (.bl (bs.any id))
def allL (bs : List Bool) : MX Dv := ret (.bl (bs.all id))
def maxL (ns : List Int) : MX Dv := fun _ θ Q => 0 < ns.length ∧ ∀ m, m ∈ ns → (∀ y, y ∈ ns → y ≤ m) → Q (.int m) θ
def minL (ns : List Int) : MX Dv := fun _ θ Q => 0 < ns.length ∧ ∀ m, m ∈ ns → (∀ y, y ∈ ns → m ≤ y) → Q (.int m) θ
def sortL (ns : List Int) : MX Dv := fun _ θ Q => ∀ ns' : List Int, ns'.Perm ns → ns'.Pairwise (· ≤ ·) → Q (.obj θ.length) (θ ++ [.lst (ns'.map Dv.int)])
theorem cm_sum (c : Cf X) : CallM W (.builtin "sum") (k1 (onInts sumL)) := cm_of (cr_sum c.calm) fun {H α θ ds xs Qm Q} a r q u => by
  unfold k1 at q
  split at q
  · rename_i d
    obtain ⟨x, rfl, rx⟩ := one_of r
    obtain ⟨p, ns, rfl, h, q⟩ := onInts_up a.ok rx q
    exact ⟨p, ns, rfl, h, up_same u a q rp_int⟩
  · exact False.elim q
theorem cm_min (c : Cf X) : CallM W (.builtin "min") (k1 (onInts minL)) := cm_of (cr_min c.calm) fun {H α θ ds xs Qm Q} a r q u => by
  unfold k1 at q
  split at q
  · rename_i d
    obtain ⟨x, rfl, rx⟩ := one_of r
    obtain ⟨p, ns, rfl, h, q1, q2⟩ := onInts_up a.ok rx q
    exact ⟨p, ns, rfl, h, q1, fun m h1 h2 => up_same u a (q2 m h1 h2) rp_int⟩
  · exact False.elim q
def max2 : List Dv → MX Dv
  | [.int i, .int j] => ret (.int (if j > i then j else i))
  | _ => MX.stuck
theorem cm_max2 (c : Cf X) : CallM W (.builtin "max") max2 := cm_of (call_max2 c.calm) fun {H α θ ds xs Qm Q} a r q u => by
  unfold max2 at q
  split at q
  · cases ds2 r
    exact ⟨_, _, rfl, up_same u a q rp_int⟩
  · exact False.elim q
/-! ### repr -/
def rRepr (K : PySem.W.Frag) : List V → Hp → VK → Prop := fun xs H Q => ∃ x d, xs = [x] ∧ Dp K H x d ∧ d.showable = true ∧ d.hasDict = false ∧ d.depth ≤ 64 ∧ d.shown.length ≤ sizeLine ∧ Q (.str d.shown) H
theorem call_reprD (c : Cf X) : CallR X (.builtin "repr") (rRepr X.K) := by
  rintro pins s σ H xs us Q I r ⟨x, d, e, hd, hs, hn, hdp, hz, q⟩
  subst e
  obtain ⟨u, eu, rx⟩ := vals1 r
  subst eu
  have fin : ∀ tk tk', EP X pins σ Q (.str d.shown tk) { s with toks := tk' } := fun tk tk' => ⟨.str d.shown, H, I.tok tk', ⟨_, rfl⟩, q⟩
  obtain ⟨as, hr⟩ := Dp.reads I d x u hd rx
  cases hd with
  | non => cases rx; exact PySem.P.repr_of_none (fin _ _)
  | bl b => cases rx; exact PySem.P.repr_of_bool (fin _ _)
  | int i =>
    obtain ⟨t, rfl⟩ := rx
    exact PySem.P.repr_of_int (of_decide_eq_true hs) (fin _ _)
  | str z =>
    obtain ⟨t, rfl⟩ := rx
    exact PySem.P.repr_of_str (fin _ _) hz
  | lst h1 h2 =>
    cases rx
    have un := c.un
    exact repr_of_reads' hr hs (PyData.noDict_hsm hn) c.gd (by omega) (fun _ _ e => e) (fun h' w tk hk => ⟨.str _, H, I.kept (t' := tk) hk, ⟨_, rfl⟩, q⟩) hz
  | tup h1 h2 =>
    cases rx
    have un := c.un
    exact repr_of_reads' hr hs (PyData.noDict_hsm hn) c.gd (by omega) (fun _ _ e => e) (fun h' w tk hk => ⟨.str _, H, I.kept (t' := tk) hk, ⟨_, rfl⟩, q⟩) hz
def shows (d : PyData) : Prop := d.showable = true ∧ d.hasDict = false ∧ d.depth ≤ 64 ∧ d.shown.length ≤ sizeLine
def reprD (x : Dv) : MX Dv := fun _ θ Q => match toPy θ 66 x with
  | some d => shows d ∧ Q (.str d.shown) θ
  | none => False
theorem cm_repr (c : Cf X) : CallM W (.builtin "repr") (k1 reprD) := cm_of (call_reprD c) fun {H α θ ds xs Qm Q} a r q u => by
  unfold k1 at q
  split at q
  · rename_i d
    obtain ⟨x, rfl, rx⟩ := one_of r
    unfold reprD at q
    split at q
    · rename_i e he
      obtain ⟨⟨s1, s2, s3, s4⟩, q⟩ := q
      exact ⟨x, e, rfl, toPy_dp a.ok _ _ _ _ he rx, s1, s2, s3, s4, up_same u a q rp_str⟩
    · exact q.elim
  · exact False.elim q
/-! ### isinstance of a built-in class -/
def tyO (o : Option Ob) : Option String := match o with
  | some (.lst _) => some "list"
  | some (.dK _) => some "dict"
  | some (.dT _) => some "dict"
  | _ => none
def tyD (θ : Th) : Dv → Option String
  | .non => some "NoneType"
  | .bl _ => some "bool"
  | .int _ => some "int"
  | .str _ => some "str"
  | .tup _ => some "tuple"
  | .obj k => tyO θ[k]?
  | _ => none
def mIsi (T : String) (a : ME) : ME := fun ρ => do
  let d ← a ρ
  fun _ θ Q => match tyD θ d with
    | some t => (match kitB t T with
      | some b => Q (.bl b) θ
      | none => False)
    | none => False
end
end Mn

/-! Mn10: methods, displays of dicts, chains, tuples and lists of ranges. -/
namespace Mn
open PySem PySem.Spec PyProof.Rows L2

section
variable {X : Cx} {W : Wd X.K X.mg}
/-! ### methods -/
def mMth (T : String) (f : Dv → List Dv → MX Dv) (o : ME) (ms : DEnv → MX (List Dv)) : ME := fun ρ E θ Q => o ρ E θ fun d θ1 => tyD θ1 d = some T ∧ ms ρ E θ1 fun ds θ2 => f d ds E θ2 Q
def rMt (W : Wd X.K X.mg) (f : Dv → List Dv → MX Dv) : V → List V → Hp → VK → Prop := fun x xs H Q => ∃ α θ d ds Qm, At W H α θ ∧ Rp X.K H α d x ∧ Rps X.K H α ds xs ∧ f d ds W.En θ Qm ∧ Up X.K H α Qm Q
def MthM (W : Wd X.K X.mg) (id : String) (f : Dv → List Dv → MX Dv) : Prop := MtR X id (rMt W f)
theorem mm_of {id : String} {r : V → List V → Hp → VK → Prop} {f : Dv → List Dv → MX Dv} (h : MtR X id r) (w : ∀ {H : Hp} {α : List Addr} {θ : Th} {d : Dv} {ds : List Dv} {x : V} {xs : List V} {Qm : Dv → Th → Prop} {Q : VK}, At W H α θ → Rp X.K H α d x → Rps X.K H α ds xs → f d ds W.En θ Qm → Up X.K H α Qm Q → r x xs H Q) : MthM W id f :=
  fun pins s σ H x xs v us Q I rx rs ⟨_, _, _, _, _, h1, h2, h3, h4, h5⟩ => h pins s σ H x xs v us Q I rx rs (w h1 h2 h3 h4 h5)
theorem tyV_of {T : String} (hT : T = "list" ∨ T = "dict" ∨ T = "str") {H : Hp} {α : List Addr} {θ : Th} {d : Dv} {x : V} (ok : Okk X.K H α θ) (r : Rp X.K H α d x) (h : tyD θ d = some T) : tyV X.K T x H := by
  cases d with
  | non => cases h; exact absurd hT (by decide)
  | bl b => cases h; exact absurd hT (by decide)
  | int i => cases h; exact absurd hT (by decide)
  | str z => cases of_str r; cases h; rfl
  | tup ds => cases h; exact absurd hT (by decide)
  | obj k =>
    unfold Rp at r
    obtain ⟨p, ep, rfl⟩ := r
    change tyO θ[k]? = some T at h
    unfold tyO at h
    split at h
    · rename_i ds e2
      obtain ⟨vs, h1, _⟩ := ok.ob k p _ ep e2
      cases h
      exact .inl ⟨rfl, vs, SqL.of h1⟩
    · rename_i ds e2
      obtain ⟨vs, h1, _⟩ := ok.ob k p _ ep e2
      cases h
      exact .inr (.inr (.inl ⟨rfl, .inl ⟨vs, h1⟩⟩))
    · rename_i ds e2
      obtain ⟨vs, h1, _⟩ := ok.ob k p _ ep e2
      cases h
      exact .inr (.inr (.inl ⟨rfl, .inr ⟨vs, h1⟩⟩))
    · cases h
  | _ => cases h
theorem pm_mth {T : String} {f : Dv → List Dv → MX Dv} {mo : ME} {ms : DEnv → MX (List Dv)} {e : Expr} (hT : T = "list" ∨ T = "dict" ∨ T = "str") (h : PE X e (tBM X.K T (rMt W f) (tM W mo) (tMs W ms))) : PE X e (tM W (mMth T f mo ms)) :=
  pe_w h fun σ H Q ⟨ρ, α, θ, Qm, at', rs, q, u⟩ => ⟨ρ, α, θ, _, at', rs, q, fun d θ1 α1 H1 v ⟨q0, q1⟩ ok1 nx1 r1 => ⟨tyV_of hT ok1 r1 q0, ρ, α1, θ1, _, ⟨ok1, at'.nx.trans nx1⟩, rs.mono nx1, q1, fun ds θ2 α2 H2 vs q2 ok2 nx2 r2 =>
    ⟨α2, θ2, d, ds, Qm, ⟨ok2, (at'.nx.trans nx1).trans nx2⟩, r1.mono nx2, r2, q2, u.mono (nx1.trans nx2)⟩⟩⟩
/-! lists -/
def appendD (d : Dv) (ds : List Dv) : MX Dv := fun _ θ Q => match d with
  | .obj k => (match θ[k]? with
    | some (.lst xs) => (match ds with
      | [y] => xs.length < sizeLine ∧ Q .non (θ.set k (.lst (xs ++ [y])))
      | _ => False)
    | _ => False)
  | _ => False
theorem mm_append : MthM W "list.append" appendD := mm_of (fun pins s σ H x xs v us Q I r1 r2 q => mt_append pins s σ H x xs v us Q I r1 r2 q) fun {H α θ d ds x xs Qm Q} a r rs q u => by
  unfold appendD at q
  split at q
  · rename_i k
    split at q
    · rename_i es e2
      split at q
      · rename_i y
        obtain ⟨p, vs, rfl, ep, h1, h2⟩ := a.lst e2 r
        obtain ⟨v, rfl, rv⟩ := one_of rs
        refine ⟨p, vs, v, rfl, rfl, h1, by rw [h2.length]; exact q.1, ?_⟩
        have nx := Nx.chg (K := X.K) (o := .lst (vs ++ [v])) (a.ok.ob k p _ ep e2)
        exact up_chg (ob := .lst (es ++ [y])) u a ep e2 ⟨_, upd_same, (h2.mono nx).append (.cons (rv.mono nx) .nil)⟩ q.2 rp_non
      · exact q.elim
    · exact q.elim
  · exact q.elim
theorem Rps.dropLast {K : PySem.W.Frag} {H : Hp} {α : List Addr} : ∀ {ds : List Dv} {vs : List V}, Rps K H α ds vs → Rps K H α ds.dropLast vs.dropLast
  | [], _, h => by unfold Rps at h; subst h; exact Rps.nil
  | [d], _, h => by
    unfold Rps at h
    obtain ⟨v, r, rfl, h1, h2⟩ := h
    unfold Rps at h2
    subst h2
    exact Rps.nil
  | d :: e :: ds, _, h => by
    unfold Rps at h
    obtain ⟨v, r, rfl, h1, h2⟩ := h
    have h3 := Rps.dropLast h2
    unfold Rps at h2
    obtain ⟨v2, r2, rfl, h4, h5⟩ := h2
    exact Rps.cons h1 h3
def popD (d : Dv) (ds : List Dv) : MX Dv := fun _ θ Q => match d with
  | .obj k => (match θ[k]? with
    | some (.lst xs) => (match ds, xs[xs.length - 1]? with
      | [], some y => Q y (θ.set k (.lst xs.dropLast))
      | _, _ => False)
    | _ => False)
  | _ => False
/-! dict.setdefault -/
theorem MtR.or {id : String} {r r' : V → List V → Hp → VK → Prop} (h : MtR X id r) (h' : MtR X id r') : MtR X id (fun x xs H Q => r x xs H Q ∨ r' x xs H Q) := fun pins s σ H x xs v us Q I r1 r2 q => q.elim (fun q => h pins s σ H x xs v us Q I r1 r2 q) (fun q => h' pins s σ H x xs v us Q I r1 r2 q)
def setdD (d : Dv) (ds : List Dv) : MX Dv := fun _ θ Q => match d, ds with
  | .obj j, [y, z] => (match θ[j]? with
    | some (.dT kvs) => (match tKey y with
      | some k => kvs.length < sizeLine ∧ (match lookD kvs k with
        | some v => Q v θ
        | none => Q z (θ.set j (.dT (putD kvs k z))))
      | none => False)
    | some (.dK kvs) => (match fKey y with
      | some k => kvs.length < sizeLine ∧ (match lookD kvs k with
        | some v => Q v θ
        | none => Q z (θ.set j (.dK (putD kvs k z))))
      | none => False)
    | _ => False)
  | _, _ => False
/-! ### displays of dicts -/
def mDK : ME := fun _ _ θ Q => Q (.obj θ.length) (θ ++ [.dK []])
def mDT : ME := fun _ _ θ Q => Q (.obj θ.length) (θ ++ [.dT []])
theorem pm_dT {pos : Pos} : PE X (.Dict [] [] pos) (tM W mDT) := pe_w pe_dnewT fun σ H Q ⟨ρ, α, θ, Qm, at', rs, q, u⟩ p hp => by
  have nx : Nx X.K H α (upd H p (.dT [])) (α ++ [p]) := Nx.new hp _
  exact u _ _ _ _ _ q (at'.ok.new hp ⟨[], upd_same, by unfold RpK; rfl⟩) nx (rp_obj (by rw [← at'.ok.len]; simp))
/-- {a: b}, the new dict stands empty while the pair is made -/
def mDict1 (a b : ME) : ME := fun ρ E θ Q => a ρ E (θ ++ [.dK []]) fun x θ1 => b ρ E θ1 fun y θ2 => θ2[θ.length]? = some (.dK []) ∧ match fKey x with
  | some k => Q (.obj θ.length) (θ2.set θ.length (.dK [(k, y)]))
  | none => False
/-! ### a < b < c -/
theorem tm_chain {o o' : Dv → Dv → MX Dv} {a b c : ME} (σ : L2.St) (H : Hp) (Q : VK) : tM W (mChain o o' a b c) σ H Q → tChain (rM2 W o) (rM2 W o') (tM W a) (tM W b) (tM W c) σ H Q := fun ⟨ρ, α, θ, Qm, at', rs, q, u⟩ =>
  ⟨ρ, α, θ, _, at', rs, q, fun x θ1 α1 H1 v1 q1 ok1 nx1 r1 => ⟨ρ, α1, θ1, _, ⟨ok1, at'.nx.trans nx1⟩, rs.mono nx1, q1, fun y θ2 α2 H2 v2 q2 ok2 nx2 r2 =>
    ⟨α2, θ2, x, y, _, ⟨ok2, (at'.nx.trans nx1).trans nx2⟩, r1.mono nx2, r2, q2, fun k θ3 α3 H3 v3 q3 ok3 nx3 r3 => by
      have a3 : At W H3 α3 θ3 := ⟨ok3, ((at'.nx.trans nx1).trans nx2).trans nx3⟩
      have nxT := (nx1.trans nx2).trans nx3
      cases k with
      | bl k =>
        cases of_bl r3
        cases k with
        | true => exact ⟨true, rfl, iteT ⟨ρ, α3, θ3, _, a3, rs.mono nxT, q3, fun z θ4 α4 H4 v4 q4 ok4 nx4 r4 => ⟨α4, θ4, y, z, Qm, ⟨ok4, a3.nx.trans nx4⟩, (r2.mono nx3).mono nx4, r4, q4, u.mono (nxT.trans nx4)⟩⟩⟩
        | false => exact ⟨false, rfl, iteF (up_same (u.mono nxT) a3 q3 rp_bl)⟩
      | _ => exact False.elim q3⟩⟩⟩
theorem bm_chain {a b c : Expr} {ma mb mc : ME} {op op' : CmpOp} {o o' : Dv → Dv → MX Dv} {pos : Pos} (ho : OpM W (compareOp op) o) (ho' : OpM W (compareOp op') o') (ha : PE X a (tM W ma)) (hb : PE X b (tM W mb)) (hc : PE X c (tM W mc))
    (hm : lastMarks [op, op'] [b, c] = false := by with_unfolding_all rfl) : PT X (.Compare a [op, op'] [b, c] pos) (tMb W (bB (mChain o o' ma mb mc))) :=
  pt_w (pt_chain ho ho' ha hb hc hm) fun σ H Q ⟨ρ, α, θ, Qm, at', rs, q, u⟩ => tm_chain σ H _ ⟨ρ, α, θ, _, at', rs, q, fun d θ1 α1 H1 v q1 ok1 nx1 r1 => by
    cases d with
    | bl k =>
      cases of_bl r1
      exact ⟨k, rfl, u k θ1 α1 H1 q1 ok1 nx1⟩
    | _ => exact False.elim q1⟩
/-! ### tuple(range(..)), list(range(..)) -/
def rgD (a b : Int) : List Dv := (List.range (b - a).toNat).map fun i => Dv.int (a + (i : Nat))
def mTupRg (m : DEnv → MX (Int × Int)) : ME := fun ρ E θ Q => m ρ E θ fun b θ1 => RgOk b.1 b.2 ∧ Q (.tup (rgD b.1 b.2)) θ1
def mLstRg (m : DEnv → MX (Int × Int)) : ME := fun ρ E θ Q => m ρ E θ fun b θ1 => RgOk b.1 b.2 ∧ Q (.obj θ1.length) (θ1 ++ [.lst (rgD b.1 b.2)])
end
end Mn

/-! Mn11: defs: what a def promises, its call, its body; what is left behind is dropped. -/
namespace Mn
open PySem PySem.Spec PyProof.Rows L2

/-! ### data whose objects are low n -/
mutual
def Dv.low (n : Nat) : Dv → Bool
  | .obj k => decide (k < n)
  | .tup ds => Dv.lows n ds
  | .pt ds => Dv.lows n ds
  | .st ds => Dv.lows n ds
  | _ => true
def Dv.lows (n : Nat) : List Dv → Bool
  | [] => true
  | d :: ds => d.low n && Dv.lows n ds
end
def lowK {κ : Type} (n : Nat) (kvs : List (κ × Dv)) : Bool := kvs.all fun kv => kv.2.low n
def Ob.low (n : Nat) : Ob → Bool
  | .lst ds => Dv.lows n ds
  | .dK kvs => lowK n kvs
  | .dT kvs => lowK n kvs
  | .dKf kvs => lowK n kvs
  | .dTf kvs => lowK n kvs
  | .ins _ fs => lowK n fs
  | .dN kvs => lowK n kvs
  | .dNf kvs => lowK n kvs
/-- every object of the store is made of what the store has -/
def Clo (θ : Th) : Prop := ∀ o, o ∈ θ → o.low θ.length = true
section
variable {K : PySem.W.Frag} {H : Hp} {α : List Addr} {θ : Th}
mutual
theorem Rp.low : ∀ {d : Dv} {v : V}, Rp K H α d v → d.low α.length = true
  | .non, _, _ => rfl
  | .bl _, _, _ => rfl
  | .int _, _, _ => rfl
  | .str _, _, _ => rfl
  | .rf _, _, _ => rfl
  | .fn _, _, _ => rfl
  | .scr _, _, _ => rfl
  | .obj k, v, h => by
    unfold Rp at h
    obtain ⟨p, e, _⟩ := h
    unfold Dv.low
    exact decide_eq_true (List.getElem?_eq_some_iff.mp e).1
  | .tup ds, v, h => by
    unfold Rp at h
    obtain ⟨p, vs, _, _, r⟩ := h
    unfold Dv.low
    exact Rps.low r
  | .st ds, v, h => by
    unfold Rp at h
    obtain ⟨p, vs, _, _, r⟩ := h
    unfold Dv.low
    exact Rps.low r
  | .pt ds, v, h => by
    unfold Rp at h
    obtain ⟨p, vs, _, _, _, _, r⟩ := h
    unfold Dv.low
    exact Rps.low r
theorem Rps.low : ∀ {ds : List Dv} {vs : List V}, Rps K H α ds vs → Dv.lows α.length ds = true
  | [], _, _ => rfl
  | d :: ds, _, h => by
    unfold Rps at h
    obtain ⟨v, r, _, h1, h2⟩ := h
    unfold Dv.lows
    rw [Rp.low h1, Rps.low h2]
    rfl
end
theorem RpK.low {κ : Type} : ∀ {ds : List (κ × Dv)} {vs : List (κ × V)}, RpK K H α ds vs → lowK α.length ds = true
  | [], _, _ => rfl
  | (k, d) :: ds, _, h => by
    unfold RpK at h
    obtain ⟨v, r, _, h1, h2⟩ := h
    have := RpK.low h2
    unfold lowK at this ⊢
    rw [List.all_cons, this, h1.low]
    rfl
theorem ObR.low {p : Addr} {o : Ob} (h : ObR K H α p o) : o.low α.length = true := by
  cases o with
  | lst ds => obtain ⟨vs, _, r⟩ := h; exact r.low
  | dK ds => obtain ⟨vs, _, r⟩ := h; exact r.low
  | dT ds => obtain ⟨vs, _, r⟩ := h; exact r.low
  | dKf ds => obtain ⟨vs, _, _, r⟩ := h; exact r.low
  | dTf ds => obtain ⟨vs, _, _, r⟩ := h; exact r.low
  | ins C fs => obtain ⟨_, vs, _, r⟩ := h; exact r.low
  | dN ds => obtain ⟨vs, bs, _, _, r⟩ := h; exact r.low
  | dNf ds => obtain ⟨vs, bs, _, _, _, r⟩ := h; exact r.low
theorem Okk.clo (ok : Okk K H α θ) : Clo θ := fun o ho => by
  obtain ⟨k, hk, e⟩ := List.mem_iff_getElem.mp ho
  have e2 : θ[k]? = some o := by rw [List.getElem?_eq_getElem hk, e]
  obtain ⟨p, ep⟩ := ok.addr e2
  rw [← ok.len]
  exact (ok.ob k p o ep e2).low
mutual
theorem Rp.cut {n : Nat} : ∀ {d : Dv} {v : V}, Rp K H α d v → d.low n = true → Rp K H (α.take n) d v
  | .non, _, h, _ => by simpa [Rp] using h
  | .bl _, _, h, _ => by simpa [Rp] using h
  | .int _, _, h, _ => by simpa [Rp] using h
  | .str _, _, h, _ => by simpa [Rp] using h
  | .rf _, _, h, _ => by simpa [Rp] using h
  | .fn _, _, h, _ => by simpa [Rp] using h
  | .scr _, _, h, _ => by simpa [Rp] using h
  | .obj k, v, h, b => by
    unfold Rp at h ⊢
    obtain ⟨p, e, r⟩ := h
    unfold Dv.low at b
    have b := of_decide_eq_true b
    exact ⟨p, by rw [List.getElem?_take_of_lt b]; exact e, r⟩
  | .tup ds, v, h, b => by
    unfold Rp at h ⊢
    obtain ⟨p, vs, e, t, r⟩ := h
    unfold Dv.low at b
    exact ⟨p, vs, e, t, Rps.cut r b⟩
  | .st ds, v, h, b => by
    unfold Rp at h ⊢
    obtain ⟨p, vs, e, t, r⟩ := h
    unfold Dv.low at b
    exact ⟨p, vs, e, t, Rps.cut r b⟩
  | .pt ds, v, h, b => by
    unfold Rp at h ⊢
    obtain ⟨p, vs, o, e, t, d, r⟩ := h
    unfold Dv.low at b
    exact ⟨p, vs, o, e, t, d, Rps.cut r b⟩
theorem Rps.cut {n : Nat} : ∀ {ds : List Dv} {vs : List V}, Rps K H α ds vs → Dv.lows n ds = true → Rps K H (α.take n) ds vs
  | [], _, h, _ => by unfold Rps at h ⊢; exact h
  | d :: ds, _, h, b => by
    unfold Rps at h ⊢
    obtain ⟨v, r, e, h1, h2⟩ := h
    unfold Dv.lows at b
    rw [Bool.and_eq_true] at b
    exact ⟨v, r, e, Rp.cut h1 b.1, Rps.cut h2 b.2⟩
end
theorem RpK.cut {κ : Type} {n : Nat} : ∀ {ds : List (κ × Dv)} {vs : List (κ × V)}, RpK K H α ds vs → lowK n ds = true → RpK K H (α.take n) ds vs
  | [], _, h, _ => by unfold RpK at h ⊢; exact h
  | (k, d) :: ds, _, h, b => by
    unfold RpK at h ⊢
    obtain ⟨v, r, e, h1, h2⟩ := h
    unfold lowK at b
    rw [List.all_cons, Bool.and_eq_true] at b
    exact ⟨v, r, e, h1.cut b.1, RpK.cut h2 b.2⟩
theorem ObR.cut {n : Nat} {p : Addr} {o : Ob} (h : ObR K H α p o) (b : o.low n = true) : ObR K H (α.take n) p o := by
  cases o with
  | lst ds => obtain ⟨vs, e, r⟩ := h; exact ⟨vs, e, r.cut b⟩
  | dK ds => obtain ⟨vs, e, r⟩ := h; exact ⟨vs, e, r.cut b⟩
  | dT ds => obtain ⟨vs, e, r⟩ := h; exact ⟨vs, e, r.cut b⟩
  | dKf ds => obtain ⟨vs, o, e, r⟩ := h; exact ⟨vs, o, e, r.cut b⟩
  | dTf ds => obtain ⟨vs, o, e, r⟩ := h; exact ⟨vs, o, e, r.cut b⟩
  | ins C fs => obtain ⟨dx, vs, e, r⟩ := h; exact ⟨dx, vs, e, r.cut b⟩
  | dN ds => obtain ⟨vs, bs, e, k, r⟩ := h; exact ⟨vs, bs, e, k, r.cut b⟩
  | dNf ds => obtain ⟨vs, bs, o, e, k, r⟩ := h; exact ⟨vs, bs, o, e, k, r.cut b⟩
theorem Okk.cut {g : Th} (ok : Okk K H α (θ ++ g)) (c : Clo θ) : Okk K H (α.take θ.length) θ := by
  have hl := ok.len
  rw [List.length_append] at hl
  refine ⟨by rw [List.length_take]; omega, ok.nd.sublist (List.take_sublist _ _), fun k p o e1 e2 => ?_⟩
  have hk := (List.getElem?_eq_some_iff.mp e2).1
  rw [List.getElem?_take_of_lt hk] at e1
  exact (ok.ob k p o e1 (by rw [List.getElem?_append_left hk]; exact e2)).cut (c o (List.mem_of_getElem? e2))
end

/-! ### a def -/
/-- the end of a body: what it left behind may be dropped -/
def endQ (θ0 : Th) (Q : Dv → Th → Prop) (d : Dv) (θ' : Th) : Prop := Q d θ' ∨ ∃ θ2 g, θ' = θ2 ++ g ∧ θ0.length ≤ θ2.length ∧ (Clo θ0 → Clo θ2 ∧ d.low θ2.length = true) ∧ Q d θ2
/-- a def with j names more than parameters -/
def defM (j : Nat) (m : MS) (ds : List Dv) : MX Dv := fun E θ Q => m (ds.map some ++ List.replicate j none) E θ fun o θ' => match o with
  | .nx _ => endQ θ Q .non θ'
  | .rt d => endQ θ Q d θ'
  | _ => False
/-- what a def promises -/
def spM (K : PySem.W.Frag) (mg : Str → Option Value) (n : Nat) (c : List Dv → MX Dv) : Sp := fun vs H Q E => ∃ (α : List Addr) (θ : Th) (ds : List Dv) (En : Exn → Th → Prop) (Qm : Dv → Th → Prop),
  ds.length = n ∧ Okk K H α θ ∧ Rps K H α ds vs ∧ c ds En θ Qm ∧ Up K H α Qm Q ∧ ∀ x θ' α' H' cls d, En x θ' → Okk K H' α' θ' → Nx K H α H' α' → ExR K mg H' α' x cls d → E cls d H'
theorem spM_len {K : PySem.W.Frag} {mg : Str → Option Value} {n : Nat} {c : List Dv → MX Dv} {vs : List V} {H : Hp} {Q : VK} {E : XK} (h : spM K mg n c vs H Q E) : vs.length = n := by
  obtain ⟨α, θ, ds, En, Qm, h1, _, h2, _⟩ := h
  rw [h2.length, h1]
def Wd.XK {K : PySem.W.Frag} {mg : Str → Option Value} (W : Wd K mg) : XK := fun cls d H => ∃ x θ α, W.En x θ ∧ Okk K H α θ ∧ Nx K W.H0 W.α0 H α ∧ ExR K mg H α x cls d
theorem up_end {K : PySem.W.Frag} {H : Hp} {α : List Addr} {θ : Th} {Qm : Dv → Th → Prop} {Q : VK} (ok0 : Okk K H α θ) (u : Up K H α Qm Q) {d : Dv} {θ' : Th} {α' : List Addr} {H' : Hp} {v : V} (q : endQ θ Qm d θ') (ok : Okk K H' α' θ') (nx : Nx K H α H' α') (r : Rp K H' α' d v) : Q v H' := by
  rcases q with q | ⟨θ2, g, rfl, hl, hc, q⟩
  · exact u d θ' α' H' v q ok nx r
  · obtain ⟨c2, b2⟩ := hc ok0.clo
    refine u d θ2 (α'.take θ2.length) H' v q (ok.cut c2) ⟨?_, nx.tup, nx.xd, nx.fz⟩ (r.cut b2)
    obtain ⟨β, rfl⟩ := nx.ext
    refine ⟨β.take (θ2.length - α.length), ?_⟩
    rw [List.take_append, List.take_of_length_le (by rw [ok0.len]; exact hl)]
section
variable {X : Cx} {W : Wd X.K X.mg}
def mCallU (n : Nat) (c : List Dv → MX Dv) (ms : DEnv → MX (List Dv)) : ME := fun ρ E θ Q => ms ρ E θ fun ds θ1 => ds.length = n ∧ c ds E θ1 Q
theorem pm_call {CX : CXT} {k n : Nat} {f : Addr} {fd : FuncData} {ps : List Str} {c : List Dv → MX Dv} {x : Str} {p pos : Pos} {e : Expr} {es : List Expr} {ms : DEnv → MX (List Dv)} (F : FnG X.prog X.w X.K X.mg X.base CX k f fd ps (spM X.K X.mg n c)) (cf : Cf X) (hr : Room k X.A) (hg : Gl X x) (hm : X.mg x = some (.ref f)) (hk : PySem.W.keepIn X.K (.ref f) = true)
    (hb : Binds X.K fd ps []) (hx : Passes CX X W.XK) (ha : PA X (e :: es) (tMs W ms)) (hdb : (x == ("__debug__" : Str)) = false := by decide) (he : starEach (e :: es) X.env = (false, eval e X.env) :: starEach es X.env := by rfl)
    (hpl : (backTo pos (starEach es X.env)).any (·.1) = false := by rfl) : PE X (.Call (.Name x p) (e :: es) [] pos) (tM W (mCallU n c ms)) :=
  pe_w (pe_callG F cf.gd hr hg hm hk hb .nil hx ha hdb he hpl) fun σ H Q ⟨ρ, α, θ, Qm, at', rs, q, u⟩ => ⟨ρ, α, θ, _, at', rs, q, fun ds θ1 α1 H1 vs q1 ok1 nx1 r1 => by
    show spM X.K X.mg n c (vs ++ []) H1 Q W.XK
    rw [List.append_nil]
    exact ⟨α1, θ1, ds, W.En, Qm, q1.1, ok1, r1, q1.2, u.mono nx1, fun x2 θ2 α2 H2 cls d h1 h2 h3 h4 => ⟨x2, θ2, α2, h1, h2, (at'.nx.trans nx1).trans h3, h4⟩⟩⟩
end
theorem rs_start {K : PySem.W.Frag} {H : Hp} {α : List Addr} {N : List Str} {vs : List V} {ds : List Dv} {j : Nat} (r : Rps K H α ds vs) (h : N.length = ds.length + j) : RS K H α (L2.start N vs) (ds.map some ++ List.replicate j none) := by
  unfold L2.start
  refine ⟨by simp [r.length, h], fun i d e => ?_⟩
  by_cases hi : i < ds.length
  · rw [List.getElem?_append_left (by simpa using hi), List.getElem?_map] at e
    cases e2 : ds[i]? with
    | none => rw [e2] at e; cases e
    | some d2 =>
      rw [e2] at e
      cases e
      obtain ⟨v, hv, rv⟩ := r.get e2
      refine ⟨v, ?_, rv⟩
      rw [List.getElem?_append_left (by simpa [r.length] using hi), List.getElem?_map, hv]
      rfl
  · rw [List.getElem?_append_right (by simpa using hi), List.getElem?_replicate] at e
    split at e <;> cases e
theorem room_cf {CX : CXT} {P : Program} {w : World} {K : PySem.W.Frag} {mg : Str → Option Value} {base : Heap} {N : List Str} {qual : Str} {scope : Scope} {f : Addr} {cdv : Value} {A : Around} {outer : List Env} {s : Shared} {H : Hp} {E : XK} {k : Nat} (gd : A.guards = some []) (hr : Room k (A.deeper (envOfC qual scope s.heap.objs.size f cdv))) (nd : N.Nodup) :
    Cf (cxOf CX P w K mg base N qual scope f cdv A outer s H E).nox := by
  refine ⟨rfl, ?_, ?_, nd⟩
  · show (A.deeper _).guards = some []
    exact gd
  · have := hr.un
    show (A.deeper _).units + 100 < cLine
    omega
/-- a calm def by its body -/
theorem fnM0 {P : Program} {w : World} {K : PySem.W.Frag} {mg : Str → Option Value} {base : Heap} {x qual : Str} {st : Stmt} {f : Addr} {fd : FuncData} {N ps : List Str} {k n j : Nat} {m : MS} (F : Fun K x qual st f fd) (S : FnScope N ps (defScope st)) (hn : ps.length = n) (hj : N.length = n + j)
    (hbody : ∀ (cdv : Value) (A : Around) (outer : List Env) (s : Shared) (H : Hp) (E : XK) (W : Wd K mg), Room k (A.deeper (envOfC qual (defScope st) s.heap.objs.size f cdv)) → Cf (cxOf CX0 P w K mg base N qual (defScope st) f cdv A outer s H E).nox →
      PSs (cxOf CX0 P w K mg base N qual (defScope st) f cdv A outer s H E).nox (defBody st) (tS W m)) : FnG P w K mg base CX0 (k + 1) f fd ps (spM K mg n (defM j m)) := by
  obtain ⟨oc, od, kV, doc, pm, an, cdv, ct, osl, rfl, lk, hcd⟩ := F.ex
  refine fnG_of lk hcd S (fun vs H Q E h => by rw [spM_len h, hn]) fun A outer s H vs Q E gd hr hsp => ?_
  obtain ⟨α, θ, ds, En, Qm, h1, ok, rps, q, u, lnk⟩ := hsp
  refine ⟨_, (hbody cdv A outer s H E ⟨H, α, En, E⟩ hr (room_cf gd hr S.nd)).nox, _, α, θ, _, ⟨ok, Nx.refl⟩, rs_start rps (by rw [h1]; exact hj), q, fun o θ' α' H' q' ok' nx' => ?_⟩
  cases o with
  | nx ρ' => exact fun σ' _ => up_end ok u q' ok' nx' rp_non
  | rt d => exact fun v r => up_end ok u q' ok' nx' r
  | bk ρ' => exact False.elim q'
  | ct ρ' => exact False.elim q'
end Mn

/-! Mn12: short words for derivations. -/
namespace Mn
open PySem PySem.Spec PyProof.Rows L2
theorem b_len : bootBuiltins "len" = some (.builtin "len") := by decide +kernel
theorem b_sum : bootBuiltins "sum" = some (.builtin "sum") := by decide +kernel
theorem b_max : bootBuiltins "max" = some (.builtin "max") := by decide +kernel
theorem b_min : bootBuiltins "min" = some (.builtin "min") := by decide +kernel
theorem b_repr : bootBuiltins "repr" = some (.builtin "repr") := by decide +kernel
theorem b_int : bootBuiltins "int" = some (.type "int") := by decide +kernel
theorem b_tuple : bootBuiltins "tuple" = some (.type "tuple") := by decide +kernel
theorem Cf.blk {X : Cx} {s : Shared} {H : Hp} {scope : Scope} {e : Env} {fp : List Addr} (c : Cf X) : Cf (X.blk s H scope e fp) := ⟨c.calm, c.gd, c.un, c.nd⟩
theorem pass {X : Cx} {E : XK} : Passes CX0 X E := fun _ _ _ _ _ _ _ h => h.elim
section
variable {X : Cx} {W : Wd X.K X.mg}
theorem pm_v (i : Nat) {x : Str} {pos : Pos} (hN : X.N[i]? = some x := by rfl) (hv : Vis X.env.scope x := by first | exact Or.inl rfl | exact Or.inr (Or.inl rfl) | exact Or.inr (Or.inr rfl)) (hd : (x == ("__debug__" : Str)) = false := by decide)
    (hcd : (x == ("__classdict__" : Str)) = false := by decide) : PE X (.Name x pos) (tM W (mVar i)) := pm_var (pe_var hN hv hd hcd)
/-- a built-in function's call -/
theorem pm_bf {x : Str} {p pos : Pos} {e : Expr} {es : List Expr} {ms : DEnv → MX (List Dv)} {id : String} {c : List Dv → MX Dv} (hc : CallM W (.builtin id) c) (hm : X.mg x = none) (hv : bootBuiltins x = some (.builtin id)) (ha : PA X (e :: es) (tMs W ms)) (hg : Gl X x := by rfl) (hn : x ≠ "__name__" := by decide) (hdb : (x == ("__debug__" : Str)) = false := by decide)
    (he : starEach (e :: es) X.env = (false, eval e X.env) :: starEach es X.env := by rfl) (hpl : (backTo pos (starEach es X.env)).any (·.1) = false := by rfl) : PE X (.Call (.Name x p) (e :: es) [] pos) (tM W (mCall c ms)) := pe_w (pe_callB hc hg hm hv ha hn hdb he hpl) tm_call
/-- a built-in type's call -/
theorem pm_bt {x : Str} {p pos : Pos} {e : Expr} {es : List Expr} {ms : DEnv → MX (List Dv)} {T : String} {c : List Dv → MX Dv} (hc : CallM W (.type T) c) (hm : X.mg x = none) (hv : bootBuiltins x = some (.type T)) (ha : PA X (e :: es) (tMs W ms)) (hg : Gl X x := by rfl) (hn : x ≠ "__name__" := by decide) (hdb : (x == ("__debug__" : Str)) = false := by decide)
    (he : starEach (e :: es) X.env = (false, eval e X.env) :: starEach es X.env := by rfl) (hpl : (backTo pos (starEach es X.env)).any (·.1) = false := by rfl) : PE X (.Call (.Name x p) (e :: es) [] pos) (tM W (mCall c ms)) := pe_w (pe_callTy hc hg hm hv ha hn hdb he hpl) tm_call
theorem sm_st (i : Nat) {x : Str} {e : Expr} {m : ME} {pos' pos : Pos} (c : Cf X) (he : PE X e (tM W m)) (hi : X.N[i]? = some x := by rfl) (hx : Loc X.env.scope x := by first | exact Or.inl rfl | exact Or.inr rfl) (hs : swapsWith e (some (.Name x pos')) pos.line X.env = pure false := by rfl) (hf : X.fn x = true ∨ X.env.scope.names.lookup x = some .local := by first | exact .inl rfl | exact .inr rfl) :
    PS X (.Assign [.Name x pos'] e pos) (tS W (sSet i m)) := ps_w (ps_set c.nd hi hx he hs hf) ts_set
theorem sm_ex {e : Expr} {m : ME} {pos : Pos} (he : PE X e (tM W m)) (hs : swapsWith e none pos.line X.env = pure false := by rfl) : PS X (.Expr e pos) (tS W (sDrop m)) := sm_drop (ps_expr he hs)
theorem gm_v (i : Nat) {x : Str} {pos : Pos} (c : Cf X) (hi : X.N[i]? = some x := by rfl) (hx : Loc X.env.scope x := by first | exact Or.inl rfl | exact Or.inr rfl) (hf : X.fn x = true ∨ X.env.scope.names.lookup x = some .local := by first | exact .inl rfl | exact .inr rfl) : PG X (.Name x pos) (gT X.K (.nm i)) := gm_nm (pg_name c.nd hi hx hf)
theorem gm_t {es : List Expr} {k : Nat} {ts : List Tg} {pos : Pos} (c : Cf X) (h : PGs X es (gTs X.K ts)) (hl : es.length = ts.length := by rfl) (hn : (assignEach es X.env).length = ts.length := by rfl) (hst : (assignEach es X.env).findIdx? (·.1) = none := by rfl) : PG X (.Tuple es k pos) (gT X.K (.tp ts)) := gm_tp c hl h fun h => pg_tup c.calm h hn hst
theorem pm_lc1 {elt tg iter : Expr} {ifs : List Expr} {scope : Scope} {vs : List Nat} {pos : Pos} {ms : DEnv → MX Src} {T : Tg} {cond : DEnv → MX Bool} {me : ME} (own : List (Str × Nat)) (c : Cf X) (hi : PI X tg iter (tIm W ms)) (ok : BlkOk X.N X.env.scope scope own)
    (hg : ∀ (s : Shared) (H : Hp) (C : Addr) (cl : List (Str × Addr)) (fp : List Addr), PG (X.blk s H scope (compEnvC scope cl C X.env) fp) tg (gT X.K T))
    (ht : ∀ (s : Shared) (H : Hp) (C : Addr) (cl : List (Str × Addr)) (fp : List Addr), PTs (X.blk s H scope (compEnvC scope cl C X.env) fp) ifs (tMb W.calm cond))
    (he : ∀ (s : Shared) (H : Hp) (C : Addr) (cl : List (Str × Addr)) (fp : List Addr), PE (X.blk s H scope (compEnvC scope cl C X.env) fp) elt (tM W.calm me))
    (hvs : own.map (·.2) = vs := by rfl) (hv : ∀ i ∈ T.vars, i ∈ vs := by decide) (hs : ∀ x, foldedSetIterable iter X.env x = pure x := by intro _; rfl) :
    PE X (.ListComp elt [⟨tg, iter, ifs, 0⟩] scope pos) (tM W (mLc ms T cond me vs)) := by
  subst hvs
  exact pm_lc c hi ok hg ht he hv hs
theorem sm_lc1 {i : Nat} {y : Str} {py : Pos} {elt tg iter : Expr} {ifs : List Expr} {scope : Scope} {vs : List Nat} {pos spos : Pos} {ms : DEnv → MX Src} {T : Tg} {cond : DEnv → MX Bool} {me : ME} (own : List (Str × Nat)) (c : Cf X) (hy : X.N[i]? = some y) (hyl : X.env.scope.names.lookup y = some .local)
    (hsw : swapsWith (.ListComp elt [⟨tg, iter, ifs, 0⟩] scope pos) (some (.Name y py)) spos.line X.env = pure true) (hi : PI X tg iter (tIm W ms)) (ok : BlkOk X.N X.env.scope scope own)
    (hg : ∀ (s : Shared) (H : Hp) (C : Addr) (cl : List (Str × Addr)) (fp : List Addr), PG (X.blk s H scope (compEnvC scope cl C X.env) fp) tg (gT X.K T))
    (ht : ∀ (s : Shared) (H : Hp) (C : Addr) (cl : List (Str × Addr)) (fp : List Addr), PTs (X.blk s H scope (compEnvC scope cl C X.env) fp) ifs (tMb W.calm cond))
    (he : ∀ (s : Shared) (H : Hp) (C : Addr) (cl : List (Str × Addr)) (fp : List Addr), PE (X.blk s H scope (compEnvC scope cl C X.env) fp) elt (tM W.calm me))
    (hvs : own.map (·.2) = vs := by rfl) (hv : ∀ i ∈ T.vars, i ∈ vs := by decide) (hs : ∀ x, foldedSetIterable iter X.env x = pure x := by intro _; rfl) :
    PS X (.Assign [.Name y py] (.ListComp elt [⟨tg, iter, ifs, 0⟩] scope pos) spos) (tS W (sSet i (mLc ms T cond me vs))) := by
  subst hvs
  exact sm_lc c hy hyl hsw hi ok hg ht he hv hs
theorem sm_pt {o i e : Expr} {mo mi m : ME} {pos' pos : Pos} (c : Cf X) (he : PE X e (tM W m)) (ho : PE X o (tM W mo)) (hi : PE X i (tM W mi))
    (hg : ∀ g, PE X e (tM W m) → PG X (.Subscript o i pos') g → PS X (.Assign [.Subscript o i pos'] e pos) (tAsg (tM W m) g) := by exact fun g h1 h2 => ps_asg h1 h2)
    (hp : ∀ t, PE X o (tM W mo) → PE X i (tM W mi) → PSet X t → PG X (.Subscript o i pos') (gSub (tM W mo) (tM W mi) t) := by exact fun t h1 h2 h => pg_sub h1 h2 h) : PS X (.Assign [.Subscript o i pos'] e pos) (tS W (sPut mo mi m)) := sm_put c he ho hi (fun t h => hp t ho hi h) fun g h => hg g he h
end
/-! ### the law's end -/
def spTop (K : PySem.W.Frag) (c : List Dv → MX Dv) : Sp := fun vs H Q _ => ∃ (ns : List Int) (a : Addr), vs = [.ref a] ∧ Scr K H a (ns.map V.int) ∧ c [.scr ns] (fun _ _ => False) [] (fun d _ => d = .bl true) ∧ ∀ H', Q (.bl true) H'
theorem fnG_top {P : Program} {w : World} {K : PySem.W.Frag} {mg : Str → Option Value} {base : Heap} {CX : CXT} {k : Nat} {f : Addr} {fd : FuncData} {ps : List Str} {c : List Dv → MX Dv} (F : FnG P w K mg base CX k f fd ps (spM K mg 1 c)) : FnG P w K mg base CX k f fd ps (spTop K c) :=
  F.imp fun vs H Q E ⟨ns, a, e, hs, q, k⟩ => ⟨[], [], [.scr ns], fun _ _ => False, _, rfl, ⟨rfl, List.nodup_nil, fun _ _ _ h _ => by simp at h⟩, by
    subst e
    exact Rps.cons (by unfold Rp; exact ⟨a, rfl, hs⟩) Rps.nil, q, fun d θ' α' H' v h _ _ r => by
    subst h
    cases of_bl r
    exact k H', fun _ _ _ _ _ _ h => h.elim⟩
theorem top_hS {K : PySem.W.Frag} {c : List Dv → MX Dv} {H : Hp} {a : Addr} {ns : List Int} (g : ∀ ns : List Int, ns.length ≤ 63 → c [.scr ns] (fun _ _ => False) [] (fun d _ => d = .bl true)) (hl : ns.length ≤ 63) (h : ∃ o, H a = some (.frz o (.lst (ns.map V.int)))) : spTop K c [.ref a] H (fun v _ => v = .bl true) fun _ _ _ => False :=
  ⟨ns, a, rfl, .inl h, g ns hl, fun _ => rfl⟩
theorem top_hK {K : PySem.W.Frag} {c : List Dv → MX Dv} {H : Hp} {a : Addr} {ns : List Int} (g : ∀ ns : List Int, ns.length ≤ 63 → c [.scr ns] (fun _ _ => False) [] (fun d _ => d = .bl true)) (hl : ns.length ≤ 63) (h0 : ∀ b, H b = none) (h : SqL K H a (ns.map V.int)) : spTop K c [.ref a] H (fun v _ => v = .bl true) fun _ _ _ => False := by
  refine ⟨ns, a, rfl, ?_, g ns hl, fun _ => rfl⟩
  rcases h with (h | h) | h
  · rw [h0] at h; cases h
  · obtain ⟨o, h⟩ := h; rw [h0] at h; cases h
  · exact .inr (.inr h)
end Mn

/-! Mn13: how a mirror runs: equations of the words, rules of loops. -/
namespace Mn
open PySem PySem.Spec PyProof.Rows L2
section
variable {E : Exn → Th → Prop} {θ : Th} {ρ : DEnv}
section
variable {Q : Dv → Th → Prop} {a b c : ME} {o o' : Dv → Dv → MX Dv} {d : Dv}
theorem x_var0 {r : DEnv} : mVar 0 (some d :: r) E θ Q = Q d θ := (rfl)
theorem x_varS {i : Nat} {y : Option Dv} {r : DEnv} : mVar (i + 1) (y :: r) E θ Q = mVar i r E θ Q := by
  unfold mVar
  rw [List.getD_cons_succ]
theorem x_c : mC d ρ E θ Q = Q d θ := (rfl)
theorem x_bin : mBin o a b ρ E θ Q = a ρ E θ fun x θ1 => b ρ E θ1 fun y θ2 => o x y E θ2 Q := (rfl)
theorem x_un {u : Dv → MX Dv} : mUn u a ρ E θ Q = a ρ E θ fun x θ1 => u x E θ1 Q := (rfl)
def andK (b : ME) (ρ : DEnv) (E : Exn → Th → Prop) (Q : Dv → Th → Prop) : Dv → Th → Prop := fun x θ1 => match x with
  | .bl true => b ρ E θ1 Q
  | .bl false => Q (.bl false) θ1
  | _ => False
def orK (b : ME) (ρ : DEnv) (E : Exn → Th → Prop) (Q : Dv → Th → Prop) : Dv → Th → Prop := fun x θ1 => match x with
  | .bl false => b ρ E θ1 Q
  | .bl true => Q (.bl true) θ1
  | _ => False
theorem x_and : mAnd a b ρ E θ Q = a ρ E θ (andK b ρ E Q) := by
  show (a ρ E θ fun x θ1 => _) = _
  congr 1
  funext x θ1
  unfold andK
  cases x with
  | bl k => cases k <;> rfl
  | _ => rfl
theorem x_or : mOr a b ρ E θ Q = a ρ E θ (orK b ρ E Q) := by
  show (a ρ E θ fun x θ1 => _) = _
  congr 1
  funext x θ1
  unfold orK
  cases x with
  | bl k => cases k <;> rfl
  | _ => rfl
theorem x_andK {k : Bool} : andK b ρ E Q (.bl k) θ = (if k = true then b ρ E θ Q else Q (.bl false) θ) := by cases k <;> rfl
theorem x_orK {k : Bool} : orK b ρ E Q (.bl k) θ = (if k = true then Q (.bl true) θ else b ρ E θ Q) := by cases k <;> rfl
theorem x_not {k : Bool} : oNot (.bl k) E θ Q = Q (.bl !k) θ := (rfl)
theorem x_if {k : DEnv → MX Bool} : mIf k a b ρ E θ Q = k ρ E θ fun v θ1 => if v = true then a ρ E θ1 Q else b ρ E θ1 Q := by
  show (k ρ E θ fun v θ1 => (if v = true then a ρ else b ρ : MX Dv) E θ1 Q) = _
  congr 1
  funext v θ1
  cases v <;> rfl
theorem x_tup {ms : DEnv → MX (List Dv)} : mTup ms ρ E θ Q = ms ρ E θ fun ds θ1 => ds.length ≤ sizeLine ∧ Q (.tup ds) θ1 := (rfl)
theorem x_lst {ms : DEnv → MX (List Dv)} : mLst ms ρ E θ Q = ms ρ E θ fun ds θ1 => ds.length ≤ sizeLine ∧ Q (.obj θ1.length) (θ1 ++ [.lst ds]) := (rfl)
theorem x_sl {l h : DEnv → MX (Option Int)} : mSl a l h ρ E θ Q = a ρ E θ fun x θ1 => l ρ E θ1 fun l' θ2 => h ρ E θ2 fun h' θ3 => oSl x l' h' E θ3 Q := (rfl)
theorem x_call {f : List Dv → MX Dv} {ms : DEnv → MX (List Dv)} : mCall f ms ρ E θ Q = ms ρ E θ fun ds θ1 => f ds E θ1 Q := (rfl)
theorem x_callU {n : Nat} {f : List Dv → MX Dv} {ms : DEnv → MX (List Dv)} : mCallU n f ms ρ E θ Q = ms ρ E θ fun ds θ1 => ds.length = n ∧ f ds E θ1 Q := (rfl)
theorem x_mth {T : String} {f : Dv → List Dv → MX Dv} {ms : DEnv → MX (List Dv)} : mMth T f a ms ρ E θ Q = a ρ E θ fun d θ1 => tyD θ1 d = some T ∧ ms ρ E θ1 fun ds θ2 => f d ds E θ2 Q := (rfl)
theorem x_isi {T : String} : mIsi T a ρ E θ Q = a ρ E θ fun d θ1 => (match tyD θ1 d with
  | some t => (match kitB t T with
    | some b => Q (.bl b) θ1
    | none => False)
  | none => False) := (rfl)
def chK (c : Th → Prop) (Q : Dv → Th → Prop) : Dv → Th → Prop := fun k θ3 => match k with
  | .bl true => c θ3
  | .bl false => Q (.bl false) θ3
  | _ => False
theorem x_chK {c : Th → Prop} {k : Bool} : chK c Q (.bl k) θ = (if k = true then c θ else Q (.bl false) θ) := by cases k <;> rfl
theorem x_chain : mChain o o' a b c ρ E θ Q = a ρ E θ fun x θ1 => b ρ E θ1 fun y θ2 => o x y E θ2 (chK (fun θ4 => c ρ E θ4 fun z θ5 => o' y z E θ5 Q) Q) := by
  show (a ρ E θ fun x θ1 => b ρ E θ1 fun y θ2 => o x y E θ2 fun k θ3 => _) = _
  congr 1
  funext x θ1
  congr 1
  funext y θ2
  congr 1
  funext k θ3
  unfold chK
  cases k with
  | bl k => cases k <;> rfl
  | _ => rfl
theorem x_k1 {f : Dv → MX Dv} : k1 f [d] E θ Q = f d E θ Q := (rfl)
theorem x_tupRg {m : DEnv → MX (Int × Int)} : mTupRg m ρ E θ Q = m ρ E θ fun b θ1 => RgOk b.1 b.2 ∧ Q (.tup (rgD b.1 b.2)) θ1 := (rfl)
theorem x_lstRg {m : DEnv → MX (Int × Int)} : mLstRg m ρ E θ Q = m ρ E θ fun b θ1 => RgOk b.1 b.2 ∧ Q (.obj θ1.length) (θ1 ++ [.lst (rgD b.1 b.2)]) := (rfl)
theorem x_lc {ms : DEnv → MX Src} {T : Tg} {k : DEnv → MX Bool} {vs : List Nat} : mLc ms T k a vs ρ E θ Q = ms ρ E θ fun src θ' => ∃ n, lcGo src T k a θ'.length (wipeE ρ vs) n 0 (θ' ++ [.lst []]) fun θ2 => Q (.obj θ'.length) θ2 := (rfl)
/-! operations -/
theorem x_addI {i j : Int} : oAdd (.int i) (.int j) E θ Q = Q (.int (i + j)) θ := (rfl)
theorem x_addS {i j : Str} : oAdd (.str i) (.str j) E θ Q = (i.length + j.length ≤ sizeLine ∧ Q (.str (i ++ j)) θ) := (rfl)
theorem x_addT {i j : List Dv} : oAdd (.tup i) (.tup j) E θ Q = (i.length + j.length ≤ sizeLine ∧ Q (.tup (i ++ j)) θ) := (rfl)
theorem x_subI {i j : Int} : oSub (.int i) (.int j) E θ Q = Q (.int (i - j)) θ := (rfl)
theorem x_mulI {i j : Int} : oMul (.int i) (.int j) E θ Q = (CMul i j ∧ Q (.int (i * j)) θ) := (rfl)
theorem x_fdiv {i j : Int} : oFdiv (.int i) (.int j) E θ Q = (CDiv i j ∧ Q (.int (i / j)) θ) := (rfl)
theorem x_mod {i j : Int} : oMod (.int i) (.int j) E θ Q = (0 < j ∧ Q (.int (i % j)) θ) := (rfl)
theorem x_pow {i j : Int} : oPow (.int i) (.int j) E θ Q = (CPow i j ∧ Q (.int (i ^ j.toNat)) θ) := (rfl)
theorem x_lt {i j : Int} : oLt (.int i) (.int j) E θ Q = Q (.bl (decide (i < j))) θ := (rfl)
theorem x_le {i j : Int} : oLe (.int i) (.int j) E θ Q = Q (.bl (decide (i ≤ j))) θ := (rfl)
theorem x_gt {i j : Int} : oGt (.int i) (.int j) E θ Q = Q (.bl (decide (j < i))) θ := (rfl)
theorem x_ge {i j : Int} : oGe (.int i) (.int j) E θ Q = Q (.bl (decide (j ≤ i))) θ := (rfl)
theorem x_eqI {i j : Int} : oEq (.int i) (.int j) E θ Q = Q (.bl (decide (i = j))) θ := (rfl)
theorem x_eqB {i j : Bool} : oEq (.bl i) (.bl j) E θ Q = Q (.bl (decide (i = j))) θ := (rfl)
theorem x_eqS {i j : Str} : oEq (.str i) (.str j) E θ Q = Q (.bl (decide (i = j))) θ := (rfl)
theorem x_neI {i j : Int} : oNe (.int i) (.int j) E θ Q = Q (.bl (!decide (i = j))) θ := (rfl)
theorem x_neB {i j : Bool} : oNe (.bl i) (.bl j) E θ Q = Q (.bl (!decide (i = j))) θ := (rfl)
theorem x_isB {i j : Bool} : oIs (.bl i) (.bl j) E θ Q = Q (.bl (decide (i = j))) θ := (rfl)
theorem x_isnB {i j : Bool} : oIsNot (.bl i) (.bl j) E θ Q = Q (.bl (!decide (i = j))) θ := (rfl)
theorem x_neg {i : Int} : oNeg (.int i) E θ Q = Q (.int (-i)) θ := (rfl)
theorem x_int {i : Int} : intD (.int i) E θ Q = Q (.int i) θ := (rfl)
theorem x_intB {i : Bool} : intD (.bl i) E θ Q = Q (.int (if i then 1 else 0)) θ := (rfl)
theorem x_lenT {ds : List Dv} : lenD (.tup ds) E θ Q = Q (.int ds.length) θ := (rfl)
theorem x_lenPt {ds : List Dv} : lenD (.pt ds) E θ Q = Q (.int ds.length) θ := (rfl)
theorem x_lenS {ns : List Int} : lenD (.scr ns) E θ Q = Q (.int ns.length) θ := (rfl)
theorem x_tupT {ds : List Dv} : tupD (.tup ds) E θ Q = Q (.tup ds) θ := (rfl)
theorem x_lstT {ds : List Dv} : lstD (.tup ds) E θ Q = Q (.obj θ.length) (θ ++ [.lst ds]) := (rfl)
theorem x_ixT {ds : List Dv} {i : Int} : oIx (.tup ds) (.int i) E θ Q = optW (atI ds i) θ Q := (rfl)
theorem x_ixR {ns : List Int} {i : Int} : oIx (.scr ns) (.int i) E θ Q = optW ((atI ns i).map Dv.int) θ Q := (rfl)
theorem x_optW : optW (some d) θ Q = Q d θ := (rfl)
end
section
variable {Q : List Dv → Th → Prop} {a : ME} {ms : DEnv → MX (List Dv)}
theorem x_nil : msNil ρ E θ Q = Q [] θ := (rfl)
theorem x_cons : msCons a ms ρ E θ Q = a ρ E θ fun x θ1 => ms ρ E θ1 fun xs θ2 => Q (x :: xs) θ2 := (rfl)
end
section
variable {Q : Bool → Th → Prop} {a : ME} {b c : DEnv → MX Bool}
def boolK (Q : Bool → Th → Prop) : Dv → Th → Prop := fun x θ1 => match x with
  | .bl k => Q k θ1
  | _ => False
theorem x_bB : bB a ρ E θ Q = a ρ E θ (boolK Q) := by
  show (a ρ E θ fun x θ1 => asBool x E θ1 Q) = _
  congr 1
  funext x θ1
  unfold boolK asBool
  cases x <;> rfl
theorem x_boolK {k : Bool} : boolK Q (.bl k) θ = Q k θ := (rfl)
theorem x_bAnd : bAnd b c ρ E θ Q = b ρ E θ fun v θ1 => if v = true then c ρ E θ1 Q else Q false θ1 := by
  show (b ρ E θ fun v θ1 => (if v = true then c ρ else pure false : MX Bool) E θ1 Q) = _
  congr 1
  funext v θ1
  cases v <;> rfl
theorem x_bOr : bOr b c ρ E θ Q = b ρ E θ fun v θ1 => if v = true then Q true θ1 else c ρ E θ1 Q := by
  show (b ρ E θ fun v θ1 => (if v = true then pure true else c ρ : MX Bool) E θ1 Q) = _
  congr 1
  funext v θ1
  cases v <;> rfl
theorem x_bNot : bNot b ρ E θ Q = b ρ E θ fun v θ1 => Q (!v) θ1 := (rfl)
theorem x_bYes : bYes ρ E θ Q = Q true θ := (rfl)
end
section
variable {Q : Option Int → Th → Prop} {i : Int}
theorem x_pNo : pNo ρ E θ Q = Q none θ := (rfl)
theorem x_pSo {a : ME} : pSo a ρ E θ Q = a ρ E θ fun x θ1 => oPart x E θ1 Q := (rfl)
theorem x_part : oPart (.int i) E θ Q = Q (some i) θ := (rfl)
end
section
variable {Q : Int × Int → Th → Prop}
end
section
variable {Q : Src → Th → Prop} {ms : DEnv → MX (List Dv)} {i j : Int}
theorem x_rng1 : rng1 ms ρ E θ Q = ms ρ E θ fun ds θ1 => rk1 ds E θ1 Q := (rfl)
theorem x_rng2 : rng2 ms ρ E θ Q = ms ρ E θ fun ds θ1 => rk2 ds E θ1 Q := (rfl)
theorem x_rng3 : rng3 ms ρ E θ Q = ms ρ E θ fun ds θ1 => rk3 ds E θ1 Q := (rfl)
theorem x_rk1 : rk1 [.int j] E θ Q = ((-(2 ^ 62) ≤ j ∧ j < 2 ^ 62) ∧ Q (.rng 0 1 j.toNat) θ) := (rfl)
theorem x_rk2 : rk2 [.int i, .int j] E θ Q = ((-(2 ^ 62) ≤ i ∧ i < 2 ^ 62 ∧ -(2 ^ 62) ≤ j ∧ j < 2 ^ 62) ∧ Q (.rng i 1 (j - i).toNat) θ) := (rfl)
theorem x_rk3 {c : Int} : rk3 [.int i, .int j, .int c] E θ Q = ((-(2 ^ 62) ≤ i ∧ i < 2 ^ 62 ∧ -(2 ^ 62) ≤ j ∧ j < 2 ^ 62 ∧ c = -1) ∧ Q (.rng i (-1) (i - j).toNat) θ) := (rfl)
theorem x_srcEn : srcEn ms ρ E θ Q = ms ρ E θ fun ds θ1 => ek ds E θ1 Q := (rfl)
theorem x_srcZp : srcZp ms ρ E θ Q = ms ρ E θ fun ds θ1 => zk ds E θ1 Q := (rfl)
theorem x_ekT {ds : List Dv} : ek [.tup ds] E θ Q = Q (.en (.T ds)) θ := (rfl)
theorem x_zkT {ds es : List Dv} : zk [.tup ds, .tup es] E θ Q = Q (.zp (.T ds) (.T es)) θ := (rfl)
def srcK (E : Exn → Th → Prop) (Q : Src → Th → Prop) : Dv → Th → Prop := fun x θ1 => match x with
  | .str z => Q (.str z) θ1
  | .pt ds => Q (.sd (.T ds)) θ1
  | .st ds => Q (.sd (.T ds)) θ1
  | d => asSd d E θ1 fun s θ2 => Q (.sd s) θ2
theorem x_srcV {a : ME} : srcV a ρ E θ Q = a ρ E θ (srcK E Q) := by
  show (a ρ E θ fun x θ1 => _) = _
  congr 1
  funext x θ1
  unfold srcK
  cases x <;> rfl
theorem x_srcPt {ds : List Dv} : srcK E Q (.pt ds) θ = Q (.sd (.T ds)) θ := (rfl)
theorem x_srcT {ds : List Dv} : srcK E Q (.tup ds) θ = Q (.sd (.T ds)) θ := (rfl)
end
section
variable {Q : Out → Th → Prop} {a : ME} {s t : MS}
def seqK (t : MS) (E : Exn → Th → Prop) (Q : Out → Th → Prop) : Out → Th → Prop := fun o θ1 => match o with
  | .nx ρ' => t ρ' E θ1 Q
  | o => Q o θ1
theorem x_seq : sSeq s t ρ E θ Q = s ρ E θ (seqK t E Q) := by
  show (s ρ E θ fun o θ1 => _) = _
  congr 1
  funext o θ1
  unfold seqK
  cases o <;> rfl
theorem x_seqN {ρ' : DEnv} : seqK t E Q (.nx ρ') θ = t ρ' E θ Q := (rfl)
theorem x_seqR {d : Dv} : seqK t E Q (.rt d) θ = Q (.rt d) θ := (rfl)
theorem x_seqB {ρ' : DEnv} : seqK t E Q (.bk ρ') θ = Q (.bk ρ') θ := (rfl)
theorem x_seqC {ρ' : DEnv} : seqK t E Q (.ct ρ') θ = Q (.ct ρ') θ := (rfl)
theorem x_sNil : sNil ρ E θ Q = Q (.nx ρ) θ := (rfl)
theorem x_set {i : Nat} : sSet i a ρ E θ Q = a ρ E θ fun d θ1 => Q (.nx (ρ.set i (some d))) θ1 := (rfl)
theorem x_drop : sDrop a ρ E θ Q = a ρ E θ fun _ θ1 => Q (.nx ρ) θ1 := (rfl)
theorem x_ret : sRet a ρ E θ Q = a ρ E θ fun d θ1 => Q (.rt d) θ1 := (rfl)
theorem x_retN : sRetN ρ E θ Q = Q (.rt .non) θ := (rfl)
theorem x_sIf {k : DEnv → MX Bool} : sIf k s t ρ E θ Q = k ρ E θ fun v θ1 => if v = true then s ρ E θ1 Q else t ρ E θ1 Q := by
  show (k ρ E θ fun v θ1 => (if v = true then s ρ else t ρ : MX Out) E θ1 Q) = _
  congr 1
  funext v θ1
  cases v <;> rfl
theorem x_brk : sBrk ρ E θ Q = Q (.bk ρ) θ := (rfl)
theorem x_ct : sCt ρ E θ Q = Q (.ct ρ) θ := (rfl)
theorem x_put {o i : ME} : sPut o i a ρ E θ Q = a ρ E θ fun v θ1 => o ρ E θ1 fun x θ2 => i ρ E θ2 fun y θ3 => setO x y v E θ3 fun _ θ4 => Q (.nx ρ) θ4 := (rfl)
theorem x_for {ms : DEnv → MX Src} {T : Tg} : sFor ms T s ρ E θ Q = ms ρ E θ fun src θ' => ∃ n, forGo src T s n 0 ρ E θ' Q := (rfl)
end
/-! defs -/
def defK (θ : Th) (Q : Dv → Th → Prop) : Out → Th → Prop := fun o θ' => match o with
  | .nx _ => endQ θ Q .non θ'
  | .rt d => endQ θ Q d θ'
  | _ => False
theorem x_def {j : Nat} {m : MS} {ds : List Dv} {Q : Dv → Th → Prop} : defM j m ds E θ Q = m (ds.map some ++ List.replicate j none) E θ (defK θ Q) := (rfl)
theorem x_defR {Q : Dv → Th → Prop} {d : Dv} {θ' : Th} : defK θ Q (.rt d) θ' = endQ θ Q d θ' := (rfl)
theorem x_defN {Q : Dv → Th → Prop} {ρ : DEnv} {θ' : Th} : defK θ Q (.nx ρ) θ' = endQ θ Q .non θ' := (rfl)
/-- what is behind the caller's store is dropped -/
theorem end_drop {Q : Dv → Th → Prop} {d : Dv} {g : Th} (h : Q d θ) (hd : ∀ n, d.low n = true) : endQ θ Q d (θ ++ g) := .inr ⟨θ, g, rfl, Nat.le_refl _, fun c => ⟨c, hd _⟩, h⟩
theorem end_same {Q : Dv → Th → Prop} {d : Dv} {θ' : Th} (h : Q d θ') : endQ θ Q d θ' := .inl h
end
/-! ### loops -/
/-- what a turn of a loop's body must go on to -/
structure LoopK (N Q K : Out → Th → Prop) : Prop where
  nx : ∀ ρ θ, N (.nx ρ) θ → K (.nx ρ) θ
  ct : ∀ ρ θ, N (.nx ρ) θ → K (.ct ρ) θ
  bk : ∀ ρ θ, Q (.nx ρ) θ → K (.bk ρ) θ
  rt : ∀ d θ, Q (.rt d) θ → K (.rt d) θ
theorem for_rule {src : Src} {T : Tg} {body : MS} {E : Exn → Th → Prop} {Q : Out → Th → Prop} {ρ : DEnv} {θ : Th} (n : Nat) (I : Nat → DEnv → Th → Prop) (h0 : I 0 ρ θ)
    (hs : ∀ i ρ θ, i < n → I i ρ θ → ∃ d ρ1, src.at θ i = some (some d) ∧ asgT T d ρ = some ρ1 ∧ ∀ K, LoopK (fun o θ' => ∃ ρ', o = .nx ρ' ∧ I (i + 1) ρ' θ') Q K → body ρ1 E θ K)
    (he : ∀ ρ θ, I n ρ θ → src.at θ n = some none ∧ Q (.nx ρ) θ) : ∃ m, forGo src T body m 0 ρ E θ Q := by
  have key : ∀ k i ρ θ, i + k = n → I i ρ θ → forGo src T body (k + 1) i ρ E θ Q := by
    intro k
    induction k with
    | zero =>
      intro i ρ θ e h
      obtain rfl : i = n := by omega
      obtain ⟨h1, h2⟩ := he ρ θ h
      unfold forGo
      simp only [h1]
      exact h2
    | succ k ih =>
      intro i ρ θ e h
      obtain ⟨d, ρ1, h1, h2, h3⟩ := hs i ρ θ (by omega) h
      unfold forGo
      simp only [h1, h2]
      refine h3 _ ⟨?_, ?_, ?_, ?_⟩
      · rintro ρ2 θ2 ⟨ρ', e', h'⟩
        cases e'
        exact ih (i + 1) ρ2 θ2 (by omega) h'
      · rintro ρ2 θ2 ⟨ρ', e', h'⟩
        cases e'
        exact ih (i + 1) ρ2 θ2 (by omega) h'
      · exact fun ρ2 θ2 h' => h'
      · exact fun d θ2 h' => h'
  exact ⟨n + 1, key n 0 ρ θ (by omega) h0⟩
theorem lc_rule {src : Src} {T : Tg} {cond : DEnv → MX Bool} {elt : ME} {k : Nat} {Q : Th → Prop} {ρ : DEnv} {θ : Th} (n : Nat) (I : Nat → Th → Prop) (h0 : I 0 θ)
    (hs : ∀ i θ, i < n → I i θ → ∃ d ρ1, src.at θ i = some (some d) ∧ asgT T d ρ = some ρ1 ∧ ∀ K : Bool → Th → Prop, (∀ θ1, I (i + 1) θ1 → K false θ1) →
      (∀ θ1, (∀ K2 : Dv → Th → Prop, (∀ y θ2 acc, θ2[k]? = some (.lst acc) → acc.length < sizeLine → I (i + 1) (θ2.set k (.lst (acc ++ [y]))) → K2 y θ2) → elt ρ1 (fun _ _ => False) θ1 K2) → K true θ1) → cond ρ1 (fun _ _ => False) θ K)
    (he : ∀ θ, I n θ → src.at θ n = some none ∧ Q θ) : ∃ m, lcGo src T cond elt k ρ m 0 θ Q := by
  have key : ∀ j i θ, i + j = n → I i θ → lcGo src T cond elt k ρ (j + 1) i θ Q := by
    intro j
    induction j with
    | zero =>
      intro i θ e h
      obtain rfl : i = n := by omega
      obtain ⟨h1, h2⟩ := he θ h
      unfold lcGo
      simp only [h1]
      exact h2
    | succ j ih =>
      intro i θ e h
      obtain ⟨d, ρ1, h1, h2, h3⟩ := hs i θ (by omega) h
      unfold lcGo
      simp only [h1, h2]
      refine h3 _ (fun θ1 h' => ih (i + 1) θ1 (by omega) h') fun θ1 h' => h' _ fun y θ2 acc e2 hl h4 => ?_
      simp only [e2]
      exact ⟨hl, ih (i + 1) _ (by omega) h4⟩
  exact ⟨n + 1, key n 0 θ (by omega) h0⟩
/-- a comprehension whose turns leave the store ahead of the list as it is -/
theorem lc_pure {src : Src} {T : Tg} {cond : DEnv → MX Bool} {elt : ME} {Q : Th → Prop} {ρ : DEnv} {θ0 : Th} (n : Nat) (p : Nat → Bool) (f : Nat → Dv) (hn : n < sizeLine)
    (hs : ∀ i acc g, i < n → ∃ d ρ1, src.at (θ0 ++ .lst acc :: g) i = some (some d) ∧ asgT T d ρ = some ρ1 ∧ ∀ K : Bool → Th → Prop, (∀ g', (p i = true → ∀ K2 : Dv → Th → Prop, (∀ g2, K2 (f i) (θ0 ++ .lst acc :: g2)) → elt ρ1 (fun _ _ => False) (θ0 ++ .lst acc :: g') K2) → K (p i) (θ0 ++ .lst acc :: g')) → cond ρ1 (fun _ _ => False) (θ0 ++ .lst acc :: g) K)
    (he : ∀ acc g, src.at (θ0 ++ .lst acc :: g) n = some none) (q : ∀ g, Q (θ0 ++ .lst (((List.range n).filter p).map f) :: g)) : ∃ m, lcGo src T cond elt θ0.length ρ m 0 (θ0 ++ [.lst []]) Q := by
  refine lc_rule n (fun i θ => ∃ g, θ = θ0 ++ .lst (((List.range i).filter p).map f) :: g) ⟨[], rfl⟩ ?_ ?_
  · rintro i θ hi ⟨g, rfl⟩
    obtain ⟨d, ρ1, h1, h2, h3⟩ := hs i (((List.range i).filter p).map f) g hi
    refine ⟨d, ρ1, h1, h2, fun K k0 k1 => h3 K fun g' he => ?_⟩
    cases hp : p i with
    | false =>
      refine k0 _ ⟨g', ?_⟩
      rw [List.range_succ, List.filter_append]
      simp [hp]
    | true =>
      refine k1 _ fun K2 h4 => he hp K2 fun g2 => h4 _ _ (((List.range i).filter p).map f) (by simp) ?_ ⟨g2, ?_⟩
      · rw [List.length_map]
        refine Nat.lt_of_le_of_lt (List.length_filter_le _ _) ?_
        rw [List.length_range]
        omega
      · rw [List.range_succ, List.filter_append]
        simp [hp]
  · rintro θ ⟨g, rfl⟩
    exact ⟨he _ _, q g⟩
end Mn

/-! Cm: the mirrors of what many laws read alike. -/
namespace Cm
open PySem Mn
def m_is_integer : MS := (sRet (mAnd (mIsi "int" (mVar 0)) (mUn oNot (mIsi "bool" (mVar 0)))))
def c_is_integer : List Dv → MX Dv := defM 0 m_is_integer
def m_are_integers : MS := (sRet (mAnd (mIsi "tuple" (mVar 0)) (mCall (k1 (onBools allL)) (msCons (mLc (srcV (mVar 0)) (.nm 1) bYes (mCallU 1 c_is_integer (msCons (mVar 1) msNil)) [1]) msNil))))
def c_are_integers : List Dv → MX Dv := defM 1 m_are_integers
def m__law_same : MS := (sRet (mBin oEq (mCall (k1 reprD) (msCons (mVar 0) msNil)) (mCall (k1 reprD) (msCons (mVar 1) msNil))))
def c__law_same : List Dv → MX Dv := defM 0 m__law_same
def m_tests : MS := (sRet (mCall (k1 tupD) (msCons (mLc (rng1 (msCons (mBin oSub (mCall (k1 lenD) (msCons (mBin oIx (mVar 0) (mC (.int 1))) msNil)) (mC (.int 1))) msNil)) (.nm 2) (bB (mBin oNotIn (mVar 2) (mVar 1))) (mVar 2) [2]) msNil)))
def c_tests : List Dv → MX Dv := defM 1 m_tests
def m_offspring : MS := (sSeq (sSet 2 (mDict1 (mVar 1) (mC (.bl true)))) (sSeq (sFor (srcEn (msCons (mBin oIx (mVar 0) (mC (.int 1))) msNil)) (.tp [(.nm 3), (.tp [(.nm 4), (.nm 5)])]) (sIf (bB (mCall (k1 (onBools anyL)) (msCons (mLc (srcV (mVar 5)) (.nm 6) bYes (mBin oIn (mVar 6) (mVar 2)) [6]) msNil))) (sPut (mVar 2) (mVar 3) (mC (.bl true))) sNil)) (sRet (mCall (k1 tupD) (msCons (mVar 2) msNil)))))
def c_offspring : List Dv → MX Dv := defM 5 m_offspring
def m_classes : MS := (sSeq (sSet 2 mDT) (sSeq (sFor (rng1 (msCons (mCall (k1 lenD) (msCons (mBin oIx (mVar 0) (mC (.int 1))) msNil)) msNil)) (.nm 3) (sSeq (sSet 4 (mCall (k1 tupD) (msCons (mLc (srcV (mCallU 2 c_offspring (msCons (mVar 0) (msCons (mVar 3) msNil)))) (.nm 5) (bB (mBin oNotIn (mVar 5) (mVar 1))) (mVar 5) [5]) msNil))) (sDrop (mMth "list" appendD (mMth "dict" setdD (mVar 2) (msCons (mVar 4) (msCons (mLst msNil) msNil))) (msCons (mVar 3) msNil))))) (sRet (mCall (k1 tupD) (msCons (mLock 2 (mLc (srcVals (mVar 2)) (.nm 6) bYes (mCall (k1 tupD) (msCons (mVar 6) msNil)) [6])) msNil)))))
def c_classes : List Dv → MX Dv := defM 5 m_classes
def m__law_above : MS := (sSeq (sSet 2 (mLc (rng1 (msCons (mCall (k1 lenD) (msCons (mBin oIx (mVar 0) (mC (.int 1))) msNil)) msNil)) (.nm 3) bYes (mBin oEq (mVar 3) (mVar 1)) [3])) (sSeq (sFor (rng3 (msCons (mVar 1) (msCons (mUn oNeg (mC (.int 1))) (msCons (mUn oNeg (mC (.int 1))) msNil)))) (.nm 3) (sFor (srcV (mBin oIx (mBin oIx (mBin oIx (mVar 0) (mC (.int 1))) (mVar 3)) (mC (.int 1)))) (.nm 4) (sPut (mVar 2) (mVar 4) (mOr (mBin oIx (mVar 2) (mVar 4)) (mBin oIx (mVar 2) (mVar 3)))))) (sRet (mVar 2))))
def c__law_above : List Dv → MX Dv := defM 3 m__law_above
def m__law_classes : MS := (sSeq (sSet 2 (mLc (rng1 (msCons (mCall (k1 lenD) (msCons (mBin oIx (mVar 0) (mC (.int 1))) msNil)) msNil)) (.nm 3) (bB (mBin oNotIn (mVar 3) (mVar 1))) (mCallU 2 c__law_above (msCons (mVar 0) (msCons (mVar 3) msNil))) [3])) (sSeq (sSet 4 (mLst msNil)) (sSeq (sFor (rng1 (msCons (mCall (k1 lenD) (msCons (mBin oIx (mVar 0) (mC (.int 1))) msNil)) msNil)) (.nm 5) (sSeq (sSet 6 (mLc (srcV (mVar 4)) (.nm 7) (bB (mBin oEq (mLc (srcV (mVar 2)) (.nm 8) bYes (mBin oIx (mVar 8) (mBin oIx (mVar 7) (mC (.int 0)))) [8]) (mLc (srcV (mVar 2)) (.nm 8) bYes (mBin oIx (mVar 8) (mVar 5)) [8]))) (mVar 7) [7])) (sIf (bB (mBin oEq (mVar 6) (mLst msNil))) (sDrop (mMth "list" appendD (mVar 4) (msCons (mLst (msCons (mVar 5) msNil)) msNil))) (sDrop (mMth "list" appendD (mBin oIx (mVar 6) (mC (.int 0))) (msCons (mVar 5) msNil)))))) (sRet (mCall (k1 tupD) (msCons (mLc (srcV (mVar 4)) (.nm 7) bYes (mCall (k1 tupD) (msCons (mVar 7) msNil)) [7]) msNil))))))
def c__law_classes : List Dv → MX Dv := defM 7 m__law_classes
def m__law_tests : MS := (sSeq (sSet 2 (mCallU 2 c__law_classes (msCons (mVar 0) (msCons (mVar 1) msNil)))) (sSeq (sSet 3 (mLst msNil)) (sSeq (sSet 4 (mLst msNil)) (sSeq (sFor (rng1 (msCons (mCall (k1 lenD) (msCons (mBin oIx (mVar 0) (mC (.int 1))) msNil)) msNil)) (.nm 5) (sSeq (sSet 6 (mLc (srcV (mVar 2)) (.nm 7) bYes (mBin oIx (mCallU 2 c__law_above (msCons (mVar 0) (msCons (mVar 5) msNil))) (mBin oIx (mVar 7) (mC (.int 0)))) [7])) (sIf (bAnd (bB (mBin oNotIn (mVar 5) (mVar 1))) (bAnd (bB (mBin oIn (mC (.bl true)) (mVar 6))) (bAnd (bB (mBin oIn (mC (.bl false)) (mVar 6))) (bB (mBin oNotIn (mVar 6) (mVar 3)))))) (sSeq (sDrop (mMth "list" appendD (mVar 3) (msCons (mVar 6) msNil))) (sDrop (mMth "list" appendD (mVar 4) (msCons (mVar 5) msNil)))) sNil))) (sRet (mCall (k1 tupD) (msCons (mVar 4) msNil)))))))
def c__law_tests : List Dv → MX Dv := defM 6 m__law_tests
def m__law_draw : MS := (sSeq (sSet 2 (mBin oIx (mVar 0) (mC (.int 1)))) (sSeq (sPut (mVar 0) (mC (.int 1)) (mBin oAdd (mVar 2) (mC (.int 1)))) (sSeq (sIf (bB (mBin oLt (mVar 2) (mCall (k1 lenD) (msCons (mBin oIx (mVar 0) (mC (.int 0))) msNil)))) (sRet (mBin oMod (mCall (k1 intD) (msCons (mBin oIx (mBin oIx (mVar 0) (mC (.int 0))) (mVar 2)) msNil)) (mVar 1))) sNil) (sRet (mC (.int 0))))))
def c__law_draw : List Dv → MX Dv := defM 1 m__law_draw
def m__law_cell : MS := (sSeq (sIf (bB (mBin oLt (mVar 1) (mCall (k1 lenD) (msCons (mVar 0) msNil)))) (sRet (mBin oIx (mVar 0) (mVar 1))) sNil) (sRet (mC (.int 0))))
def c__law_cell : List Dv → MX Dv := defM 0 m__law_cell
def m__law_digits : MS := (sSeq (sSet 3 (mLst msNil)) (sSeq (sFor (rng2 (msCons (mVar 1) (msCons (mVar 2) msNil))) (.nm 4) (sSeq (sSet 5 (mCallU 2 c__law_cell (msCons (mVar 0) (msCons (mVar 4) msNil)))) (sSeq (sIf (bB (mBin oLt (mVar 5) (mC (.int 0)))) (sSet 5 (mBin oSub (mC (.int 1)) (mBin oMul (mC (.int 2)) (mVar 5)))) sNil) (sIf (bB (mBin oGe (mVar 5) (mBin oPow (mC (.int 10)) (mC (.int 18))))) (sFor (rng1 (msCons (mC (.int 60)) msNil)) (.nm 6) (sIf (bB (mBin oGt (mVar 5) (mC (.int 0)))) (sSeq (sDrop (mMth "list" appendD (mVar 3) (msCons (mBin oMod (mCall (k1 intD) (msCons (mVar 5) msNil)) (mC (.int 1000))) msNil))) (sSet 5 (mBin oFdiv (mVar 5) (mC (.int 1000))))) sNil)) (sSeq (sSet 7 (mBin oMod (mCall (k1 intD) (msCons (mBin oAdd (mBin oAdd (mBin oMul (mVar 5) (mC (.int 48271))) (mBin oMul (mVar 4) (mC (.int 69621)))) (mC (.int 11))) msNil)) (mC (.int 2147483647)))) (sFor (rng1 (msCons (mC (.int 12)) msNil)) (.nm 6) (sSeq (sSet 7 (mBin oMod (mCall (k1 intD) (msCons (mBin oAdd (mBin oAdd (mBin oMul (mVar 7) (mC (.int 16807))) (mBin oMul (mC (.int 7)) (mVar 6))) (mC (.int 1))) msNil)) (mC (.int 2147483647)))) (sDrop (mMth "list" appendD (mVar 3) (msCons (mBin oMod (mCall (k1 intD) (msCons (mBin oFdiv (mVar 7) (mC (.int 997))) msNil)) (mC (.int 1000))) msNil)))))))))) (sRet (mVar 3))))
def c__law_digits : List Dv → MX Dv := defM 5 m__law_digits
def m_ancestors : MS := (sSeq (sSet 2 (mBin oIx (mVar 0) (mC (.int 1)))) (sSeq (sSet 3 (mBin oAdd (mBin oMul (mLst (msCons (mC (.bl false)) msNil)) (mVar 1)) (mLst (msCons (mC (.bl true)) msNil)))) (sSeq (sFor (rng3 (msCons (mVar 1) (msCons (mUn oNeg (mC (.int 1))) (msCons (mUn oNeg (mC (.int 1))) msNil)))) (.nm 4) (sIf (bB (mBin oIx (mVar 3) (mVar 4))) (sFor (srcV (mBin oIx (mBin oIx (mVar 2) (mVar 4)) (mC (.int 1)))) (.nm 5) (sPut (mVar 3) (mVar 5) (mC (.bl true)))) sNil)) (sRet (mCall (k1 tupD) (msCons (mLc (srcEn (msCons (mVar 3) msNil)) (.tp [(.nm 4), (.nm 6)]) (bTru (mVar 6)) (mVar 4) [4, 6]) msNil))))))
def c_ancestors : List Dv → MX Dv := defM 5 m_ancestors
def m__law_pick : MS := (sRet (mBin oIx (mVar 1) (mBin oMod (mCall (k1 intD) (msCons (mCallU 2 c__law_draw (msCons (mVar 0) (msCons (mC (.int 900)) msNil))) msNil)) (mCall (k1 lenD) (msCons (mVar 1) msNil)))))
def c__law_pick : List Dv → MX Dv := defM 0 m__law_pick
def m_which_are_in : MS := (sRet (mCall (k1 tupD) (msCons (mLc (srcV (mVar 0)) (.nm 2) bYes (mBin oIn (mVar 2) (mVar 1)) [2]) msNil)))
def c_which_are_in : List Dv → MX Dv := defM 1 m_which_are_in
def m_marks : MS := (sSeq (sSet 3 (mLc (srcV (mCallU 2 c_classes (msCons (mVar 0) (msCons (mVar 1) msNil)))) (.nm 4) bYes (mBin oIx (mVar 4) (mC (.int 0))) [4])) (sRet (mCall (k1 tupD) (msCons (mLc (srcV (mVar 2)) (.nm 5) bYes (mCallU 2 c_which_are_in (msCons (mVar 3) (msCons (mCallU 2 c_ancestors (msCons (mVar 0) (msCons (mVar 5) msNil))) msNil))) [5]) msNil))))
def c_marks : List Dv → MX Dv := defM 3 m_marks
def m_start : MS := (sRet (mCall (k1 tupD) (msCons (mLc (srcV (mCallU 2 c_classes (msCons (mVar 0) (msCons (mVar 1) msNil)))) (.nm 3) bYes (mVar 2) [3]) msNil)))
def c_start : List Dv → MX Dv := defM 1 m_start
def m_taken : MS := (sSeq (sIf (bB (mBin oEq (mVar 2) (mC (.str "broken")))) (sRet (mCall (k1 tupD) (msCons (mLc (srcZp (msCons (mVar 0) (msCons (mVar 1) msNil))) (.tp [(.nm 3), (.nm 4)]) bYes (mIf (bOr (bTru (mVar 4)) (bB (mBin oLt (mVar 3) (mC (.int 0))))) (mVar 3) (mBin oSub (mVar 3) (mC (.int 1)))) [3, 4]) msNil))) sNil) (sRet (mCall (k1 tupD) (msCons (mLc (srcZp (msCons (mVar 0) (msCons (mVar 1) msNil))) (.tp [(.nm 3), (.nm 4)]) bYes (mIf (bAnd (bTru (mVar 4)) (bB (mBin oGe (mVar 3) (mC (.int 0))))) (mBin oSub (mVar 3) (mC (.int 1))) (mVar 3)) [3, 4]) msNil))))
def c_taken : List Dv → MX Dv := defM 2 m_taken
def m__law_inside : MS := (sRet (mLc (rng1 (msCons (mCall (k1 lenD) (msCons (mVar 0) msNil)) msNil)) (.nm 1) (bB (mBin oGe (mBin oIx (mVar 0) (mVar 1)) (mC (.int 0)))) (mVar 1) [1]))
def c__law_inside : List Dv → MX Dv := defM 1 m__law_inside
def m__law_pascal : MS := (sSeq (sSet 1 (mLst (msCons (mC (.int 1)) msNil))) (sSeq (sFor (rng1 (msCons (mVar 0) msNil)) (.nm 2) (sSet 1 (mBin oAdd (mBin oAdd (mLst (msCons (mC (.int 1)) msNil)) (mLc (rng1 (msCons (mBin oSub (mCall (k1 lenD) (msCons (mVar 1) msNil)) (mC (.int 1))) msNil)) (.nm 3) bYes (mBin oAdd (mBin oIx (mVar 1) (mVar 3)) (mBin oIx (mVar 1) (mBin oAdd (mVar 3) (mC (.int 1))))) [3])) (mLst (msCons (mC (.int 1)) msNil))))) (sRet (mVar 1))))
def c__law_pascal : List Dv → MX Dv := defM 3 m__law_pascal
end Cm

/-! Mn14: words that look in the store, by what they find there. -/
namespace Mn
open PySem PySem.Spec PyProof.Rows L2
section
variable {E : Exn → Th → Prop} {θ : Th} {ρ : DEnv} {Q : Dv → Th → Prop} {k : Nat} {ds : List Dv} {i : Int} {d y : Dv}
def ixK (o : Option Ob) (y : Dv) (θ : Th) (Q : Dv → Th → Prop) : Prop := match o with
  | some (.lst ds) => (match y with
    | .int i => optW (atI ds i) θ Q
    | _ => False)
  | some (.dK kvs) => (match fKey y with
    | some q => optW (lookD kvs q) θ Q
    | none => False)
  | some (.dT kvs) => (match tKey y with
    | some q => optW (lookD kvs q) θ Q
    | none => False)
  | _ => False
theorem x_ixP : oIx (.obj k) y E θ Q = ixK θ[k]? y θ Q := (rfl)
theorem x_ixL : ixK (some (.lst ds)) (.int i) θ Q = optW (atI ds i) θ Q := (rfl)
def lenK (o : Option Ob) (θ : Th) (Q : Dv → Th → Prop) : Prop := match o with
  | some (.lst ds) => Q (.int ds.length) θ
  | some (.dK kvs) => Q (.int kvs.length) θ
  | _ => False
theorem x_lenP : lenD (.obj k) E θ Q = lenK θ[k]? θ Q := (rfl)
theorem x_lenL : lenK (some (.lst ds)) θ Q = Q (.int ds.length) θ := (rfl)
def tupK (o : Option Ob) (θ : Th) (Q : Dv → Th → Prop) : Prop := match o with
  | some (.lst ds) => Q (.tup ds) θ
  | some (.dK kvs) => Q (.tup (kvs.map fun kv => keyD kv.1)) θ
  | _ => False
theorem x_tupP : tupD (.obj k) E θ Q = tupK θ[k]? θ Q := (rfl)
theorem x_tupL : tupK (some (.lst ds)) θ Q = Q (.tup ds) θ := (rfl)
theorem x_tupKK {kvs : List (Key × Dv)} : tupK (some (.dK kvs)) θ Q = Q (.tup (kvs.map fun kv => keyD kv.1)) θ := (rfl)
def lstK (o : Option Ob) (θ : Th) (Q : Dv → Th → Prop) : Prop := match o with
  | some (.lst ds) => Q (.obj θ.length) (θ ++ [.lst ds])
  | some (.dK kvs) => Q (.obj θ.length) (θ ++ [.lst (kvs.map fun kv => keyD kv.1)])
  | _ => False
theorem x_lstP : lstD (.obj k) E θ Q = lstK θ[k]? θ Q := (rfl)
theorem x_lstL : lstK (some (.lst ds)) θ Q = Q (.obj θ.length) (θ ++ [.lst ds]) := (rfl)
def appK (o : Option Ob) (k : Nat) (es : List Dv) (θ : Th) (Q : Dv → Th → Prop) : Prop := match o with
  | some (.lst xs) => (match es with
    | [y] => xs.length < sizeLine ∧ Q .non (θ.set k (.lst (xs ++ [y])))
    | _ => False)
  | _ => False
theorem x_appP {es : List Dv} : appendD (.obj k) es E θ Q = appK θ[k]? k es θ Q := (rfl)
theorem x_appL : appK (some (.lst ds)) k [y] θ Q = (ds.length < sizeLine ∧ Q .non (θ.set k (.lst (ds ++ [y])))) := (rfl)
theorem x_tyP : tyD θ (.obj k) = tyO θ[k]? := (rfl)
theorem x_tyL : tyO (some (.lst ds)) = some "list" := (rfl)
theorem x_tyK {kvs : List (Key × Dv)} : tyO (some (.dK kvs)) = some "dict" := (rfl)
theorem x_tyT {kvs : List (List Key × Dv)} : tyO (some (.dT kvs)) = some "dict" := (rfl)
def putK1 (o : Option Ob) (k : Nat) (y v : Dv) (θ : Th) (Q : Unit → Th → Prop) : Prop := match o with
  | some (.lst ds) => (match y with
      | .int i => (match ixN ds.length i with
        | some j => Q () (θ.set k (.lst (ds.set j v)))
        | none => False)
      | _ => False)
  | some (.dK kvs) => (match fKey y with
      | some q => kvs.length < sizeLine ∧ Q () (θ.set k (.dK (putD kvs q v)))
      | none => False)
  | some (.dT kvs) => (match tKey y with
      | some q => kvs.length < sizeLine ∧ Q () (θ.set k (.dT (putD kvs q v)))
      | none => False)
  | _ => False
theorem x_putP {v : Dv} {R : Unit → Th → Prop} : setO (.obj k) y v E θ R = putK1 θ[k]? k y v θ R := (rfl)
def putI (o : Option Nat) (k : Nat) (ds : List Dv) (v : Dv) (θ : Th) (Q : Unit → Th → Prop) : Prop := match o with
  | some j => Q () (θ.set k (.lst (ds.set j v)))
  | none => False
theorem x_putL {v : Dv} {R : Unit → Th → Prop} : putK1 (some (.lst ds)) k (.int i) v θ R = putI (ixN ds.length i) k ds v θ R := (rfl)
theorem x_putI {v : Dv} {j : Nat} {R : Unit → Th → Prop} : putI (some j) k ds v θ R = R () (θ.set k (.lst (ds.set j v))) := (rfl)
theorem x_putKK {v : Dv} {q : Int} {kvs : List (Key × Dv)} {R : Unit → Th → Prop} : putK1 (some (.dK kvs)) k (.int q) v θ R = (kvs.length < sizeLine ∧ R () (θ.set k (.dK (putD kvs (.inl q) v)))) := (rfl)
def srcKK (o : Option Ob) (k : Nat) (θ : Th) (Q : Src → Th → Prop) : Prop := match o with
  | some (.lst _) => Q (.sd (.L k)) θ
  | _ => False
theorem x_srcP {R : Src → Th → Prop} : srcK E R (.obj k) θ = srcKK θ[k]? k θ R := (rfl)
theorem x_srcL {R : Src → Th → Prop} : srcKK (some (.lst ds)) k θ R = R (.sd (.L k)) θ := (rfl)
/-! places -/
theorem ix_nat {n : Nat} {j : Nat} (h : j < n) : ixN n (j : Int) = some j := by
  unfold ixN
  rw [if_pos (by omega), if_pos (by omega)]
  simp
theorem ix_int {n : Nat} {i : Int} (h0 : 0 ≤ i) (h : i < n) : ixN n i = some i.toNat := by
  unfold ixN
  rw [if_pos h0, if_pos h]
theorem at_nat {β : Type} {xs : List β} {j : Nat} {x : β} (h : xs[j]? = some x) : atI xs (j : Int) = some x := by
  unfold atI
  rw [ix_nat (List.getElem?_eq_some_iff.mp h).1]
  exact h
theorem at_int {β : Type} {xs : List β} {i : Int} {x : β} (h0 : 0 ≤ i) (h : xs[i.toNat]? = some x) : atI xs i = some x := by
  unfold atI
  have := (List.getElem?_eq_some_iff.mp h).1
  rw [ix_int h0 (by omega)]
  exact h
theorem at_0 {β : Type} {x : β} {r : List β} : atI (x :: r) 0 = some x := at_nat (j := 0) rfl
theorem at_1 {β : Type} {x y : β} {r : List β} : atI (x :: y :: r) 1 = some y := at_nat (j := 1) rfl
theorem th_mid {θ g : Th} {o : Ob} : (θ ++ o :: g)[θ.length]? = some o := by simp
theorem th_left {θ g : Th} {k : Nat} {o : Ob} (h : θ[k]? = some o) : (θ ++ g)[k]? = some o := by
  rw [List.getElem?_append_left (List.getElem?_eq_some_iff.mp h).1]
  exact h
theorem th_set_mid {θ g : Th} {o o' : Ob} : (θ ++ o :: g).set θ.length o' = θ ++ o' :: g := by simp
end
end Mn

/-! Mn15: a suite may drop what it left behind. -/
namespace Mn
open PySem PySem.Spec PyProof.Rows L2
def lowE (n : Nat) (ρ : DEnv) : Prop := ∀ (i : Nat) (d : Dv), ρ[i]? = some (some d) → d.low n = true
/-- ρ2 is ρ' with some slots forgotten -/
def subE (ρ2 ρ' : DEnv) : Prop := ρ2.length = ρ'.length ∧ ∀ (i : Nat) (d : Dv), ρ2[i]? = some (some d) → ρ'[i]? = some (some d)
def outCut (θ0 : Th) (Q : Out → Th → Prop) (o : Out) (θ' : Th) : Prop := Q o θ' ∨ ∃ ρ' θ2 g ρ2, o = .nx ρ' ∧ θ' = θ2 ++ g ∧ θ0.length ≤ θ2.length ∧ (Clo θ0 → Clo θ2) ∧ lowE θ2.length ρ2 ∧ subE ρ2 ρ' ∧ Q (.nx ρ2) θ2
def sCut (m : MS) : MS := fun ρ E θ Q => m ρ E θ (outCut θ Q)
section
variable {X : Cx} {W : Wd X.K X.mg}
theorem sm_cut {b : List Stmt} {m : MS} (h : PSs X b (tS W m)) : PSs X b (tS W (sCut m)) := pss_w h fun D σ H ⟨ρ, α, θ, Qm, at', rs, q, u⟩ => ⟨ρ, α, θ, _, at', rs, q, fun o θ' α' H' q' ok' nx' => by
  rcases q' with q' | ⟨ρ', θ2, g, ρ2, rfl, rfl, hl, hc, lo, sb, q'⟩
  · exact u o θ' α' H' q' ok' nx'
  · intro σ' rs'
    have c2 := hc at'.ok.clo
    refine u (.nx ρ2) θ2 (α'.take θ2.length) H' q' (ok'.cut c2) ⟨?_, nx'.tup, nx'.xd, nx'.fz⟩ σ' ⟨rs'.1.trans sb.1.symm, fun i d e => ?_⟩
    · obtain ⟨β, rfl⟩ := nx'.ext
      refine ⟨β.take (θ2.length - α.length), ?_⟩
      rw [List.take_append, List.take_of_length_le (by rw [at'.ok.len]; exact hl)]
    · obtain ⟨v, h1, h2⟩ := rs'.2 i d (sb.2 i d e)
      exact ⟨v, h1, h2.cut (lo i d e)⟩⟩
end
theorem x_cut {m : MS} {ρ : DEnv} {E : Exn → Th → Prop} {θ : Th} {Q : Out → Th → Prop} : sCut m ρ E θ Q = m ρ E θ (outCut θ Q) := (rfl)
theorem cut_same {θ0 θ' : Th} {Q : Out → Th → Prop} {o : Out} (h : Q o θ') : outCut θ0 Q o θ' := .inl h
end Mn

/-! Mn16: sorted(set(xs)), sum of a tuple, count, bit operations. -/
namespace Mn
open PySem PySem.Spec PyProof.Rows L2

/-! ### set(xs) of a list of ints -/
section
variable {P : Program} {w : World} {A : Around} {E : Value → Shared → Prop} {s : Shared}
set_option maxHeartbeats 3200000 in
end

/-! ### sorted(set(xs)) -/
section
variable {X : Cx} {W : Wd X.K X.mg}
/-! ### sum of a tuple -/
theorem preSum_take (ns : List Int) : ∀ i, i ≤ ns.length → preSum (fun i => ns.getD i 0) i = (ns.take i).sum
  | 0, _ => by simp [preSum]
  | i + 1, h => by
    have hl : i < ns.length := h
    rw [List.take_add_one, List.getElem?_eq_getElem hl]
    simp only [Option.toList_some, List.sum_append, List.sum_cons, List.sum_nil]
    rw [← preSum_take ns i (Nat.le_of_lt hl)]
    simp [preSum, List.getD_eq_getElem?_getD, List.getElem?_eq_getElem hl]
theorem preSum_list (ns : List Int) : preSum (fun i => ns.getD i 0) ns.length = ns.sum := by rw [preSum_take ns _ (Nat.le_refl _), List.take_length]
def rSumT (K : PySem.W.Frag) : List V → Hp → VK → Prop := fun vs H Q => ∃ (a : Addr) (ns : List Int), vs = [V.ref a] ∧ SqT K H a (ns.map V.int) ∧ Q (.int ns.sum) H
theorem cr_sumT (hc : X.calm = true) : CallR X (.builtin "sum") (rSumT X.K) := by
  intro pins s σ H vs us Q I r h
  obtain ⟨a, ns, rfl, hs, q⟩ := h
  obtain ⟨its, rv, ⟨o, e, ec, n, ed⟩, _⟩ := I.tuple hs
  rw [Vals.ref1 r]
  have hi := rv.ints
  have it : s.heap.IsTuple a its.toArray := ⟨o, e, ec, n, ed⟩
  have lt := Heap.lt_size e
  have hz : its.toArray.size = ns.length := by simpa using hi.length
  refine call_sum_walkAnyS (wpAny_pyIter_tuple it ?_)
  have sz : ∀ ob, (s.heap.push ob).objs.size = s.heap.objs.size + 1 := fun ob => Heap.size_push ..
  refine ⟨s.heap.objs.size, [s.heap.objs.size, a], [s.heap.objs.size], _, _, _, _, fun i => ns.getD i 0, rfl, (Walks.tuple (A := X.A.in1) (I.ok.hd hc) s.heap.objs.size a (Nat.ne_of_lt lt) its.toArray).toS, ⟨⟨_, Heap.get?_push_size _ rfl, rfl, rfl⟩, it.push _⟩, fun b hb => ?_, fun i v hv => ?_, fun s' t' mv => ?_⟩
  · rw [sz]
    rcases List.mem_cons.mp hb with e1 | e1
    · rw [e1]; exact Nat.lt_succ_self _
    · rw [List.mem_singleton.mp e1]; exact Nat.lt_succ_of_lt lt
  · exact IntsAre.int_at hi i v (by simpa using hv)
  · obtain ⟨h', g', d', tk', os'⟩ := s'
    have e1 : g' = s.gens := mv.gens
    have e2 : d' = s.drawn := mv.drawn
    have e3 : os' = s.os := mv.os
    subst e1 e2 e3
    have kp : ∀ b o, s.heap.get? b = some o → h'.get? b = some o := fun b o q => mv.heap b o (by simp [Nat.ne_of_lt (Heap.lt_size q)]) (Heap.get?_push_of_some _ q)
    refine ⟨.int ns.sum, H, I.kept kp, ⟨t', ?_⟩, q⟩
    rw [hz, preSum_list]

def sumD (d : Dv) : MX Dv := fun E θ Q => match d with
  | .tup ds => (match intsD ds with
    | some ns => sumL ns E θ Q
    | none => False)
  | _ => False
theorem cm_sumT (c : Cf X) : CallM W (.builtin "sum") (k1 sumD) := cm_of (cr_sumT c.calm) fun {H α θ ds xs Qm Q} a r q u => by
  unfold k1 at q
  split at q
  · rename_i d
    obtain ⟨x, rfl, rx⟩ := one_of r
    unfold sumD at q
    split at q
    · rename_i es
      obtain ⟨p, vs, rfl, h1, h2⟩ := rp_tup rx
      split at q
      · rename_i ns e3
        have := intsD_v e3 h2
        subst this
        exact ⟨p, ns, rfl, SqT.of h1, up_same u a q rp_int⟩
      · exact False.elim q
    · exact False.elim q
  · exact False.elim q
/-! ### tuple(xs) of a list, known to be bare -/
def tupPD (d : Dv) : MX Dv := fun _ θ Q => match d with
  | .obj k => (match θ[k]? with
    | some (.lst ds) => Q (.pt ds) θ
    | _ => False)
  | _ => False
/-! ### t.count(x) of a bare tuple -/
def countD (d : Dv) (ds : List Dv) : MX Dv := fun _ θ Q => match d, ds with
  | .pt es, [y] => (match toPy θ 66 y, toPy θ 66 (.tup es) with
    | some d, some (.tuple ps) => SeqAt.shaped (.tuple ps) = true ∧ SeqAt.shaped d = true ∧ Q (.int (ps.countP fun z => PyData.eqv z d : Nat)) θ
    | _, _ => False)
  | _, _ => False
def mCnt (o : ME) (ms : DEnv → MX (List Dv)) : ME := fun ρ E θ Q => o ρ E θ fun d θ1 => (match d with
  | .pt _ => True
  | _ => False) ∧ ms ρ E θ1 fun ds θ2 => countD d ds E θ2 Q
/-! ### n & 1 -/
def oAnd : Dv → Dv → MX Dv
  | .int i, .int j => fun _ θ Q => j = 1 ∧ ∃ n : Nat, i = n ∧ Q (.int ((n % 2 : Nat) : Int)) θ
  | _, _ => MX.stuck
theorem om_and : OpM W (binaryOp .BitAnd) oAnd := opm_of op_odd fun {H α θ dx dy x y Qm Q} a r1 r2 q u => by
  cases dx <;> cases dy <;> first | exact False.elim q | skip
  cases of_int r1; cases of_int r2
  obtain ⟨rfl, n, rfl, q⟩ := q
  exact ⟨n, rfl, rfl, up_same u a q rp_int⟩
/-! ### a, b = .. ; a += .. -/
theorem sm_tg {ts : List Expr} {k : Nat} {e : Expr} {m : ME} {T : Tg} {pos pos' : Pos} (he : PE X e (tM W m)) (hg : PG X (.Tuple ts k pos') (gT X.K T)) (hs : swapsWithSole [.Tuple ts k pos'] e pos.line X.env = pure false := by rfl) (hw : swappedStores [.Tuple ts k pos'] e X.env = pure none := by rfl)
    (h1 : (assignEach [.Tuple ts k pos'] X.env).map (·.2) = [assign (.Tuple ts k pos') X.env] := by rfl) : PS X (.Assign [.Tuple ts k pos'] e pos) (tS W (sAsg T m)) := sm_asg (ps_asg he hg hs hw h1)
end
end Mn

/-! Mn17: equations of what Mn16 has. -/
namespace Mn
open PySem PySem.Spec PyProof.Rows L2
section
variable {E : Exn → Th → Prop} {θ : Th} {ρ : DEnv} {a : ME} {ms : DEnv → MX (List Dv)}
def asgQ (o : Option DEnv) (θ : Th) (Q : Out → Th → Prop) : Prop := match o with
  | some ρ' => Q (.nx ρ') θ
  | none => False
theorem x_asg {T : Tg} {Q : Out → Th → Prop} : sAsg T a ρ E θ Q = a ρ E θ fun d θ1 => asgQ (asgT T d ρ) θ1 Q := by
  show (a ρ E θ fun d θ1 => (MX.opt (asgT T d ρ) : MX DEnv) E θ1 fun ρ' θ' => Q (.nx ρ') θ') = _
  congr 1
  funext d θ1
  cases asgT T d ρ <;> rfl
theorem x_asgQ {ρ' : DEnv} {Q : Out → Th → Prop} : asgQ (some ρ') θ Q = Q (.nx ρ') θ := (rfl)
theorem x_asgT2 {i j : Nat} {x y : Dv} : asgT (.tp [.nm i, .nm j]) (.tup [x, y]) ρ = some ((ρ.set i (some x)).set j (some y)) := (rfl)
variable {Q : Dv → Th → Prop}
theorem x_cnt : mCnt a ms ρ E θ Q = a ρ E θ fun d θ1 => (match d with
  | .pt _ => True
  | _ => False) ∧ ms ρ E θ1 fun ds θ2 => countD d ds E θ2 Q := (rfl)
theorem x_sumT2 {i j : Int} : sumD (.tup [.int i, .int j]) E θ Q = Q (.int (i + j)) θ := by
  show Q (.int [i, j].sum) θ = _
  simp
def tupPK (o : Option Ob) (θ : Th) (Q : Dv → Th → Prop) : Prop := match o with
  | some (.lst ds) => Q (.pt ds) θ
  | _ => False
theorem x_tupPD {k : Nat} : tupPD (.obj k) E θ Q = tupPK θ[k]? θ Q := (rfl)
theorem x_tupPL {ds : List Dv} : tupPK (some (.lst ds)) θ Q = Q (.pt ds) θ := (rfl)
theorem x_and1 {i : Nat} : oAnd (.int i) (.int 1) E θ Q = Q (.int ((i % 2 : Nat) : Int)) θ := by
  show (1 = 1 ∧ ∃ n : Nat, (i : Int) = n ∧ Q (.int ((n % 2 : Nat) : Int)) θ) = _
  refine propext ⟨fun ⟨_, n, e, q⟩ => ?_, fun q => ⟨rfl, i, rfl, q⟩⟩
  have : i = n := Int.ofNat.inj e
  rw [this]
  exact q
end
end Mn
namespace Mn
open PySem PySem.Spec PyProof.Rows L2
section
variable {E : Exn → Th → Prop} {θ : Th} {ρ : DEnv} {a : ME} {Q : Bool → Th → Prop}
def truK (E : Exn → Th → Prop) (Q : Bool → Th → Prop) : Dv → Th → Prop := fun x θ1 => truth x E θ1 Q
theorem x_bTru : bTru a ρ E θ Q = a ρ E θ (truK E Q) := (rfl)
theorem x_truB {b : Bool} : truK E Q (.bl b) θ = Q b θ := (rfl)
theorem x_truI {i : Int} : truK E Q (.int i) θ = Q (i != 0) θ := (rfl)
theorem x_truS {z : Str} : truK E Q (.str z) θ = (z.length ≤ sizeLine ∧ Q ((z.length : Int) != 0) θ) := (rfl)
end
end Mn
namespace Mn
open PySem PySem.Spec PyProof.Rows L2
section
variable {E : Exn → Th → Prop} {θ : Th} {Q : Dv → Th → Prop}
def slK (o : Option Ob) (lo hi : Option Int) (θ : Th) (Q : Dv → Th → Prop) : Prop := match o with
  | some (.lst ds) => Q (.obj θ.length) (θ ++ [.lst (cutD ds lo hi)])
  | _ => False
theorem x_slP {k : Nat} {lo hi : Option Int} : oSl (.obj k) lo hi E θ Q = slK θ[k]? lo hi θ Q := (rfl)
theorem x_slL {ds : List Dv} {lo hi : Option Int} : slK (some (.lst ds)) lo hi θ Q = Q (.obj θ.length) (θ ++ [.lst (cutD ds lo hi)]) := (rfl)
theorem x_slTu {ds : List Dv} {lo hi : Option Int} : oSl (.tup ds) lo hi E θ Q = Q (.tup (cutD ds lo hi)) θ := (rfl)
def addK (o o' : Option Ob) (θ : Th) (Q : Dv → Th → Prop) : Prop := match o, o' with
  | some (.lst a), some (.lst b) => a.length + b.length ≤ sizeLine ∧ Q (.obj θ.length) (θ ++ [.lst (a ++ b)])
  | _, _ => False
theorem x_addP {j k : Nat} : oAdd (.obj j) (.obj k) E θ Q = addK θ[j]? θ[k]? θ Q := (rfl)
theorem x_addL {a b : List Dv} : addK (some (.lst a)) (some (.lst b)) θ Q = (a.length + b.length ≤ sizeLine ∧ Q (.obj θ.length) (θ ++ [.lst (a ++ b)])) := (rfl)
end
end Mn

/-! Cm2: more mirrors that many laws read alike. -/
namespace Cm2
open PySem Mn
def m__law_count : MS := (sRet (mCall (k1 lenD) (msCons (mLc (srcV (mVar 0)) (.tp [(.nm 3), (.nm 4)]) (bAnd (bB (mBin oEq (mVar 3) (mVar 1))) (bB (mBin oEq (mVar 4) (mVar 2)))) (mC (.int 1)) [3, 4]) msNil)))
def c__law_count : List Dv → MX Dv := defM 2 m__law_count
def m__law_settled : MS := (sSeq (sSet 4 (mBin oGt (mCallU 3 Cm2.c__law_count (msCons (mVar 0) (msCons (mC (.str "works")) (msCons (mVar 1) msNil)))) (mVar 2))) (sSeq (sSet 5 (mBin oGt (mCallU 3 Cm2.c__law_count (msCons (mVar 0) (msCons (mC (.str "broken")) (msCons (mVar 1) msNil)))) (mBin oIx (mLst (msCons (mVar 2) (msCons (mC (.int 0)) msNil))) (mCall (k1 intD) (msCons (mBin oEq (mVar 3) (mC (.str "one"))) msNil))))) (sRet (mBin oIx (mLst (msCons (mC (.str "")) (msCons (mC (.str "works")) (msCons (mC (.str "broken")) (msCons (mC (.str "both")) msNil))))) (mBin oAdd (mCall (k1 intD) (msCons (mVar 4) msNil)) (mBin oMul (mC (.int 2)) (mCall (k1 intD) (msCons (mVar 5) msNil))))))))
def c__law_settled : List Dv → MX Dv := defM 2 m__law_settled
end Cm2

/-! Mn18: a part of a bare tuple; what a turn of a law's loop leaves behind. -/
namespace Mn
open PySem PySem.Spec PyProof.Rows L2
section
variable {X : Cx} {W : Wd X.K X.mg}
def oSlP (x : Dv) (lo hi : Option Int) : MX Dv := fun _ θ Q => match x with
  | .pt ds => Q (.pt (Mn.cutD ds lo hi)) θ
  | _ => False
def mSlP (a : ME) (lo hi : DEnv → MX (Option Int)) : ME := fun ρ => do
  let x ← a ρ
  let l ← lo ρ
  let h ← hi ρ
  oSlP x l h
end
section
variable {E : Exn → Th → Prop} {θ : Th} {ρ : DEnv} {a : ME} {Q : Dv → Th → Prop}
theorem x_slPt {l h : DEnv → MX (Option Int)} : mSlP a l h ρ E θ Q = a ρ E θ fun x θ1 => l ρ E θ1 fun l' θ2 => h ρ E θ2 fun h' θ3 => oSlP x l' h' E θ3 Q := (rfl)
theorem x_slPu {ds : List Dv} {lo hi : Option Int} : oSlP (.pt ds) lo hi E θ Q = Q (.pt (Mn.cutD ds lo hi)) θ := (rfl)
/-! what a turn leaves behind is dropped -/
end
end Mn

/-! Cm3: more mirrors that many laws read alike. -/
namespace Cm3
open PySem Mn
def m__law_above : MS := (sSeq (sSet 2 (mLst (msCons (mVar 1) msNil))) (sSeq (sFor (rng3 (msCons (mVar 1) (msCons (mUn oNeg (mC (.int 1))) (msCons (mUn oNeg (mC (.int 1))) msNil)))) (.nm 3) (sIf (bB (mBin oIn (mVar 3) (mVar 2))) (sSet 2 (mBin oAdd (mVar 2) (mLc (srcV (mBin oIx (mBin oIx (mBin oIx (mVar 0) (mC (.int 1))) (mVar 3)) (mC (.int 1)))) (.nm 4) (bB (mBin oNotIn (mVar 4) (mVar 2))) (mVar 4) [4]))) sNil)) (sRet (mVar 2))))
def c__law_above : List Dv → MX Dv := defM 3 m__law_above
def m__law_breaks : MS := (sRet (mBin oIn (mVar 1) (mCallU 2 Cm3.c__law_above (msCons (mVar 0) (msCons (mVar 2) msNil)))))
def c__law_breaks : List Dv → MX Dv := defM 0 m__law_breaks
def m__law_fits : MS := (sSeq (sFor (rng1 (msCons (mCall (k1 lenD) (msCons (mBin oIx (mVar 0) (mC (.int 1))) msNil)) msNil)) (.nm 5) (sSeq (sSet 6 (mCallU 3 Cm2.c__law_count (msCons (mVar 1) (msCons (mC (.str "works")) (msCons (mVar 5) msNil))))) (sSeq (sSet 7 (mCallU 3 Cm2.c__law_count (msCons (mVar 1) (msCons (mC (.str "broken")) (msCons (mVar 5) msNil))))) (sSeq (sIf (bAnd (bB (mCallU 3 Cm3.c__law_breaks (msCons (mVar 0) (msCons (mVar 4) (msCons (mVar 5) msNil))))) (bB (mBin oGt (mVar 6) (mVar 2)))) (sRet (mC (.bl false))) sNil) (sIf (bAnd (bNot (bB (mCallU 3 Cm3.c__law_breaks (msCons (mVar 0) (msCons (mVar 4) (msCons (mVar 5) msNil)))))) (bB (mBin oGt (mVar 7) (mBin oIx (mLst (msCons (mVar 2) (msCons (mC (.int 0)) msNil))) (mCall (k1 intD) (msCons (mBin oEq (mVar 3) (mC (.str "one"))) msNil)))))) (sRet (mC (.bl false))) sNil))))) (sRet (mC (.bl true))))
def c__law_fits : List Dv → MX Dv := defM 3 m__law_fits
end Cm3

/-! Mn19: defs that call themselves, loops by while, small dicts and get. -/
namespace Mn
open PySem PySem.Spec PyProof.Rows L2
/-! ### a def that calls itself -/
/-- with no calls left -/
theorem fnM_stuck {P : Program} {w : World} {K : PySem.W.Frag} {mg : Str → Option Value} {base : Heap} {x qual : Str} {st : Stmt} {f : Addr} {fd : FuncData} {N ps : List Str} {k n : Nat} (F : Fun K x qual st f fd) (S : FnScope N ps (defScope st)) (hn : ps.length = n) : FnG P w K mg base CX0 (k + 1) f fd ps (spM K mg n fun _ => MX.stuck) := by
  obtain ⟨oc, od, kV, doc, pm, an, cdv, ct, osl, rfl, lk, hcd⟩ := F.ex
  refine fnG_of lk hcd S (fun vs H Q E h => by rw [spM_len h, hn]) fun A outer s H vs Q E gd hr hsp => ?_
  obtain ⟨α, θ, ds, En, Qm, h1, ok, rps, q, u, lnk⟩ := hsp
  exact False.elim q
/-! ### while -/
section
variable {E : Exn → Th → Prop} {θ : Th} {ρ : DEnv}
theorem x_while {c : DEnv → MX Bool} {b : MS} {Q : Out → Th → Prop} : sWhile c b ρ E θ Q = ∃ n, sWhileGo c b n ρ E θ Q := (rfl)
/-- m falls at each turn -/
theorem while_rule {c : DEnv → MX Bool} {b : MS} {Q : Out → Th → Prop} (I : Nat → DEnv → Th → Prop) {m : Nat} (h0 : I m ρ θ)
    (hs : ∀ m ρ θ, I m ρ θ → ∀ K : Bool → Th → Prop, (∀ θ1, (∀ K2 : Out → Th → Prop, LoopK (fun o θ' => ∃ m' ρ', o = .nx ρ' ∧ m' < m ∧ I m' ρ' θ') Q K2 → b ρ E θ1 K2) → K true θ1) → (∀ θ1, Q (.nx ρ) θ1 → K false θ1) → c ρ E θ K) : ∃ n, sWhileGo c b n ρ E θ Q := by
  have key : ∀ n m ρ θ, m < n → I m ρ θ → sWhileGo c b n ρ E θ Q := by
    intro n
    induction n with
    | zero => intro m ρ θ h; omega
    | succ n ih =>
      intro m ρ θ hm hI
      show c ρ E θ fun k θ1 => (if k then (do
        let o ← b ρ
        match o with
        | .nx ρ' => sWhileGo c b n ρ'
        | .ct ρ' => sWhileGo c b n ρ'
        | .bk ρ' => pure (.nx ρ')
        | .rt d => pure (.rt d) : MX Out) else pure (.nx ρ)) E θ1 Q
      refine hs m ρ θ hI _ (fun θ1 hb => ?_) (fun θ1 hq => hq)
      refine hb _ ⟨fun ρ' θ' ⟨m', ρ2, e, h1, h2⟩ => ?_, fun ρ' θ' ⟨m', ρ2, e, h1, h2⟩ => ?_, fun ρ' θ' q => q, fun d θ' q => q⟩
      · cases e; exact ih m' ρ' θ' (by omega) h2
      · cases e; exact ih m' ρ' θ' (by omega) h2
  exact ⟨m + 1, key (m + 1) m ρ θ (Nat.lt_succ_self _) h0⟩
end
/-! ### {a: b, c: d} and d.get(x, y) -/
section
variable {X : Cx} {W : Wd X.K X.mg}
end
end Mn

/-! Cm4: mirrors of trees whose makes are tested again and again. -/
namespace Cm4
open PySem Mn
end Cm4

/-! Cm5: mirrors of answers and papers. -/
namespace Cm5
open PySem Mn
end Cm5

/-! Mn20: sorted, repeated, reversed tuples. -/
namespace Mn
open PySem PySem.Spec PyProof.Rows L2
section
variable {prog : Program} {w : World} {A : Around} {E : Value → Shared → Prop} {s : Shared}
end
section
variable {X : Cx} {W : Wd X.K X.mg}
def sortTD (d : Dv) : MX Dv := fun E θ Q => match d with
  | .tup ds => (match intsD ds with
    | some ns => sortL ns E θ Q
    | none => False)
  | _ => False
end
end Mn

/-! Mn21: t[::-1], t * n. -/
namespace Mn
open PySem PySem.Spec PyProof.Rows L2
section
variable {prog : Program} {w : World} {A : Around} {E : Value → Shared → Prop} {s : Shared}
end

section
variable {X : Cx} {W : Wd X.K X.mg}
/-! ### t * n -/
def oMulT : Dv → Dv → MX Dv
  | .tup ds, .int k => fun _ θ Q => ds ≠ [] ∧ 2 ≤ k ∧ k ≤ 1000 ∧ ds.length ≤ 1000 ∧ Q (.tup (List.replicate k.toNat ds).flatten) θ
  | _, _ => MX.stuck
theorem Rps.rep {K : PySem.W.Frag} {H : Hp} {α : List Addr} {ds : List Dv} {vs : List V} (h : Rps K H α ds vs) : ∀ n, Rps K H α (List.replicate n ds).flatten (List.replicate n vs).flatten
  | 0 => Rps.nil
  | n + 1 => by
    rw [List.replicate_succ, List.replicate_succ, List.flatten_cons, List.flatten_cons]
    exact Rps.append h (Rps.rep h n)
end
end Mn

/-! Cm6: the mirror of spoilt papers. -/
namespace Cm6
open PySem Mn
end Cm6

/-! Mn22: math.comb, x += 1, a tuple times one. -/
namespace Mn
open PySem PySem.Spec PyProof.Rows L2
theorem tup_times_one (l : Addr) (items : Array Value) (n : Nat) (dd : Option Addr) (sl : Array (Option Value)) (u : Tok) :
    Meets (Builtin.«tuple.__mul__» ⟨[.ref l, .int 1 u], []⟩) (fun _ R s =>
      s.heap.get? l = some { cls := .type "tuple", dict := dd, data := .seq items n, slots := sl } ∧ R (.ok (.ret (.ref l))) s) := .of_wp fun prog w A R s h => by
  obtain ⟨hp, g, d, tk, os⟩ := s
  obtain ⟨hl, h⟩ := h
  have f1 := AutoSeq1.idx_int
  wp_walk using wpAny_loadPart' hl
  exact ⟨_, rfl, h⟩
section
variable {X : Cx}
def rTimes1 (K : PySem.W.Frag) : R2 := fun x y H Q => ∃ l xs, x = .ref l ∧ y = .int 1 ∧ SqT K H l xs ∧ Q (.ref l) H
theorem op_times1 : OpR X (binaryOp .Mult) (rTimes1 X.K) := by
  intro pins s σ H x y v u Q I rx ry h
  obtain ⟨l, xs, rfl, rfl, hT, q⟩ := h
  cases rx
  obtain ⟨t, rfl⟩ := ry
  obtain ⟨its, r, ⟨⟨cls, dd, data, sl⟩, ho, hc, n, hd⟩, hs⟩ := I.tuple hT
  simp only at hc hd
  subst hc hd
  refine wpAny_binaryOp_repeat_ref (U := "int") (T := "tuple") (by decide) ⟨_, ho, rfl⟩ (fun z => typeIs_int z 1 t) noFill_tuple_mul F.fills_int_mul F.slot_int_rmul repeat_tuple F.slot_int_index.lookup ?_
  refine call_meets F.slot_int_rmul (typeIs_int s 1 t) F.entry_int_rmul (F.args_int_rmul_2 _ _) (int_rmul_tuple 1 t l its.toArray n dd sl) ⟨ho, rfl, ⟨_, ho, rfl⟩, ?_⟩
  refine call_meets F.slot_tuple_mul ⟨_, ho, rfl⟩ F.entry_tuple_mul (F.args_tuple_mul_2 _ _) (tup_times_one l its.toArray n dd sl t) ⟨ho, ?_⟩
  exact ⟨.ref l, H, I, rfl, q⟩
theorem call_comb : CallR X (.builtin "math.comb") (fun xs H Q => ∃ i j, xs = [.int i, .int j] ∧ 0 ≤ i ∧ 0 ≤ j ∧ i ≤ 18000 ∧ Q (.int (PySem.W.mcComb i j)) H) := by
  intro pins s σ H xs us Q I r h
  obtain ⟨i, j, rfl, h1, h2, h3, q⟩ := h
  obtain ⟨u, w', rfl, ⟨t, rfl⟩, ⟨t', rfl⟩⟩ := vals2 r
  exact PySem.W.mc_comb h1 h2 (by omega) (.inr h3) fun _ => ⟨.int (PySem.W.mcComb i j), H, I.tok _, ⟨_, rfl⟩, q⟩
theorem pe_callGB {x : Str} {p pos : Pos} {e : Expr} {es : List Expr} {id : String} {r : List V → Hp → VK → Prop} {t : TA} (hc : CallR X (.builtin id) r) (hg : Gl X x) (hm : X.mg x = some (.builtin id)) (ha : PA X (e :: es) t)
    (hdb : (x == ("__debug__" : Str)) = false) (he : starEach (e :: es) X.env = (false, eval e X.env) :: starEach es X.env)
    (hpl : (backTo pos (starEach es X.env)).any (·.1) = false) : PE X (.Call (.Name x p) (e :: es) [] pos) (tCB r t) := by
  constructor
  intro pins s σ H Q I h
  refine wpAny_Call_Name_kw (ld_glob I hg hm ?_ hdb)
  refine PyProof.Rows.callWith_builtin1 (thn (ha.run pos pins s σ H _ I h) ?_) he hpl
  rintro us s1 ⟨vs, H1, I1, r1, q1⟩
  exact hc pins s1 σ H1 vs us Q I1 r1 q1
variable {W : Wd X.K X.mg}
theorem pm_gf {x : Str} {p pos : Pos} {e : Expr} {es : List Expr} {ms : DEnv → MX (List Dv)} {id : String} {c : List Dv → MX Dv} (hc : CallM W (.builtin id) c) (hm : X.mg x = some (.builtin id)) (ha : PA X (e :: es) (tMs W ms)) (hg : Gl X x := by rfl)
    (hdb : (x == ("__debug__" : Str)) = false := by decide) (he : starEach (e :: es) X.env = (false, eval e X.env) :: starEach es X.env := by rfl)
    (hpl : (backTo pos (starEach es X.env)).any (·.1) = false := by rfl) : PE X (.Call (.Name x p) (e :: es) [] pos) (tM W (mCall c ms)) :=
  pe_w (pe_callGB hc hg hm ha hdb he hpl) tm_call
def combD (ds : List Dv) : MX Dv := fun _ θ Q => match ds with
  | [.int q, .int k] => 0 ≤ q ∧ 0 ≤ k ∧ q ≤ 18000 ∧ Q (.int (PySem.W.mcComb q k)) θ
  | _ => False
theorem cm_comb : CallM W (.builtin "math.comb") combD := cm_of call_comb fun {H α θ ds xs Qm Q} a r q u => by
  unfold combD at q
  split at q
  · cases ds2 r
    obtain ⟨q1, q2, q3, q⟩ := q
    exact ⟨_, _, rfl, q1, q2, q3, up_same u a q rp_int⟩
  · exact q.elim
theorem sm_auga {i : Nat} {x : Str} {e : Expr} {m : ME} {pos' pos : Pos} (c : Cf X) (he : PE X e (tM W m)) (hi : X.N[i]? = some x := by rfl) (hx : Loc X.env.scope x := by first | exact Or.inl rfl | exact Or.inr rfl) (hf : X.fn x = true ∨ X.env.scope.names.lookup x = some .local := by first | exact .inl rfl | exact .inr rfl) : PS X (.AugAssign (.Name x pos') .Add e pos) (tS W (sAug i oAddI m)) :=
  sm_aug (ps_aug c.nd hi hx he ipm_addI (hf := hf))
/-- a tuple times a number -/
def oMulT1 : Dv → Dv → MX Dv
  | .tup ds, .int k => fun E θ Q => if k = 1 then Q (.tup ds) θ else oMulT (.tup ds) (.int k) E θ Q
  | _, _ => MX.stuck
end
section
variable {E : Exn → Th → Prop} {θ : Th} {ρ : DEnv} {Q : Dv → Th → Prop}
theorem x_comb {q k : Int} : combD [.int q, .int k] E θ Q = (0 ≤ q ∧ 0 ≤ k ∧ q ≤ 18000 ∧ Q (.int (PySem.W.mcComb q k)) θ) := (rfl)
theorem x_mulT1 {ds : List Dv} {k : Int} : oMulT1 (.tup ds) (.int k) E θ Q = if k = 1 then Q (.tup ds) θ else oMulT (.tup ds) (.int k) E θ Q := (rfl)
end
end Mn

/-! Cm7: mirrors of weights. -/
namespace Cm7
open PySem Mn
def m_choices : MS := (sRet (mCall (k1 (onInts sumL)) (msCons (mLc (rng1 (msCons (mBin oAdd (mVar 1) (mC (.int 1))) msNil)) (.nm 2) bYes (mCall combD (msCons (mVar 0) (msCons (mVar 2) msNil))) [2]) msNil)))
def c_choices : List Dv → MX Dv := defM 1 m_choices
def m_weight : MS := (sRet (mCall (k1 (onInts sumL)) (msCons (mLc (srcV (mVar 0)) (.nm 2) bYes (mCallU 2 Cm7.c_choices (msCons (mVar 1) (msCons (mVar 2) msNil))) [2]) msNil)))
def c_weight : List Dv → MX Dv := defM 1 m_weight
def m__law_great : MS := (sSeq (sSet 1 (mBin oSub (mC (.int 200)) (mCallU 2 Cm.c__law_draw (msCons (mVar 0) (msCons (mC (.int 140)) msNil))))) (sSeq (sSet 2 (mCallU 1 Cm.c__law_pascal (msCons (mVar 1) msNil))) (sSeq (sSet 3 (mLc (rng1 (msCons (mC (.int 21)) msNil)) (.nm 4) bYes (mCall (k1 (onInts sumL)) (msCons (mSl (mVar 2) pNo (pSo (mBin oAdd (mVar 4) (mC (.int 1))))) msNil)) [4])) (sSeq (sIf (bNot (bB (mCallU 2 Cm.c__law_same (msCons (mLc (rng1 (msCons (mC (.int 21)) msNil)) (.nm 4) bYes (mCallU 2 Cm7.c_choices (msCons (mVar 1) (msCons (mVar 4) msNil))) [4]) (msCons (mVar 3) msNil))))) (sRet (mC (.bl false))) sNil) (sSeq (sSet 5 (mCall (k1 tupD) (msCons (mLc (rng1 (msCons (mBin oAdd (mC (.int 1)) (mCallU 2 Cm.c__law_draw (msCons (mVar 0) (msCons (mC (.int 24)) msNil)))) msNil)) (.nm 6) bYes (mBin oSub (mCallU 2 Cm.c__law_draw (msCons (mVar 0) (msCons (mC (.int 22)) msNil))) (mC (.int 1))) [6]) msNil))) (sRet (mCallU 2 Cm.c__law_same (msCons (mCallU 2 Cm7.c_weight (msCons (mVar 5) (msCons (mVar 1) msNil))) (msCons (mCall (k1 (onInts sumL)) (msCons (mLc (srcV (mVar 5)) (.nm 7) (bB (mBin oGe (mVar 7) (mC (.int 0)))) (mBin oIx (mVar 3) (mVar 7)) [7]) msNil)) msNil)))))))))
def c__law_great : List Dv → MX Dv := defM 7 m__law_great
end Cm7

/-! Mn23: raise, try .. except, defs that may raise. -/
namespace Mn
open PySem PySem.Spec PyProof.Rows L2
/-- raise X() -/
def sRaise (x : Str) : MS := fun _ E θ _ => E ⟨x, []⟩ θ
/-- what W wishes of an exception -/
abbrev TakesW {X : Cx} (W : Wd X.K X.mg) : Prop := Takes X (fun cls d _ H => W.XK cls d H)
section
variable {X : Cx} {W : Wd X.K X.mg}
theorem passTk (tk : TakesW W) : Passes (L2.CX X.prog X.w) X W.XK := passes_call tk fun _ _ _ _ h => h
theorem pmk_own0 {C : Addr} {bmB : List Value} {B newId initId : String} {x : Str} {p pos : Pos} (F : ExcBaseFacts B newId initId bmB) (q : PySem.W.excIn X.K C bmB newId = true) (gC : X.mg x = some (.ref C)) (kC : PySem.W.keepIn X.K (.ref C) = true) (r : Raises X (.ref C)) (hg : Gl X x)
    (hdb : (x == ("__debug__" : Str)) = false := by decide) : PMk X (.Call (.Name x p) [] [] pos) (fun _ H Q => Q (.ref C) none H) := by
  intro pins s σ H Q I h
  refine wpAny_Call_Name_kw (ld_glob I hg gC ?_ hdb)
  apply PySem.W.callWith_K0 I.kIn kC
  show wpAny _ _ (call (.ref C) []) _ _ _
  obtain ⟨bm, N, nm, qn, bs, hdct, sn, sub, ab, col, dd, k0, k1, k2, k3, k5, mN, hC, hN, hni, T⟩ := exc_obj I.kIn q
  refine wpAny_call_exc_subT F T hC hN hni (fun h' e hm => ?_) (Nat.zero_le _)
  exact mk_of I hm r h (I.hok.gone hm.new)
theorem sm_raise {C : Addr} {x : Str} {e : Expr} {pos : Pos} (hc : X.calm = true) (tk : TakesW W) (gC : X.mg x = some (.ref C)) (mk : PMk X e (fun _ H Q => Q (.ref C) none H)) : PS X (.Raise (some e) none pos) (tS W (sRaise x)) :=
  ps_w (ps_raise hc tk mk) fun D σ H ⟨ρ, α, θ, Qm, at', rs, q, u⟩ => ⟨⟨x, []⟩, θ, α, q, at'.ok, at'.nx, C, gC, rfl, rfl⟩
/-- raise X(), X an own class over ValueError without __init__ -/
theorem sm_raiseV {C : Addr} {x : Str} {p pos pos2 : Pos} (c : Cf X) (tk : TakesW W) (gC : X.mg x = some (.ref C)) (q : PySem.W.excIn X.K C [.type "ValueError", .type "Exception", .type "BaseException", .type "object"] "ValueError.__new__" = true) (kC : PySem.W.keepIn X.K (.ref C) = true)
    (bC : PySem.W.subIn X.K (.ref C) (.type "BaseException") = some true) (tC : PySem.W.typeIn X.K (.ref C) = some (.type "type")) (hg : Gl X x := by rfl) (hdb : (x == ("__debug__" : Str)) = false := by decide) : PS X (.Raise (some (.Call (.Name x p) [] [] pos)) none pos2) (tS W (sRaise x)) :=
  sm_raise c.calm tk gC (pmk_own0 PySem.F.excBase_ValueError q gC kC (raises_own bC tC) hg hdb)
end
/-- a def that may raise, by its body -/
theorem fnMX {P : Program} {w : World} {K : PySem.W.Frag} {mg : Str → Option Value} {base : Heap} {x qual : Str} {st : Stmt} {f : Addr} {fd : FuncData} {N ps : List Str} {k n j : Nat} {m : MS} (F : Fun K x qual st f fd) (S : FnScope N ps (defScope st)) (hn : ps.length = n) (hj : N.length = n + j)
    (hbody : ∀ (cdv : Value) (A : Around) (outer : List Env) (s : Shared) (H : Hp) (E : XK) (W : Wd K mg), Room k (A.deeper (envOfC qual (defScope st) s.heap.objs.size f cdv)) → Cf (cxOf (L2.CX P w) P w K mg base N qual (defScope st) f cdv A outer s H E) →
      TakesW (X := cxOf (L2.CX P w) P w K mg base N qual (defScope st) f cdv A outer s H E) W →
      PassesOwn (model P w) (cxOf (L2.CX P w) P w K mg base N qual (defScope st) f cdv A outer s H E).A (cxOf (L2.CX P w) P w K mg base N qual (defScope st) f cdv A outer s H E).env (cxOf (L2.CX P w) P w K mg base N qual (defScope st) f cdv A outer s H E).xe →
      PSs (cxOf (L2.CX P w) P w K mg base N qual (defScope st) f cdv A outer s H E) (defBody st) (tS W m)) : FnG P w K mg base (L2.CX P w) (k + 1) f fd ps (spM K mg n (defM j m)) := by
  obtain ⟨oc, od, kV, doc, pm, an, cdv, ct, osl, rfl, lk, hcd⟩ := F.ex
  refine fnG_of lk hcd S (fun vs H Q E h => by rw [spM_len h, hn]) fun A outer s H vs Q E gd hr hsp => ?_
  obtain ⟨α, θ, ds, En, Qm, h1, ok, rps, q, u, lnk⟩ := hsp
  have cf := room_cf (CX := L2.CX P w) (P := P) (w := w) (K := K) (mg := mg) (base := base) (outer := outer) (H := H) (E := E) gd hr S.nd
  have tk : Takes (cxOf (L2.CX P w) P w K mg base N qual (defScope st) f cdv A outer s H E) (fun cls d _ H => E cls d H) := takes_of rfl rfl rfl rfl
  refine ⟨_, hbody cdv A outer s H E ⟨H, α, En, E⟩ hr ⟨cf.calm, cf.gd, cf.un, cf.nd⟩ (tk.imp fun cls d σ H' h => ?_) (passes_of rfl), _, α, θ, _, ⟨ok, Nx.refl⟩, rs_start rps (by rw [h1]; exact hj), q, fun o θ' α' H' q' ok' nx' => ?_⟩
  · obtain ⟨x, θ', α', h1, h2, h3, h4⟩ := h
    exact lnk x θ' α' H' cls d h1 h2 h3 h4
  cases o with
  | nx ρ' => exact fun σ' _ => up_end ok u q' ok' nx' rp_non
  | rt d => exact fun v r => up_end ok u q' ok' nx' r
  | bk ρ' => exact False.elim q'
  | ct ρ' => exact False.elim q'
/-! ### a call in a try, at the slots that stand -/
section
variable {X : Cx} {W : Wd X.K X.mg} {Wx : WX}
def ExW (X : Cx) (Wx : WX) (En : Exn → Th → Prop) (σ : L2.St) (H : Hp) (α : List Addr) : Prop := ∀ x θ' α' H' cls d, En x θ' → Okk X.K H' α' θ' → Nx X.K H α H' α' → ExR X.K X.mg H' α' x cls d → Wx cls d σ H'
theorem ExW.mono {En : Exn → Th → Prop} {σ : L2.St} {H H' : Hp} {α α' : List Addr} (h : ExW X Wx En σ H α) (n : Nx X.K H α H' α') : ExW X Wx En σ H' α' := fun x θ2 α2 H2 cls d h1 h2 h3 h4 => h x θ2 α2 H2 cls d h1 h2 (n.trans h3) h4
def tX (W : Wd X.K X.mg) (Wx : WX) (m : ME) : TE := fun σ H Q => ∃ ρ α θ Qm En, At W H α θ ∧ RS X.K H α σ ρ ∧ m ρ En θ Qm ∧ Up X.K H α Qm Q ∧ ExW X Wx En σ H α
def tXS (W : Wd X.K X.mg) (Wx : WX) (m : MS) : TS := fun D σ H => ∃ ρ α θ Qm En, At W H α θ ∧ RS X.K H α σ ρ ∧ m ρ En θ Qm ∧ UpS X.K H α Qm D ∧ ExW X Wx En σ H α
theorem runGS {CX : CXT} {k : Nat} {f : Addr} {fd : FuncData} {ps : List Str} {sp : Sp} {E : XK} {pins : List (Addr × Obj)} {σ : L2.St} {H : Hp} {s : Shared} {Q : VK} {us : List Value} {vs : List V} (F : FnG X.prog X.w X.K X.mg X.base CX k f fd ps sp)
    (gd : X.A.guards = some []) (hr : Room k X.A) (hb : Binds X.K fd ps []) (hx : PassesAt CX X σ E)
    (I : Inv X pins σ H s) (r : Vals vs us) (h : sp vs H Q E) : wpAny (model X.prog X.w) X.A (call (.ref f) us) (EP X pins σ Q) X.xe s := by
  have hl : us.length = ps.length := by rw [← r.length]; exact F.arity _ _ _ _ h
  have b := hb s us I.kIn (by rw [List.append_nil]; exact hl)
  rw [List.append_nil] at b
  refine wpAny_call (codeAny_mono (F.go X.A X.stack s H ⟨us, []⟩ us vs Q E gd hr I.env0 b r h) fun r s' hq => ?_)
  cases r with
  | error e => exact hx pins H s e s' I hq
  | ok fl =>
    cases fl with
    | ret u => exact I.after hq
    | next => exact False.elim hq
    | brk => exact False.elim hq
    | cont => exact False.elim hq
theorem pe_callGS {CX : CXT} {k : Nat} {f : Addr} {fd : FuncData} {ps : List Str} {sp : Sp} {E : L2.St → XK} {x : Str} {p pos : Pos} {e : Expr} {es : List Expr} {t : TA} (F : FnG X.prog X.w X.K X.mg X.base CX k f fd ps sp) (gd : X.A.guards = some []) (hr : Room k X.A) (hg : Gl X x) (hm : X.mg x = some (.ref f)) (hk : PySem.W.keepIn X.K (.ref f) = true) (hb : Binds X.K fd ps []) (hx : ∀ σ, PassesAt CX X σ (E σ))
    (ha : PA X (e :: es) t) (hdb : (x == ("__debug__" : Str)) = false := by decide) (he : starEach (e :: es) X.env = (false, eval e X.env) :: starEach es X.env := by rfl) (hpl : (backTo pos (starEach es X.env)).any (·.1) = false := by rfl) :
    PE X (.Call (.Name x p) (e :: es) [] pos) (tCallS sp E t) := by
  refine ⟨fun pins s σ H Q I h => ?_⟩
  refine wpAny_Call_Name_kw (ld_glob I hg hm ?_ hdb)
  refine PySem.W.callWith_K (h₀ := X.base) I.ok.mod.kin hk (thn (ha.run pos pins s σ H _ I h) fun us s1 ⟨vs, H1, I1, r, q⟩ => ⟨I1.kIn, ?_⟩) he hpl
  exact runGS F gd hr hb (hx σ) I1 r q
theorem px_call {k n : Nat} {f : Addr} {fd : FuncData} {ps : List Str} {c : List Dv → MX Dv} {x : Str} {p pos : Pos} {e : Expr} {es : List Expr} {ms : DEnv → MX (List Dv)} (F : FnG X.prog X.w X.K X.mg X.base (L2.CX X.prog X.w) k f fd ps (spM X.K X.mg n c)) (gd : X.A.guards = some []) (hr : Room k X.A) (hm : X.mg x = some (.ref f)) (hk : PySem.W.keepIn X.K (.ref f) = true)
    (hb : Binds X.K fd ps []) (tk : Takes X Wx) (ha : ∀ W : Wd X.K X.mg, PA X (e :: es) (tMs W ms)) (hg : Gl X x := by rfl) (hdb : (x == ("__debug__" : Str)) = false := by decide) (he : starEach (e :: es) X.env = (false, eval e X.env) :: starEach es X.env := by rfl)
    (hpl : (backTo pos (starEach es X.env)).any (·.1) = false := by rfl) : PE X (.Call (.Name x p) (e :: es) [] pos) (tX W Wx (mCallU n c ms)) := by
  refine ⟨fun pins s σ H Q I ⟨ρ, α, θ, Qm, En, at', rs, q, u, ex⟩ => ?_⟩
  refine (pe_callGS (E := WE Wx) F gd hr hg hm hk hb (fun σ => passAt tk σ) (ha { W with En := En }) hdb he hpl).run pins s σ H Q I ?_
  refine ⟨ρ, α, θ, _, ⟨at'.ok, at'.nx⟩, rs, q, fun ds θ1 α1 H1 vs q1 ok1 nx1 r1 => ⟨α1, θ1, ds, En, Qm, q1.1, ok1, r1, q1.2, u.mono nx1, ?_⟩⟩
  exact fun x2 θ2 α2 H2 cls d h1 h2 h3 h4 => ex x2 θ2 α2 H2 cls d h1 h2 (nx1.trans h3) h4
theorem sx_ex {e : Expr} {m : ME} {pos : Pos} (h : PE X e (tX W Wx m)) (hs : swapsWith e none pos.line X.env = pure false := by rfl) : PS X (.Expr e pos) (tXS W Wx (sDrop m)) := ps_w (ps_expr h hs) fun D σ H ⟨ρ, α, θ, Qm, En, at', rs, q, u, ex⟩ =>
  ⟨ρ, α, θ, _, En, at', rs, q, fun d θ1 α1 H1 v q1 ok1 nx1 r1 => u (.nx ρ) θ1 α1 H1 q1 ok1 nx1 σ (rs.mono nx1), ex⟩
theorem sx_one {st : Stmt} {m : MS} (h : PS X st (tXS W Wx m)) : PSs X [st] (tXS W Wx m) := pss_one h
end
/-! ### try -/
/-- whether instances of a class meet the clause -/
def KnOk (K : PySem.W.Frag) (mg : Str → Option Value) (c : Value) (kn : List (Str × Bool)) : Prop := ∀ y b, kn.lookup y = some b → ∀ C, mg y = some (.ref C) → PySem.W.exmOne K (.ref C) c = some b
theorem kn_nil {K : PySem.W.Frag} {mg : Str → Option Value} {c : Value} : KnOk K mg c [] := fun y b h => by cases h
theorem kn_cons {K : PySem.W.Frag} {mg : Str → Option Value} {c : Value} {y : Str} {b : Bool} {C : Addr} {kn : List (Str × Bool)} (g : mg y = some (.ref C)) (e : PySem.W.exmOne K (.ref C) c = some b) (r : KnOk K mg c kn) : KnOk K mg c ((y, b) :: kn) := fun z b' h C' g' => by
  rw [List.lookup_cons] at h
  by_cases hz : z = y
  · subst hz
    rw [beq_self_eq_true] at h
    cases h
    rw [g] at g'
    cases g'
    exact e
  · rw [beq_false_of_ne hz] at h
    exact r z b' h C' g'
def tryK (kn : List (Str × Bool)) (suite : Exn → Th → Prop) (E : Exn → Th → Prop) : Exn → Th → Prop := fun x θ => ∃ b, kn.lookup x.cls = some b ∧ (b = true → suite x θ) ∧ (b = false → E x θ)
def sTry (kn : List (Str × Bool)) (body suite : MS) : MS := fun ρ E θ Q => body ρ (tryK kn (fun _ θ' => suite ρ (fun _ _ => False) θ' Q) E) θ Q
def clearO (i : Nat) : Out → Out
  | .nx ρ => .nx (ρ.set i none)
  | .bk ρ => .bk (ρ.set i none)
  | .ct ρ => .ct (ρ.set i none)
  | .rt d => .rt d
def sTryAs (kn : List (Str × Bool)) (i : Nat) (body : MS) (suite : Addr → Exn → MS) : MS := fun ρ E θ Q => body ρ (tryK kn (fun x θ' => ∀ a, suite a x (ρ.set i (some (.rf a))) (fun _ _ => False) θ' fun o => Q (clearO i o)) E) θ Q
section
variable {X : Cx} {W : Wd X.K X.mg} {x n : Str} {c : Value} {body suite : List Stmt} {b₀ : Stmt} {np pos pos' : Pos} {mb : MS} {kn : List (Str × Bool)}
theorem sm_try {ms : MS} (hs : X.stack = X.env :: X.outer) (hf : X.env.frame = some X.env.locals) (hc : Names X x c) (tk : TakesW W) (hk : KnOk X.K X.mg c kn)
    (hb : ∀ (Wx : WX) (pn : List (Addr × Obj)) (xe : Value → Shared → Prop), Takes (X.tr pn xe) Wx → PSs (X.tr pn xe) body (tXS (X := X.tr pn xe) W Wx mb))
    (hsu : ∀ (a : Addr) (oe : Obj) (pn : List (Addr × Obj)) (W2 : Wd X.K X.mg), PSs (X.suite a ((a, oe) :: pn)) (b₀ :: suite) (tS W2.calm ms)) :
    PS X (.Try body [.ExceptHandler (some (.Name x np)) none (b₀ :: suite) pos'] [] [] pos) (tS W (sTry kn mb ms)) :=
  ps_w (ps_try_only (tb := fun Wx => tXS W Wx mb) (ts := fun _ _ _ => tS W.calm ms) hs hf hc tk (fun Wx pn xe h1 h2 => hb Wx pn xe h1) (fun a oe cls d pn h1 h2 => hsu a oe pn W)) fun D σ H ⟨ρ, α, θ, Qm, at', rs, q, u⟩ =>
    ⟨ρ, α, θ, Qm, _, at', rs, q, u, fun x θ' α' H' cls d ⟨b, e, h1, h2⟩ ok' nx' ex => ⟨b, by
      obtain ⟨C, g, rfl, _⟩ := ex
      exact hk _ _ e C g, fun hb a na => ⟨ρ, α', θ', Qm, ⟨ok', at'.nx.trans nx'⟩, rs.mono nx', h1 hb, u.mono nx'⟩, fun hb => ⟨x, θ', α', h2 hb, ok', at'.nx.trans nx', ex⟩⟩⟩
end
/-! ### isinstance of the caught exception, its fields -/
structure ExF (K : PySem.W.Frag) (C : Addr) : Prop where
  cl : (PySem.W.clsIn K C).isSome = true
  ga : PySem.W.findIn K (.ref C) "__getattribute__" = some (some (.builtin "BaseException.__getattribute__"))
  gt : PySem.W.findIn K (.ref C) "__getattr__" = some none
  sb : PySem.W.subIn K (.ref C) (.type "BaseException") = some true
  ca : PySem.W.findIn K (.ref C) "__class__" = some (some (.builtin "object.__class__"))
  gn : PySem.W.specialIn K (.builtin "object.__class__") "__get__" = some (some (.builtin "getset_descriptor.__get__"))
  tk : PySem.W.takesIn K (.builtin "object.__class__") = some true
  mr : PySem.W.mroIn K C (.type "object") = some true
def mIsX (i : Nat) (a : Addr) (x : Exn) (kn : List (Str × Bool)) : ME := fun ρ _ θ Q => ρ.getD i none = some (.rf a) ∧ ∃ b, kn.lookup x.cls = some b ∧ Q (.bl b) θ
section
variable {X : Cx} {W : Wd X.K X.mg}
end
section
variable {E : Exn → Th → Prop} {θ : Th} {ρ : DEnv}
theorem x_try {kn : List (Str × Bool)} {b s : MS} {Q : Out → Th → Prop} : sTry kn b s ρ E θ Q = b ρ (tryK kn (fun _ θ' => s ρ (fun _ _ => False) θ' Q) E) θ Q := (rfl)
end
/-- an own class of exceptions -/
structure ExCl (K : PySem.W.Frag) (mg : Str → Option Value) (y : Str) (C : Addr) : Prop where
  g : mg y = some (.ref C)
  f : ExF K C
  sb : PySem.W.subIn K (.ref C) (.type "BaseException") = some true
  tC : PySem.W.typeIn K (.ref C) = some (.type "type")
  iC : PySem.W.isClsIn K C = true
theorem exm_cl {K : PySem.W.Frag} {mg : Str → Option Value} {y : Str} {C D : Addr} {b : Bool} (c : ExCl K mg y C) (h4 : PySem.W.subIn K (.ref D) (.ref C) = some b) : PySem.W.exmOne K (.ref D) (.ref C) = some b := by
  have e1 : (PySem.W.subIn K (.ref C) (.type "BaseException") == some true) = true := by rw [c.sb] <;> rfl
  have hc : (PySem.W.clsIn K C).isSome = true := c.iC
  have e2 : ((PySem.W.clsIn K C).isSome && PySem.W.typeIn K (.ref C) == some (.type "type")) = true := by rw [hc, c.tC] <;> rfl
  show (if (PySem.W.subIn K (.ref C) (.type "BaseException") == some true) = true then (if ((PySem.W.clsIn K C).isSome && PySem.W.typeIn K (.ref C) == some (.type "type")) = true then PySem.W.subIn K (.ref D) (.ref C) else none) else none) = some b
  rw [if_pos e1, if_pos e2]
  exact h4
theorem noCX {P : Program} {w : World} {H : Hp} {s : Shared} {e : Value} {s' : Shared} (h : L2.CX P w [] H s (fun _ _ _ => False) e s') : False := by
  obtain ⟨_, _, _, _, _, _, _, _, _, _, _, _, z⟩ := h
  exact z
theorem Cf.tr {X : Cx} {pn : List (Addr × Obj)} {xe : Value → Shared → Prop} (c : Cf X) : Cf (X.tr pn xe) := ⟨c.calm, c.gd, c.un, c.nd⟩
end Mn

/-! Mn24: the greatest, the least of a list of data. -/
namespace Mn
open PySem PySem.Spec PyProof.Rows L2
section
open PySem.W PySem.SeqAt
variable {prog : Program} {w : World} {A : Around} {E : Value → Shared → Prop} {s : Shared}
end
section
variable {X : Cx} {W : Wd X.K X.mg}
end
section
variable {E : Exn → Th → Prop} {θ : Th} {Q : Dv → Th → Prop}
end
end Mn

namespace Cm8
open PySem PySem.Spec PyProof.Rows L2 Mn
def m_least_tests : MS := (sSeq (sSet 2 (mC (.int 0))) (sSeq (sWhile (bB (mBin oGt (mBin oAdd (mBin oMul (mVar 0) (mBin oAdd (mVar 2) (mC (.int 1)))) (mVar 1)) (mBin oShl (mC (.int 1)) (mVar 2)))) (sAug 2 oAddI (mC (.int 1)))) (sRet (mVar 2))))
def c_least_tests : List Dv → MX Dv := defM 1 m_least_tests
def m_next_numbers : MS := (sSeq (sIf (bB (mBin oLe (mBin oAdd (mVar 0) (mVar 1)) (mC (.int 1)))) (sRaise "BadState") sNil) (sSeq (sIf (bAnd (bB (mBin oGe (mVar 0) (mC (.int 2)))) (bB (mBin oEq (mVar 1) (mC (.int 0))))) (sRet (mTup (msCons (mBin oFdiv (mBin oAdd (mVar 0) (mC (.int 1))) (mC (.int 2))) (msCons (mC (.int 0)) msNil)))) sNil) (sSeq (sIf (bB (mBin oLt (mVar 1) (mBin oSub (mVar 0) (mC (.int 1))))) (sRaise "BadState") sNil) (sSeq (sIf (bTru (mBin oAnd (mVar 0) (mC (.int 1)))) (sRet (mTup (msCons (mBin oFdiv (mBin oAdd (mVar 0) (mC (.int 1))) (mC (.int 2))) (msCons (mCall (max2) (msCons (mC (.int 0)) (msCons (mBin oFdiv (mBin oAdd (mBin oSub (mVar 1) (mCallU 2 Cm8.c_least_tests (msCons (mVar 0) (msCons (mVar 1) msNil)))) (mC (.int 1))) (mC (.int 2))) msNil))) msNil)))) sNil) (sRet (mTup (msCons (mBin oFdiv (mVar 0) (mC (.int 2))) (msCons (mBin oFdiv (mVar 1) (mC (.int 2))) msNil))))))))
def c_next_numbers : List Dv → MX Dv := defM 0 m_next_numbers
def m__law_refused : MS := (sSeq (sTryAs [("BadState", true)] 2 (sDrop (mCallU 2 Cm8.c_next_numbers (msCons (mVar 0) (msCons (mVar 1) msNil)))) (fun a x => (sRet (mUn oNot (mIsX 2 a x [("BadState", false)]))))) (sRet (mC (.bl false))))
def c__law_refused : List Dv → MX Dv := defM 1 m__law_refused
def m__law_least : MS := (sSeq (sSet 2 (mC (.int 1))) (sSeq (sFor (rng1 (msCons (mC (.int 80)) msNil)) (.nm 3) (sSeq (sIf (bB (mBin oLe (mBin oAdd (mBin oMul (mVar 0) (mBin oAdd (mVar 3) (mC (.int 1)))) (mVar 1)) (mVar 2))) (sRet (mVar 3)) sNil) (sSet 2 (mBin oMul (mVar 2) (mC (.int 2)))))) (sRet (mUn oNeg (mC (.int 1))))))
def c__law_least : List Dv → MX Dv := defM 2 m__law_least
def m__law_due : MS := (sSeq (sIf (bB (mBin oEq (mVar 1) (mC (.int 0)))) (sRet (mTup (msCons (mBin oFdiv (mBin oAdd (mVar 0) (mC (.int 1))) (mC (.int 2))) (msCons (mC (.int 0)) msNil)))) sNil) (sSeq (sIf (bB (mBin oEq (mBin oMod (mCall (k1 intD) (msCons (mVar 0) msNil)) (mC (.int 2))) (mC (.int 0)))) (sRet (mTup (msCons (mBin oFdiv (mVar 0) (mC (.int 2))) (msCons (mBin oFdiv (mVar 1) (mC (.int 2))) msNil)))) sNil) (sSeq (sSet 2 (mBin oAdd (mBin oSub (mVar 1) (mCallU 2 Cm8.c__law_least (msCons (mVar 0) (msCons (mVar 1) msNil)))) (mC (.int 1)))) (sRet (mTup (msCons (mBin oFdiv (mBin oAdd (mVar 0) (mC (.int 1))) (mC (.int 2))) (msCons (mBin oFdiv (mCall (max2) (msCons (mC (.int 0)) (msCons (mVar 2) msNil))) (mC (.int 2))) msNil)))))))
def c__law_due : List Dv → MX Dv := defM 1 m__law_due
def m_odd_surplus : MS := (sRet (mIf (bTru (mBin oAnd (mVar 0) (mC (.int 1)))) (mBin oSub (mVar 1) (mC (.int 1))) (mC (.int 0))))
def c_odd_surplus : List Dv → MX Dv := defM 0 m_odd_surplus
def m_fewest_patches : MS := (sSeq (sSet 1 (mC (.int 0))) (sSeq (sWhile (bB (mBin oGt (mBin oAdd (mBin oMul (mVar 0) (mBin oAdd (mVar 1) (mC (.int 1)))) (mCallU 2 Cm8.c_odd_surplus (msCons (mVar 0) (msCons (mVar 1) msNil)))) (mBin oShl (mC (.int 1)) (mVar 1)))) (sAug 1 oAddI (mC (.int 1)))) (sRet (mVar 1))))
def c_fewest_patches : List Dv → MX Dv := defM 1 m_fewest_patches
end Cm8

/-! Mn25: instances: made, their fields, their methods. -/
namespace Mn
open PySem PySem.Spec PyProof.Rows L2
section
variable {K : PySem.W.Frag} {H : Hp} {α : List Addr}
def putFd (f : Str) (d : Dv) : List (Str × Dv) → List (Str × Dv)
  | [] => [(f, d)]
  | (g, x) :: r => if g = f then (g, d) :: r else (g, x) :: putFd f d r
end
/-- the fields of an instance -/
def fldsOf (cls : Str) (o : Option Ob) : Option (List (Str × Dv)) := match o with
  | some (.ins c fs) => if c = cls then some fs else none
  | _ => none
/-- o.f -/
def fldK (cls f : Str) (Q : Dv → Th → Prop) : Dv → Th → Prop := fun d θ1 => match d with
  | .obj k => ∃ fs v, fldsOf cls θ1[k]? = some fs ∧ fs.lookup f = some v ∧ Q v θ1
  | _ => False
def mFld (cls f : Str) (me : ME) : ME := fun ρ E θ Q => me ρ E θ (fldK cls f Q)
/-- o.f = e -/
def sFldK (cls f : Str) (y : Dv) (ρ : DEnv) (Q : Out → Th → Prop) : Dv → Th → Prop := fun d θ2 => match d with
  | .obj k => ∃ fs, fldsOf cls θ2[k]? = some fs ∧ fs.length < 1000 ∧ Q (.nx ρ) (θ2.set k (.ins cls (putFd f y fs)))
  | _ => False
def sFldM (cls f : Str) (o e : ME) : MS := fun ρ E θ Q => e ρ E θ fun y θ1 => o ρ E θ1 (sFldK cls f y ρ Q)
/-- o.m(..) -/
def methK (cls m : Str) (n : Nat) (c : List Dv → MX Dv) (ms : DEnv → MX (List Dv)) (ρ : DEnv) (E : Exn → Th → Prop) (Q : Dv → Th → Prop) : Dv → Th → Prop := fun d θ1 => match d with
  | .obj k => ∃ fs, fldsOf cls θ1[k]? = some fs ∧ fs.lookup m = none ∧ ms ρ E θ1 fun ds θ2 => ds.length = n ∧ c (.obj k :: ds) E θ2 Q
  | _ => False
def mMeth (cls m : Str) (n : Nat) (c : List Dv → MX Dv) (mo : ME) (ms : DEnv → MX (List Dv)) : ME := fun ρ E θ Q => mo ρ E θ (methK cls m n c ms ρ E Q)
/-- C(..) -/
def mMake (cls : Str) (n : Nat) (c : List Dv → MX Dv) (ms : DEnv → MX (List Dv)) : ME := fun ρ E θ Q => ms ρ E θ fun ds θ1 => ds.length = n ∧ c (.obj θ1.length :: ds) E (θ1 ++ [.ins cls []]) fun d θ2 => d = .non ∧ Q (.obj θ1.length) θ2
section
variable {X : Cx} {W : Wd X.K X.mg}
/-! methods -/
/-! a new instance -/
/-! in a try -/
end
section
variable {E : Exn → Th → Prop} {θ : Th} {ρ : DEnv}
end
end Mn

/-! Mn26: a, b = a list. -/
namespace Mn
open PySem PySem.Spec PyProof.Rows L2
def asgLK (ts : List Tg) (ρ : DEnv) (Q : Out → Th → Prop) : Dv → Th → Prop := fun d θ1 => match d with
  | .obj k => ∃ ds ρ', θ1[k]? = some (.lst ds) ∧ asgTs ts ds ρ = some ρ' ∧ Q (.nx ρ') θ1
  | _ => False
def sAsgL (ts : List Tg) (e : ME) : MS := fun ρ E θ Q => e ρ E θ (asgLK ts ρ Q)
section
variable {X : Cx} {W : Wd X.K X.mg}
end
section
variable {E : Exn → Th → Prop} {θ : Th} {ρ : DEnv}
end
end Mn

namespace Cm9
open PySem PySem.Spec PyProof.Rows L2 Mn
def m_merged : MS := (sRet (mCall (k1 tupD) (msCons (mCall (k1 sortTD) (msCons (mBin oAdd (mVar 0) (mVar 1)) msNil)) msNil)))
def c_merged : List Dv → MX Dv := defM 0 m_merged
def m_Hunt_left : MS := (sRet (mBin oIx (mFld "Hunt" "_moments" (mVar 0)) (mUn oNeg (mC (.int 1)))))
def c_Hunt_left : List Dv → MX Dv := defM 0 m_Hunt_left
def m_Hunt__numbers : MS := (sSeq (sAsg (.tp [(.nm 1), (.nm 2)]) (mMeth "Hunt" "left" 0 Cm9.c_Hunt_left (mVar 0) msNil)) (sRet (mCallU 2 Cm8.c_next_numbers (msCons (mCall (k1 lenD) (msCons (mVar 1) msNil)) (msCons (mCall (k1 lenD) (msCons (mVar 2) msNil)) msNil)))))
def c_Hunt__numbers : List Dv → MX Dv := defM 2 m_Hunt__numbers
def m_Hunt_test : MS := (sSeq (sAsg (.tp [(.nm 1), (.nm 2)]) (mMeth "Hunt" "left" 0 Cm9.c_Hunt_left (mVar 0) msNil)) (sSeq (sAsg (.tp [(.nm 3), (.nm 4)]) (mMeth "Hunt" "_numbers" 0 Cm9.c_Hunt__numbers (mVar 0) msNil)) (sRet (mCallU 2 Cm9.c_merged (msCons (mSl (mVar 1) pNo (pSo (mVar 3))) (msCons (mSl (mVar 2) pNo (pSo (mVar 4))) msNil))))))
def c_Hunt_test : List Dv → MX Dv := defM 4 m_Hunt_test
def m_Hunt_tell : MS := (sSeq (sAsg (.tp [(.nm 2), (.nm 3)]) (mMeth "Hunt" "left" 0 Cm9.c_Hunt_left (mVar 0) msNil)) (sSeq (sAsg (.tp [(.nm 4), (.nm 5)]) (mMeth "Hunt" "_numbers" 0 Cm9.c_Hunt__numbers (mVar 0) msNil)) (sIf (bTru (mVar 1)) (sDrop (mMth "list" appendD (mFld "Hunt" "_moments" (mVar 0)) (msCons (mTup (msCons (mSl (mVar 2) pNo (pSo (mVar 4))) (msCons (mCallU 2 Cm9.c_merged (msCons (mSl (mVar 3) pNo (pSo (mVar 5))) (msCons (mSl (mVar 2) (pSo (mVar 4)) pNo) msNil))) msNil))) msNil))) (sDrop (mMth "list" appendD (mFld "Hunt" "_moments" (mVar 0)) (msCons (mTup (msCons (mSl (mVar 2) (pSo (mVar 4)) pNo) (msCons (mCallU 2 Cm9.c_merged (msCons (mSl (mVar 3) (pSo (mVar 5)) pNo) (msCons (mSl (mVar 2) pNo (pSo (mVar 4))) msNil))) msNil))) msNil))))))
def c_Hunt_tell : List Dv → MX Dv := defM 4 m_Hunt_tell
def m_Hunt_asked : MS := (sRet (mBin oSub (mCall (k1 lenD) (msCons (mFld "Hunt" "_moments" (mVar 0)) msNil)) (mC (.int 1))))
def c_Hunt_asked : List Dv → MX Dv := defM 0 m_Hunt_asked
def m_Hunt_undo : MS := (sSeq (sIf (bB (mBin oEq (mMeth "Hunt" "asked" 0 Cm9.c_Hunt_asked (mVar 0) msNil) (mC (.int 0)))) (sRaise "BadState") sNil) (sDrop (mMth "list" popD (mFld "Hunt" "_moments" (mVar 0)) msNil)))
def c_Hunt_undo : List Dv → MX Dv := defM 0 m_Hunt_undo
def m__law_refused : MS := (sSeq (sTryAs [("BadState", true)] 2 (sIf (bB (mBin oEq (mVar 1) (mC (.str "test")))) (sDrop (mMeth "Hunt" "test" 0 Cm9.c_Hunt_test (mVar 0) msNil)) (sIf (bB (mBin oEq (mVar 1) (mC (.str "tell")))) (sDrop (mMeth "Hunt" "tell" 1 Cm9.c_Hunt_tell (mVar 0) (msCons (mC (.bl true)) msNil))) (sDrop (mMeth "Hunt" "undo" 0 Cm9.c_Hunt_undo (mVar 0) msNil)))) (fun a x => (sRet (mUn oNot (mIsX 2 a x [("BadState", false)]))))) (sRet (mC (.bl false))))
def c__law_refused : List Dv → MX Dv := defM 1 m__law_refused
def m__law_moved : MS := (sSeq (sAsgL [(.nm 3), (.nm 4)] (mVar 0)) (sSeq (sSet 5 mDK) (sSeq (sFor (srcV (mVar 1)) (.nm 6) (sPut (mVar 5) (mVar 6) (mC (.bl true)))) (sSeq (sSet 7 (mLc (srcV (mVar 3)) (.nm 6) (bB (mBin oEq (mBin oIn (mVar 6) (mVar 5)) (mVar 2))) (mVar 6) [6])) (sSeq (sSet 8 (mLc (srcV (mVar 4)) (.nm 6) (bB (mBin oEq (mBin oIn (mVar 6) (mVar 5)) (mVar 2))) (mVar 6) [6])) (sRet (mLst (msCons (mVar 7) (msCons (mCall (k1 (onInts sortL)) (msCons (mBin oAdd (mVar 8) (mLc (srcV (mVar 3)) (.nm 6) (bB (mBin oNe (mBin oIn (mVar 6) (mVar 5)) (mVar 2))) (mVar 6) [6])) msNil)) msNil)))))))))
def c__law_moved : List Dv → MX Dv := defM 6 m__law_moved
end Cm9

/-! Mn27: exceptions with fields: their __init__ says super().__init__(..), then keeps fields. -/
namespace Mn
open PySem PySem.Spec PySem.Calls PyProof.Rows L2 PySem.W
structure SupScope (N ps : List Str) (sc : Scope) : Prop where
  kind : sc.kind = .function
  co : sc.isCoroutine = false
  gen : sc.isGenerator = false
  nd : N.Nodup
  pre : N = ps
  par : ∀ x ∈ ps, sc.names.lookup x = some .local
  nocell : ∀ y ∈ sc.names, y.2 ≠ .cell
  fr : ∀ y ∈ sc.names, y.2 = .free → y.1 = "__class__"
  su : sc.names.lookup ("super" : Str) = some .globalImplicit
  cl : sc.names.lookup ("__class__" : Str) = some .free
structure SupOk (P : Program) (K : Frag) (mg : Str → Option Value) (C cc cda : Addr) : Prop where
  T : OexC K C
  code : ∃ (o : Obj) (vs : Array Value) (file : Str) (tf : Tok), K.lookup cda = some o ∧ o.data = .fields vs ∧ vs[2]? = some (.str file tf) ∧ ((P.main.file : Str) == file) = true
  cell : ∃ o : Obj, K.lookup cc = some o ∧ o.data = .cell (some (.ref C))
  mgs : mg "super" = none
  top : (P.main.scope.names.lookup ("super" : Str)).isSome = false
  st : nsIn K cStatics "thirdparty.any" = some none
  al : ks_superIn K C C "__init__" = some (some (.builtin "ValueError.__init__"))
  sb : mroIn K C (.ref C) = some true
  hB : subIn K (.ref C) (.type "ValueError") = some true
end Mn

/-! Mn28: an exception with one field, an int: made, raised, its field read. -/
namespace Mn
open PySem PySem.Spec PySem.Calls PyProof.Rows L2 PySem.W
section
variable {X : Cx} {W : Wd X.K X.mg}
end
section
variable {X : Cx}
end
section
variable {E : Exn → Th → Prop} {θ : Th} {ρ : DEnv}
end
end Mn

namespace Cm10
open PySem PySem.Spec PyProof.Rows L2 Mn
end Cm10

/-! Mn29: an exception with two fields, an int and a text. -/
namespace Mn
open PySem PySem.Spec PySem.Calls PyProof.Rows L2 PySem.W
section
variable {X : Cx} {W : Wd X.K X.mg}
end
section
variable {E : Exn → Th → Prop} {θ : Th} {ρ : DEnv}
end
end Mn

namespace Cm11
open PySem PySem.Spec PyProof.Rows L2 Mn
def m__law_chain : MS := (sSeq (sSet 1 (mC (.str "abcdefghijklmnopqrstuvwxyz"))) (sRet (mTup (msCons (mC (.str "history")) (msCons (mCall (k1 tupD) (msCons (mLc (rng1 (msCons (mVar 0) msNil)) (.nm 2) bYes (mTup (msCons (mBin oIx (mVar 1) (mVar 2)) (msCons (mCall (k1 tupD) (msCons (mBin oMul (mLst (msCons (mBin oSub (mVar 2) (mC (.int 1))) msNil)) (mCall (k1 intD) (msCons (mBin oGt (mVar 2) (mC (.int 0))) msNil))) msNil)) msNil))) [2]) msNil)) msNil)))))
def c__law_chain : List Dv → MX Dv := defM 2 m__law_chain
def m_is_make : MS := (sSeq (sIf (bOr (bNot (bB (mIsi "tuple" (mVar 0)))) (bB (mBin oNe (mCall (k1 lenD) (msCons (mVar 0) msNil)) (mC (.int 2))))) (sRet (mC (.bl false))) sNil) (sRet (mAnd (mIsi "str" (mBin oIx (mVar 0) (mC (.int 0)))) (mCallU 1 Cm.c_are_integers (msCons (mBin oIx (mVar 0) (mC (.int 1))) msNil)))))
def c_is_make : List Dv → MX Dv := defM 0 m_is_make
end Cm11

/-! Mn30: x -= e, x *= e. -/
namespace Mn
open PySem PySem.Spec PyProof.Rows L2
section
variable {X : Cx} {W : Wd X.K X.mg}
end
end Mn

/-! Mn31: a def of the module as a value; a local name called that holds one. -/
namespace Mn
open PySem PySem.Spec PyProof.Rows L2
def mFnV (x : Str) : ME := fun _ _ θ Q => Q (.fn x) θ
/-- y(..), y a local name (slot i) that holds the def x -/
def mCallF (i : Nat) (x : Str) (n : Nat) (c : List Dv → MX Dv) (ms : DEnv → MX (List Dv)) : ME := fun ρ E θ Q => ρ.getD i none = some (.fn x) ∧ ms ρ E θ fun ds θ1 => ds.length = n ∧ c ds E θ1 Q
section
variable {X : Cx} {W : Wd X.K X.mg}
end
end Mn

/-! Mn32: min(xs, default=d), xs a list of data. -/
namespace Mn
open PySem PySem.Spec PyProof.Rows L2
section
variable {X : Cx} {W : Wd X.K X.mg}
def minDt (d dv : Dv) : MX Dv := fun _ θ Q => match d with
  | .obj k => (match θ[k]? with
    | some (.lst xs) => (match allSome (toPy θ 66) xs with
      | some ps => PySem.W.AlikeAll ps ∧ PyData.depthAll ps ≤ 50 ∧ (ps = [] → Q dv θ) ∧ ∀ p r (i : Nat) y, ps = p :: r → xs[i]? = some y → ps[i]? = some (PySem.W.minD p r) → Q y θ
      | none => False)
    | _ => False)
  | _ => False
def mMinD (me me2 : ME) : ME := fun ρ E θ Q => me ρ E θ fun x θ1 => me2 ρ E θ1 fun d θ2 => minDt x d E θ2 Q
end
end Mn

/-! Mn33: [.., *t, ..], t a tuple. -/
namespace Mn
open PySem PySem.Spec PyProof.Rows L2
def msStar (a : ME) (r : DEnv → MX (List Dv)) : DEnv → MX (List Dv) := fun ρ E θ Q => a ρ E θ fun x θ1 => match x with
  | .tup ds => r ρ E θ1 fun es θ2 => Q (ds ++ es) θ2
  | _ => False
section
variable {X : Cx} {W : Wd X.K X.mg}
end
end Mn

/-! Mn34: sorted(xs), xs a list of data. -/
namespace Mn
open PySem PySem.Spec PyProof.Rows L2
section
variable {X : Cx} {W : Wd X.K X.mg}
end
section
variable {E : Exn → Th → Prop} {θ : Th} {Q : Dv → Th → Prop}
end
end Mn

/-! Mn35: str(x), sep.join(xs), f'..', xs.index(x). -/
namespace Mn
open PySem PySem.Spec PyProof.Rows L2
section
variable {X : Cx} {W : Wd X.K X.mg}
/-! str(n) -/
def strD (d : Dv) : MX Dv := fun _ θ Q => match d with
  | .int i => i.natAbs.log2 < 1920 ∧ Q (.str (toString i)) θ
  | _ => False
/-! join -/
def strsD : List Dv → Option (List Str)
  | [] => some []
  | .str x :: r => (strsD r).map (x :: ·)
  | _ => none
def joinK (a : Str) (o : Option (List Str)) (θ : Th) (Q : Dv → Th → Prop) : Prop := match o with
  | some ys => (ys.map (·.length)).sum + ys.length * a.length ≤ 16777216 ∧ Q (.str (Txt.join a ys)) θ
  | none => False
def joinO (a : Str) (o : Option Ob) (θ : Th) (Q : Dv → Th → Prop) : Prop := match o with
  | some (.lst xs) => joinK a (strsD xs) θ Q
  | _ => False
def joinD (d : Dv) (ds : List Dv) : MX Dv := fun _ θ Q => match d with
  | .str a => (match ds with
    | [.obj k] => joinO a θ[k]? θ Q
    | [.tup xs] => joinK a (strsD xs) θ Q
    | _ => False)
  | _ => False
/-! f'..' -/
def fmtD (d : Dv) : MX Dv := fun _ θ Q => match d with
  | .str y => y.length ≤ sizeLine ∧ Q (.str y) θ
  | .int i => i.natAbs.log2 < 1920 ∧ Q (.str (toString i)) θ
  | _ => False
def mFmt (a : ME) : ME := fun ρ E θ Q => a ρ E θ fun d θ1 => fmtD d E θ1 Q
def jsK (acc : Str) (k : Str → Th → Prop) (d : Dv) (θ : Th) : Prop := match d with
  | .str y => (acc ++ y).length ≤ sizeLine ∧ k (acc ++ y) θ
  | _ => False
def mJs : List ME → Str → ME
  | [], acc => fun _ _ θ Q => Q (.str acc) θ
  | m :: ms, acc => fun ρ E θ Q => m ρ E θ (jsK acc fun z θ1 => mJs ms z ρ E θ1 Q)
/-! xs.index(x), texts and ints -/
def flD : Dv → Bool
  | .str _ => true
  | .int _ => true
  | _ => false
def indexO (o : Option Ob) (y : Dv) (θ : Th) (Q : Dv → Th → Prop) : Prop := match o with
  | some (.lst xs) => xs.all flD = true ∧ flD y = true ∧ ∃ j : Nat, xs[j]? = some y ∧ (∀ m, m < j → xs[m]? ≠ some y) ∧ Q (.int (j : Nat)) θ
  | _ => False
def indexD (d : Dv) (ds : List Dv) : MX Dv := fun _ θ Q => match d with
  | .obj k => (match ds with
    | [y] => indexO θ[k]? y θ Q
    | _ => False)
  | _ => False
end
/-! equations -/
section
variable {E : Exn → Th → Prop} {θ : Th} {ρ : DEnv} {a : ME} {Q : Dv → Th → Prop}
theorem x_strI {i : Int} : strD (.int i) E θ Q = (i.natAbs.log2 < 1920 ∧ Q (.str (toString i)) θ) := (rfl)
theorem x_joinO {z : Str} {k : Nat} : joinD (.str z) [.obj k] E θ Q = joinO z θ[k]? θ Q := (rfl)
theorem x_joinT {z : Str} {xs : List Dv} : joinD (.str z) [.tup xs] E θ Q = joinK z (strsD xs) θ Q := (rfl)
theorem x_joinL {z : Str} {xs : List Dv} : joinO z (some (.lst xs)) θ Q = joinK z (strsD xs) θ Q := (rfl)
theorem x_fmt : mFmt a ρ E θ Q = a ρ E θ fun d θ1 => fmtD d E θ1 Q := (rfl)
theorem x_fmtS {y : Str} : fmtD (.str y) E θ Q = (y.length ≤ sizeLine ∧ Q (.str y) θ) := (rfl)
theorem x_fmtI {i : Int} : fmtD (.int i) E θ Q = (i.natAbs.log2 < 1920 ∧ Q (.str (toString i)) θ) := (rfl)
theorem x_js0 {acc : Str} : mJs [] acc ρ E θ Q = Q (.str acc) θ := (rfl)
theorem x_js {m : ME} {ms : List ME} {acc : Str} : mJs (m :: ms) acc ρ E θ Q = m ρ E θ (jsK acc fun z θ1 => mJs ms z ρ E θ1 Q) := (rfl)
theorem x_jsK {acc y : Str} {k : Str → Th → Prop} : jsK acc k (.str y) θ = ((acc ++ y).length ≤ sizeLine ∧ k (acc ++ y) θ) := (rfl)
theorem x_index {k : Nat} {y : Dv} : indexD (.obj k) [y] E θ Q = indexO θ[k]? y θ Q := (rfl)
end
end Mn

/-! Cm12: mirrors of k36. -/
namespace Cm12
open PySem PySem.Spec PyProof.Rows L2 Mn
end Cm12

/-! Mn36: tuples of the module; equations. -/
namespace Mn
open PySem PySem.Spec PyProof.Rows L2
section
variable {E : Exn → Th → Prop} {θ : Th} {Q : Dv → Th → Prop}
end
end Mn

/-! Mn37: the least of a list of data; [f(x)] in a try; s * n. -/
namespace Mn
open PySem PySem.Spec PyProof.Rows L2
section
open PySem.W PySem.SeqAt
variable {prog : Program} {w : World} {A : Around} {E : Value → Shared → Prop} {s : Shared}
end
section
variable {X : Cx} {W : Wd X.K X.mg}
/-! [f(x)], f may raise -/
/-! f() -/
/-! s * n -/
end
section
variable {E : Exn → Th → Prop} {θ : Th} {Q : Dv → Th → Prop}
end
end Mn

/-! Cm13: mirrors of k08. -/
namespace Cm13
open PySem PySem.Spec PyProof.Rows L2 Mn
def m__law_classes : MS := (sSeq (sSet 2 (mLst msNil)) (sSeq (sFor (rng1 (msCons (mCall (k1 lenD) (msCons (mBin oIx (mVar 0) (mC (.int 1))) msNil)) msNil)) (.nm 3) (sSeq (sSet 4 (mLc (rng1 (msCons (mCall (k1 lenD) (msCons (mBin oIx (mVar 0) (mC (.int 1))) msNil)) msNil)) (.nm 5) (bB (mBin oNotIn (mVar 5) (mVar 1))) (mCallU 3 Cm3.c__law_breaks (msCons (mVar 0) (msCons (mVar 3) (msCons (mVar 5) msNil)))) [5])) (sSeq (sSet 6 (mLc (srcV (mVar 2)) (.nm 7) (bB (mBin oEq (mBin oIx (mVar 7) (mC (.int 0))) (mVar 4))) (mVar 7) [7])) (sIf (bB (mBin oEq (mVar 6) (mLst msNil))) (sDrop (mMth "list" appendD (mVar 2) (msCons (mLst (msCons (mVar 4) (msCons (mLst (msCons (mVar 3) msNil)) msNil))) msNil))) (sDrop (mMth "list" appendD (mBin oIx (mBin oIx (mVar 6) (mC (.int 0))) (mC (.int 1))) (msCons (mVar 3) msNil))))))) (sRet (mLc (srcV (mVar 2)) (.nm 7) bYes (mCall (k1 tupD) (msCons (mBin oIx (mVar 7) (mC (.int 1))) msNil)) [7]))))
def c__law_classes : List Dv → MX Dv := defM 6 m__law_classes
end Cm13

/-! Mn38: a try whose body raises nothing here. -/
namespace Mn
open PySem PySem.Spec PyProof.Rows L2
theorem Cf.nox {X : Cx} (c : Cf X) : Cf X.nox := ⟨c.calm, c.gd, c.un, c.nd⟩
section
variable {X : Cx} {W : Wd X.K X.mg}
end
end Mn

/-! Cm14: mirrors of k40. -/
namespace Cm14
open PySem PySem.Spec PyProof.Rows L2 Mn
end Cm14

/-! Mn39: dict comprehensions. -/
namespace Mn
open PySem PySem.Spec PyProof.Rows L2
section
variable {X : Cx} {W : Wd X.K X.mg}
end
end Mn

/-! Mn40: a tuple in a tuple of tuples; texts taken apart. -/
namespace Mn
open PySem PySem.Spec PyProof.Rows L2
section
variable {X : Cx} {W : Wd X.K X.mg}
/-! texts -/
end
section
variable {E : Exn → Th → Prop} {θ : Th} {Q : Dv → Th → Prop}
end
end Mn

/-! Mn41: enumerate(.., start=k). -/
namespace Mn
open PySem PySem.Spec PyProof.Rows L2
/-! as a source -/
section
variable {X : Cx} {W : Wd X.K X.mg}
end
section
variable {E : Exn → Th → Prop} {θ : Th} {ρ : DEnv} {R : Src → Th → Prop}
end
end Mn

/-! Cm15: mirrors of k13. -/
namespace Cm15
open PySem PySem.Spec PyProof.Rows L2 Mn
end Cm15

/-! Mn42: list.pop(i). -/
namespace Mn
open PySem PySem.Spec PyProof.Rows L2
section
variable {X : Cx} {W : Wd X.K X.mg}
end
section
variable {E : Exn → Th → Prop} {θ : Th} {Q : Dv → Th → Prop}
end
end Mn

/-! Cm16: mirrors of k12. -/
namespace Cm16
open PySem PySem.Spec PyProof.Rows L2 Mn
end Cm16

/-! Mn43: sum of a list of lists, from a list on. -/
namespace Mn
open PySem PySem.Spec PyProof.Rows L2
section
variable {prog : Program} {w : World} {A : Around} {R : Result → Shared → Prop}
end
section
variable {prog : Program} {w : World} {A : Around} {E : Value → Shared → Prop} {s : Shared}
end
end Mn

/-! Mn44: sum(lists, []). -/
namespace Mn
open PySem PySem.Spec PyProof.Rows L2
section
variable {X : Cx} {W : Wd X.K X.mg}
end
end Mn

/-! Cm17: mirrors of k17. -/
namespace Cm17
open PySem PySem.Spec PyProof.Rows L2 Mn
end Cm17

/-! Mn45: a try whose first clause has a name and whose other clauses have none; an own class called in a try. -/
namespace Mn
open PySem PySem.Spec PyProof.Rows L2
section
variable {X : Cx} {x n : Str} {c : Value} {i : Nat} {body suite : List Stmt} {b₀ : Stmt} {np pos pos' : Pos} {hds : List ExceptHandler} {l : List (Value × (Addr → Value → Option Addr → TS))} {tb : WX → TS} {ts : Addr → Value → Option Addr → TS} {Wout : WX}
end
section
variable {X : Cx} {W : Wd X.K X.mg} {x x2 n : Str} {c c2 : Value} {body suite suite2 : List Stmt} {b₀ b2 : Stmt} {np np2 pos pos' pos2 : Pos} {mb : MS} {kn kn2 : List (Str × Bool)}
end
/-! ### an own class called in a try -/
section
variable {X : Cx} {W : Wd X.K X.mg} {Wx : WX}
end
end Mn

/-! Mn46: *a, b = a list; except (A, B). -/
namespace PySem.W
open PySem PySem.Spec PySem.Calls PyProof.Rows
section
variable {prog : Program} {w : World} {A : Around} {E : Value → Shared → Prop} {s : Shared}
end
end PySem.W
namespace Mn
open PySem PySem.Spec PyProof.Rows L2
section
variable {X : Cx} {pos : Pos}
end
section
variable {X : Cx} {W : Wd X.K X.mg}
end
/-! ### except (A, B) -/
section
variable {X : Cx} {x1 x2 : Str} {c1 c2 : Value} {body suite : List Stmt} {b₀ : Stmt} {np1 np2 tp pos pos' : Pos} {tk : Nat} {tb : WX → TS} {ts : Addr → Value → Option Addr → TS} {Wout : WX}
end
section
variable {X : Cx} {W : Wd X.K X.mg} {x1 x2 : Str} {c1 c2 : Value} {body suite : List Stmt} {b₀ : Stmt} {np1 np2 tp pos pos' : Pos} {tk0 : Nat} {mb : MS} {kn kn2 : List (Str × Bool)}
end
end Mn

/-! Mn47: str(a text), int(a text). -/
namespace Mn
open PySem PySem.Spec PyProof.Rows L2
section
variable {X : Cx} {W : Wd X.K X.mg}
end
section
variable {E : Exn → Th → Prop} {θ : Th} {Q : Dv → Th → Prop}
end
/-! == in an except's suite -/
section
variable {X : Cx} {a : Addr} {pn : List (Addr × Obj)} {W : Wd (X.suite a pn).K (X.suite a pn).mg}
end
end Mn

/-! Cm18: mirrors of k39. -/
namespace Cm18
open PySem PySem.Spec PyProof.Rows L2 Mn
end Cm18

/-! Mn48: a try whose body sets a name by a call, and raises nothing behind it; != in an except's suite. -/
namespace Mn
open PySem PySem.Spec PyProof.Rows L2
section
variable {X : Cx} {W : Wd X.K X.mg} {Wx : WX}
end
section
variable {X : Cx} {a : Addr} {pn : List (Addr × Obj)} {W : Wd (X.suite a pn).K (X.suite a pn).mg}
end
end Mn

/-! Cm19: mirrors of k38. -/
namespace Cm19
open PySem PySem.Spec PyProof.Rows L2 Mn
end Cm19

/-! Mn49: what a zip of two tuples gives while its tuples are kept. -/
namespace Mn
open PySem PySem.Spec PyProof.Rows L2 RZ
section
variable {prog : Program} {w : World} {A : Around} {E : Value → Shared → Prop} {s : Shared}
/-- a zip of two tuples behind i turns, all of its tuples kept -/
structure ZipT (h : Heap) (z TI TO i1 i2 l1 l2 : Addr) (xs ys : Array Value) (i : Nat) : Prop where
  st : (i = 0 ∧ IsZip h z TI TO .none ∧ ∃ a b, IsPair h TO a b) ∨ ∃ T f oT, T ≠ z ∧ T ≠ i1 ∧ T ≠ i2 ∧ IsZipHeld h z TI TO T f ∧ h.get? T = some oT
  ti : IsPair h TI (.ref i1) (.ref i2)
  h1 : h.IsTupleIter i1 l1 i
  h2 : h.IsTupleIter i2 l2 i
  p1 : h.IsTuple l1 xs
  p2 : h.IsTuple l2 ys
theorem zt_item_held {z TI TO T i1 i2 l1 l2 : Addr} {f : Bool} {oT : Obj} {k1 k2 : Nat} {xs ys : Array Value} {x y : Value} {Q : Value → Shared → Prop} (D : ZipApart z TI TO i1 i2 l1 l2) (hz : IsZipHeld s.heap z TI TO T f) (hT : s.heap.get? T = some oT) (hTI : IsPair s.heap TI (.ref i1) (.ref i2))
    (h1 : s.heap.IsTupleIter i1 l1 k1) (h2 : s.heap.IsTupleIter i2 l2 k2) (p1 : s.heap.IsTuple l1 xs) (p2 : s.heap.IsTuple l2 ys) (hx : xs[k1]? = some x) (hy : ys[k2]? = some y)
    (q : ∀ h' : Heap, IsZipHeld h' z TI TO T true → h'.IsTupleIter i1 l1 (k1 + 1) → h'.IsTupleIter i2 l2 (k2 + 1) → IsPair h' s.heap.objs.size x y → h'.objs.size = s.heap.objs.size + 1 → (∀ c o, c ≠ z → c ≠ i1 → c ≠ i2 → s.heap.get? c = some o → h'.get? c = some o) → Q (.ref s.heap.objs.size) { s with heap := h' }) :
    wpAny (model prog w) A (Builtin.«zip.__next__» ⟨[.ref z], []⟩) (fun fin s' => ∃ v, fin = .done (.ret v) ∧ Q v s') E s := by
  show wpAny _ _ (field (.ref z) 2 >>= _) _ _ _
  apply wpAny_bind; apply wpAny_field hz rfl (x := .bool false) rfl
  show wpAny _ _ (field (.ref z) 3 >>= _) _ _ _
  apply wpAny_bind; apply wpAny_field hz rfl (x := .ref TI) rfl
  apply wpAny_bind; apply wpAny_seqItems hTI rfl
  show wpAny _ _ (Builtin.SmallTypes.ownedTupleIsFree (.ref z) >>= _) _ _ _
  apply wpAny_bind; apply wpAny_tupleHeld_zip hz hT; intro g1 z1 b1
  simp only [Bool.false_eq_true, if_false]
  apply wpAny_bind
  rw [← Array.forIn_toList]
  simp only [List.forIn_cons, List.forIn_nil]
  apply wpAny_bind; apply wpAny_bind; apply wpAny_holding
  show wpAny _ _ (Builtin.SmallTypes.nextOf (.ref i1) >>= _) _ _ _
  apply wpAny_bind
  refine nextOf_tuple_item (s := { s with heap := g1 }) (h1.extBut b1.extBut D.i1z) (p1.extBut b1.extBut D.l1z) hx fun g2 t1 b2 => wpAny_pure ?_
  apply wpAny_pure
  apply wpAny_bind; apply wpAny_bind; apply wpAny_holding
  show wpAny _ _ (Builtin.SmallTypes.nextOf (.ref i2) >>= _) _ _ _
  apply wpAny_bind
  refine nextOf_tuple_item (s := { s with heap := g2 }) ((h2.extBut b1.extBut D.i2z).extBut b2.extBut D.i12.symm) ((p2.extBut b1.extBut D.l2z).extBut b2.extBut D.l2i1) hy fun g3 t2 b3 => wpAny_pure ?_
  apply wpAny_pure; apply wpAny_pure
  show wpAny _ _ (newTuple [x, y] >>= _) _ _ _
  apply wpAny_bind; refine wpAny_newTuple ?_
  have e3 : g3.objs.size = s.heap.objs.size := by rw [b3.1, b2.1, b1.1]
  have z3 : IsZipHeld g3 z TI TO T true := b3.extBut _ _ D.i2z.symm (b2.extBut _ _ D.i1z.symm z1)
  apply wpAny_pure
  refine ⟨_, rfl, ?_⟩
  show Q (.ref g3.objs.size) _
  have np : IsPair (g3.push { cls := .type "tuple", data := .seq #[x, y] }) g3.objs.size x y := Heap.get?_push_size _ rfl
  have ns : (g3.push { cls := .type "tuple", data := .seq #[x, y] }).objs.size = g3.objs.size + 1 := Heap.size_push ..
  rw [e3] at np ns ⊢
  refine q _ (Heap.get?_push_of_some _ z3) ((t1.extBut b3.extBut D.i12).at fun o e => Heap.get?_push_of_some _ e) (t2.at fun o e => Heap.get?_push_of_some _ e) np ns fun c o c1 c2 c3 e => Heap.get?_push_of_some _ ?_
  exact b3.extBut _ _ c3 (b2.extBut _ _ c2 (b1.extBut _ _ c1 e))
theorem zt_end_held {z TI TO T i1 i2 l1 l2 : Addr} {f : Bool} {oT : Obj} {k1 : Nat} {xs : Array Value} {Q : Fin → Shared → Prop} (hh : A.handled = none) (D : ZipApart z TI TO i1 i2 l1 l2) (hz : IsZipHeld s.heap z TI TO T f) (hT : s.heap.get? T = some oT) (hTI : IsPair s.heap TI (.ref i1) (.ref i2))
    (h1 : s.heap.IsTupleIter i1 l1 k1) (p1 : s.heap.IsTuple l1 xs) (hx : xs[k1]? = none)
    (q : ∀ (h' : Heap) (e : Addr), (∀ c o, c ≠ z → c ≠ i1 → s.heap.get? c = some o → h'.get? c = some o) → (∃ o, h'.get? e = some o ∧ o.cls = .type "StopIteration") → E (.ref e) { s with heap := h' }) :
    wpAny (model prog w) A (Builtin.«zip.__next__» ⟨[.ref z], []⟩) Q E s := by
  show wpAny _ _ (field (.ref z) 2 >>= _) _ _ _
  apply wpAny_bind; apply wpAny_field hz rfl (x := .bool false) rfl
  show wpAny _ _ (field (.ref z) 3 >>= _) _ _ _
  apply wpAny_bind; apply wpAny_field hz rfl (x := .ref TI) rfl
  apply wpAny_bind; apply wpAny_seqItems hTI rfl
  show wpAny _ _ (Builtin.SmallTypes.ownedTupleIsFree (.ref z) >>= _) _ _ _
  apply wpAny_bind; apply wpAny_tupleHeld_zip hz hT; intro g1 z1 b1
  simp only [Bool.false_eq_true, if_false]
  apply wpAny_bind
  rw [← Array.forIn_toList]
  simp only [List.forIn_cons, List.forIn_nil]
  apply wpAny_bind; apply wpAny_bind; apply wpAny_holding
  show wpAny _ _ (Builtin.SmallTypes.nextOf (.ref i1) >>= _) _ _ _
  apply wpAny_bind
  refine nextOf_tuple_end (s := { s with heap := g1 }) hh (h1.extBut b1.extBut D.i1z) (p1.extBut b1.extBut D.l1z) hx fun g2 e b2 st => ?_
  exact q g2 e (fun c o c1 c2 x => b2 _ _ c2 (b1.extBut _ _ c1 x)) st
/-- the next pair -/
theorem ZipT.item {z TI TO i1 i2 l1 l2 : Addr} {i : Nat} {xs ys : Array Value} {x y : Value} {Q : Option Value → Shared → Prop} (D : ZipApart z TI TO i1 i2 l1 l2) (S : ZipT s.heap z TI TO i1 i2 l1 l2 xs ys i) (hx : xs[i]? = some x) (hy : ys[i]? = some y)
    (q : ∀ h' : Heap, ZipT h' z TI TO i1 i2 l1 l2 xs ys (i + 1) → IsPair h' s.heap.objs.size x y → h'.objs.size = s.heap.objs.size + 1 → (∀ c o, c ≠ z → c ≠ TO → c ≠ i1 → c ≠ i2 → s.heap.get? c = some o → h'.get? c = some o) → Q (some (.ref s.heap.objs.size)) { s with heap := h' }) :
    wpAny (model prog w) A (pyNext (.ref z)) Q E s := by
  obtain ⟨st, ti, h1, h2, p1, p2⟩ := S
  have lt : ∀ {c : Addr} {o : Obj}, s.heap.get? c = some o → s.heap.objs.size ≠ c := fun e => Nat.ne_of_gt (Heap.lt_size e)
  have i1lt : s.heap.objs.size ≠ i1 := by obtain ⟨_, e, _⟩ := h1; exact lt e
  have i2lt : s.heap.objs.size ≠ i2 := by obtain ⟨_, e, _⟩ := h2; exact lt e
  have up : ∀ (h' : Heap), (∀ c o, c ≠ z → c ≠ TO → c ≠ i1 → c ≠ i2 → s.heap.get? c = some o → h'.get? c = some o) → IsPair h' TI (.ref i1) (.ref i2) ∧ h'.IsTuple l1 xs ∧ h'.IsTuple l2 ys := fun h' k =>
    ⟨k _ _ D.TIz D.TITO D.TIi1 D.TIi2 ti, p1.at fun o e => k _ o D.l1z D.l1TO D.l1i1 D.l1i2 e, p2.at fun o e => k _ o D.l2z D.l2TO D.l2i1 D.l2i2 e⟩
  rcases st with ⟨rfl, hz, a, b, hTO⟩ | ⟨T, f, oT, n1, n2, n3, hz, hT⟩
  · refine pyNext_zipT_item D hz ti hTO h1 h2 p1 p2 hx hy fun h' z' to' a1 a2 pr sz k => ?_
    obtain ⟨u1, u2, u3⟩ := up h' k
    exact q h' ⟨.inr ⟨_, false, _, lt hz, i1lt, i2lt, z', pr⟩, u1, a1, a2, u2, u3⟩ pr sz k
  · have ty : s.TypeIs (.ref z) "zip" := ⟨_, hz, rfl⟩
    unfold pyNext
    apply wpAny_bind; apply wpAny_attempt
    refine wpAny_callSpecial?_slot (name := Str.ofString "__next__") ty F.slot_zip_next (wpAny_call_entry F.slot_zip_next ty F.entry_zip_next (zt_item_held D hz hT ti h1 h2 p1 p2 hx hy fun h' z' a1 a2 pr sz k => wpAny_pure ?_) (F.args_zip_next_1 _))
    have k' : ∀ c o, c ≠ z → c ≠ TO → c ≠ i1 → c ≠ i2 → s.heap.get? c = some o → h'.get? c = some o := fun c o c1 _ c3 c4 e => k c o c1 c3 c4 e
    obtain ⟨u1, u2, u3⟩ := up h' k'
    exact q h' ⟨.inr ⟨T, true, oT, n1, n2, n3, z', k T oT n1 n2 n3 hT⟩, u1, a1, a2, u2, u3⟩ pr sz k'
/-- no pair is left -/
theorem ZipT.done {z TI TO i1 i2 l1 l2 : Addr} {i : Nat} {xs ys : Array Value} {Q : Option Value → Shared → Prop} (hh : A.handled = none) (D : ZipApart z TI TO i1 i2 l1 l2) (S : ZipT s.heap z TI TO i1 i2 l1 l2 xs ys i) (hx : xs[i]? = none)
    (q : ∀ h' : Heap, (∀ c o, c ≠ z → c ≠ TO → c ≠ i1 → c ≠ i2 → s.heap.get? c = some o → h'.get? c = some o) → Q none { s with heap := h' }) : wpAny (model prog w) A (pyNext (.ref z)) Q E s := by
  obtain ⟨st, ti, h1, h2, p1, p2⟩ := S
  rcases st with ⟨rfl, hz, a, b, hTO⟩ | ⟨T, f, oT, n1, n2, n3, hz, hT⟩
  · exact pyNext_zipT_end hh D hz ti hTO h1 h2 p1 p2 (.inl hx) q
  · have ty : s.TypeIs (.ref z) "zip" := ⟨_, hz, rfl⟩
    unfold pyNext
    apply wpAny_bind; apply wpAny_attempt
    refine wpAny_callSpecial?_slot (name := Str.ofString "__next__") ty F.slot_zip_next (wpAny_call_entry F.slot_zip_next ty F.entry_zip_next (zt_end_held hh D hz hT ti h1 p1 hx fun h' e k ⟨o, ho, hc⟩ => ?_) (F.args_zip_next_1 _))
    have tyE : ({ s with heap := h' } : Shared).TypeIs (.ref e) "StopIteration" := ⟨o, ho, hc⟩
    apply wpAny_bind; apply wpAny_isInstance (b := true) tyE isSubtype_stop
    exact wpAny_pure (q h' fun c o c1 _ c3 _ e => k c o c1 c3 e)
end
end Mn

/-! Mn50: tuple(zip(a, b)) of two tuples. -/
namespace Mn
open PySem PySem.Spec PyProof.Rows L2 RZ
/-- the pairs made so far: ps their places, in the heap H that grew out of H0 -/
inductive Zps (H0 : Hp) (xs ys : List V) : Hp → List V → Prop
  | nil : Zps H0 xs ys H0 []
  | snoc {H : Hp} {ps : List V} {q : Addr} {x y : V} (z : Zps H0 xs ys H ps) (hq : H q = none) (hx : xs[ps.length]? = some x) (hy : ys[ps.length]? = some y) : Zps H0 xs ys (upd H q (.tup [x, y])) (ps ++ [.ref q])
theorem ZipT.other {h h' : Heap} {z TI TO i1 i2 l1 l2 S : Addr} {xs ys : Array Value} {i : Nat} (Z : ZipT h z TI TO i1 i2 l1 l2 xs ys i) (hS : S ≠ z ∧ S ≠ TI ∧ S ≠ TO ∧ S ≠ i1 ∧ S ≠ i2 ∧ S ≠ l1 ∧ S ≠ l2) (k : ∀ b o, b ≠ S → h.get? b = some o → h'.get? b = some o) (hn : ∃ o, h'.get? S = some o) : ZipT h' z TI TO i1 i2 l1 l2 xs ys i := by
  obtain ⟨sz, sTI, sTO, s1, s2, sl1, sl2⟩ := hS
  obtain ⟨st, ti, h1, h2, p1, p2⟩ := Z
  refine ⟨?_, k _ _ sTI.symm ti, h1.at fun o e => k _ o s1.symm e, h2.at fun o e => k _ o s2.symm e, p1.at fun o e => k _ o sl1.symm e, p2.at fun o e => k _ o sl2.symm e⟩
  rcases st with ⟨e, hz, a, b, hTO⟩ | ⟨T, f, oT, n1, n2, n3, hz, hT⟩
  · exact .inl ⟨e, k _ _ sz.symm hz, a, b, k _ _ sTO.symm hTO⟩
  · by_cases c : T = S
    · obtain ⟨o, ho⟩ := hn
      exact .inr ⟨T, f, o, n1, n2, n3, k _ _ sz.symm hz, by rw [c]; exact ho⟩
    · exact .inr ⟨T, f, oT, n1, n2, n3, k _ _ sz.symm hz, k _ _ c hT⟩
section
variable {X : Cx} {pins : List (Addr × Obj)} {σ : L2.St}
end
end Mn

/-! Mn51: tuple(zip(a, b)) of two tuples, the call. -/
namespace PySem
open AutoSeq1 (wpAny_loadPart')
end PySem
namespace Mn
open PySem PySem.Spec PyProof.Rows L2 RZ
section
variable {X : Cx} {pins : List (Addr × Obj)} {σ : L2.St}
end
/-- a zip of two tuples, just made -/
structure ZNew (X : Cx) (pins : List (Addr × Obj)) (σ : L2.St) (H : Hp) (l1 l2 : Addr) (xs ys : List V) (u : Value) (s : Shared) : Prop where
  ex : ∃ (z TI TO i1 i2 : Addr) (us1 us2 : List Value), u = .ref z ∧ ZipApart z TI TO i1 i2 l1 l2 ∧ Vals xs us1 ∧ Vals ys us2 ∧ ZipT s.heap z TI TO i1 i2 l1 l2 us1.toArray us2.toArray 0 ∧ IsZip s.heap z TI TO .none ∧ (∀ b ∈ [z, TO, i1, i2], FpOk X pins H b ∧ b < s.heap.objs.size) ∧ TI < s.heap.objs.size ∧ l1 < s.heap.objs.size ∧ l2 < s.heap.objs.size
  I : Inv X pins σ H s
  z : xs.length ≤ sizeLine
end Mn

/-! Mn52: tuple(zip(a, b)), by data. -/
namespace Mn
open PySem PySem.Spec PyProof.Rows L2 RZ
def zipD (xs ys : List Dv) : List Dv := (xs.zip ys).map fun p => .tup [p.1, p.2]
def zipK (Q : Dv → Th → Prop) : List Dv → Th → Prop := fun ds θ1 => ∃ xs ys, ds = [.tup xs, .tup ys] ∧ xs.length = ys.length ∧ Q (.tup (zipD xs ys)) θ1
def mTupZip (ms : DEnv → MX (List Dv)) : ME := fun ρ E θ Q => ms ρ E θ (zipK Q)
section
variable {K : PySem.W.Frag}
end
section
variable {X : Cx} {W : Wd X.K X.mg}
end
end Mn

/-! Mn53: displayed tuples known bare, and their sums. -/
namespace Mn
open PySem PySem.Spec PyProof.Rows L2
section
variable {X : Cx} {W : Wd X.K X.mg}
end
end Mn

/-! Mn54: (a, b) > (c, d), tuples of ints. -/
namespace Mn
open PySem PySem.Spec PyProof.Rows L2
section
variable {X : Cx} {W : Wd X.K X.mg}
end
end Mn

/-! Cm20: mirrors of k25. -/
namespace Cm20
open PySem PySem.Spec PyProof.Rows L2 Mn
def m_inside : MS := (sRet (mCall (k1 tupD) (msCons (mLc (srcEn (msCons (mVar 0) msNil)) (.tp [(.nm 1), (.nm 2)]) (bB (mBin oGe (mVar 2) (mC (.int 0)))) (mVar 1) [1, 2]) msNil)))
def c_inside : List Dv → MX Dv := defM 2 m_inside
def m_parts : MS := (sSeq (sSet 2 (mLc (srcV (mCallU 1 Cm20.c_inside (msCons (mVar 0) msNil))) (.nm 3) bYes (mBin oIx (mVar 1) (mVar 3)) [3])) (sRet (mAnd (mBin oIn (mC (.bl true)) (mVar 2)) (mBin oIn (mC (.bl false)) (mVar 2)))))
def c_parts : List Dv → MX Dv := defM 2 m_parts
def m_Search_ways : MS := (sSeq (sSet 2 (mFld "Search" "step" (mVar 0))) (sRet (mLc (srcV (mFld "Search" "marked" (mVar 0))) (.tp [(.nm 3), (.nm 4)]) (bB (mCallU 2 Cm20.c_parts (msCons (mVar 1) (msCons (mVar 4) msNil)))) (mTup (msCons (mVar 3) (msCons (mCallF 2 "taken" 3 Cm.c_taken (msCons (mVar 1) (msCons (mVar 4) (msCons (mC (.str "broken")) msNil)))) (msCons (mCallF 2 "taken" 3 Cm.c_taken (msCons (mVar 1) (msCons (mVar 4) (msCons (mC (.str "works")) msNil)))) msNil)))) [3, 4])))
def c_Search_ways : List Dv → MX Dv := defM 3 m_Search_ways
def m_Search_worth : MS := (sRet (mBin oAdd (mC (.int 1)) (mCall (max2) (msCons (mVar 3) (msCons (mVar 4) msNil)))))
def c_Search_worth : List Dv → MX Dv := defM 0 m_Search_worth
def m_Search_best (C : List Dv → MX Dv) : MS := (sSeq (sIf (bB (mBin oNotIn (mVar 1) (mFld "Search" "known" (mVar 0)))) (sSeq (sSet 2 (mLst msNil)) (sSeq (sFor (srcV (mMeth "Search" "ways" 1 Cm20.c_Search_ways (mVar 0) (msCons (mVar 1) msNil))) (.tp [(.nm 3), (.nm 4), (.nm 5)]) (sDrop (mMth "list" appendD (mVar 2) (msCons (mTup (msCons (mMeth "Search" "worth" 4 Cm20.c_Search_worth (mVar 0) (msCons (mVar 1) (msCons (mVar 3) (msCons (mBin oIx (mMeth "Search" "best" 1 C (mVar 0) (msCons (mVar 4) msNil)) (mC (.int 0))) (msCons (mBin oIx (mMeth "Search" "best" 1 C (mVar 0) (msCons (mVar 5) msNil)) (mC (.int 0))) msNil))))) (msCons (mVar 3) msNil))) msNil)))) (sPut (mFld "Search" "known" (mVar 0)) (mVar 1) (mMinD (mVar 2) (mTup (msCons (mC (.int 0)) (msCons (mUn oNeg (mC (.int 1))) msNil))))))) sNil) (sRet (mBin oIx (mFld "Search" "known" (mVar 0)) (mVar 1))))
def c_Search_best : Nat → List Dv → MX Dv
  | 0 => fun _ => MX.stuck
  | n + 1 => defM 4 (m_Search_best (c_Search_best n))
def m_Search_needed : MS := (sRet (mBin oIx (mMeth "Search" "best" 1 (Cm20.c_Search_best 12) (mVar 0) (msCons (mVar 1) msNil)) (mC (.int 0))))
def c_Search_needed : List Dv → MX Dv := defM 0 m_Search_needed
def m_marked_tests : MS := (sSeq (sSet 2 (mCallU 2 Cm.c_tests (msCons (mVar 0) (msCons (mVar 1) msNil)))) (sRet (mTupZip (msCons (mVar 2) (msCons (mCallU 3 Cm.c_marks (msCons (mVar 0) (msCons (mVar 1) (msCons (mVar 2) msNil)))) msNil)))))
def c_marked_tests : List Dv → MX Dv := defM 1 m_marked_tests
def m_Search___init__ : MS := (sSeq (sFldM "Search" "marked" (mVar 0) (mCallU 2 Cm20.c_marked_tests (msCons (mVar 1) (msCons (mVar 2) msNil)))) (sSeq (sFldM "Search" "step" (mVar 0) (mVar 3)) (sFldM "Search" "known" (mVar 0) mDT)))
def c_Search___init__ : List Dv → MX Dv := defM 0 m_Search___init__
def m_check_size : MS := (sSeq (sSet 1 (mBin oAdd (mCall (k1 (onInts maxL)) (msCons (mLst (msCons (mC (.int 0)) (msStar (mVar 0) msNil))) msNil)) (mC (.int 2)))) (sSeq (sSet 2 (mC (.int 1))) (sSeq (sFor (srcV (mVar 0)) (.nm 3) (sAug 2 oMulI (mVar 1))) (sIf (bB (mBin oGt (mVar 2) (mC (.int 20000)))) (sRaise "TooGreat") sNil))))
def c_check_size : List Dv → MX Dv := defM 3 m_check_size
end Cm20

/-! Mn55: l.count(x) of a list; != of a bare tuple. -/
namespace Mn
open PySem PySem.Spec PyProof.Rows L2
section
variable {X : Cx} {W : Wd X.K X.mg}
def rCntL (K : PySem.W.Frag) : V → List V → Hp → VK → Prop := fun x xs H Q => ∃ (y : V) (d : PyData) (ds : List PyData), xs = [y] ∧ Dp K H x (.list ds) ∧ Dp K H y d ∧ SeqAt.shaped (.list ds) = true ∧ SeqAt.shaped d = true ∧ Q (.int ((ds.countP fun z => PyData.eqv z d : Nat))) H
theorem mt_countL (hu : X.A.units + 65 < cLine) : MtR X "list.count" (rCntL X.K) := by
  intro pins s σ H x xs v us Q I rx rxs h
  obtain ⟨y, d, ds, rfl, hl, hy, sl, sd, q⟩ := h
  obtain ⟨uy, rfl, ry⟩ := rxs.one
  obtain ⟨bs, r1⟩ := Dp.reads I d y uy hy ry
  have lay : PyData.canLayAll0 ds = true := SeqAt.canLay_of_shaped sl
  have room := room_in_shaped (xs := ds) sd hu
  cases hl with
  | lst hs ha =>
    rename_i a ys
    cases rx
    obtain ⟨its, rv, ⟨⟨cls, dd, data, sls⟩, n, ho, hc, hdd, hdt⟩, _⟩ := I.list hs
    simp only at hc hdd hdt
    subst hc hdd hdt
    obtain ⟨as, h4⟩ := Dp.readsAll I ds _ its ha rv
    have hmap : its.map (SeqAt.readOf s.heap) = ds := SeqAt.readsAll_map ds its as lay h4
    have cnt : its.toArray.toList.countP (fun u => PyData.eqv (SeqAt.readOf s.heap u) d) = ds.countP fun z => PyData.eqv z d := by rw [← hmap, List.countP_map]; rfl
    refine call_meets PySem.F.slot_list_count ⟨_, ho, rfl⟩ PySem.F.entry_list_count (PySem.F.args_list_count_2 _ _)
      (SeqAt.list_countAt a its.toArray n none sls uy (fun u => PyData.eqv (SeqAt.readOf s.heap u) d)) ⟨ho, SeqAt.items_eqAt (vs := its.toArray) (show ReadsAll s.heap its.toArray.toList ds as from h4) r1 lay (SeqAt.canLay_of_shaped sd) room, ?_⟩
    exact ⟨.int _, H, I.tok _, ⟨s.toks, by rw [cnt]⟩, q⟩
def countLD (d : Dv) (ds : List Dv) : MX Dv := fun _ θ Q => match ds with
  | [y] => (match toPy θ 66 y, toPy θ 66 d with
    | some d, some (.list ps) => SeqAt.shaped (.list ps) = true ∧ SeqAt.shaped d = true ∧ Q (.int (ps.countP fun z => PyData.eqv z d : Nat)) θ
    | _, _ => False)
  | _ => False
theorem mm_countL (c : Cf X) : MthM W "list.count" countLD := mm_of (fun pins s σ H x xs v us Q I r1 r2 q => mt_countL (by have := c.un; omega) pins s σ H x xs v us Q I r1 r2 q) fun {H α θ d ds x xs Qm Q} a r rs q u => by
  unfold countLD at q
  split at q
  · rename_i y
    obtain ⟨v, rfl, rv⟩ := one_of rs
    split at q
    · rename_i e ps h1 h2
      exact ⟨v, e, ps, rfl, toPy_dp a.ok _ _ _ _ h2 r, toPy_dp a.ok _ _ _ _ h1 rv, q.1, q.2.1, up_same u a q.2.2 rp_int⟩
    · exact q.elim
  · exact q.elim
end
end Mn

/-! Cm21: mirrors of k24. -/
namespace Cm21
open PySem PySem.Spec PyProof.Rows L2 Mn
def m_Search_best_way : MS := (sSeq (sSet 2 (mBin oIx (mMeth "Search" "best" 1 (Cm20.c_Search_best 12) (mVar 0) (msCons (mVar 1) msNil)) (mC (.int 1)))) (sRet (mBin oIx (mLc (srcV (mMeth "Search" "ways" 1 Cm20.c_Search_ways (mVar 0) (msCons (mVar 1) msNil))) (.nm 3) (bB (mBin oEq (mBin oIx (mVar 3) (mC (.int 0))) (mVar 2))) (mVar 3) [3]) (mC (.int 0)))))
def c_Search_best_way : List Dv → MX Dv := defM 2 m_Search_best_way
def m_grown (C : List Dv → MX Dv) : MS := (sSeq (sSet 2 (mCallU 1 Cm20.c_inside (msCons (mVar 1) msNil))) (sSeq (sIf (bNot (bTru (mVar 2))) (sRet (mTup (msCons (mC (.str "nobody")) msNil))) sNil) (sSeq (sIf (bB (mBin oEq (mCall (k1 lenD) (msCons (mVar 2) msNil)) (mC (.int 1)))) (sRet (mTup (msCons (mC (.str "found")) (msCons (mBin oIx (mVar 2) (mC (.int 0))) msNil)))) sNil) (sSeq (sAsg (.tp [(.nm 3), (.nm 4), (.nm 5)]) (mMeth "Search" "best_way" 1 Cm21.c_Search_best_way (mVar 0) (msCons (mVar 1) msNil))) (sRet (mTup (msCons (mC (.str "ask")) (msCons (mVar 3) (msCons (mCallU 2 C (msCons (mVar 0) (msCons (mVar 4) msNil))) (msCons (mCallU 2 C (msCons (mVar 0) (msCons (mVar 5) msNil))) msNil))))))))))
def c_grown : Nat → List Dv → MX Dv
  | 0 => fun _ => MX.stuck
  | n + 1 => defM 4 (m_grown (c_grown n))
def m_least_tree : MS := (sSeq (sDrop (mCallU 1 Cm20.c_check_size (msCons (mVar 1) msNil))) (sSeq (sIf (bB (mBin oGt (mMeth "Search" "needed" 1 Cm20.c_Search_needed (mVar 0) (msCons (mVar 1) msNil)) (mC (.int 14)))) (sRaise "TooGreat") sNil) (sRet (mCallU 2 (Cm21.c_grown 12) (msCons (mVar 0) (msCons (mVar 1) msNil))))))
def c_least_tree : List Dv → MX Dv := defM 0 m_least_tree
def m_best_tree : MS := (sRet (mCallU 2 Cm21.c_least_tree (msCons (mMake "Search" 3 Cm20.c_Search___init__ (msCons (mVar 0) (msCons (mVar 1) (msCons (mFnV "taken") msNil)))) (msCons (mVar 2) msNil))))
def c_best_tree : List Dv → MX Dv := defM 0 m_best_tree
end Cm21

/-! Mn56: dicts whose keys are tuples of ints and of such tuples. -/
namespace Mn
open PySem PySem.Spec PyProof.Rows L2
section
variable {P : Program} {w : World} {H : Hp} {h : Heap}
mutual
theorem nk_is (ok : HOk P w H h) : ∀ (k : NestedKey) (v : V) (u : Value), NkH H k v → RelV v u → NestedIs h k u
  | .none, _, _, q, _ => by cases q
  | .num i, _, _, q, r => by
    cases q
    obtain ⟨t, rfl⟩ := r
    exact .int i t
  | .text x, _, _, q, _ => by cases q
  | .tup ks, _, _, q, r => by
    cases q with
    | tup h1 h2 =>
      cases r
      obtain ⟨_, its, rv, ob, e1, e2, n, e3⟩ := (show ObjOk P w H h _ (.tup _) from ok _ _ h1)
      exact .tup e1 e2 e3 (nks_is ok ks _ _ h2 rv)
theorem nks_is (ok : HOk P w H h) : ∀ (ks : List NestedKey) (vs : List V) (us : List Value), NkHs H ks vs → Vals vs us → NestedAll h ks us
  | [], _, _, q, r => by
    cases q
    cases r
    exact .nil
  | k :: ks, _, _, q, r => by
    cases q with
    | cons h1 h2 =>
      cases r with
      | cons r1 r2 => exact .cons (nk_is ok k _ _ h1 r1) (nks_is ok ks _ _ h2 r2)
end
mutual
theorem nk_hash : ∀ (k : NestedKey) (v : V), NkH H k v → k.hash w = nkHash k
  | .none, _, q => by cases q
  | .num i, _, q => by simp only [NestedKey.hash, nkHash]
  | .text x, _, q => by cases q
  | .tup ks, _, q => by
    cases q with
    | tup h1 h2 => simp only [NestedKey.hash, nkHash, nks_hash ks _ h2]
theorem nks_hash : ∀ (ks : List NestedKey) (vs : List V), NkHs H ks vs → NestedKey.hashes w ks = nkHashes ks
  | [], _, _ => by simp only [NestedKey.hashes, nkHashes]
  | k :: ks, _, q => by
    cases q with
    | cons h1 h2 => simp only [NestedKey.hashes, nkHashes, nk_hash k _ h1, nks_hash ks _ h2]
end
/-- keys, values, and where they stand in the heap -/
abbrev NdX (vs : List (NestedKey × V)) (xs : List (NestedKey × Addr × Value)) : Prop := Paired (fun (a : NestedKey × V) (b : NestedKey × Addr × Value) => a.1 = b.1 ∧ RelV a.2 b.2.2) vs xs
theorem nd_keys (ok : HOk P w H h) : ∀ {vs : List (NestedKey × V)} {bs : List Addr} {xs : List (NestedKey × Addr × Value)}, NdKs H vs bs → NdX vs xs → xs.map (·.2.1) = bs → ∀ x ∈ xs, (nestedKind P w).is h x.1 x.2.1 ∧ x.1.hash w = nkHash x.1
  | _, _, _, .nil, .nil, _, x, hx => by cases hx
  | _, _, _, .cons k ks, .cons r rs, e, x, hx => by
    rw [List.map_cons, List.cons.injEq] at e
    rcases List.mem_cons.mp hx with rfl | hx
    · have k1 := k.1
      rw [r.1, ← e.1] at k1
      have k2 := k.2
      rw [r.1] at k2
      exact ⟨⟨nk_is ok _ _ _ k1 rfl, k2⟩, nk_hash _ _ k1⟩
    · exact nd_keys ok ks rs e.2 x hx
theorem nd_rd {p : Addr} {vs : List (NestedKey × V)} {bs : List Addr} (ok : HOk P w H h) (e : H p = some (.ext (NdOk p vs bs))) (ks : NdKs H vs bs) : vs.length ≤ sizeLine ∧ (p == sysModules) = false ∧ ∃ xs, NdX vs xs ∧ xs.map (·.2.1) = bs ∧ h.DictOfH (nestedKind P w) p xs := by
  obtain ⟨⟨z, y, xs, r, eb, o, es, ep, h1, h2, h3, h4, h5⟩, _⟩ := (show ObjOk P w H h p (.ext _) from ok p _ e)
  refine ⟨z, y, xs, r, eb, o, es, ep, h1, h2, h3, ?_, fun x hx => (nd_keys ok ks r eb x hx).1, h5⟩
  rw [h4]
  refine List.map_congr_left fun x hx => ?_
  unfold entryOfKey
  rw [show (nestedKind P w).hash x.1 = x.1.hash w from rfl, (nd_keys ok ks r eb x hx).2]
theorem ndx_val (k : NestedKey) : ∀ {vs : List (NestedKey × V)} {xs : List (NestedKey × Addr × Value)}, NdX vs xs → RelO (valV vs k) ((atKey xs k).map (·.2))
  | _, _, .nil => trivial
  | _, _, .cons (a := a) (b := b) r rs => by
    have ih := ndx_val k rs
    unfold valV atKey at ih ⊢
    rw [List.find?_cons, List.find?_cons]
    by_cases e : b.1 = k
    · rw [decide_eq_true (r.1.trans e), decide_eq_true e]
      exact r.2
    · rw [decide_eq_false (fun z => e (r.1.symm.trans z)), decide_eq_false e]
      exact ih
theorem ndx_any (k : NestedKey) {vs : List (NestedKey × V)} {xs : List (NestedKey × Addr × Value)} (r : NdX vs xs) : (vs.any fun kv => decide (kv.1 = k)) = (atKey xs k).isSome := by
  rw [valV_any, (ndx_val k r).isSome_eq, Option.isSome_map]
theorem NdX.repl (k : NestedKey) {y : V} {u : Value} (ry : RelV y u) : ∀ {vs : List (NestedKey × V)} {xs : List (NestedKey × Addr × Value)}, NdX vs xs → NdX (vs.map fun kv => if kv.1 = k then (kv.1, y) else kv) (xs.map (putAt k u))
  | _, _, .nil => .nil
  | _, _, .cons (a := a) (b := b) r rs => by
    rw [List.map_cons, List.map_cons]
    refine .cons ?_ (NdX.repl k ry rs)
    unfold putAt
    by_cases e : a.1 = k
    · rw [if_pos e, if_pos (r.1.symm.trans e)]
      exact ⟨r.1, ry⟩
    · rw [if_neg e, if_neg (fun z => e (r.1.trans z))]
      exact r
theorem NdX.put (k : NestedKey) (b : Addr) {y : V} {u : Value} (ry : RelV y u) {vs : List (NestedKey × V)} {xs : List (NestedKey × Addr × Value)} (r : NdX vs xs) : NdX (putK vs k y) (storedH xs k b u) := by
  unfold putK storedH
  rw [ndx_any k r]
  by_cases q : (atKey xs k).isSome = true
  · rw [if_pos q, if_pos q]
    exact r.repl k ry
  · rw [if_neg q, if_neg q]
    exact Paired.snoc r ⟨rfl, ry⟩
theorem NdKs.repl (k : NestedKey) (y : V) : ∀ {vs : List (NestedKey × V)} {bs : List Addr}, NdKs H vs bs → NdKs H (vs.map fun kv => if kv.1 = k then (kv.1, y) else kv) bs
  | _, _, .nil => .nil
  | _, _, .cons (a := a) (b := b) r rs => by
    rw [List.map_cons]
    refine .cons ?_ (NdKs.repl k y rs)
    split
    · exact r
    · exact r
theorem NdKs.put {k : NestedKey} {b : Addr} (y : V) (u : Value) (hb : NkH H k (.ref b)) (hd : k.depth ≤ 8) {vs : List (NestedKey × V)} {bs : List Addr} {xs : List (NestedKey × Addr × Value)} (ks : NdKs H vs bs) (r : NdX vs xs) (e : xs.map (·.2.1) = bs) : NdKs H (putK vs k y) ((storedH xs k b u).map (·.2.1)) := by
  unfold putK storedH
  rw [ndx_any k r]
  by_cases q : (atKey xs k).isSome = true
  · rw [if_pos q, if_pos q, List.map_map]
    have e2 : xs.map ((fun x => x.2.1) ∘ putAt k u) = bs := by
      rw [← e]
      refine List.map_congr_left fun x _ => ?_
      show (putAt k u x).2.1 = x.2.1
      unfold putAt
      split <;> rfl
    rw [e2]
    exact ks.repl k y
  · rw [if_neg q, if_neg q, List.map_append, e]
    exact Paired.snoc ks ⟨hb, hd⟩
theorem nd_new {p : Addr} {vs : List (NestedKey × V)} {xs : List (NestedKey × Addr × Value)} {H' : Hp} {h' : Heap} (z : vs.length ≤ sizeLine) (hd : (p == sysModules) = false) (r : NdX vs xs) (hh : ∀ x ∈ xs, x.1.hash w = nkHash x.1) (dd : h'.DictOfH (nestedKind P w) p xs) : ObjOk P w H' h' p (.ext (NdOk p vs (xs.map (·.2.1)))) := by
  obtain ⟨o, es, ep, h1, h2, h3, h4, _, h5⟩ := dd
  refine ⟨⟨z, hd, xs, r, rfl, o, es, ep, h1, h2, h3, ?_, h5⟩, ⟨o, h1⟩, fun k1 k2 ⟨z, hd, xs, r, e, o, es, ep, h1, h⟩ t => ⟨z, hd, xs, r, e, o, es, ep, t _ h1, h⟩⟩
  rw [h4]
  refine List.map_congr_left fun x hx => ?_
  unfold entryOfKey
  rw [show (nestedKind P w).hash x.1 = x.1.hash w from rfl, hh x hx]
theorem stored_hash {k : NestedKey} {b : Addr} {u : Value} {xs : List (NestedKey × Addr × Value)} (h : ∀ x ∈ xs, x.1.hash w = nkHash x.1) (hk : k.hash w = nkHash k) : ∀ x ∈ storedH xs k b u, x.1.hash w = nkHash x.1 := by
  intro x hx
  unfold storedH at hx
  split at hx
  · obtain ⟨y, hy, rfl⟩ := List.mem_map.mp hx
    unfold putAt
    split
    · exact h y hy
    · exact h y hy
  · rcases List.mem_append.mp hx with hx | hx
    · exact h x hx
    · rw [List.mem_singleton.mp hx]
      exact hk
end
section
variable {X : Cx} {pins : List (Addr × Obj)} {σ : L2.St} {H : Hp} {s : Shared} {p b : Addr} {vs : List (NestedKey × V)} {bs : List Addr} {k : NestedKey} {A : Around} {E : Value → Shared → Prop}
theorem nd_getItem {v : V} {Q : Value → Shared → Prop} (hu : A.units + 20 < cLine) (I : Inv X pins σ H s) (e : H p = some (.ext (NdOk p vs bs))) (ks : NdKs H vs bs) (hk : NkH H k (.ref b)) (hd : k.depth ≤ 8) (l : valV vs k = some v) (h : ∀ w' s', Inv X pins σ H s' → RelV v w' → Q w' s') :
    wpAny (model X.prog X.w) A (getItem (.ref p) (.ref b)) Q E s := by
  obtain ⟨z, hs, xs, r, eb, dd⟩ := nd_rd I.hok e ks
  obtain ⟨w', hw, rw'⟩ := RelO.some_of (v := v) (o := (atKey xs k).map (·.2)) (by rw [← l]; exact ndx_val k r)
  obtain ⟨q, hp, hp2⟩ := Option.map_eq_some_iff.mp hw
  refine wpAny_getItem_heap (knd := nestedKind X.prog X.w) (show A.in1.units + 8 < cLine by rw [Around.in1_units]; omega) ⟨nk_is I.hok _ _ _ hk rfl, hd⟩ dd hp ?_
  rw [hp2]
  exact h w' _ (I.tok _) rw'
theorem nd_notIn {Q : Value → Shared → Prop} (hu : A.units + 20 < cLine) (I : Inv X pins σ H s) (e : H p = some (.ext (NdOk p vs bs))) (ks : NdKs H vs bs) (hk : NkH H k (.ref b)) (hd : k.depth ≤ 8) (h : ∀ s', Inv X pins σ H s' → Q (.bool (!(valV vs k).isSome)) s') :
    wpAny (model X.prog X.w) A (compareOp .NotIn (.ref b) (.ref p)) Q E s := by
  obtain ⟨z, hs, xs, r, eb, dd⟩ := nd_rd I.hok e ks
  refine wpAny_notIn_heap (knd := nestedKind X.prog X.w) (show A.in1.units + 8 < cLine by rw [Around.in1_units]; omega) ⟨nk_is I.hok _ _ _ hk rfl, hd⟩ hs dd ?_
  have q := (ndx_val k r).isSome_eq
  rw [Option.isSome_map] at q
  rw [← q]
  exact h _ (I.tok _)
theorem nd_setItem {v : V} {u : Value} {Q : Unit → Shared → Prop} (hu : A.units + 20 < cLine) (I : Inv X pins σ H s) (e : H p = some (.ext (NdOk p vs bs))) (ks : NdKs H vs bs) (hk : NkH H k (.ref b)) (hd : k.depth ≤ 8) (hl : vs.length < sizeLine) (rv : RelV v u)
    (h : ∀ bs' s', NdKs H (putK vs k v) bs' → Inv X pins σ (upd H p (.ext (NdOk p (putK vs k v) bs'))) s' → Q () s') : wpAny (model X.prog X.w) A (setItem (.ref p) (.ref b) u) Q E s := by
  obtain ⟨z, hs, xs, r, eb, dd⟩ := nd_rd I.hok e ks
  have hz : xs.length ≤ sizeLine := by rw [← Paired.length r]; exact z
  have hl2 : (putK vs k v).length ≤ sizeLine := by have := length_putK vs k v; omega
  refine wpAny_setItem_heap (knd := nestedKind X.prog X.w) (hsz := hz) (show A.in1.units + 8 < cLine by rw [Around.in1_units]; omega) ⟨nk_is I.hok _ _ _ hk rfl, hd⟩ dd fun h' dd' hsb => ?_
  have hex : ∃ q, h'.get? p = some q := let ⟨q, _, _, hq, _⟩ := dd'; ⟨q, hq⟩
  refine h _ _ (ks.put v u hk hd r eb) (d_write I (by rw [e]; exact True.intro) hsb hex ?_)
  exact nd_new hl2 hs (r.put k b rv) (stored_hash (fun x hx => (nd_keys I.hok ks r eb x hx).2) (nk_hash _ _ hk)) dd'
end
section
variable {X : Cx}
theorem nd_empty {P : Program} {w : World} {H : Hp} (h : Heap) (hb : sysModules < h.objs.size) : ObjOk P w H (h.push { cls := .type "dict", data := .dict #[] }) h.objs.size (.ext (NdOk h.objs.size [] [])) :=
  nd_new (xs := []) (Nat.zero_le _) (beq_eq_false_iff_ne.mpr (Ne.symm (Nat.ne_of_lt hb))) .nil (fun x hx => by cases hx) (Heap.DictOfH.new h)
def tDNewN : TE := fun _ H Q => ∀ p, H p = none → Q (.ref p) (upd H p (.ext (NdOk p [] [])))
theorem pe_dnewN {pos : Pos} : PE X (.Dict [] [] pos) tDNewN := ⟨fun pins s σ H Q I h =>
  wpAny_Dict_empty ⟨.ref s.heap.objs.size, _, I.laid (a := s.heap.objs.size) (o := .ext (NdOk s.heap.objs.size [] [])) (t' := s.toks) (fun _ _ q => Heap.get?_push_of_some _ q) (Nat.le_refl _) (nd_empty s.heap I.big), rfl, h _ (I.hok.fresh (Nat.le_refl _))⟩⟩
/-- the key at hand -/
def NdAt (H : Hp) (x y : V) (p b : Addr) (vs : List (NestedKey × V)) (bs : List Addr) (k : NestedKey) : Prop := x = .ref p ∧ y = .ref b ∧ H p = some (.ext (NdOk p vs bs)) ∧ NdKs H vs bs ∧ NkH H k (.ref b) ∧ k.depth ≤ 8
def rInN (neg : Bool) : R2 := fun y x H Q => ∃ p b vs bs k, NdAt H x y p b vs bs k ∧ Q (.bl (if neg then !(valV vs k).isSome else (valV vs k).isSome)) H
theorem op_ninN (hu : X.A.units + 20 < cLine) : OpR X (compareOp .NotIn) (rInN true) := by
  intro pins s σ H x y v u Q I rx ry ⟨p, b, vs, bs, k, ⟨e1, e2, h1, h2, h3, h4⟩, q⟩
  subst e1 e2
  cases rx
  cases ry
  exact nd_notIn hu I h1 h2 h3 h4 fun s' I' => ⟨.bl (!(valV vs k).isSome), H, I', rfl, q⟩
def rIxN : R2 := fun x y H Q => ∃ p b vs bs k v, NdAt H x y p b vs bs k ∧ valV vs k = some v ∧ Q v H
theorem ix_N (hu : X.A.units + 20 < cLine) : IxR X rIxN := fun va sl pins s σ H x y v u Q I rx ry ⟨p, b, vs, bs, k, z, ⟨e1, e2, h1, h2, h3, h4⟩, l, q⟩ hs => by
  subst e1 e2
  cases rx
  cases ry
  obtain ⟨_, _, xs, _, _, dd⟩ := nd_rd I.hok h1 h2
  exact tail_any dd.typeIs PySem.F.slot_dict_getitem.lookup (nd_getItem hu I h1 h2 h3 h4 l fun w' s' I' rw' => ⟨z, H, I', rw', q⟩) hs
def rSetN : TSet := fun o i v H Q => ∃ p b vs bs k, NdAt H o i p b vs bs k ∧ vs.length < sizeLine ∧ ∀ bs', NdKs H (putK vs k v) bs' → Q (upd H p (.ext (NdOk p (putK vs k v) bs')))
theorem set_N (hu : X.A.units + 20 < cLine) : PSet X rSetN := fun pins s σ H o i v ov iv u Q I r1 r2 r3 ⟨p, b, vs, bs, k, ⟨e1, e2, h1, h2, h3, h4⟩, hl, q⟩ => by
  subst e1 e2
  cases r1
  cases r2
  exact nd_setItem hu I h1 h2 h3 h4 hl r3 fun bs' s' k' I' => ⟨_, I', q bs' k'⟩
end
/-! ### data as keys -/
mutual
def nKeyD : Dv → Option NestedKey
  | .int i => some (.num i)
  | .tup ds => (nKeyDs ds).map .tup
  | _ => none
def nKeyDs : List Dv → Option (List NestedKey)
  | [] => some []
  | d :: ds => match nKeyD d, nKeyDs ds with
    | some k, some ks => some (k :: ks)
    | _, _ => none
end
section
variable {K : PySem.W.Frag} {H : Hp} {α : List Addr}
mutual
theorem nKeyD_h : ∀ (d : Dv) (v : V) (k : NestedKey), nKeyD d = some k → Rp K H α d v → NkH H k v
  | .int i, v, k, e, r => by
    unfold nKeyD at e
    cases e
    unfold Rp at r
    subst r
    exact .int i
  | .tup ds, v, k, e, r => by
    unfold nKeyD at e
    obtain ⟨ks, e1, rfl⟩ := Option.map_eq_some_iff.mp e
    unfold Rp at r
    obtain ⟨p, vs, rfl, h1, h2⟩ := r
    exact .tup h1 (nKeyDs_h ds vs ks e1 h2)
  | .non, _, _, e, _ => by unfold nKeyD at e; cases e
  | .bl _, _, _, e, _ => by unfold nKeyD at e; cases e
  | .str _, _, _, e, _ => by unfold nKeyD at e; cases e
  | .obj _, _, _, e, _ => by unfold nKeyD at e; cases e
  | .rf _, _, _, e, _ => by unfold nKeyD at e; cases e
  | .scr _, _, _, e, _ => by unfold nKeyD at e; cases e
  | .pt _, _, _, e, _ => by unfold nKeyD at e; cases e
  | .fn _, _, _, e, _ => by unfold nKeyD at e; cases e
  | .st _, _, _, e, _ => by unfold nKeyD at e; cases e
theorem nKeyDs_h : ∀ (ds : List Dv) (vs : List V) (ks : List NestedKey), nKeyDs ds = some ks → Rps K H α ds vs → NkHs H ks vs
  | [], vs, ks, e, r => by
    unfold nKeyDs at e
    cases e
    unfold Rps at r
    subst r
    exact .nil
  | d :: ds, vs, ks, e, r => by
    unfold nKeyDs at e
    split at e
    · rename_i k ks' e1 e2
      cases e
      unfold Rps at r
      obtain ⟨v, us, rfl, h1, h2⟩ := r
      exact .cons (nKeyD_h d v k e1 h1) (nKeyDs_h ds us ks' e2 h2)
    · cases e
end
end
def nKeyT (d : Dv) : Option NestedKey := match d with
  | .tup ds => (match nKeyDs ds with
    | some ks => if (NestedKey.tup ks).depth ≤ 8 then some (.tup ks) else none
    | none => none)
  | _ => none
theorem nKeyT_h {K : PySem.W.Frag} {H : Hp} {α : List Addr} {d : Dv} {v : V} {k : NestedKey} (e : nKeyT d = some k) (r : Rp K H α d v) : ∃ b, v = .ref b ∧ NkH H k (.ref b) ∧ k.depth ≤ 8 := by
  unfold nKeyT at e
  split at e
  · rename_i ds
    split at e
    · rename_i ks e1
      split at e
      · rename_i hd
        cases e
        have r1 := r
        unfold Rp at r
        obtain ⟨p, vs, rfl, h1, h2⟩ := r
        exact ⟨p, rfl, .tup h1 (nKeyDs_h ds vs ks e1 h2), hd⟩
      · cases e
    · cases e
  · cases e
def inNO (f : Bool → Bool) (x y : Dv) : MX Dv := fun _ θ Q => match y with
  | .obj j => (match θ[j]? with
    | some (.dN kvs) => (match nKeyT x with
      | some k => Q (.bl (f (lookD kvs k).isSome)) θ
      | none => False)
    | _ => False)
  | _ => False
def oNotInN : Dv → Dv → MX Dv := inNO not
def oIxN : Dv → Dv → MX Dv := fun x y _ θ Q => match x with
  | .obj j => (match θ[j]? with
    | some (.dN kvs) => (match nKeyT y with
      | some k => (match lookD kvs k with
        | some d => Q d θ
        | none => False)
      | none => False)
    | _ => False)
  | _ => False
def setON (x y v : Dv) : MX Unit := fun _ θ Q => match x with
  | .obj j => (match θ[j]? with
    | some (.dN kvs) => (match nKeyT y with
      | some k => kvs.length < sizeLine ∧ Q () (θ.set j (.dN (putD kvs k v)))
      | none => False)
    | _ => False)
  | _ => False
def sPutN (o i e : ME) : MS := fun ρ => do
  let v ← e ρ
  let x ← o ρ
  let y ← i ρ
  setON x y v
  pure (.nx ρ)
def mDN : ME := fun _ _ θ Q => Q (.obj θ.length) (θ ++ [.dN []])
section
variable {X : Cx} {W : Wd X.K X.mg} {pos : Pos}
theorem inN_up {neg : Bool} {f : Bool → Bool} (hf : ∀ b, f b = if neg then !b else b) {H : Hp} {α : List Addr} {θ : Th} {dx dy : Dv} {x y : V} {Qm : Dv → Th → Prop} {Q : VK} (a : At W H α θ) (r1 : Rp X.K H α dx x) (r2 : Rp X.K H α dy y) (q : inNO f dx dy W.En θ Qm) (u : Up X.K H α Qm Q) : rInN neg x y H Q := by
  unfold inNO at q
  split at q
  · rename_i j
    unfold Rp at r2
    obtain ⟨p, ep, rfl⟩ := r2
    split at q
    · rename_i kvs e2
      split at q
      · rename_i k hk
        obtain ⟨vs, bs, h1, h2, h3⟩ := a.ok.ob j p _ ep e2
        obtain ⟨b, rfl, hb, hd⟩ := nKeyT_h hk r1
        refine ⟨p, b, vs, bs, k, ⟨rfl, rfl, h1, h2, hb, hd⟩, up_same u a q ?_⟩
        have lk := h3.look k
        have : (valV vs k).isSome = (lookD kvs k).isSome := by
          cases e : lookD kvs k with
          | none => rw [e] at lk; rw [lk]; rfl
          | some d => rw [e] at lk; obtain ⟨v, lk, _⟩ := lk; rw [lk]; rfl
        rw [hf, this]
        cases neg <;> exact rp_bl
      · exact q.elim
    · exact q.elim
  · exact q.elim
theorem om_notinN (c : Cf X) : OpM W (compareOp .NotIn) oNotInN := opm_of (op_ninN (by have := c.un; omega)) fun {H α θ dx dy x y Qm Q} a r1 r2 q u => inN_up (neg := true) (f := not) (fun b => rfl) a r1 r2 q u
theorem pm_ixN {a b : Expr} {ma mb : ME} {pos : Pos} (c : Cf X) (ha : PE X a (tM W ma)) (hb : PE X b (tM W mb)) (hs : PlainIx b := by exact fun _ _ => rfl) : PE X (.Subscript a b pos) (tM W (mBin oIxN ma mb)) := by
  refine pe_w (pe_ix (IxR.w (ix_N (by have := c.un; omega)) ?_) ha hb hs) tm_bin
  rintro x y H Q ⟨α, θ, dx, dy, Qm, a, r1, r2, q, u⟩
  unfold oIxN at q
  split at q
  · rename_i j
    unfold Rp at r1
    obtain ⟨p, ep, rfl⟩ := r1
    split at q
    · rename_i kvs e2
      split at q
      · rename_i k hk
        split at q
        · rename_i d hd2
          obtain ⟨vs, bs, h1, h2, h3⟩ := a.ok.ob j p _ ep e2
          obtain ⟨b, rfl, hb, hd⟩ := nKeyT_h hk r2
          have lk := h3.look k
          rw [hd2] at lk
          obtain ⟨v, lk, rv⟩ := lk
          exact ⟨p, b, vs, bs, k, v, ⟨rfl, rfl, h1, h2, hb, hd⟩, lk, up_same u a q rv⟩
        · exact q.elim
      · exact q.elim
    · exact q.elim
  · exact q.elim
def rSetMN (W : Wd X.K X.mg) : TSet := fun o i v H Q => ∃ α θ dx dy dv Qm, At W H α θ ∧ Rp X.K H α dx o ∧ Rp X.K H α dy i ∧ Rp X.K H α dv v ∧ setON dx dy dv W.En θ Qm ∧ ∀ θ' H', Qm () θ' → Okk X.K H' α θ' → Nx X.K H α H' α → Q H'
theorem set_anyN (c : Cf X) : PSet X (rSetMN W) := PSet.w (set_N (by have := c.un; omega)) fun o i v H Q ⟨α, θ, dx, dy, dv, Qm, a, r1, r2, r3, q, k⟩ => by
  unfold setON at q
  split at q
  · rename_i j
    unfold Rp at r1
    obtain ⟨p, ep, rfl⟩ := r1
    split at q
    · rename_i kvs e2
      split at q
      · rename_i key hk
        obtain ⟨vs, bs, h1, h2, h3⟩ := a.ok.ob j p _ ep e2
        obtain ⟨b, rfl, hb, hd⟩ := nKeyT_h hk r2
        refine ⟨p, b, vs, bs, key, ⟨rfl, rfl, h1, h2, hb, hd⟩, by rw [h3.length]; exact q.1, fun bs' ks' => ?_⟩
        have nx := Nx.chg (o := .ext (NdOk p (putK vs key v) bs')) (a.ok.ob j p _ ep e2)
        exact k _ _ q.2 (a.ok.chg ep e2 (ob := .dN (putD kvs key dv)) ⟨_, _, upd_same, ks'.mono nx.tup, (h3.put key r3).mono nx⟩) nx
      · exact q.elim
    · exact q.elim
  · exact q.elim
theorem sm_putN {st : Stmt} {o i e : Expr} {mo mi m : ME} {pos' : Pos} (c : Cf X) (he : PE X e (tM W m)) (ho : PE X o (tM W mo)) (hi : PE X i (tM W mi))
    (pg : ∀ t, PSet X t → PG X (.Subscript o i pos') (gSub (tM W mo) (tM W mi) t)) (ps : ∀ g, PG X (.Subscript o i pos') g → PS X st (tAsg (tM W m) g)) : PS X st (tS W (sPutN mo mi m)) :=
  ps_w (ps _ (pg _ (set_anyN (W := W) c))) fun D σ H ⟨ρ, α, θ, Qm, at', rs, q, u⟩ => ⟨ρ, α, θ, _, at', rs, q, fun d θ1 α1 H1 v q1 ok1 nx1 r1 =>
    ⟨ρ, α1, θ1, _, ⟨ok1, at'.nx.trans nx1⟩, rs.mono nx1, q1, fun d2 θ2 α2 H2 v2 q2 ok2 nx2 r2 => ⟨ρ, α2, θ2, _, ⟨ok2, (at'.nx.trans nx1).trans nx2⟩, rs.mono (nx1.trans nx2), q2, fun d3 θ3 α3 H3 v3 q3 ok3 nx3 r3 =>
      ⟨α3, θ3, d2, d3, d, _, ⟨ok3, ((at'.nx.trans nx1).trans nx2).trans nx3⟩, r2.mono nx3, r3, r1.mono (nx2.trans nx3), q3, fun θ4 H4 q4 ok4 nx4 =>
        u _ θ4 α3 H4 q4 ok4 (((nx1.trans nx2).trans nx3).trans nx4) σ (rs.mono (((nx1.trans nx2).trans nx3).trans nx4))⟩⟩⟩⟩
theorem sm_ptN {o i e : Expr} {mo mi m : ME} {pos' pos : Pos} (c : Cf X) (he : PE X e (tM W m)) (ho : PE X o (tM W mo)) (hi : PE X i (tM W mi))
    (hg : ∀ g, PE X e (tM W m) → PG X (.Subscript o i pos') g → PS X (.Assign [.Subscript o i pos'] e pos) (tAsg (tM W m) g) := by exact fun g h1 h2 => ps_asg h1 h2)
    (hp : ∀ t, PE X o (tM W mo) → PE X i (tM W mi) → PSet X t → PG X (.Subscript o i pos') (gSub (tM W mo) (tM W mi) t) := by exact fun t h1 h2 h => pg_sub h1 h2 h) : PS X (.Assign [.Subscript o i pos'] e pos) (tS W (sPutN mo mi m)) := sm_putN c he ho hi (fun t h => hp t ho hi h) fun g h => hg g he h
theorem pm_dN {pos : Pos} : PE X (.Dict [] [] pos) (tM W mDN) := pe_w pe_dnewN fun σ H Q ⟨ρ, α, θ, Qm, at', rs, q, u⟩ p hp => by
  have nx : Nx X.K H α (upd H p (.ext (NdOk p [] []))) (α ++ [p]) := Nx.new hp _
  exact u _ _ _ _ _ q (at'.ok.new hp (ob := .dN []) ⟨[], [], upd_same, .nil, by unfold RpK; rfl⟩) nx (rp_obj (by rw [← at'.ok.len]; simp))
end
section
variable {E : Exn → Th → Prop} {θ : Th} {ρ : DEnv}
theorem x_dN {Q : Dv → Th → Prop} : mDN ρ E θ Q = Q (.obj θ.length) (θ ++ [.dN []]) := (rfl)
theorem x_putN {o i e : ME} {Q : Out → Th → Prop} : sPutN o i e ρ E θ Q = e ρ E θ fun v θ1 => o ρ E θ1 fun x θ2 => i ρ E θ2 fun y θ3 => setON x y v E θ3 fun _ θ4 => Q (.nx ρ) θ4 := (rfl)
theorem in_N {f : Bool → Bool} {x : Dv} {j : Nat} {kvs : List (NestedKey × Dv)} {k : NestedKey} {Q : Dv → Th → Prop} (hj : θ[j]? = some (.dN kvs)) (hk : nKeyT x = some k) (hQ : Q (.bl (f (lookD kvs k).isSome)) θ) : inNO f x (.obj j) E θ Q := by
  unfold inNO
  simp only [hj, hk]
  exact hQ
theorem ix_dN {y d : Dv} {j : Nat} {kvs : List (NestedKey × Dv)} {k : NestedKey} {Q : Dv → Th → Prop} (hj : θ[j]? = some (.dN kvs)) (hk : nKeyT y = some k) (hd : lookD kvs k = some d) (hQ : Q d θ) : oIxN (.obj j) y E θ Q := by
  unfold oIxN
  simp only [hj, hk, hd]
  exact hQ
theorem set_dN {y v : Dv} {j : Nat} {kvs : List (NestedKey × Dv)} {k : NestedKey} {Q : Unit → Th → Prop} (hj : θ[j]? = some (.dN kvs)) (hk : nKeyT y = some k) (hl : kvs.length < sizeLine) (hQ : Q () (θ.set j (.dN (putD kvs k v)))) : setON (.obj j) y v E θ Q := by
  unfold setON
  simp only [hj, hk]
  exact ⟨hl, hQ⟩
end
end Mn

/-! Cm22: mirrors of k03. -/
namespace Cm22
open PySem PySem.Spec PyProof.Rows L2 Mn
def m_Search_needed : MS := (sRet (mBin oIx (mMeth "Search" "best" 1 (Cm20.c_Search_best 20) (mVar 0) (msCons (mVar 1) msNil)) (mC (.int 0))))
def c_Search_needed : List Dv → MX Dv := defM 0 m_Search_needed
def m__law_both : MS := (sSeq (sSet 2 (mCall (k1 tupD) (msCons (mLc (rng1 (msCons (mCall (k1 lenD) (msCons (mVar 0) msNil)) msNil)) (.nm 3) bYes (mCall (max2) (msCons (mUn oNeg (mC (.int 1))) (msCons (mBin oSub (mBin oIx (mVar 0) (mVar 3)) (mCall (k1 intD) (msCons (mUn oNot (mBin oIx (mVar 1) (mVar 3))) msNil))) msNil))) [3]) msNil))) (sRet (mLst (msCons (mVar 2) (msCons (mCall (k1 tupD) (msCons (mLc (rng1 (msCons (mCall (k1 lenD) (msCons (mVar 0) msNil)) msNil)) (.nm 3) bYes (mCall (max2) (msCons (mUn oNeg (mC (.int 1))) (msCons (mBin oSub (mBin oIx (mVar 0) (mVar 3)) (mCall (k1 intD) (msCons (mBin oIx (mVar 1) (mVar 3)) msNil))) msNil))) [3]) msNil)) msNil)))))
def c__law_both : List Dv → MX Dv := defM 2 m__law_both
end Cm22

/-! Mn57: for k in d, dict(d), sorted(d). -/
namespace Mn
open PySem PySem.Spec PyProof.Rows L2
theorem RpK.keys {κ : Type} {K : PySem.W.Frag} {H : Hp} {α : List Addr} : ∀ {ds : List (κ × Dv)} {vs : List (κ × V)}, RpK K H α ds vs → ds.map (·.1) = vs.map (·.1)
  | [], _, h => by unfold RpK at h; subst h; rfl
  | (k, d) :: ds, _, h => by
    unfold RpK at h
    obtain ⟨v, r, rfl, h1, h2⟩ := h
    rw [List.map_cons, List.map_cons, RpK.keys h2]
section
variable {X : Cx} {W : Wd X.K X.mg}
theorem RS.monoW {H H' : Hp} {α α' : List Addr} {K : PySem.W.Frag} {σ : L2.St} {ρ : DEnv} (h : RS K H α σ ρ) (a : Nw H α H' α') : RS K H' α' σ ρ := ⟨h.1, fun i d e => let ⟨v, e1, r⟩ := h.2 i d e; ⟨v, e1, r.monoW a⟩⟩
/-! ### dict(d), sorted(d) -/
end
section
variable {E : Exn → Th → Prop} {θ : Th} {ρ : DEnv}
end
end Mn

/-! Mn58: d[k] while d is walked. -/
namespace Mn
open PySem PySem.Spec PyProof.Rows L2
section
variable {X : Cx} {W : Wd X.K X.mg}
end
section
variable {E : Exn → Th → Prop} {θ : Th}
end
end Mn

/-! Cm23: mirrors of k26. -/
namespace Cm23
open PySem PySem.Spec PyProof.Rows L2 Mn
end Cm23

/-! Mn59: one of two readings of an expression. -/
namespace Mn
open PySem PySem.Spec PyProof.Rows L2
def mOrE (a b : ME) : ME := fun ρ E θ Q => a ρ E θ Q ∨ b ρ E θ Q
section
variable {X : Cx} {W : Wd X.K X.mg}
end
end Mn

/-! Cm24: mirrors of k21. -/
namespace Cm24
open PySem PySem.Spec PyProof.Rows L2 Mn
def m_taken_one : MS := (sSeq (sIf (bB (mBin oEq (mVar 2) (mC (.str "broken")))) (sRet (mCall (k1 tupD) (msCons (mLc (srcZp (msCons (mVar 0) (msCons (mVar 1) msNil))) (.tp [(.nm 3), (.nm 4)]) bYes (mIf (bTru (mVar 4)) (mVar 3) (mUn oNeg (mC (.int 1)))) [3, 4]) msNil))) sNil) (sRet (mCallU 3 Cm.c_taken (msCons (mVar 0) (msCons (mVar 1) (msCons (mVar 2) msNil))))))
def c_taken_one : List Dv → MX Dv := defM 2 m_taken_one
def m_Search_ways : MS := (sSeq (sSet 2 (mFld "Search" "step" (mVar 0))) (sRet (mLc (srcV (mFld "Search" "marked" (mVar 0))) (.tp [(.nm 3), (.nm 4)]) (bB (mCallU 2 Cm20.c_parts (msCons (mVar 1) (msCons (mVar 4) msNil)))) (mTup (msCons (mVar 3) (msCons (mOrE (mCallF 2 "taken" 3 Cm.c_taken (msCons (mVar 1) (msCons (mVar 4) (msCons (mC (.str "broken")) msNil)))) (mCallF 2 "taken_one" 3 Cm24.c_taken_one (msCons (mVar 1) (msCons (mVar 4) (msCons (mC (.str "broken")) msNil))))) (msCons (mOrE (mCallF 2 "taken" 3 Cm.c_taken (msCons (mVar 1) (msCons (mVar 4) (msCons (mC (.str "works")) msNil)))) (mCallF 2 "taken_one" 3 Cm24.c_taken_one (msCons (mVar 1) (msCons (mVar 4) (msCons (mC (.str "works")) msNil))))) msNil)))) [3, 4])))
def c_Search_ways : List Dv → MX Dv := defM 3 m_Search_ways
def m_Search_best (C : List Dv → MX Dv) : MS := (sSeq (sIf (bB (mBin oNotIn (mVar 1) (mFld "Search" "known" (mVar 0)))) (sSeq (sSet 2 (mLst msNil)) (sSeq (sFor (srcV (mMeth "Search" "ways" 1 Cm24.c_Search_ways (mVar 0) (msCons (mVar 1) msNil))) (.tp [(.nm 3), (.nm 4), (.nm 5)]) (sDrop (mMth "list" appendD (mVar 2) (msCons (mTup (msCons (mMeth "Search" "worth" 4 Cm20.c_Search_worth (mVar 0) (msCons (mVar 1) (msCons (mVar 3) (msCons (mBin oIx (mMeth "Search" "best" 1 C (mVar 0) (msCons (mVar 4) msNil)) (mC (.int 0))) (msCons (mBin oIx (mMeth "Search" "best" 1 C (mVar 0) (msCons (mVar 5) msNil)) (mC (.int 0))) msNil))))) (msCons (mVar 3) msNil))) msNil)))) (sPut (mFld "Search" "known" (mVar 0)) (mVar 1) (mMinD (mVar 2) (mTup (msCons (mC (.int 0)) (msCons (mUn oNeg (mC (.int 1))) msNil))))))) sNil) (sRet (mBin oIx (mFld "Search" "known" (mVar 0)) (mVar 1))))
def c_Search_best : Nat → List Dv → MX Dv
  | 0 => fun _ => MX.stuck
  | n + 1 => defM 4 (m_Search_best (c_Search_best n))
def m_Search_needed : MS := (sRet (mBin oIx (mMeth "Search" "best" 1 (Cm24.c_Search_best 20) (mVar 0) (msCons (mVar 1) msNil)) (mC (.int 0))))
def c_Search_needed : List Dv → MX Dv := defM 0 m_Search_needed
def m_fewest_one_from : MS := (sSeq (sDrop (mCallU 1 Cm20.c_check_size (msCons (mVar 2) msNil))) (sRet (mMeth "Search" "needed" 1 Cm24.c_Search_needed (mMake "Search" 3 Cm20.c_Search___init__ (msCons (mVar 0) (msCons (mVar 1) (msCons (mFnV "taken_one") msNil)))) (msCons (mVar 2) msNil))))
def c_fewest_one_from : List Dv → MX Dv := defM 0 m_fewest_one_from
def m_fewest_one : MS := (sRet (mCallU 3 Cm24.c_fewest_one_from (msCons (mVar 0) (msCons (mVar 1) (msCons (mCallU 3 Cm.c_start (msCons (mVar 0) (msCons (mVar 1) (msCons (mVar 2) msNil)))) msNil)))))
def c_fewest_one : List Dv → MX Dv := defM 0 m_fewest_one
def m__law_refused : MS := (sSeq (sTry [("TooGreat", true)] (sDrop (mCallU 3 Cm24.c_fewest_one (msCons (mCallU 1 Cm11.c__law_chain (msCons (mVar 0) msNil)) (msCons (mTup msNil) (msCons (mVar 1) msNil))))) (sRet (mC (.bl true)))) (sRet (mC (.bl false))))
def c__law_refused : List Dv → MX Dv := defM 0 m__law_refused
def m__law_both : MS := (sSeq (sSet 2 (mCall (k1 tupD) (msCons (mLc (rng1 (msCons (mCall (k1 lenD) (msCons (mVar 0) msNil)) msNil)) (.nm 3) bYes (mBin oIx (mLst (msCons (mUn oNeg (mC (.int 1))) (msCons (mBin oIx (mVar 0) (mVar 3)) msNil))) (mCall (k1 intD) (msCons (mBin oIx (mVar 1) (mVar 3)) msNil))) [3]) msNil))) (sRet (mLst (msCons (mVar 2) (msCons (mCall (k1 tupD) (msCons (mLc (rng1 (msCons (mCall (k1 lenD) (msCons (mVar 0) msNil)) msNil)) (.nm 3) bYes (mCall (max2) (msCons (mUn oNeg (mC (.int 1))) (msCons (mBin oSub (mBin oIx (mVar 0) (mVar 3)) (mCall (k1 intD) (msCons (mBin oIx (mVar 1) (mVar 3)) msNil))) msNil))) [3]) msNil)) msNil)))))
def c__law_both : List Dv → MX Dv := defM 2 m__law_both
end Cm24

/-! Mn60: zip over iterators of any kind while its last tuple is held; the pairs of such a zip as the argument of dict(). -/
namespace Mn
open PySem
section
variable {prog : Program} {w : World} {A : Around} {E : Value → Shared → Prop} {s : Shared} {z TI TO i1 i2 : Addr} {fp1 fp2 : List Addr} {n1 n2 i : Nat} {P1 P2 : Nat → Value → Prop} {St1 St2 : Nat → Heap → Prop}
end
/-! ### a zip of a list and a tuple as the pairs of a dict -/
section
variable {prog : Program} {w : World}
def Z1 (i1 l1 : Addr) (xs : Array Value) (i : Nat) (h : Heap) : Prop := h.IsListIter i1 l1 i ∧ h.IsList l1 xs
def Z2 (i2 l2 : Addr) (ys : Array Value) (i : Nat) (h : Heap) : Prop := h.IsTupleIter i2 l2 i ∧ h.IsTuple l2 ys
theorem Z1.keeps {i1 l1 : Addr} {xs : Array Value} {i : Nat} {h h' : Heap} (x : Z1 i1 l1 xs i h) (k : ∀ b, b = i1 ∨ b = l1 → ∀ o, h.get? b = some o → h'.get? b = some o) : Z1 i1 l1 xs i h' := ⟨x.1.at fun o e => k i1 (.inl rfl) o e, x.2.at fun o e => k l1 (.inr rfl) o e⟩
theorem Z2.keeps {i2 l2 : Addr} {ys : Array Value} {i : Nat} {h h' : Heap} (x : Z2 i2 l2 ys i h) (k : ∀ b, b = i2 ∨ b = l2 → ∀ o, h.get? b = some o → h'.get? b = some o) : Z2 i2 l2 ys i h' := ⟨x.1.at fun o e => k i2 (.inl rfl) o e, x.2.at fun o e => k l2 (.inr rfl) o e⟩
end
end Mn

/-! Mn61: dict(zip(xs, ys)), xs a list of keys, ys a tuple. -/
namespace Mn
open PySem PySem.Spec PyProof.Rows L2 RZ
structure ZLT (X : Cx) (pins : List (Addr × Obj)) (σ : L2.St) (Q : VK) (u : Value) (s' : Shared) : Prop where
  ex : ∃ (s1 : Shared) (H1 : Hp) (a b : Addr) (ks : List Key) (ys : List V) (us1 us2 : List Value) (h' : Heap), u = .ref (s1.heap.objs.size + 4) ∧ s' = { s1 with heap := h' } ∧ Inv X pins σ H1 s1 ∧ Vals (ks.map kV) us1 ∧ Vals ys us2 ∧ ks.length = ys.length ∧ ks.length ≤ sizeLine ∧
    (IsZip h' (s1.heap.objs.size + 4) (s1.heap.objs.size + 2) (s1.heap.objs.size + 3) .none ∧ IsTupOf2 h' (s1.heap.objs.size + 2) (.ref s1.heap.objs.size) (.ref (s1.heap.objs.size + 1)) ∧ (∃ x y, IsTupOf2 h' (s1.heap.objs.size + 3) x y) ∧ Z1 s1.heap.objs.size a us1.toArray 0 h' ∧ Z2 (s1.heap.objs.size + 1) b us2.toArray 0 h') ∧
    h'.objs.size = s1.heap.objs.size + 5 ∧ (∀ c o, s1.heap.get? c = some o → h'.get? c = some o) ∧ a < s1.heap.objs.size ∧ b < s1.heap.objs.size ∧ ∀ p, H1 p = none → Q (.ref p) (upd H1 p (.dK (mergeK [] (ks.zip ys))))
end Mn

/-! Mn62: dict(zip(xs, ys)), by data: xs a list of ints, none twice. -/
namespace Mn
open PySem PySem.Spec PyProof.Rows L2 RZ
def zpKD (ks : List Int) (ys : List Dv) : List (Key × Dv) := (ks.zip ys).map fun p => (.inl p.1, p.2)
section
variable {K : PySem.W.Frag} {H : Hp} {α : List Addr}
end
section
variable {X : Cx} {W : Wd X.K X.mg}
end
end Mn

/-! Mn63: not e as a value, by e's truth. -/
namespace Mn
open PySem PySem.Spec PyProof.Rows L2
def mNotT (a : ME) : ME := fun ρ => do
  let v ← a ρ
  let b ← truth v
  pure (.bl !b)
section
variable {X : Cx} {W : Wd X.K X.mg}
end
end Mn

/-! Cm25: mirrors of k04. -/
namespace Cm25
open PySem PySem.Spec PyProof.Rows L2 Mn
def m_Search_best_way : MS := (sSeq (sSet 2 (mBin oIx (mMeth "Search" "best" 1 (Cm20.c_Search_best 20) (mVar 0) (msCons (mVar 1) msNil)) (mC (.int 1)))) (sRet (mBin oIx (mLc (srcV (mMeth "Search" "ways" 1 Cm20.c_Search_ways (mVar 0) (msCons (mVar 1) msNil))) (.nm 3) (bB (mBin oEq (mBin oIx (mVar 3) (mC (.int 0))) (mVar 2))) (mVar 3) [3]) (mC (.int 0)))))
def c_Search_best_way : List Dv → MX Dv := defM 2 m_Search_best_way
def m_grown (C : List Dv → MX Dv) : MS := (sSeq (sSet 2 (mCallU 1 Cm20.c_inside (msCons (mVar 1) msNil))) (sSeq (sIf (bNot (bTru (mVar 2))) (sRet (mTup (msCons (mC (.str "nobody")) msNil))) sNil) (sSeq (sIf (bB (mBin oEq (mCall (k1 lenD) (msCons (mVar 2) msNil)) (mC (.int 1)))) (sRet (mTup (msCons (mC (.str "found")) (msCons (mBin oIx (mVar 2) (mC (.int 0))) msNil)))) sNil) (sSeq (sAsg (.tp [(.nm 3), (.nm 4), (.nm 5)]) (mMeth "Search" "best_way" 1 Cm25.c_Search_best_way (mVar 0) (msCons (mVar 1) msNil))) (sRet (mTup (msCons (mC (.str "ask")) (msCons (mVar 3) (msCons (mCallU 2 C (msCons (mVar 0) (msCons (mVar 4) msNil))) (msCons (mCallU 2 C (msCons (mVar 0) (msCons (mVar 5) msNil))) msNil))))))))))
def c_grown : Nat → List Dv → MX Dv
  | 0 => fun _ => MX.stuck
  | n + 1 => defM 4 (m_grown (c_grown n))
def m_least_tree : MS := (sSeq (sDrop (mCallU 1 Cm20.c_check_size (msCons (mVar 1) msNil))) (sSeq (sIf (bB (mBin oGt (mMeth "Search" "needed" 1 Cm22.c_Search_needed (mVar 0) (msCons (mVar 1) msNil)) (mC (.int 14)))) (sRaise "TooGreat") sNil) (sRet (mCallU 2 (Cm25.c_grown 20) (msCons (mVar 0) (msCons (mVar 1) msNil))))))
def c_least_tree : List Dv → MX Dv := defM 0 m_least_tree
def m_best_tree : MS := (sRet (mCallU 2 Cm25.c_least_tree (msCons (mMake "Search" 3 Cm20.c_Search___init__ (msCons (mVar 0) (msCons (mVar 1) (msCons (mFnV "taken") msNil)))) (msCons (mVar 2) msNil))))
def c_best_tree : List Dv → MX Dv := defM 0 m_best_tree
def m__law_pair : MS := (sRet (mTup (msCons (mC (.str "history")) (msCons (mTup (msCons (mTup (msCons (mC (.str "a")) (msCons (mTup msNil) msNil))) (msCons (mTup (msCons (mC (.str "b")) (msCons (mTup (msCons (mC (.int 0)) msNil)) msNil))) msNil))) msNil))))
def c__law_pair : List Dv → MX Dv := defM 0 m__law_pair
def m__law_refused : MS := (sSeq (sTry [("TooGreat", true)] (sDrop (mCallU 3 Cm25.c_best_tree (msCons (mCallU 0 Cm25.c__law_pair msNil) (msCons (mTup msNil) (msCons (mTup (msCons (mC (.int 7)) (msCons (mC (.int 7)) msNil))) msNil))))) (sRet (mC (.bl true)))) (sRet (mC (.bl false))))
def c__law_refused : List Dv → MX Dv := defM 0 m__law_refused
def m_is_ask (C : List Dv → MX Dv) : MS := (sSeq (sAsg (.tp [(.nm 5), (.nm 6), (.nm 7), (.nm 8)]) (mVar 4)) (sSeq (sIf (bOr (bB (mBin oLt (mVar 3) (mC (.int 1)))) (bOr (bNot (bB (mCallU 1 Cm.c_is_integer (msCons (mVar 6) msNil)))) (bB (mBin oNotIn (mVar 6) (mVar 1))))) (sRet (mC (.bl false))) sNil) (sSeq (sIf (bNot (bB (mCallU 5 C (msCons (mVar 0) (msCons (mVar 1) (msCons (mCallF 0 "taken" 3 Cm.c_taken (msCons (mVar 2) (msCons (mBin oIx (mVar 1) (mVar 6)) (msCons (mC (.str "broken")) msNil)))) (msCons (mBin oSub (mVar 3) (mC (.int 1))) (msCons (mVar 7) msNil)))))))) (sRet (mC (.bl false))) sNil) (sRet (mCallU 5 C (msCons (mVar 0) (msCons (mVar 1) (msCons (mCallF 0 "taken" 3 Cm.c_taken (msCons (mVar 2) (msCons (mBin oIx (mVar 1) (mVar 6)) (msCons (mC (.str "works")) msNil)))) (msCons (mBin oSub (mVar 3) (mC (.int 1))) (msCons (mVar 8) msNil))))))))))
def c_is_ask (C : List Dv → MX Dv) : List Dv → MX Dv := defM 4 (m_is_ask C)
def m_is_tree (C : List Dv → MX Dv) : MS := (sSeq (sIf (bNot (bB (mIsi "tuple" (mVar 4)))) (sRet (mC (.bl false))) sNil) (sSeq (sIf (bAnd (bB (mBin oEq (mCall (k1 lenD) (msCons (mVar 4) msNil)) (mC (.int 4)))) (bB (mBin oEq (mBin oIx (mVar 4) (mC (.int 0))) (mC (.str "ask"))))) (sRet (mCallU 5 (Cm25.c_is_ask C) (msCons (mVar 0) (msCons (mVar 1) (msCons (mVar 2) (msCons (mVar 3) (msCons (mVar 4) msNil))))))) sNil) (sSeq (sIf (bAnd (bB (mBin oEq (mCall (k1 lenD) (msCons (mVar 4) msNil)) (mC (.int 2)))) (bB (mBin oEq (mBin oIx (mVar 4) (mC (.int 0))) (mC (.str "found"))))) (sRet (mAnd (mCallU 1 Cm.c_is_integer (msCons (mBin oIx (mVar 4) (mC (.int 1))) msNil)) (mBin oEq (mCallU 1 Cm20.c_inside (msCons (mVar 2) msNil)) (mTup (msCons (mBin oIx (mVar 4) (mC (.int 1))) msNil))))) sNil) (sRet (mAnd (mBin oEq (mVar 4) (mTup (msCons (mC (.str "nobody")) msNil))) (mNotT (mCallU 1 Cm20.c_inside (msCons (mVar 2) msNil))))))))
def c_is_tree : Nat → List Dv → MX Dv
  | 0 => fun _ => MX.stuck
  | n + 1 => defM 0 (m_is_tree (c_is_tree n))
end Cm25

/-! Mn64: {k: v} with a nested key. -/
namespace Mn
open PySem PySem.Spec PyProof.Rows L2 RZ
section
variable {X : Cx}
end
section
variable {X : Cx} {W : Wd X.K X.mg}
end
section
variable {E : Exn → Th → Prop} {θ : Th} {ρ : DEnv}
end
end Mn

/-! Mn65: dicts with nested keys walked and asked while locked, sorted; data compared by < and >=. -/
namespace Mn
open PySem PySem.Spec PyProof.Rows L2
/-! ### walked -/
section
variable {X : Cx} {pins : List (Addr × Obj)} {σ : L2.St} {H : Hp} {s : Shared} {d : Addr} {o : Obj} {vs : List (NestedKey × V)} {bs : List Addr}
end
section
variable {P : Program} {w : World} {K : PySem.W.Frag} {tg : Expr} {d : Addr} {o : Obj} {es : Array DictEntry} {ep : Nat} {vs : List (NestedKey × V)} {bs : List Addr}
end
/-! ### a key as a datum -/
mutual
def nkDv : NestedKey → Dv
  | .num i => .int i
  | .tup ks => .tup (nkDvs ks)
  | _ => .non
def nkDvs : List NestedKey → List Dv
  | [] => []
  | k :: ks => nkDv k :: nkDvs ks
end
section
variable {K : PySem.W.Frag} {H : Hp} {α : List Addr}
mutual
theorem nkDv_rp : ∀ (k : NestedKey) (v : V), NkH H k v → Rp K H α (nkDv k) v
  | .none, _, q => by cases q
  | .num i, _, q => by
    cases q
    unfold nkDv
    exact rp_int
  | .text x, _, q => by cases q
  | .tup ks, _, q => by
    cases q with
    | tup h1 h2 =>
      unfold nkDv Rp
      exact ⟨_, _, rfl, h1, nkDvs_rp ks _ h2⟩
theorem nkDvs_rp : ∀ (ks : List NestedKey) (vs : List V), NkHs H ks vs → Rps K H α (nkDvs ks) vs
  | [], _, q => by
    cases q
    unfold nkDvs
    exact Rps.nil
  | k :: ks, _, q => by
    cases q with
    | cons h1 h2 =>
      unfold nkDvs
      exact Rps.cons (nkDv_rp k _ h1) (nkDvs_rp ks _ h2)
end
mutual
theorem nkDp : ∀ (k : NestedKey) (v : V), NkH H k v → Dp K H v k.data
  | .none, _, q => by cases q
  | .num i, _, q => by
    cases q
    unfold NestedKey.data
    exact .int i
  | .text x, _, q => by cases q
  | .tup ks, _, q => by
    cases q with
    | tup h1 h2 =>
      unfold NestedKey.data
      exact .tup (SqT.of h1) (nkDps ks _ h2)
theorem nkDps : ∀ (ks : List NestedKey) (vs : List V), NkHs H ks vs → DpAll K H vs (NestedKey.datas ks)
  | [], _, q => by
    cases q
    unfold NestedKey.datas
    exact .nil
  | k :: ks, _, q => by
    cases q with
    | cons h1 h2 =>
      unfold NestedKey.datas
      exact .cons (nkDp k _ h1) (nkDps ks _ h2)
end
end
section
variable {X : Cx} {W : Wd X.K X.mg}
/-! ### asked while locked -/
/-! ### sorted(d) -/
/-! ### data compared -/
end
section
variable {E : Exn → Th → Prop} {θ : Th} {ρ : DEnv}
end
end Mn

/-! Mn66: dict comprehensions whose keys are nested. -/
namespace Mn
open PySem PySem.Spec PyProof.Rows L2
section
variable {X : Cx} {W : Wd X.K X.mg}
end
section
variable {E : Exn → Th → Prop} {θ : Th} {ρ : DEnv}
end
end Mn

/-! Cm26: mirrors of k14. -/
namespace Cm26
open PySem PySem.Spec PyProof.Rows L2 Mn
def m__law_is_number : MS := (sRet (mAnd (mIsi "int" (mVar 0)) (mUn oNot (mIsi "bool" (mVar 0)))))
def c__law_is_number : List Dv → MX Dv := defM 0 m__law_is_number
end Cm26

/-! Mn67: sorted(t), t a tuple of data. -/
namespace Mn
open PySem PySem.Spec PyProof.Rows L2
section
variable {prog : Program} {w : World} {A : Around} {E : Value → Shared → Prop} {s : Shared}
end
section
variable {X : Cx} {W : Wd X.K X.mg}
end
section
variable {E : Exn → Th → Prop} {θ : Th} {Q : Dv → Th → Prop}
end
end Mn

/-! Cm27: mirrors of k15. -/
namespace Cm27
open PySem PySem.Spec PyProof.Rows L2 Mn
def m__law_takes_tree (C : List Dv → MX Dv) : MS := (sSeq (sIf (bOr (bNot (bB (mIsi "tuple" (mVar 3)))) (bB (mBin oEq (mCall (k1 lenD) (msCons (mVar 3) msNil)) (mC (.int 0))))) (sRet (mC (.bl false))) sNil) (sSeq (sSet 4 (mCallU 1 Cm.c__law_inside (msCons (mVar 1) msNil))) (sSeq (sIf (bB (mBin oEq (mBin oIx (mVar 3) (mC (.int 0))) (mC (.str "ask")))) (sSeq (sIf (bOr (bB (mBin oNe (mCall (k1 lenD) (msCons (mVar 3) msNil)) (mC (.int 4)))) (bOr (bB (mBin oEq (mVar 2) (mC (.int 0)))) (bNot (bB (mCallU 1 Cm26.c__law_is_number (msCons (mBin oIx (mVar 3) (mC (.int 1))) msNil)))))) (sRet (mC (.bl false))) sNil) (sSeq (sSet 5 (mLc (srcV (mVar 0)) (.nm 6) (bB (mBin oEq (mBin oIx (mVar 6) (mC (.int 0))) (mBin oIx (mVar 3) (mC (.int 1))))) (mBin oIx (mVar 6) (mC (.int 1))) [6])) (sSeq (sIf (bB (mBin oEq (mVar 5) (mLst msNil))) (sRet (mC (.bl false))) sNil) (sSeq (sSet 7 (mCallU 2 Cm22.c__law_both (msCons (mVar 1) (msCons (mBin oIx (mVar 5) (mC (.int 0))) msNil)))) (sRet (mAnd (mCallU 4 C (msCons (mVar 0) (msCons (mBin oIx (mVar 7) (mC (.int 0))) (msCons (mBin oSub (mVar 2) (mC (.int 1))) (msCons (mBin oIx (mVar 3) (mC (.int 2))) msNil))))) (mCallU 4 C (msCons (mVar 0) (msCons (mBin oIx (mVar 7) (mC (.int 1))) (msCons (mBin oSub (mVar 2) (mC (.int 1))) (msCons (mBin oIx (mVar 3) (mC (.int 3))) msNil))))))))))) sNil) (sSeq (sIf (bB (mBin oEq (mCall (k1 lenD) (msCons (mVar 3) msNil)) (mC (.int 1)))) (sRet (mAnd (mBin oEq (mBin oIx (mVar 3) (mC (.int 0))) (mC (.str "nobody"))) (mBin oEq (mVar 4) (mLst msNil)))) sNil) (sRet (mAnd (mBin oEq (mCall (k1 lenD) (msCons (mVar 3) msNil)) (mC (.int 2))) (mAnd (mBin oEq (mBin oIx (mVar 3) (mC (.int 0))) (mC (.str "found"))) (mAnd (mCallU 1 Cm26.c__law_is_number (msCons (mBin oIx (mVar 3) (mC (.int 1))) msNil)) (mBin oEq (mVar 4) (mLst (msCons (mBin oIx (mVar 3) (mC (.int 1))) msNil)))))))))))
def c__law_takes_tree : Nat → List Dv → MX Dv
  | 0 => fun _ => MX.stuck
  | n + 1 => defM 4 (m__law_takes_tree (c__law_takes_tree n))
end Cm27

/-! Mn68: [elt for x in xs for y in ys]. -/
namespace Mn
open PySem PySem.Spec PyProof.Rows L2
def lcGo2 (src : Src) (T : Tg) (cond : DEnv → MX Bool) (ms1 : DEnv → MX Src) (T1 : Tg) (cond1 : DEnv → MX Bool) (elt : ME) (k : Nat) (ρ : DEnv) (vs1 : List Nat) : Nat → Nat → Th → (Th → Prop) → Prop
  | 0, _, _, _ => False
  | n + 1, i, θ, Q => match src.at θ i with
    | none => False
    | some none => Q θ
    | some (some d) => match asgT T d ρ with
      | none => False
      | some ρ1 => cond ρ1 (fun _ _ => False) θ fun b θ1 => match b with
        | true => ms1 ρ1 (fun _ _ => False) θ1 fun src1 θ2 => ∃ m, lcGo src1 T1 cond1 elt k (wipeE ρ1 vs1) m 0 θ2 fun θ3 => lcGo2 src T cond ms1 T1 cond1 elt k ρ vs1 n (i + 1) θ3 Q
        | false => lcGo2 src T cond ms1 T1 cond1 elt k ρ vs1 n (i + 1) θ1 Q
def mLc2 (ms : DEnv → MX Src) (T : Tg) (cond : DEnv → MX Bool) (ms1 : DEnv → MX Src) (T1 : Tg) (cond1 : DEnv → MX Bool) (elt : ME) (vs vs1 : List Nat) : ME := fun ρ E θ Q => ms ρ E θ fun src θ' =>
  ∃ n, lcGo2 src T cond ms1 T1 cond1 elt θ'.length (wipeE ρ vs) vs1 n 0 (θ' ++ [.lst []]) fun θ2 => Q (.obj θ'.length) θ2
section
variable {X : Cx} {W : Wd X.K X.mg}
theorem tm_lc2 {ms : DEnv → MX Src} {T : Tg} {cond : DEnv → MX Bool} {ms1 : DEnv → MX Src} {T1 : Tg} {cond1 : DEnv → MX Bool} {elt : ME} {vs vs1 : List Nat} (hv : ∀ i ∈ T.vars, i ∈ vs) (hv1 : ∀ i ∈ T1.vars, i ∈ vs1) (σ : L2.St) (H : Hp) (Q : VK) :
    tM W (mLc2 ms T cond ms1 T1 cond1 elt vs vs1) σ H Q → tLc2 (tIm W ms) (gT X.K T) (tMb W.calm cond) (tIm W.calm ms1) (gT X.K T1) (tMb W.calm cond1) (tM W.calm elt) vs vs1 σ H Q :=
  fun ⟨ρ, α, θ, Qm, at', rs, q, u⟩ => ⟨ρ, α, θ, _, at', rs, q, fun src θ0 α0 H0 ⟨n, q0⟩ ok0 nx0 J wk D hD => by
    have at0 : At W H0 α0 θ0 := ⟨ok0, at'.nx.trans nx0⟩
    have nxD : Nx X.K H0 α0 (upd H0 D (.lst [])) (α0 ++ [D]) := Nx.new hD _
    have okD : Okk X.K (upd H0 D (.lst [])) (α0 ++ [D]) (θ0 ++ [.lst []]) := ok0.new hD ⟨[], upd_same, Rps.nil⟩
    have hk : (α0 ++ [D])[θ0.length]? = some D := by rw [← ok0.len]; simp
    refine ⟨fun i m H1 => ∃ α1 θ1, At W H1 α1 θ1 ∧ Nx X.K (upd H0 D (.lst [])) (α0 ++ [D]) H1 α1 ∧ lcGo2 src T cond ms1 T1 cond1 elt θ0.length (wipeE ρ vs) vs1 m i θ1 (fun θ2 => Qm (.obj θ0.length) θ2), ⟨n, α0 ++ [D], _, ⟨okD, at0.nx.trans nxD⟩, Nx.refl, q0⟩, ?_⟩
    rintro i m H1 ⟨α1, θ1, at1, nx1, q1⟩
    cases m with
    | zero => exact False.elim q1
    | succ m =>
      unfold lcGo2 at q1
      have w1 := wk H1 α1 θ1 (nxD.trans nx1) at1.ok i
      have nxA : Nx X.K H α H1 α1 := (nx0.trans nxD).trans nx1
      have rsW : RS X.K H1 α1 (wipe σ vs) (wipeE ρ vs) := (rs.mono nxA).wipe vs
      split at q1
      · exact q1.elim
      · rename_i e
        have st : J.stop i H1 := w1 _ e
        exact .inl ⟨st, u (.obj θ0.length) θ1 α1 H1 (.ref D) q1 at1.ok nxA (rp_obj (nx1.at hk))⟩
      · rename_i d e
        obtain ⟨go, yl⟩ : Wk X.K J i H1 α1 θ1 (some d) := w1 _ e
        split at q1
        · exact q1.elim
        · rename_i ρ2 ea
          refine .inr ⟨go, fun H3 => ∃ α3 θ3, At W H3 α3 θ3 ∧ Nx X.K (upd H0 D (.lst [])) (α0 ++ [D]) H3 α3 ∧ lcGo2 src T cond ms1 T1 cond1 elt θ0.length (wipeE ρ vs) vs1 m (i + 1) θ3 (fun θ2 => Qm (.obj θ0.length) θ2), fun H3 h3 => ⟨m, Nat.lt_succ_self m, h3⟩, fun x H2 y => ?_⟩
          obtain ⟨ok2, nx2, r2⟩ := yl x H2 y
          refine gT_ok r2 (rsW.mono nx2) ea fun σ2 rs2 bt => ?_
          refine ⟨by rw [wipe_but (bt.mono hv), wipe_wipe], ?_⟩
          have nx12 := nx1.trans nx2
          refine ⟨ρ2, α1, θ1, _, ⟨ok2, at1.nx.trans nx2⟩, rs2, q1, fun b θ3 α3 H3 q3 ok3 nx3 => ?_⟩
          cases b with
          | false => exact iteF ⟨α3, θ3, ⟨ok3, (at1.nx.trans nx2).trans nx3⟩, nx12.trans nx3, q3⟩
          | true =>
            have at3 : At W H3 α3 θ3 := ⟨ok3, (at1.nx.trans nx2).trans nx3⟩
            have nx13 := nx12.trans nx3
            refine iteT ⟨ρ2, α3, θ3, _, ⟨at3.ok, at3.nx⟩, rs2.mono nx3, q3, fun src1 θ4 α4 H4 ⟨n1, q4⟩ ok4 nx4 J1 wk1 => ?_⟩
            refine ⟨fun j m1 H5 => ∃ α5 θ5, At W H5 α5 θ5 ∧ Nx X.K H4 α4 H5 α5 ∧ lcGo src1 T1 cond1 elt θ0.length (wipeE ρ2 vs1) m1 j θ5 (fun θ6 => lcGo2 src T cond ms1 T1 cond1 elt θ0.length (wipeE ρ vs) vs1 m (i + 1) θ6 (fun θ2 => Qm (.obj θ0.length) θ2)), ⟨n1, α4, θ4, ⟨ok4, at3.nx.trans nx4⟩, Nx.refl, q4⟩, ?_⟩
            rintro j m1 H5 ⟨α5, θ5, at5, nx5, q5⟩
            cases m1 with
            | zero => exact False.elim q5
            | succ m1 =>
              unfold lcGo at q5
              have w5 := wk1 H5 α5 θ5 nx5 at5.ok j
              have nx45 : Nx X.K H3 α3 H5 α5 := nx4.trans nx5
              have rsW5 : RS X.K H5 α5 (wipe σ2 vs1) (wipeE ρ2 vs1) := ((rs2.mono nx3).mono nx45).wipe vs1
              split at q5
              · exact q5.elim
              · rename_i e5
                have st5 : J1.stop j H5 := w5 _ e5
                exact .inl ⟨st5, α5, θ5, at5, nx13.trans nx45, q5⟩
              · rename_i d5 e5
                obtain ⟨go5, yl5⟩ : Wk X.K J1 j H5 α5 θ5 (some d5) := w5 _ e5
                split at q5
                · exact q5.elim
                · rename_i ρ6 ea5
                  refine .inr ⟨go5, fun H7 => ∃ α7 θ7, At W H7 α7 θ7 ∧ Nx X.K H4 α4 H7 α7 ∧ lcGo src1 T1 cond1 elt θ0.length (wipeE ρ2 vs1) m1 (j + 1) θ7 (fun θ6 => lcGo2 src T cond ms1 T1 cond1 elt θ0.length (wipeE ρ vs) vs1 m (i + 1) θ6 (fun θ2 => Qm (.obj θ0.length) θ2)), fun H7 h7 => ⟨m1, Nat.lt_succ_self m1, h7⟩, fun x5 H6 y5 => ?_⟩
                  obtain ⟨ok6, nx6, r6⟩ := yl5 x5 H6 y5
                  refine gT_ok r6 (rsW5.mono nx6) ea5 fun σ6 rs6 bt6 => ?_
                  refine ⟨by rw [wipe_but (bt6.mono hv1), wipe_wipe], ?_⟩
                  refine ⟨ρ6, α5, θ5, _, ⟨ok6, at5.nx.trans nx6⟩, rs6, q5, fun b θ7 α7 H7 q7 ok7 nx7 => ?_⟩
                  cases b with
                  | false => exact iteF ⟨α7, θ7, ⟨ok7, (at5.nx.trans nx6).trans nx7⟩, (nx5.trans nx6).trans nx7, q7⟩
                  | true =>
                    refine iteT ⟨ρ6, α7, θ7, _, ⟨ok7, (at5.nx.trans nx6).trans nx7⟩, rs6.mono nx7, q7, fun yd θ8 α8 H8 yv q8 ok8 nx8 r8 => ?_⟩
                    have nxT := ((nx5.trans nx6).trans nx7).trans nx8
                    have nxU := (nx13.trans nx4).trans nxT
                    split at q8
                    · rename_i acc e8
                      obtain ⟨us, h1, h2⟩ := ok8.ob θ0.length D _ (nxU.at hk) e8
                      have nx9 : Nx X.K H8 α8 (upd H8 D (.lst (us ++ [yv]))) α8 := Nx.chg (ok8.ob θ0.length D _ (nxU.at hk) e8)
                      refine ⟨us, h1, by rw [h2.length]; exact q8.1, α8, _, ⟨ok8.chg (ob := .lst (acc ++ [yd])) (nxU.at hk) e8 ⟨_, upd_same, (h2.mono nx9).append (.cons (r8.mono nx9) .nil)⟩, (((at5.nx.trans nx6).trans nx7).trans nx8).trans nx9⟩, nxT.trans nx9, q8.2⟩
                    · exact q8.elim⟩
theorem sm_lc2 {i : Nat} {y : Str} {py : Pos} {elt tg iter tg1 iter1 : Expr} {ifs ifs1 : List Expr} {scope : Scope} {vs vs1 : List Nat} {pos spos : Pos} {ms ms1 : DEnv → MX Src} {T T1 : Tg} {cond cond1 : DEnv → MX Bool} {me : ME} (own : List (Str × Nat)) (c : Cf X) (hy : X.N[i]? = some y) (hyl : X.env.scope.names.lookup y = some .local)
    (hsw : swapsWith (.ListComp elt [⟨tg, iter, ifs, 0⟩, ⟨tg1, iter1, ifs1, 0⟩] scope pos) (some (.Name y py)) spos.line X.env = pure true) (hi : PI X tg iter (tIm W ms)) (ok : BlkOk X.N X.env.scope scope own)
    (hg : ∀ (s : Shared) (H : Hp) (C : Addr) (cl : List (Str × Addr)) (fp : List Addr), PG (X.blk s H scope (compEnvC scope cl C X.env) fp) tg (gT X.K T))
    (ht : ∀ (s : Shared) (H : Hp) (C : Addr) (cl : List (Str × Addr)) (fp : List Addr), PTs (X.blk s H scope (compEnvC scope cl C X.env) fp) ifs (tMb W.calm cond))
    (hi1 : ∀ (s : Shared) (H : Hp) (C : Addr) (cl : List (Str × Addr)) (fp : List Addr), PI (X.blk s H scope (compEnvC scope cl C X.env) fp) tg1 iter1 (tIm W.calm ms1))
    (hg1 : ∀ (s : Shared) (H : Hp) (C : Addr) (cl : List (Str × Addr)) (fp : List Addr), PG (X.blk s H scope (compEnvC scope cl C X.env) fp) tg1 (gT X.K T1))
    (ht1 : ∀ (s : Shared) (H : Hp) (C : Addr) (cl : List (Str × Addr)) (fp : List Addr), PTs (X.blk s H scope (compEnvC scope cl C X.env) fp) ifs1 (tMb W.calm cond1))
    (he : ∀ (s : Shared) (H : Hp) (C : Addr) (cl : List (Str × Addr)) (fp : List Addr), PE (X.blk s H scope (compEnvC scope cl C X.env) fp) elt (tM W.calm me))
    (hvs : own.map (·.2) = vs := by rfl) (hv : ∀ i ∈ T.vars, i ∈ vs := by decide) (hv1 : ∀ i ∈ T1.vars, i ∈ vs1 := by decide) (hvv : ∀ i ∈ vs1, i ∈ vs := by decide) (hs : ∀ x, foldedSetIterable iter X.env x = pure x := by intro _; rfl) (hs1 : ∀ env x, foldedSetIterable iter1 env x = pure x := by intro _ _; rfl) :
    PS X (.Assign [.Name y py] (.ListComp elt [⟨tg, iter, ifs, 0⟩, ⟨tg1, iter1, ifs1, 0⟩] scope pos) spos) (tS W (sSet i (mLc2 ms T cond ms1 T1 cond1 me vs vs1))) := by
  subst hvs
  exact sm_setLc (ps_setLc2 c.calm c.nd hy hyl hsw hi ok hvv hg ht hi1 hg1 ht1 he hs hs1) (tm_lc2 hv hv1)
end
/-- *a, a a list -/
def msStarL (a : ME) (r : DEnv → MX (List Dv)) : DEnv → MX (List Dv) := fun ρ E θ Q => a ρ E θ fun x θ1 => match x with
  | .obj k => (match θ1[k]? with
    | some (.lst ds) => r ρ E θ1 fun es θ2 => Q (ds ++ es) θ2
    | _ => False)
  | _ => False
section
variable {X : Cx} {W : Wd X.K X.mg}
theorem am_starL {a : Expr} {es : List Expr} {p : Pos} {ma : ME} {ms : DEnv → MX (List Dv)} (ha : PE X a (tM W ma)) (hr : PA X es (tMs W ms)) (hs : starEach (.Starred a p :: es) X.env = (true, eval a X.env) :: starEach es X.env := by rfl) : PA X (.Starred a p :: es) (tMs W (msStarL ma ms)) :=
  pa_w (StX.pa_star ha hr hs) fun σ H Q ⟨ρ, α, θ, Qm, at', rs, q, u⟩ => ⟨ρ, α, θ, _, at', rs, q, fun d θ1 α1 H1 v q1 ok1 nx1 r1 => by
    cases d with
    | obj k =>
      unfold Rp at r1
      obtain ⟨p, ep, rfl⟩ := r1
      dsimp only at q1
      split at q1
      · rename_i ds e2
        obtain ⟨vs, h1, h2⟩ := ok1.ob k p _ ep e2
        exact ⟨p, vs, rfl, .inr (SqL.of h1), ρ, α1, θ1, _, ⟨ok1, at'.nx.trans nx1⟩, rs.mono nx1, q1, fun es θ2 α2 H2 ws q2 ok2 nx2 r2 => u _ θ2 α2 H2 _ q2 ok2 (nx1.trans nx2) ((h2.mono nx2).append r2)⟩
      · exact q1.elim
    | _ => exact False.elim q1⟩
end
section
variable {E : Exn → Th → Prop} {θ : Th} {ρ : DEnv} {R : List Dv → Th → Prop}
theorem x_starL {i k : Nat} {r : DEnv → MX (List Dv)} {ds : List Dv} (hi : ρ.getD i none = some (.obj k)) (hk : θ[k]? = some (.lst ds)) (h : r ρ E θ fun es θ2 => R (ds ++ es) θ2) : msStarL (mVar i) r ρ E θ R := by
  show mVar i ρ E θ _
  unfold mVar
  rw [hi]
  show (match θ[k]? with
    | some (.lst ds) => r ρ E θ fun es θ2 => R (ds ++ es) θ2
    | _ => False)
  rw [hk]
  exact h
end
end Mn

/-! Mn69: a tuple times none. -/
namespace Mn
open PySem PySem.Spec PyProof.Rows L2
theorem tup_times_none (l : Addr) (items : Array Value) (n : Nat) (dd : Option Addr) (sl : Array (Option Value)) (u : Tok) (c1 : (items.isEmpty || (0 : Int) == 1) = false) :
    Meets (Builtin.«tuple.__mul__» ⟨[.ref l, .int 0 u], []⟩) (fun _ R s =>
      s.heap.get? l = some { cls := .type "tuple", dict := dd, data := .seq items n, slots := sl } ∧ R (.ok (.ret (Value.ref s.heap.objs.size))) { s with heap := s.heap.push { cls := Value.type "tuple", data := Data.seq #[] }, toks := s.toks }) := .of_wp fun prog w A R s h => by
  obtain ⟨hp, g, d, tk, os⟩ := s
  obtain ⟨hl, h⟩ := h
  have f1 := AutoSeq1.idx_int
  wp_walk using wpAny_loadPart' hl
  repeat (first
    | (refine wpAny_ite_false (decide_eq_false (by rw [c1]; exact Bool.false_ne_true)) ?_; wp_walk using wpAny_loadPart' hl))
  exact ⟨_, rfl, h⟩
section
variable {X : Cx}
def rTimes0 (K : PySem.W.Frag) : R2 := fun x y H Q => ∃ l xs, x = .ref l ∧ y = .int 0 ∧ SqT K H l xs ∧ xs ≠ [] ∧ ∀ p, H p = none → Q (.ref p) (upd H p (.tup []))
theorem op_times0 : OpR X (binaryOp .Mult) (rTimes0 X.K) := by
  intro pins s σ H x y v u Q I rx ry h
  obtain ⟨l, xs, rfl, rfl, hT, hne, q⟩ := h
  cases rx
  obtain ⟨t, rfl⟩ := ry
  obtain ⟨its, r, ⟨⟨cls, dd, data, sl⟩, ho, hc, n, hd⟩, hs⟩ := I.tuple hT
  simp only at hc hd
  subst hc hd
  have hle : its.length = xs.length := r.length.symm
  have hi : its.toArray.isEmpty = false := by
    cases its with
    | nil => exact absurd (List.eq_nil_of_length_eq_zero hle.symm) hne
    | cons a b => rfl
  have c1 : (its.toArray.isEmpty || (0 : Int) == 1) = false := by rw [hi]; rfl
  refine wpAny_binaryOp_repeat_ref (U := "int") (T := "tuple") (by decide) ⟨_, ho, rfl⟩ (fun z => typeIs_int z 0 t) noFill_tuple_mul F.fills_int_mul F.slot_int_rmul repeat_tuple F.slot_int_index.lookup ?_
  refine call_meets F.slot_int_rmul (typeIs_int s 0 t) F.entry_int_rmul (F.args_int_rmul_2 _ _) (int_rmul_tuple 0 t l its.toArray n dd sl) ⟨ho, rfl, ⟨_, ho, rfl⟩, ?_⟩
  refine call_meets F.slot_tuple_mul ⟨_, ho, rfl⟩ F.entry_tuple_mul (F.args_tuple_mul_2 _ _) (tup_times_none l its.toArray n dd sl t c1) ⟨ho, ?_⟩
  refine ⟨.ref s.heap.objs.size, _, I.laid (t' := s.toks) (o := .tup []) (fun b ob q => Heap.get?_push_of_some _ q) (Nat.le_refl _) ?_, rfl, q _ (I.hok.fresh (Nat.le_refl _))⟩
  exact ⟨Nat.zero_le _, [], .nil, IsTup.new _ _⟩
variable {W : Wd X.K X.mg}
def oMulT2 : Dv → Dv → MX Dv
  | .tup ds, .int k => fun E θ Q => if k = 0 then ds ≠ [] ∧ Q (.tup []) θ else oMulT1 (.tup ds) (.int k) E θ Q
  | _, _ => MX.stuck
theorem om_mulT2 : OpM W (binaryOp .Mult) oMulT2 := opm_of (OpR.or op_times0 (OpR.or op_times1 op_repT)) fun {H α θ dx dy x y Qm Q} a r1 r2 q u => by
  cases dx <;> cases dy <;> first | exact False.elim q | skip
  rename_i ds k
  obtain ⟨p, vs, rfl, h1, h2⟩ := rp_tup r1
  cases of_int r2
  have q : if k = 0 then ds ≠ [] ∧ Qm (.tup []) θ else oMulT1 (.tup ds) (.int k) W.En θ Qm := q
  have nv : ds ≠ [] → vs ≠ [] := fun q1 e => q1 (by
    have := h2.length
    rw [e] at this
    exact List.eq_nil_of_length_eq_zero this.symm)
  by_cases hk0 : k = 0
  · subst hk0
    rw [if_pos rfl] at q
    exact .inl ⟨p, vs, rfl, rfl, SqT.of h1, nv q.1, fun b hb => up_tup u a q.2 Rps.nil b hb⟩
  rw [if_neg hk0] at q
  have q : if k = 1 then Qm (.tup ds) θ else oMulT (.tup ds) (.int k) W.En θ Qm := q
  by_cases hk : k = 1
  · subst hk
    rw [if_pos rfl] at q
    exact .inr (.inl ⟨p, vs, rfl, rfl, SqT.of h1, up_same u a q r1⟩)
  · rw [if_neg hk] at q
    obtain ⟨q1, q2, q3, q4, q⟩ := q
    exact .inr (.inr ⟨p, k, vs, rfl, rfl, SqT.of h1, nv q1, q2, q3, by rw [h2.length]; exact q4, fun b hb => up_tup u a q (h2.rep _) b hb⟩)
end
section
variable {E : Exn → Th → Prop} {θ : Th} {Q : Dv → Th → Prop}
theorem x_mulT2 {ds : List Dv} {k : Int} : oMulT2 (.tup ds) (.int k) E θ Q = if k = 0 then ds ≠ [] ∧ Q (.tup []) θ else oMulT1 (.tup ds) (.int k) E θ Q := (rfl)
end
end Mn

/-! Cm28: mirrors of k18. -/
namespace Cm28
open PySem PySem.Spec PyProof.Rows L2 Mn
def m__law_formula : MS := (sSeq (sSet 1 (mC (.int 1))) (sSeq (sFor (rng1 (msCons (mC (.int 80)) msNil)) (.nm 2) (sSeq (sSet 3 (mBin oAdd (mBin oMul (mVar 0) (mBin oAdd (mVar 2) (mC (.int 1)))) (mBin oMul (mBin oSub (mVar 2) (mC (.int 1))) (mCall (k1 intD) (msCons (mBin oEq (mBin oMod (mCall (k1 intD) (msCons (mVar 0) msNil)) (mC (.int 2))) (mC (.int 1))) msNil))))) (sSeq (sIf (bB (mBin oLe (mVar 3) (mVar 1))) (sRet (mVar 2)) sNil) (sSet 1 (mBin oMul (mVar 1) (mC (.int 2))))))) (sRet (mUn oNeg (mC (.int 1))))))
def c__law_formula : List Dv → MX Dv := defM 3 m__law_formula
def m_telling_tests : MS := (sSeq (sSet 1 (mLst (msCons (mTup msNil) msNil))) (sSeq (sFor (srcV (mVar 0)) (.nm 2) (sSet 1 (mLc2 (srcV (mVar 1)) (.nm 3) bYes (rng1 (msCons (mBin oAdd (mVar 2) (mC (.int 1))) msNil)) (.nm 4) bYes (mBin oAdd (mVar 3) (mTup (msCons (mVar 4) msNil))) [3, 4] [4]))) (sRet (mLc (srcV (mVar 1)) (.nm 3) (bB (mChain oLt oLt (mC (.int 0)) (mCall (k1 sumD) (msCons (mVar 3) msNil)) (mCall (k1 sumD) (msCons (mVar 0) msNil)))) (mVar 3) [3]))))
def c_telling_tests : List Dv → MX Dv := defM 4 m_telling_tests
def m_counts_after : MS := (sSeq (sSet 3 (mLc (srcZp (msCons (mVar 0) (msCons (mVar 1) msNil))) (.tp [(.nm 4), (.nm 5)]) bYes (mIf (bTru (mVar 2)) (mVar 5) (mBin oSub (mVar 4) (mVar 5))) [4, 5])) (sSeq (sSet 6 (mLc (srcZp (msCons (mVar 0) (msCons (mVar 3) msNil))) (.tp [(.nm 4), (.nm 5)]) bYes (mBin oSub (mVar 4) (mVar 5)) [4, 5])) (sRet (mCall (k1 tupD) (msCons (mLc (srcZp (msCons (mVar 3) (msCons (mLst (msCons (mC (.int 0)) (msStarL (mVar 6) msNil))) msNil))) (.tp [(.nm 5), (.nm 7)]) bYes (mBin oAdd (mVar 5) (mVar 7)) [5, 7]) msNil)))))
def c_counts_after : List Dv → MX Dv := defM 5 m_counts_after
def m_needed (C : List Dv → MX Dv) : MS := (sSeq (sIf (bB (mBin oLe (mCall (k1 sumD) (msCons (mVar 1) msNil)) (mC (.int 1)))) (sRet (mC (.int 0))) sNil) (sSeq (sIf (bB (mBin oNotIn (mVar 1) (mVar 0))) (sPut (mVar 0) (mVar 1) (mBin oAdd (mC (.int 1)) (mCall (k1 (onInts minL)) (msCons (mLc (srcV (mCallU 1 Cm28.c_telling_tests (msCons (mVar 1) msNil))) (.nm 2) bYes (mCall (max2) (msCons (mCallU 2 C (msCons (mVar 0) (msCons (mCallU 3 Cm28.c_counts_after (msCons (mVar 1) (msCons (mVar 2) (msCons (mC (.bl true)) msNil)))) msNil))) (msCons (mCallU 2 C (msCons (mVar 0) (msCons (mCallU 3 Cm28.c_counts_after (msCons (mVar 1) (msCons (mVar 2) (msCons (mC (.bl false)) msNil)))) msNil))) msNil))) [2]) msNil)))) sNil) (sRet (mBin oIx (mVar 0) (mVar 1)))))
def c_needed : Nat → List Dv → MX Dv
  | 0 => fun _ => MX.stuck
  | n + 1 => defM 1 (m_needed (c_needed n))
def m_fewest_counts : MS := (sSeq (sIf (bB (mBin oGt (mBin oMul (mVar 0) (mBin oAdd (mVar 1) (mC (.int 1)))) (mC (.int 24)))) (sRaise "TooGreat") sNil) (sRet (mCallU 2 (Cm28.c_needed 26) (msCons mDT (msCons (mBin oAdd (mTup (msCons (mVar 0) msNil)) (mBin oMulT2 (mTup (msCons (mC (.int 0)) msNil)) (mVar 1))) msNil)))))
def c_fewest_counts : List Dv → MX Dv := defM 0 m_fewest_counts
def m__law_refused : MS := (sSeq (sTry [("TooGreat", true)] (sDrop (mCallU 2 Cm28.c_fewest_counts (msCons (mVar 0) (msCons (mVar 1) msNil)))) (sRet (mC (.bl true)))) (sRet (mC (.bl false))))
def c__law_refused : List Dv → MX Dv := defM 0 m__law_refused
def m_counts_weight : MS := (sSeq (sSet 2 (mBin oSub (mCall (k1 lenD) (msCons (mVar 0) msNil)) (mC (.int 1)))) (sRet (mCall (k1 (onInts sumL)) (msCons (mLc (srcEn (msCons (mVar 0) msNil)) (.tp [(.nm 3), (.nm 4)]) bYes (mBin oMul (mVar 4) (mCallU 2 Cm7.c_choices (msCons (mVar 1) (msCons (mBin oSub (mVar 2) (mVar 3)) msNil)))) [3, 4]) msNil))))
def c_counts_weight : List Dv → MX Dv := defM 3 m_counts_weight
def m__law_great : MS := (sSeq (sSet 1 (mLst (msCons (mC (.int 1)) msNil))) (sSeq (sSet 2 (mBin oSub (mC (.int 200)) (mCallU 2 Cm.c__law_draw (msCons (mVar 0) (msCons (mC (.int 100)) msNil))))) (sSeq (sFor (rng1 (msCons (mVar 2) msNil)) (.nm 3) (sSet 1 (mBin oAdd (mBin oAdd (mLst (msCons (mC (.int 1)) msNil)) (mLc (rng1 (msCons (mBin oSub (mCall (k1 lenD) (msCons (mVar 1) msNil)) (mC (.int 1))) msNil)) (.nm 4) bYes (mBin oAdd (mBin oIx (mVar 1) (mVar 4)) (mBin oIx (mVar 1) (mBin oAdd (mVar 4) (mC (.int 1))))) [4])) (mLst (msCons (mC (.int 1)) msNil))))) (sSeq (sSet 5 (mBin oAdd (mC (.int 1)) (mCallU 2 Cm.c__law_draw (msCons (mVar 0) (msCons (mC (.int 21)) msNil))))) (sSeq (sSet 6 (mCall (k1 tupD) (msCons (mLc (rng1 (msCons (mVar 5) msNil)) (.nm 7) bYes (mBin oSub (mBin oPow (mC (.int 10)) (mC (.int 12))) (mCallU 2 Cm.c__law_draw (msCons (mVar 0) (msCons (mC (.int 1000)) msNil)))) [7]) msNil))) (sSeq (sSet 8 (mCall (k1 (onInts sumL)) (msCons (mLc (rng1 (msCons (mVar 5) msNil)) (.nm 7) bYes (mBin oMul (mBin oIx (mVar 6) (mVar 7)) (mCall (k1 (onInts sumL)) (msCons (mSl (mVar 1) pNo (pSo (mBin oSub (mVar 5) (mVar 7)))) msNil))) [7]) msNil))) (sSeq (sSet 9 (mCall (k1 tupD) (msCons (mLc (rng1 (msCons (mVar 5) msNil)) (.nm 7) bYes (mBin oSub (mBin oIx (mVar 6) (mVar 7)) (mCallU 2 Cm.c__law_draw (msCons (mVar 0) (msCons (mC (.int 1000)) msNil)))) [7]) msNil))) (sSeq (sSet 10 (mLc (rng1 (msCons (mVar 5) msNil)) (.nm 7) bYes (mBin oSub (mBin oIx (mVar 6) (mVar 7)) (mBin oIx (mVar 9) (mVar 7))) [7])) (sSeq (sSet 11 (mCall (k1 tupD) (msCons (mLc (rng1 (msCons (mVar 5) msNil)) (.nm 7) bYes (mBin oAdd (mBin oIx (mVar 9) (mVar 7)) (mIf (bB (mBin oGt (mVar 7) (mC (.int 0)))) (mBin oIx (mVar 10) (mBin oSub (mVar 7) (mC (.int 1)))) (mC (.int 0)))) [7]) msNil))) (sSeq (sSet 12 (mCall (k1 tupD) (msCons (mLc (rng1 (msCons (mVar 5) msNil)) (.nm 7) bYes (mBin oAdd (mBin oIx (mVar 10) (mVar 7)) (mIf (bB (mBin oGt (mVar 7) (mC (.int 0)))) (mBin oIx (mVar 9) (mBin oSub (mVar 7) (mC (.int 1)))) (mC (.int 0)))) [7]) msNil))) (sSeq (sIf (bNot (bB (mCallU 2 Cm.c__law_same (msCons (mLst (msCons (mCallU 3 Cm28.c_counts_after (msCons (mVar 6) (msCons (mVar 9) (msCons (mC (.bl true)) msNil)))) (msCons (mCallU 3 Cm28.c_counts_after (msCons (mVar 6) (msCons (mVar 9) (msCons (mC (.bl false)) msNil)))) msNil))) (msCons (mLst (msCons (mVar 11) (msCons (mVar 12) msNil))) msNil))))) (sRet (mC (.bl false))) sNil) (sRet (mCallU 2 Cm.c__law_same (msCons (mCallU 2 Cm28.c_counts_weight (msCons (mVar 6) (msCons (mVar 2) msNil))) (msCons (mVar 8) msNil)))))))))))))))
def c__law_great : List Dv → MX Dv := defM 12 m__law_great
def m__law_moved : MS := (sSeq (sSet 3 (mLst msNil)) (sSeq (sFor (rng1 (msCons (mCall (k1 lenD) (msCons (mVar 0) msNil)) msNil)) (.nm 4) (sFor (rng1 (msCons (mBin oIx (mVar 0) (mVar 4)) msNil)) (.nm 5) (sSeq (sSet 6 (mBin oLt (mVar 5) (mBin oIx (mVar 1) (mVar 4)))) (sDrop (mMth "list" appendD (mVar 3) (msCons (mBin oAdd (mVar 4) (mCall (k1 intD) (msCons (mBin oNe (mVar 6) (mVar 2)) msNil))) msNil)))))) (sRet (mCall (k1 tupD) (msCons (mLc (rng1 (msCons (mCall (k1 lenD) (msCons (mVar 0) msNil)) msNil)) (.nm 4) bYes (mMth "list" countLD (mVar 3) (msCons (mVar 4) msNil)) [4]) msNil)))))
def c__law_moved : List Dv → MX Dv := defM 4 m__law_moved
def m__law_fits : MS := (sSeq (sSet 1 (mCallU 2 Cm.c__law_draw (msCons (mVar 0) (msCons (mC (.int 4)) msNil)))) (sSeq (sSet 2 (mCall (k1 tupD) (msCons (mLc (rng1 (msCons (mBin oAdd (mVar 1) (mC (.int 1))) msNil)) (.nm 3) bYes (mCallU 2 Cm.c__law_draw (msCons (mVar 0) (msCons (mC (.int 5)) msNil))) [3]) msNil))) (sSeq (sSet 4 (mCall (k1 tupD) (msCons (mLc (srcV (mVar 2)) (.nm 5) bYes (mCallU 2 Cm.c__law_draw (msCons (mVar 0) (msCons (mBin oAdd (mVar 5) (mC (.int 1))) msNil))) [5]) msNil))) (sSeq (sSet 6 (mLst (msCons (mCallU 3 Cm28.c_counts_after (msCons (mVar 2) (msCons (mVar 4) (msCons (mC (.bl true)) msNil)))) (msCons (mCallU 3 Cm28.c_counts_after (msCons (mVar 2) (msCons (mVar 4) (msCons (mC (.bl false)) msNil)))) msNil)))) (sSeq (sIf (bNot (bB (mCallU 2 Cm.c__law_same (msCons (mVar 6) (msCons (mLst (msCons (mCallU 3 Cm28.c__law_moved (msCons (mVar 2) (msCons (mVar 4) (msCons (mC (.bl true)) msNil)))) (msCons (mCallU 3 Cm28.c__law_moved (msCons (mVar 2) (msCons (mVar 4) (msCons (mC (.bl false)) msNil)))) msNil))) msNil))))) (sRet (mC (.bl false))) sNil) (sSeq (sSet 7 (mBin oAdd (mC (.int 1)) (mCallU 2 Cm.c__law_draw (msCons (mVar 0) (msCons (mC (.int 10)) msNil))))) (sSeq (sIf (bB (mBin oNe (mBin oAdd (mCallU 2 Cm28.c_counts_weight (msCons (mBin oIx (mVar 6) (mC (.int 0))) (msCons (mBin oSub (mVar 7) (mC (.int 1))) msNil))) (mCallU 2 Cm28.c_counts_weight (msCons (mBin oIx (mVar 6) (mC (.int 1))) (msCons (mBin oSub (mVar 7) (mC (.int 1))) msNil)))) (mCallU 2 Cm28.c_counts_weight (msCons (mVar 2) (msCons (mVar 7) msNil))))) (sRet (mC (.bl false))) sNil) (sRet (mBin oEq (mCallU 2 Cm28.c_counts_weight (msCons (mVar 2) (msCons (mC (.int 0)) msNil))) (mCall (k1 sumD) (msCons (mVar 2) msNil)))))))))))
def c__law_fits : List Dv → MX Dv := defM 7 m__law_fits
def m__law_tests : MS := (sSeq (sSet 1 (mLst (msCons (mTup msNil) msNil))) (sSeq (sFor (srcV (mVar 0)) (.nm 2) (sSeq (sSet 3 (mLst msNil)) (sSeq (sFor (srcV (mVar 1)) (.nm 4) (sSet 3 (mBin oAdd (mVar 3) (mLc (rng1 (msCons (mBin oAdd (mVar 2) (mC (.int 1))) msNil)) (.nm 5) bYes (mBin oAdd (mVar 4) (mTup (msCons (mVar 5) msNil))) [5])))) (sSet 1 (mVar 3))))) (sRet (mVar 1))))
def c__law_tests : List Dv → MX Dv := defM 5 m__law_tests
def m__law_settled (C : List Dv → MX Dv) : MS := (sSeq (sIf (bB (mBin oLe (mCall (k1 sumD) (msCons (mVar 0) msNil)) (mC (.int 1)))) (sRet (mC (.bl true))) sNil) (sSeq (sIf (bB (mBin oEq (mVar 1) (mC (.int 0)))) (sRet (mC (.bl false))) sNil) (sSeq (sIf (bB (mBin oNotInN (mTup (msCons (mVar 0) (msCons (mVar 1) msNil))) (mVar 2))) (sSeq (sSet 3 (mC (.bl false))) (sSeq (sFor (srcV (mCallU 1 Cm28.c__law_tests (msCons (mVar 0) msNil))) (.nm 4) (sIf (bAnd (bNot (bTru (mVar 3))) (bB (mChain oLt oLt (mC (.int 0)) (mCall (k1 sumD) (msCons (mVar 4) msNil)) (mCall (k1 sumD) (msCons (mVar 0) msNil))))) (sSet 3 (mAnd (mCallU 3 C (msCons (mCallU 3 Cm28.c__law_moved (msCons (mVar 0) (msCons (mVar 4) (msCons (mC (.bl true)) msNil)))) (msCons (mBin oSub (mVar 1) (mC (.int 1))) (msCons (mVar 2) msNil)))) (mCallU 3 C (msCons (mCallU 3 Cm28.c__law_moved (msCons (mVar 0) (msCons (mVar 4) (msCons (mC (.bl false)) msNil)))) (msCons (mBin oSub (mVar 1) (mC (.int 1))) (msCons (mVar 2) msNil)))))) sNil)) (sPutN (mVar 2) (mTup (msCons (mVar 0) (msCons (mVar 1) msNil))) (mVar 3)))) sNil) (sRet (mBin oIxN (mVar 2) (mTup (msCons (mVar 0) (msCons (mVar 1) msNil))))))))
def c__law_settled : Nat → List Dv → MX Dv
  | 0 => fun _ => MX.stuck
  | n + 1 => defM 2 (m__law_settled (c__law_settled n))
def m__law_least : MS := (sSeq (sSet 1 mDN) (sSeq (sFor (rng1 (msCons (mC (.int 30)) msNil)) (.nm 2) (sIf (bB (mCallU 3 (Cm28.c__law_settled 26) (msCons (mVar 0) (msCons (mVar 2) (msCons (mVar 1) msNil))))) (sRet (mVar 2)) sNil)) (sRet (mUn oNeg (mC (.int 1))))))
def c__law_least : List Dv → MX Dv := defM 2 m__law_least
end Cm28

/-! Su2: in how many ways so many are chosen. -/
namespace Mn
open PySem PySem.Spec PyProof.Rows L2
def mxDN := And.intro @x_var0 (And.intro @x_varS (And.intro @x_c (And.intro @x_bin (And.intro @x_un (And.intro @x_and (And.intro @x_or (And.intro @x_andK (And.intro @x_orK (And.intro @x_not (And.intro @x_if (And.intro @x_tup (And.intro @x_lst (And.intro @x_sl (And.intro @x_call (And.intro @x_callU (And.intro @x_mth (And.intro @x_isi (And.intro @x_chain (And.intro @x_chK (And.intro @x_k1 (And.intro @x_tupRg (And.intro @x_lstRg (And.intro @x_lc (And.intro @x_addI (And.intro @x_addS (And.intro @x_addT (And.intro @x_subI (And.intro @x_mulI (And.intro @x_fdiv (And.intro @x_mod (And.intro @x_pow (And.intro @x_lt (And.intro @x_le (And.intro @x_gt (And.intro @x_ge (And.intro @x_eqI (And.intro @x_eqB (And.intro @x_eqS (And.intro @x_neI (And.intro @x_neB (And.intro @x_isB (And.intro @x_isnB (And.intro @x_neg (And.intro @x_int (And.intro @x_intB (And.intro @x_lenT (And.intro @x_lenS (And.intro @x_tupT (And.intro @x_lstT (And.intro @x_ixT (And.intro @x_ixR (And.intro @x_optW (And.intro @x_nil (And.intro @x_cons (And.intro @x_bB (And.intro @x_boolK (And.intro @x_bAnd (And.intro @x_bOr (And.intro @x_bNot (And.intro @x_bYes (And.intro @x_pNo (And.intro @x_pSo (And.intro @x_part (And.intro @x_rng1 (And.intro @x_rng2 (And.intro @x_rng3 (And.intro @x_rk1 (And.intro @x_rk2 (And.intro @x_rk3 (And.intro @x_srcEn (And.intro @x_srcZp (And.intro @x_ekT (And.intro @x_zkT (And.intro @x_srcV (And.intro @x_srcT (And.intro @x_seq (And.intro @x_seqR (And.intro @x_seqB (And.intro @x_seqC (And.intro @x_sNil (And.intro @x_set (And.intro @x_drop (And.intro @x_ret (And.intro @x_retN (And.intro @x_sIf (And.intro @x_brk (And.intro @x_ct (And.intro @x_put (And.intro @x_for (And.intro @x_def (And.intro @x_defR (And.intro @x_defN (And.intro @x_ixP (And.intro @x_ixL (And.intro @x_lenP (And.intro @x_lenL (And.intro @x_tupP (And.intro @x_tupL (And.intro @x_tupKK (And.intro @x_lstP (And.intro @x_lstL (And.intro @x_appP (And.intro @x_appL (And.intro @x_tyP (And.intro @x_tyL (And.intro @x_tyK (And.intro @x_tyT (And.intro @x_putP (And.intro @x_putL (And.intro @x_putI (And.intro @x_putKK (And.intro @x_srcP (And.intro @x_srcL (And.intro @x_srcPt (And.intro @x_lenPt (And.intro @x_asg (And.intro @x_asgQ (And.intro @x_asgT2 (And.intro @x_cnt (And.intro @x_sumT2 (And.intro @x_tupPD (And.intro @x_tupPL (And.intro @x_and1 (And.intro @x_bTru (And.intro @x_truB (And.intro @x_truI (And.intro @x_truS (And.intro @x_slP (And.intro @x_slL (And.intro @x_slTu (And.intro @x_addP (And.intro @x_addL (And.intro @x_slPt (And.intro @x_slPu (And.intro @x_strI (And.intro @x_joinO (And.intro @x_joinT (And.intro @x_joinL (And.intro @x_fmt (And.intro @x_fmtS (And.intro @x_fmtI (And.intro @x_js0 (And.intro @x_js (And.intro @x_jsK (@x_index)))))))))))))))))))))))))))))))))))))))))))))))))))))))))))))))))))))))))))))))))))))))))))))))))))))))))))))))))))))))))))))))))))))))))))))))))
def mxC := And.intro @x_var0 (And.intro @x_varS (And.intro @x_c (And.intro @x_bin (And.intro @x_un (And.intro @x_and (And.intro @x_or (And.intro @x_andK (And.intro @x_orK (And.intro @x_not (And.intro @x_if (And.intro @x_tup (And.intro @x_lst (And.intro @x_sl (And.intro @x_call (And.intro @x_callU (And.intro @x_mth (And.intro @x_isi (And.intro @x_chain (And.intro @x_chK (And.intro @x_k1 (And.intro @x_tupRg (And.intro @x_lstRg (And.intro @x_lc (And.intro @x_addI (And.intro @x_addS (And.intro @x_addT (And.intro @x_subI (And.intro @x_mulI (And.intro @x_fdiv (And.intro @x_mod (And.intro @x_pow (And.intro @x_lt (And.intro @x_le (And.intro @x_gt (And.intro @x_ge (And.intro @x_eqI (And.intro @x_eqB (And.intro @x_eqS (And.intro @x_neI (And.intro @x_neB (And.intro @x_isB (And.intro @x_isnB (And.intro @x_neg (And.intro @x_int (And.intro @x_intB (And.intro @x_lenT (And.intro @x_lenS (And.intro @x_tupT (And.intro @x_lstT (And.intro @x_ixT (And.intro @x_ixR (And.intro @x_optW (And.intro @x_nil (And.intro @x_cons (And.intro @x_bB (And.intro @x_boolK (And.intro @x_bAnd (And.intro @x_bOr (And.intro @x_bNot (And.intro @x_bYes (And.intro @x_pNo (And.intro @x_pSo (And.intro @x_part (And.intro @x_rng1 (And.intro @x_rng2 (And.intro @x_rng3 (And.intro @x_rk1 (And.intro @x_rk2 (And.intro @x_rk3 (And.intro @x_srcEn (And.intro @x_srcZp (And.intro @x_ekT (And.intro @x_zkT (And.intro @x_srcV (And.intro @x_srcT (And.intro @x_seq (And.intro @x_seqN (And.intro @x_seqR (And.intro @x_seqB (And.intro @x_seqC (And.intro @x_sNil (And.intro @x_set (And.intro @x_drop (And.intro @x_ret (And.intro @x_retN (And.intro @x_sIf (And.intro @x_brk (And.intro @x_ct (And.intro @x_put (And.intro @x_for (And.intro @x_def (And.intro @x_defR (And.intro @x_defN (And.intro @x_ixP (And.intro @x_ixL (And.intro @x_lenP (And.intro @x_lenL (And.intro @x_tupP (And.intro @x_tupL (And.intro @x_tupKK (And.intro @x_lstP (And.intro @x_lstL (And.intro @x_appP (And.intro @x_appL (And.intro @x_tyP (And.intro @x_tyL (And.intro @x_tyK (And.intro @x_tyT (And.intro @x_putP (And.intro @x_putL (And.intro @x_putI (And.intro @x_putKK (And.intro @x_srcP (And.intro @x_srcL (And.intro @x_srcPt (And.intro @x_lenPt (And.intro @x_asg (And.intro @x_asgQ (And.intro @x_asgT2 (And.intro @x_cnt (And.intro @x_sumT2 (And.intro @x_tupPD (And.intro @x_tupPL (And.intro @x_and1 (And.intro @x_bTru (And.intro @x_truB (And.intro @x_truI (And.intro @x_truS (And.intro @x_slP (And.intro @x_slL (And.intro @x_slTu (And.intro @x_addP (And.intro @x_addL (And.intro @x_slPt (@x_slPu)))))))))))))))))))))))))))))))))))))))))))))))))))))))))))))))))))))))))))))))))))))))))))))))))))))))))))))))))))))))))))))))))))))))
def mxCN := And.intro @x_var0 (And.intro @x_varS (And.intro @x_c (And.intro @x_bin (And.intro @x_un (And.intro @x_and (And.intro @x_or (And.intro @x_andK (And.intro @x_orK (And.intro @x_not (And.intro @x_if (And.intro @x_tup (And.intro @x_lst (And.intro @x_sl (And.intro @x_call (And.intro @x_callU (And.intro @x_mth (And.intro @x_isi (And.intro @x_chain (And.intro @x_chK (And.intro @x_k1 (And.intro @x_tupRg (And.intro @x_lstRg (And.intro @x_lc (And.intro @x_addI (And.intro @x_addS (And.intro @x_addT (And.intro @x_subI (And.intro @x_mulI (And.intro @x_fdiv (And.intro @x_mod (And.intro @x_pow (And.intro @x_lt (And.intro @x_le (And.intro @x_gt (And.intro @x_ge (And.intro @x_eqI (And.intro @x_eqB (And.intro @x_eqS (And.intro @x_neI (And.intro @x_neB (And.intro @x_isB (And.intro @x_isnB (And.intro @x_neg (And.intro @x_int (And.intro @x_intB (And.intro @x_lenT (And.intro @x_lenS (And.intro @x_tupT (And.intro @x_lstT (And.intro @x_ixT (And.intro @x_ixR (And.intro @x_optW (And.intro @x_nil (And.intro @x_cons (And.intro @x_bB (And.intro @x_boolK (And.intro @x_bAnd (And.intro @x_bOr (And.intro @x_bNot (And.intro @x_bYes (And.intro @x_pNo (And.intro @x_pSo (And.intro @x_part (And.intro @x_rng1 (And.intro @x_rng2 (And.intro @x_rng3 (And.intro @x_rk1 (And.intro @x_rk2 (And.intro @x_rk3 (And.intro @x_srcEn (And.intro @x_srcZp (And.intro @x_ekT (And.intro @x_zkT (And.intro @x_srcV (And.intro @x_srcT (And.intro @x_seq (And.intro @x_seqR (And.intro @x_seqB (And.intro @x_seqC (And.intro @x_sNil (And.intro @x_set (And.intro @x_drop (And.intro @x_ret (And.intro @x_retN (And.intro @x_sIf (And.intro @x_brk (And.intro @x_ct (And.intro @x_put (And.intro @x_for (And.intro @x_def (And.intro @x_defR (And.intro @x_defN (And.intro @x_ixP (And.intro @x_ixL (And.intro @x_lenP (And.intro @x_lenL (And.intro @x_tupP (And.intro @x_tupL (And.intro @x_tupKK (And.intro @x_lstP (And.intro @x_lstL (And.intro @x_appP (And.intro @x_appL (And.intro @x_tyP (And.intro @x_tyL (And.intro @x_tyK (And.intro @x_tyT (And.intro @x_putP (And.intro @x_putL (And.intro @x_putI (And.intro @x_putKK (And.intro @x_srcP (And.intro @x_srcL (And.intro @x_srcPt (And.intro @x_lenPt (And.intro @x_asg (And.intro @x_asgQ (And.intro @x_asgT2 (And.intro @x_cnt (And.intro @x_sumT2 (And.intro @x_tupPD (And.intro @x_tupPL (And.intro @x_and1 (And.intro @x_bTru (And.intro @x_truB (And.intro @x_truI (And.intro @x_truS (And.intro @x_slP (And.intro @x_slL (And.intro @x_slTu (And.intro @x_addP (And.intro @x_addL (And.intro @x_slPt (@x_slPu))))))))))))))))))))))))))))))))))))))))))))))))))))))))))))))))))))))))))))))))))))))))))))))))))))))))))))))))))))))))))))))))))))))
def mxA := And.intro @x_var0 (And.intro @x_varS (And.intro @x_c (And.intro @x_bin (And.intro @x_un (And.intro @x_and (And.intro @x_or (And.intro @x_andK (And.intro @x_orK (And.intro @x_not (And.intro @x_if (And.intro @x_tup (And.intro @x_lst (And.intro @x_sl (And.intro @x_call (And.intro @x_callU (And.intro @x_mth (And.intro @x_isi (And.intro @x_chain (And.intro @x_chK (And.intro @x_k1 (And.intro @x_tupRg (And.intro @x_lstRg (And.intro @x_lc (And.intro @x_addI (And.intro @x_addS (And.intro @x_addT (And.intro @x_subI (And.intro @x_mulI (And.intro @x_fdiv (And.intro @x_mod (And.intro @x_pow (And.intro @x_lt (And.intro @x_le (And.intro @x_gt (And.intro @x_ge (And.intro @x_eqI (And.intro @x_eqB (And.intro @x_eqS (And.intro @x_neI (And.intro @x_neB (And.intro @x_isB (And.intro @x_isnB (And.intro @x_neg (And.intro @x_int (And.intro @x_intB (And.intro @x_lenT (And.intro @x_lenS (And.intro @x_tupT (And.intro @x_lstT (And.intro @x_ixT (And.intro @x_ixR (And.intro @x_optW (And.intro @x_nil (And.intro @x_cons (And.intro @x_bB (And.intro @x_boolK (And.intro @x_bAnd (And.intro @x_bOr (And.intro @x_bNot (And.intro @x_bYes (And.intro @x_pNo (And.intro @x_pSo (And.intro @x_part (And.intro @x_rng1 (And.intro @x_rng2 (And.intro @x_rng3 (And.intro @x_rk1 (And.intro @x_rk2 (And.intro @x_rk3 (And.intro @x_srcEn (And.intro @x_srcZp (And.intro @x_ekT (And.intro @x_zkT (And.intro @x_srcV (And.intro @x_srcT (And.intro @x_seq (And.intro @x_seqN (And.intro @x_seqR (And.intro @x_seqB (And.intro @x_seqC (And.intro @x_sNil (And.intro @x_set (And.intro @x_drop (And.intro @x_ret (And.intro @x_retN (And.intro @x_sIf (And.intro @x_brk (And.intro @x_ct (And.intro @x_put (And.intro @x_for (And.intro @x_def (And.intro @x_defR (And.intro @x_defN (And.intro @x_ixP (And.intro @x_ixL (And.intro @x_lenP (And.intro @x_lenL (And.intro @x_tupP (And.intro @x_tupL (And.intro @x_tupKK (And.intro @x_lstP (And.intro @x_lstL (And.intro @x_appP (And.intro @x_appL (And.intro @x_tyP (And.intro @x_tyL (And.intro @x_tyK (And.intro @x_tyT (And.intro @x_putP (And.intro @x_putL (And.intro @x_putI (And.intro @x_putKK (And.intro @x_srcP (@x_srcL))))))))))))))))))))))))))))))))))))))))))))))))))))))))))))))))))))))))))))))))))))))))))))))))))))))))))))))))))
def mxAN := And.intro @x_var0 (And.intro @x_varS (And.intro @x_c (And.intro @x_bin (And.intro @x_un (And.intro @x_and (And.intro @x_or (And.intro @x_andK (And.intro @x_orK (And.intro @x_not (And.intro @x_if (And.intro @x_tup (And.intro @x_lst (And.intro @x_sl (And.intro @x_call (And.intro @x_callU (And.intro @x_mth (And.intro @x_isi (And.intro @x_chain (And.intro @x_chK (And.intro @x_k1 (And.intro @x_tupRg (And.intro @x_lstRg (And.intro @x_lc (And.intro @x_addI (And.intro @x_addS (And.intro @x_addT (And.intro @x_subI (And.intro @x_mulI (And.intro @x_fdiv (And.intro @x_mod (And.intro @x_pow (And.intro @x_lt (And.intro @x_le (And.intro @x_gt (And.intro @x_ge (And.intro @x_eqI (And.intro @x_eqB (And.intro @x_eqS (And.intro @x_neI (And.intro @x_neB (And.intro @x_isB (And.intro @x_isnB (And.intro @x_neg (And.intro @x_int (And.intro @x_intB (And.intro @x_lenT (And.intro @x_lenS (And.intro @x_tupT (And.intro @x_lstT (And.intro @x_ixT (And.intro @x_ixR (And.intro @x_optW (And.intro @x_nil (And.intro @x_cons (And.intro @x_bB (And.intro @x_boolK (And.intro @x_bAnd (And.intro @x_bOr (And.intro @x_bNot (And.intro @x_bYes (And.intro @x_pNo (And.intro @x_pSo (And.intro @x_part (And.intro @x_rng1 (And.intro @x_rng2 (And.intro @x_rng3 (And.intro @x_rk1 (And.intro @x_rk2 (And.intro @x_rk3 (And.intro @x_srcEn (And.intro @x_srcZp (And.intro @x_ekT (And.intro @x_zkT (And.intro @x_srcV (And.intro @x_srcT (And.intro @x_seq (And.intro @x_seqR (And.intro @x_seqB (And.intro @x_seqC (And.intro @x_sNil (And.intro @x_set (And.intro @x_drop (And.intro @x_ret (And.intro @x_retN (And.intro @x_sIf (And.intro @x_brk (And.intro @x_ct (And.intro @x_put (And.intro @x_for (And.intro @x_def (And.intro @x_defR (And.intro @x_defN (And.intro @x_ixP (And.intro @x_ixL (And.intro @x_lenP (And.intro @x_lenL (And.intro @x_tupP (And.intro @x_tupL (And.intro @x_tupKK (And.intro @x_lstP (And.intro @x_lstL (And.intro @x_appP (And.intro @x_appL (And.intro @x_tyP (And.intro @x_tyL (And.intro @x_tyK (And.intro @x_tyT (And.intro @x_putP (And.intro @x_putL (And.intro @x_putI (And.intro @x_putKK (And.intro @x_srcP (@x_srcL)))))))))))))))))))))))))))))))))))))))))))))))))))))))))))))))))))))))))))))))))))))))))))))))))))))))))))))))))
end Mn
namespace Sp
def cho : Nat → Nat → Nat
  | _, 0 => 1
  | 0, _ + 1 => 0
  | n + 1, k + 1 => cho n k + cho n (k + 1)
theorem cho_0 (n : Nat) : cho n 0 = 1 := by cases n <;> rfl
theorem cho_ss (n k : Nat) : cho (n + 1) (k + 1) = cho n k + cho n (k + 1) := rfl
theorem cho_gt : ∀ {n k : Nat}, n < k → cho n k = 0
  | 0, 0, h => by omega
  | 0, k + 1, _ => rfl
  | n + 1, 0, h => by omega
  | n + 1, k + 1, h => by rw [cho_ss, cho_gt (show n < k by omega), cho_gt (show n < k + 1 by omega)]
theorem cho_self : ∀ n : Nat, cho n n = 1
  | 0 => rfl
  | n + 1 => by rw [cho_ss, cho_self n, cho_gt (show n < n + 1 by omega)]
theorem cho_sym : ∀ {n k : Nat}, k ≤ n → cho n k = cho n (n - k)
  | 0, 0, _ => rfl
  | 0, k + 1, h => by omega
  | n + 1, 0, _ => by rw [cho_0, Nat.sub_zero, cho_self]
  | n + 1, k + 1, h => by
    by_cases e : k = n
    · subst e
      rw [Nat.sub_self, cho_0, cho_self]
    · have e1 : n + 1 - (k + 1) = (n - k - 1) + 1 := by omega
      have e2 : n - (k + 1) = n - k - 1 := by omega
      have e3 : n - k - 1 + 1 = n - k := by omega
      rw [e1, cho_ss, cho_ss, cho_sym (show k ≤ n by omega), cho_sym (show k + 1 ≤ n by omega), e2, e3, Nat.add_comm]
def ff (n : Nat) : Nat → Nat
  | 0 => 1
  | k + 1 => ff n k * (n - k)
theorem ff_up (n : Nat) : ∀ k : Nat, ff (n + 1) (k + 1) = (n + 1) * ff n k
  | 0 => by simp [ff]
  | k + 1 => by
    show ff (n + 1) (k + 1) * (n + 1 - (k + 1)) = (n + 1) * (ff n k * (n - k))
    rw [ff_up n k, Nat.mul_assoc, Nat.add_sub_add_right]
theorem ff_gt {n : Nat} : ∀ {k : Nat}, n < k → ff n k = 0
  | 0, h => by omega
  | k + 1, h => by
    show ff n k * (n - k) = 0
    by_cases e : n < k
    · rw [ff_gt e, Nat.zero_mul]
    · rw [show n - k = 0 by omega, Nat.mul_zero]
theorem cho_ff : ∀ n k : Nat, cho n k * ff k k = ff n k
  | n, 0 => by rw [cho_0]; rfl
  | 0, k + 1 => by
    rw [ff_gt (show 0 < k + 1 by omega)]
    exact Nat.zero_mul _
  | n + 1, k + 1 => by
    have h1 := cho_ff n k
    have h2 := cho_ff n (k + 1)
    rw [cho_ss, Nat.add_mul, h2, ff_up k k, ff_up n k]
    have e1 : cho n k * ((k + 1) * ff k k) = (k + 1) * ff n k := by rw [← h1, ← Nat.mul_assoc, Nat.mul_comm (cho n k), Nat.mul_assoc]
    have e2 : ff n (k + 1) = (n - k) * ff n k := by
      show ff n k * (n - k) = _
      rw [Nat.mul_comm]
    rw [e1, e2, ← Nat.add_mul]
    by_cases hk : k ≤ n
    · rw [show k + 1 + (n - k) = n + 1 by omega]
    · rw [ff_gt (show n < k by omega), Nat.mul_zero, Nat.mul_zero]
theorem ff_pos {n : Nat} : ∀ {k : Nat}, k ≤ n → 0 < ff n k
  | 0, _ => Nat.one_pos
  | k + 1, h => Nat.mul_pos (ff_pos (by omega)) (by omega)
theorem fall_ff (n : Nat) : ∀ k : Nat, k ≤ n → PySem.Builtin.Math.fallingProduct (n : Int) k = (ff n k : Nat)
  | 0, _ => rfl
  | k + 1, h => by
    rw [PySem.W.mc_fp_succ, fall_ff n k (by omega)]
    show _ = ((ff n k * (n - k) : Nat) : Int)
    rw [Int.natCast_mul, Int.natCast_sub (by omega)]
theorem comb_cho (q i : Nat) : PySem.W.mcComb (q : Int) (i : Int) = (cho q i : Nat) := by
  by_cases h : q < i
  · rw [PySem.W.mcComb_above (by omega), cho_gt h]
    rfl
  · have key : ∀ m : Nat, m ≤ q → cho q m = cho q i → min (i : Int) ((q : Int) - i) = (m : Nat) → PySem.W.mcComb (q : Int) (i : Int) = (cho q i : Nat) := by
      intro m hm e1 e2
      rw [PySem.W.mcComb_at (by omega) (by omega) e2, Int.toNat_natCast, fall_ff q m hm, fall_ff m m (Nat.le_refl m), ← e1, ← cho_ff q m]
      rw [← Int.natCast_ediv, Nat.mul_div_cancel _ (ff_pos (Nat.le_refl m))]
    by_cases h2 : i ≤ q - i
    · exact key i (by omega) rfl (by omega)
    · exact key (q - i) (by omega) (cho_sym (by omega)).symm (by omega)
/-- at most m - 1 of q -/
def chs (q : Nat) : Nat → Nat
  | 0 => 0
  | m + 1 => chs q m + cho q m
theorem chs_s (q : Nat) : ∀ m : Nat, chs (q + 1) (m + 1) = chs q (m + 1) + chs q m
  | 0 => by simp [chs, cho_0]
  | m + 1 => by
    show chs (q + 1) (m + 1) + cho (q + 1) (m + 1) = chs q (m + 1) + cho q (m + 1) + (chs q m + cho q m)
    rw [chs_s q m, cho_ss]
    show chs q m + cho q m + chs q m + (cho q m + cho q (m + 1)) = chs q m + cho q m + cho q (m + 1) + (chs q m + cho q m)
    omega
theorem chs_le (q : Nat) : ∀ m : Nat, chs q m ≤ 2 ^ q := by
  induction q with
  | zero =>
    intro m
    induction m with
    | zero => simp [chs]
    | succ m ih =>
      show chs 0 m + cho 0 m ≤ 1
      cases m with
      | zero => simp [chs, cho]
      | succ m => 
        show _ + 0 ≤ 1
        simpa using ih
  | succ q ih =>
    intro m
    cases m with
    | zero => simp [chs]
    | succ m =>
      rw [chs_s, Nat.pow_succ]
      have h1 := ih (m + 1)
      have h2 := ih m
      omega
/-- the weight of a state -/
def wt (q : Nat) (st : List Int) : Nat := (st.map fun x => chs q (x + 1).toNat).sum
end Sp

/-! Sp1: what the laws' helpers do. -/
namespace Sp
open PySem PySem.Spec PyProof.Rows L2 Mn
variable {E : Exn → Th → Prop} {θ : Th} {Q : Dv → Th → Prop}
/-- the store of a law: the digits, the box -/
def bx (ds : List Int) (at_ : Nat) : Th := [.lst (ds.map Dv.int), .lst [.obj 0, .int at_]]
theorem bx0 {ds : List Int} {a : Nat} {g : Th} : (bx ds a ++ g)[0]? = some (.lst (ds.map Dv.int)) := rfl
theorem bx1 {ds : List Int} {a : Nat} {g : Th} : (bx ds a ++ g)[1]? = some (.lst [.obj 0, .int a]) := rfl
theorem bx_set {ds : List Int} {a : Nat} {g : Th} : (bx ds a ++ g).set 1 (.lst [.obj 0, .int ((a : Int) + 1)]) = bx ds (a + 1) ++ g := rfl
theorem ix12 {x y : Dv} : ixN [x, y].length 1 = some 1 := rfl
theorem s_draw {ds : List Int} {a : Nat} {g : Th} {many : Int} (hm : 0 < many) (hQ : ∀ v : Int, 0 ≤ v → v < many → Q (.int v) (bx ds (a + 1) ++ g)) : Cm.c__law_draw [.obj 1, .int many] E (bx ds a ++ g) Q := by
  unfold Cm.c__law_draw Cm.m__law_draw
  simp only [mxA, List.map_cons, List.map_nil, List.replicate, List.cons_append, List.nil_append, List.set_cons_zero, List.set_cons_succ, bx1, bx0, at_0, at_1, ix12, bx_set, List.length_map]
  by_cases h : a < ds.length
  · rw [if_pos (decide_eq_true (by omega))]
    have e : atI (ds.map Dv.int) (a : Int) = some (.int ds[a]) := at_nat (by simp [h])
    simp only [mxA, List.map_cons, List.map_nil, List.replicate, List.cons_append, List.nil_append, List.set_cons_zero, List.set_cons_succ, e]
    exact ⟨hm, end_same (hQ _ (Int.emod_nonneg _ (by omega)) (Int.emod_lt_of_pos _ hm))⟩
  · rw [if_neg (by simpa using h)]
    exact end_same (hQ 0 (by omega) hm)
theorem s_pick {ds : List Int} {a : Nat} {g : Th} {k : Nat} {xs : List Dv} (hk : (bx ds a ++ g)[k]? = some (.lst xs)) (k2 : 2 ≤ k) (hn : 0 < xs.length) (hQ : ∀ x, x ∈ xs → Q x (bx ds (a + 1) ++ g)) : Cm.c__law_pick [.obj 1, .obj k] E (bx ds a ++ g) Q := by
  unfold Cm.c__law_pick Cm.m__law_pick
  simp only [mxA, List.map_cons, List.map_nil, List.replicate, List.cons_append, List.nil_append, List.set_cons_zero, List.set_cons_succ]
  refine ⟨rfl, s_draw (by decide) fun v h0 h1 => ?_⟩
  have hk2 : (bx ds (a + 1) ++ g)[k]? = some (.lst xs) := by
    match k, k2, hk with
    | k + 2, _, hk => exact hk
  simp only [mxA, List.map_cons, List.map_nil, List.replicate, List.cons_append, List.nil_append, List.set_cons_zero, List.set_cons_succ, hk2]
  refine ⟨by omega, ?_⟩
  have h2 := Int.emod_nonneg v (show (xs.length : Int) ≠ 0 by omega)
  have h3 := Int.emod_lt_of_pos v (show 0 < (xs.length : Int) by omega)
  have h4 : (v % (xs.length : Int)).toNat < xs.length := by omega
  have e : atI xs (v % (xs.length : Int)) = some xs[(v % (xs.length : Int)).toNat] := at_int h2 (by simp [h4])
  simp only [mxA, List.map_cons, List.map_nil, List.replicate, List.cons_append, List.nil_append, List.set_cons_zero, List.set_cons_succ, e]
  exact end_same (hQ _ (List.getElem_mem _))
theorem s_cell {ns : List Int} {k : Int} (h0 : 0 ≤ k) (hQ : ∀ v : Int, Q (.int v) θ) : Cm.c__law_cell [.scr ns, .int k] E θ Q := by
  unfold Cm.c__law_cell Cm.m__law_cell
  simp only [mxA, List.map_cons, List.map_nil, List.replicate, List.cons_append, List.nil_append, List.set_cons_zero, List.set_cons_succ]
  by_cases h : k < ns.length
  · rw [if_pos (decide_eq_true h)]
    have h4 : k.toNat < ns.length := by omega
    have e : atI ns k = some ns[k.toNat] := at_int h0 (by simp [h4])
    simp only [mxA, List.map_cons, List.map_nil, List.replicate, List.cons_append, List.nil_append, List.set_cons_zero, List.set_cons_succ, e, Option.map_some]
    exact end_same (hQ _)
  · rw [if_neg (by simpa using h)]
    exact end_same (hQ 0)
theorem rng_at {lo c : Int} {n i : Nat} {θ : Th} (h : i < n) : (Src.rng lo c n).at θ i = some (some (.int (lo + (i : Nat) * c))) := by simp only [Src.at, if_pos h]
theorem rng_end {lo c : Int} {n : Nat} {θ : Th} : (Src.rng lo c n).at θ n = some none := by simp only [Src.at, if_neg (Nat.lt_irrefl n)]
theorem th_app {o o' : Ob} : (θ ++ [o]).set θ.length o' = θ ++ [o'] := th_set_mid
theorem th_last {o : Ob} : (θ ++ [o])[θ.length]? = some o := th_mid
theorem map_snoc {ds : List Int} {v : Int} : ds.map Dv.int ++ [.int v] = (ds ++ [v]).map Dv.int := by simp
/-- the digits: some ints, in a new list -/
theorem s_digits {ns : List Int} {a b : Nat} (ha : a ≤ b) (hb : b ≤ 1000) (hQ : ∀ ds : List Int, Q (.obj θ.length) (θ ++ [.lst (ds.map Dv.int)])) : Cm.c__law_digits [.scr ns, .int a, .int b] E θ Q := by
  unfold Cm.c__law_digits Cm.m__law_digits
  simp only [mxA, List.map_cons, List.map_nil, List.replicate, List.cons_append, List.nil_append, List.set_cons_zero, List.set_cons_succ]
  refine ⟨by simp, ⟨by omega, by omega, by omega, by omega⟩, ?_⟩
  refine for_rule (b - a : Int).toNat (fun i ρ θ' => ∃ x4 x5 x6 x7, ∃ ds : List Int, ρ = [some (.scr ns), some (.int a), some (.int b), some (.obj θ.length), x4, x5, x6, x7] ∧ θ' = θ ++ [.lst (ds.map Dv.int)] ∧ ds.length ≤ i * 60) ⟨none, none, none, none, [], rfl, rfl, by simp⟩ ?_ ?_
  · rintro i ρ θ' hi ⟨x4, x5, x6, x7, ds, rfl, rfl, hl⟩
    refine ⟨.int (a + i * 1), _, rng_at hi, rfl, fun K LK => ?_⟩
    simp only [mxAN, List.map_cons, List.map_nil, List.replicate, List.cons_append, List.nil_append, List.set_cons_zero, List.set_cons_succ]
    refine ⟨rfl, s_cell (by omega) fun v => ?_⟩
    rw [x_seqN]
    simp only [mxAN, List.map_cons, List.map_nil, List.replicate, List.cons_append, List.nil_append, List.set_cons_zero, List.set_cons_succ]
    generalize hT : seqK _ E K = T
    have key : ∀ w : Int, T (.nx [some (.scr ns), some (.int a), some (.int b), some (.obj θ.length), some (.int (a + i * 1)), some (.int w), x6, x7]) (θ ++ [.lst (ds.map Dv.int)]) := by
      intro w
      subst hT
      simp only [mxA, List.map_cons, List.map_nil, List.replicate, List.cons_append, List.nil_append, List.set_cons_zero, List.set_cons_succ]
      refine ⟨by unfold CPow; omega, ?_⟩
      by_cases hw : (10 : Int) ^ (18 : Int).toNat ≤ w
      · rw [if_pos (decide_eq_true hw)]
        refine ⟨⟨by omega, by omega⟩, ?_⟩
        refine for_rule 60 (fun j ρ θ' => ∃ x6 x7, ∃ (w : Int) (es : List Int), ρ = [some (.scr ns), some (.int a), some (.int b), some (.obj θ.length), some (.int (a + i * 1)), some (.int w), x6, x7] ∧ θ' = θ ++ [.lst (es.map Dv.int)] ∧ es.length ≤ ds.length + j) ⟨x6, x7, w, ds, rfl, rfl, by omega⟩ ?_ ?_
        · rintro j ρ θ' hj ⟨x6, x7, w, es, rfl, rfl, he⟩
          refine ⟨.int (0 + j * 1), _, rng_at hj, rfl, fun K LK => ?_⟩
          simp only [mxA, List.map_cons, List.map_nil, List.replicate, List.cons_append, List.nil_append, List.set_cons_zero, List.set_cons_succ]
          by_cases hw : 0 < w
          · rw [if_pos (decide_eq_true hw)]
            simp only [th_last, mxA, List.map_cons, List.map_nil, List.replicate, List.cons_append, List.nil_append, List.set_cons_zero, List.set_cons_succ, th_app, map_snoc]
            exact ⟨trivial, by omega, by rw [List.length_map, sizeLine_eq]; omega, ⟨by omega, by omega⟩, LK.nx _ _ ⟨_, rfl, _, _, _, _, rfl, rfl, by rw [List.length_append, List.length_singleton]; omega⟩⟩
          · rw [if_neg (by simpa using hw)]
            exact LK.nx _ _ ⟨_, rfl, _, _, _, _, rfl, rfl, by omega⟩
        · rintro ρ θ' ⟨x6, x7, w, es, rfl, rfl, he⟩
          exact ⟨rng_end, LK.nx _ _ ⟨_, rfl, _, _, _, _, _, rfl, rfl, by omega⟩⟩
      · rw [if_neg (by simpa using hw)]
        refine ⟨.inr ⟨by omega, by omega⟩, .inr ⟨by omega, by omega⟩, by omega, ⟨by omega, by omega⟩, ?_⟩
        refine for_rule 12 (fun j ρ θ' => ∃ x6, ∃ (w z : Int) (es : List Int), ρ = [some (.scr ns), some (.int a), some (.int b), some (.obj θ.length), some (.int (a + i * 1)), some (.int w), x6, some (.int z)] ∧ θ' = θ ++ [.lst (es.map Dv.int)] ∧ es.length ≤ ds.length + j) ⟨x6, w, _, ds, rfl, rfl, by omega⟩ ?_ ?_
        · rintro j ρ θ' hj ⟨x6, w, z, es, rfl, rfl, he⟩
          refine ⟨.int (0 + j * 1), _, rng_at hj, rfl, fun K LK => ?_⟩
          simp only [mxA, List.map_cons, List.map_nil, List.replicate, List.cons_append, List.nil_append, List.set_cons_zero, List.set_cons_succ, th_last, th_app, map_snoc]
          exact ⟨.inr ⟨by omega, by omega⟩, .inl ⟨by omega, by omega⟩, by omega, trivial, ⟨by omega, by omega⟩, by omega, by rw [List.length_map, sizeLine_eq]; omega, LK.nx _ _ ⟨_, rfl, _, _, _, _, rfl, rfl, by rw [List.length_append, List.length_singleton]; omega⟩⟩
        · rintro ρ θ' ⟨x6, w, z, es, rfl, rfl, he⟩
          exact ⟨rng_end, LK.nx _ _ ⟨_, rfl, _, _, _, _, _, rfl, rfl, by omega⟩⟩
    by_cases hv : v < 0
    · rw [if_pos (decide_eq_true hv)]
      exact ⟨.inl ⟨by omega, by omega⟩, key _⟩
    · rw [if_neg (by simpa using hv)]
      exact key _
  · rintro ρ θ' ⟨x4, x5, x6, x7, ds, rfl, rfl, hl⟩
    refine ⟨by simp [Src.at], ?_⟩
    simp only [mxA, List.map_cons, List.map_nil, List.replicate, List.cons_append, List.nil_append, List.set_cons_zero, List.set_cons_succ]
    exact end_same (hQ ds)
end Sp

/-! Sp2: histories, ancestors. -/
namespace Sp
open PySem PySem.Spec PyProof.Rows L2 Mn
abbrev Hist := List (Str × List Nat)
def mk (x : Str × List Nat) : Dv := .tup [.str x.1, .tup (x.2.map fun p => .int (p : Nat))]
def hD (h : Hist) : Dv := .tup [.str "history", .tup (h.map mk)]
def par (h : Hist) (k : Nat) : List Nat := match h[k]? with
  | some x => x.2
  | none => []
/-- reached from m, no make below t gone on from -/
inductive Rc (h : Hist) (m t : Nat) : Nat → Prop where
  | self : Rc h m t m
  | step {k p : Nat} : Rc h m t k → t ≤ k → p ∈ par h k → Rc h m t p
abbrev Anc (h : Hist) (m j : Nat) : Prop := Rc h m 0 j
/-- parents stand ahead -/
def Ahead (h : Hist) : Prop := ∀ k p, p ∈ par h k → p < k
theorem Rc.start {h : Hist} {m j : Nat} (a : Ahead h) : Rc h m (m + 1) j ↔ j = m := by
  constructor
  · intro r
    induction r with
    | self => rfl
    | step r h1 h2 ih => omega
  · rintro rfl
    exact .self
theorem Rc.mono {h : Hist} {m t u j : Nat} (hl : u ≤ t) (r : Rc h m t j) : Rc h m u j := by
  induction r with
  | self => exact .self
  | step r h1 h2 ih => exact .step ih (by omega) h2
theorem Rc.down {h : Hist} {m t j : Nat} (a : Ahead h) : Rc h m t j ↔ Rc h m (t + 1) j ∨ (Rc h m (t + 1) t ∧ j ∈ par h t) := by
  constructor
  · intro r
    induction r with
    | self => exact .inl .self
    | @step k p r h1 h2 ih =>
      by_cases e : k = t
      · subst e
        rcases ih with ih | ⟨_, ih⟩
        · exact .inr ⟨ih, h2⟩
        · exact absurd (a _ _ ih) (Nat.lt_irrefl _)
      · rcases ih with ih | ⟨_, ih⟩
        · exact .inl (.step ih (by omega) h2)
        · have := a _ _ ih; omega
  · rintro (r | ⟨r, hp⟩)
    · exact r.mono (Nat.le_succ _)
    · exact .step (r.mono (Nat.le_succ _)) (Nat.le_refl _) hp
theorem Rc.le {h : Hist} {m t j : Nat} (a : Ahead h) (r : Rc h m t j) : j ≤ m := by
  induction r with
  | self => exact Nat.le_refl _
  | step r h1 h2 ih => have := a _ _ h2; omega
/-- a row of bools -/
def bl (n : Nat) (f : Nat → Bool) : List Dv := (List.range n).map fun j => Dv.bl (f j)
open Classical in
noncomputable def anc (h : Hist) (m j : Nat) : Bool := decide (Anc h m j)
theorem anc_iff {h : Hist} {m j : Nat} : anc h m j = true ↔ Anc h m j := by unfold anc; simp
theorem par_get {h : Hist} {k : Nat} (hk : k < h.length) : h[k].2 = par h k := by unfold par; rw [List.getElem?_eq_getElem hk]
mutual
theorem low_mono {n n' : Nat} (h : n ≤ n') : ∀ {d : Dv}, d.low n = true → d.low n' = true
  | .non, _ => rfl
  | .bl _, _ => rfl
  | .int _, _ => rfl
  | .str _, _ => rfl
  | .rf _, _ => rfl
  | .fn _, _ => rfl
  | .scr _, _ => rfl
  | .obj k, e => by
    unfold Dv.low at e ⊢
    exact decide_eq_true (by have := of_decide_eq_true e; omega)
  | .tup ds, e => by
    unfold Dv.low at e ⊢
    exact lows_mono h e
  | .pt ds, e => by
    unfold Dv.low at e ⊢
    exact lows_mono h e
  | .st ds, e => by
    unfold Dv.low at e ⊢
    exact lows_mono h e
theorem lows_mono {n n' : Nat} (h : n ≤ n') : ∀ {ds : List Dv}, Dv.lows n ds = true → Dv.lows n' ds = true
  | [], _ => rfl
  | d :: ds, e => by
    unfold Dv.lows at e ⊢
    rw [Bool.and_eq_true] at e ⊢
    exact ⟨low_mono h e.1, lows_mono h e.2⟩
end
/-- data without objects -/
def Flat (ds : List Dv) : Prop := Dv.lows 0 ds = true
theorem flat_cons {d : Dv} {ds : List Dv} (h : d.low 0 = true) (r : Flat ds) : Flat (d :: ds) := by
  unfold Flat Dv.lows
  rw [h, r]
  rfl
theorem flat_map {β : Type} {f : β → Dv} (h : ∀ x, (f x).low 0 = true) : ∀ (l : List β), Flat (l.map f)
  | [] => rfl
  | x :: l => flat_cons (h x) (flat_map h l)
theorem flat_low {ds : List Dv} (f : Flat ds) (n : Nat) : (Dv.tup ds).low n = true := by
  unfold Dv.low
  exact lows_mono (Nat.zero_le _) f
variable {E : Exn → Th → Prop} {θ : Th} {Q : Dv → Th → Prop}
end Sp

/-! Sp3: words, skipped makes, drawn histories. -/
namespace Sp
open PySem PySem.Spec PyProof.Rows L2 Mn
variable {E : Exn → Th → Prop} {θ : Th} {Q : Dv → Th → Prop}
theorem x_intsP {f : List Int → MX Dv} {k : Nat} {ds : List Dv} {ns : List Int} (h : θ[k]? = some (.lst ds)) (hn : intsD ds = some ns) : onInts f (.obj k) E θ Q = f ns E θ Q := by
  unfold onInts
  simp only [h, hn]
/-! the end with the box -/
theorem low_nats (l : List Nat) (n : Nat) : (Dv.tup (l.map fun p => Dv.int (p : Nat))).low n = true := flat_low (flat_map (fun _ => rfl) l) n
/-! words -/
theorem letters : (("abcdefghijklmnopqrstuvwxyz" : Str)).cps.toList = (List.range 26).map (97 + ·) := by decide +kernel
end Sp

/-! Sp4: drawn histories. -/
namespace Sp
open PySem PySem.Spec PyProof.Rows L2 Mn
variable {E : Exn → Th → Prop} {θ : Th} {Q : Dv → Th → Prop}
abbrev nd (l : List Nat) : List Dv := l.map fun p => Dv.int (p : Nat)
def pl (n : Nat) : List Dv := (List.range n).map fun j => Dv.obj (j + 3)
def hsX (n : Nat) (P : Nat → List Nat) (g : Th) : Th := .lst (pl n) :: ((List.range n).map (fun j => Ob.lst (nd (P j))) ++ g)
def setP (P : Nat → List Nat) (j : Nat) (xs : List Nat) : Nat → List Nat := fun i => if i = j then xs else P i
section
variable {ds : List Int} {a n j : Nat} {P : Nat → List Nat} {g : Th}
theorem hs2 : (bx ds a ++ hsX n P g)[2]? = some (.lst (pl n)) := rfl
end
structure G (n i : Nat) (P : Nat → List Nat) : Prop where
  nd : ∀ j, j < n → (P j).Nodup
  lt : ∀ j p, j < n → p ∈ P j → p < j ∧ p < i
  l3 : ∀ j, j < n → (P j).length ≤ 3
  l2 : ∀ j, j < n → i < j → (P j).length ≤ 2
  up : ∀ k, k < i → ∃ j, j < n ∧ k ∈ P j
theorem G.step {n i c : Nat} {P : Nat → List Nat} (g : G n i P) (h1 : i < c) (h2 : c < n) (h3 : (P c).length ≤ 1 ∨ c = i + 1) : G n (i + 1) (setP P c (P c ++ [i])) := by
  have hc : (P c).length ≤ 2 := g.l2 c h2 h1
  refine ⟨fun j hj => ?_, fun j p hj hp => ?_, fun j hj => ?_, fun j hj h => ?_, fun k hk => ?_⟩
  · unfold setP
    by_cases e : j = c
    · rw [if_pos e, List.nodup_append]
      exact ⟨g.nd c h2, by simp, fun x hx y hy e => by
        have := (g.lt c x h2 hx).2
        simp at hy
        omega⟩
    · rw [if_neg e]; exact g.nd j hj
  · unfold setP at hp
    by_cases e : j = c
    · rw [if_pos e] at hp
      rcases List.mem_append.mp hp with hp | hp
      · have := g.lt c p h2 hp; omega
      · simp at hp; omega
    · rw [if_neg e] at hp
      have := g.lt j p hj hp; omega
  · unfold setP
    by_cases e : j = c
    · rw [if_pos e, List.length_append, List.length_singleton]; omega
    · rw [if_neg e]; exact g.l3 j hj
  · unfold setP
    by_cases e : j = c
    · rw [if_pos e, List.length_append, List.length_singleton]
      rcases h3 with h3 | h3 <;> omega
    · rw [if_neg e]; exact g.l2 j hj (by omega)
  · by_cases e : k = i
    · exact ⟨c, h2, by unfold setP; rw [if_pos rfl, e]; simp⟩
    · obtain ⟨j, hj, hm⟩ := g.up k (by omega)
      refine ⟨j, hj, ?_⟩
      unfold setP
      by_cases e : j = c
      · rw [if_pos e, List.mem_append]; rw [e] at hm; exact .inl hm
      · rw [if_neg e]; exact hm
structure G2 (n : Nat) (P : Nat → List Nat) : Prop where
  nd : ∀ j, j < n → (P j).Nodup
  lt : ∀ j p, j < n → p ∈ P j → p < j
  l4 : ∀ j, j < n → (P j).length ≤ 4
  up : ∀ k, k + 1 < n → ∃ j, j < n ∧ k ∈ P j
theorem G2.step {n c p : Nat} {P : Nat → List Nat} (g : G2 n P) (h1 : p < c) (h2 : c < n) (h3 : (P c).length < 4) (h4 : p ∉ P c) : G2 n (setP P c (P c ++ [p])) := by
  refine ⟨fun j hj => ?_, fun j q hj hp => ?_, fun j hj => ?_, fun k hk => ?_⟩
  · unfold setP
    by_cases e : j = c
    · rw [if_pos e, List.nodup_append]
      exact ⟨g.nd c h2, by simp, fun x hx y hy e => by
        simp at hy
        subst hy
        subst e
        exact h4 hx⟩
    · rw [if_neg e]; exact g.nd j hj
  · unfold setP at hp
    by_cases e : j = c
    · rw [if_pos e] at hp
      rcases List.mem_append.mp hp with hp | hp
      · have := g.lt c q h2 hp; omega
      · simp at hp; omega
    · rw [if_neg e] at hp
      exact g.lt j q hj hp
  · unfold setP
    by_cases e : j = c
    · rw [if_pos e, List.length_append, List.length_singleton]; omega
    · rw [if_neg e]; exact g.l4 j hj
  · obtain ⟨j, hj, hm⟩ := g.up k (by omega)
    refine ⟨j, hj, ?_⟩
    unfold setP
    by_cases e : j = c
    · rw [if_pos e, List.mem_append]; rw [e] at hm; exact .inl hm
    · rw [if_neg e]; exact hm
def srt (l : List Nat) : List Nat := (PySem.W.sortI (l.map fun p : Nat => (p : Int))).map Int.toNat
end Sp

/-! Sp5: the program's offspring. -/
namespace Sp
open PySem PySem.Spec PyProof.Rows L2 Mn
variable {E : Exn → Th → Prop} {θ : Th} {ρ : DEnv} {Q : Dv → Th → Prop}
/-! dicts of ints -/
def kd (ks : List Nat) : List (Key × Dv) := ks.map fun j : Nat => ((.inl (j : Int) : Key), Dv.bl true)
/-! ancestors from the other side -/
theorem Anc.head {h : Hist} {i m : Nat} : Anc h i m ↔ m = i ∨ ∃ p, p ∈ par h i ∧ Anc h p m := by
  constructor
  · intro r
    induction r with
    | self => exact .inl rfl
    | @step k p r _ h2 ih =>
      rcases ih with rfl | ⟨q, hq, ih⟩
      · exact .inr ⟨p, h2, .self⟩
      · exact .inr ⟨q, hq, .step ih (Nat.zero_le _) h2⟩
  · rintro (rfl | ⟨p, hp, r⟩)
    · exact .self
    · induction r with
      | self => exact .step .self (Nat.zero_le _) hp
      | step r h1 h2 ih => exact .step ih (Nat.zero_le _) h2
noncomputable def offs (h : Hist) (m : Nat) : List Nat := (List.range h.length).filter fun j => anc h j m
theorem nd_keys (ks : List Nat) : (kd ks).map (fun kv => keyD kv.1) = nd ks := by
  unfold kd
  rw [List.map_map]
  rfl
end Sp

/-! Sp6: the program's small questions, tests, check_skipped. -/
namespace Sp
open PySem PySem.Spec PyProof.Rows L2 Mn
variable {E : Exn → Th → Prop} {θ : Th} {ρ : DEnv} {Q : Dv → Th → Prop}
/-- data that are looked at -/
inductive Plain (θ : Th) : Dv → Prop where
  | non : Plain θ .non
  | bl (b : Bool) : Plain θ (.bl b)
  | int (i : Int) : Plain θ (.int i)
  | str (s : Str) : Plain θ (.str s)
  | tup (ds : List Dv) : Plain θ (.tup ds)
  | lst (k : Nat) (ds : List Dv) (h : θ[k]? = some (.lst ds)) : Plain θ (.obj k)
/-! rows of ints -/
theorem intsD_map (ns : List Int) : intsD (ns.map Dv.int) = some ns := by
  induction ns with
  | nil => rfl
  | cons n ns ih =>
    show (intsD (ns.map Dv.int)).map (n :: ·) = _
    rw [ih]
    rfl
/-- each less than the next -/
def asc (ns : List Int) : Bool := ((List.range (ns.length - 1)).map fun i => decide (ns.getD i 0 < ns.getD (i + 1) 0)).all id
end Sp

/-! Sp7: the program's classes. -/
namespace Sp
open PySem PySem.Spec PyProof.Rows L2 Mn
variable {E : Exn → Th → Prop} {θ : Th} {ρ : DEnv} {Q : Dv → Th → Prop}
def addP (tl : Nat → List Nat) (ps : List (List Nat)) (c : Nat) : List (List Nat) :=
  if (ps.any fun p => decide (tl (p.headD 0) = tl c)) = true then ps.map (fun p => if tl (p.headD 0) = tl c then p ++ [c] else p) else ps ++ [[c]]
def cls (tl : Nat → List Nat) (n : Nat) : List (List Nat) := (List.range n).foldl (addP tl) []
theorem cls_succ (tl : Nat → List Nat) (n : Nat) : cls tl (n + 1) = addP tl (cls tl n) n := by
  unfold cls
  rw [List.range_succ, List.foldl_append]
  rfl
abbrev Part := List Nat × Nat
structure CI (tl : Nat → List Nat) (qs : List Part) (R : Th) : Prop where
  at' : ∀ q, q ∈ qs → q.1 ≠ [] ∧ R[q.2]? = some (.lst (nd q.1))
  nd : (qs.map (·.2)).Nodup
  kn : (qs.map fun q => tl (q.1.headD 0)).Nodup
theorem headD_snoc {p : List Nat} {c : Nat} (h : p ≠ []) : (p ++ [c]).headD 0 = p.headD 0 := by
  cases p with
  | nil => exact absurd rfl h
  | cons x p => rfl
def upP (tl : Nat → List Nat) (c : Nat) (q : Part) : Part := if tl (q.1.headD 0) = tl c then (q.1 ++ [c], q.2) else q
theorem upP_2 (tl : Nat → List Nat) (c : Nat) (q : Part) : (upP tl c q).2 = q.2 := by unfold upP; split <;> rfl
theorem upP_h (tl : Nat → List Nat) (c : Nat) (q : Part) (h : q.1 ≠ []) : (upP tl c q).1.headD 0 = q.1.headD 0 := by
  unfold upP
  split
  · exact headD_snoc h
  · rfl
theorem nodup_inj {β γ : Type} {f : β → γ} : ∀ {l : List β}, (l.map f).Nodup → ∀ x y, x ∈ l → y ∈ l → f x = f y → x = y
  | [], _, _, _, h, _, _ => by simp at h
  | z :: l, n, x, y, hx, hy, e => by
    rw [List.map_cons, List.nodup_cons] at n
    rcases List.mem_cons.mp hx with h1 | h1
    · rcases List.mem_cons.mp hy with h2 | h2
      · rw [h1, h2]
      · exact absurd (List.mem_map.mpr ⟨y, h2, by rw [← e, h1]⟩) n.1
    · rcases List.mem_cons.mp hy with h2 | h2
      · exact absurd (List.mem_map.mpr ⟨x, h1, by rw [e, h2]⟩) n.1
      · exact nodup_inj n.2 x y h1 h2 e
theorem CI.more {tl : Nat → List Nat} {qs : List Part} {R g : Th} (h : CI tl qs R) : CI tl qs (R ++ g) := ⟨fun q hq => ⟨(h.at' q hq).1, th_left (h.at' q hq).2⟩, h.nd, h.kn⟩
theorem CI.found {tl : Nat → List Nat} {qs : List Part} {R : Th} {q : Part} {c : Nat} (h : CI tl qs R) (hq : q ∈ qs) (hk : tl (q.1.headD 0) = tl c) : CI tl (qs.map (upP tl c)) (R.set q.2 (.lst (Sp.nd (q.1 ++ [c])))) := by
  refine ⟨fun q' hq' => ?_, ?_, ?_⟩
  · obtain ⟨u, hu, rfl⟩ := List.mem_map.mp hq'
    have hu0 := h.at' u hu
    unfold upP
    by_cases e : tl (u.1.headD 0) = tl c
    · rw [if_pos e]
      have : u = q := nodup_inj h.kn u q hu hq (e.trans hk.symm)
      subst this
      exact ⟨by simp, List.getElem?_set_self (List.getElem?_eq_some_iff.mp hu0.2).1⟩
    · rw [if_neg e]
      refine ⟨hu0.1, ?_⟩
      rw [List.getElem?_set_ne]
      · exact hu0.2
      · intro z
        have : q = u := nodup_inj h.nd q u hq hu z
        subst this
        exact e hk
  · rw [List.map_map]
    have : qs.map ((·.2) ∘ upP tl c) = qs.map (·.2) := List.map_congr_left fun u _ => upP_2 tl c u
    rw [this]
    exact h.nd
  · rw [List.map_map]
    have : qs.map ((fun q => tl (q.1.headD 0)) ∘ upP tl c) = qs.map fun q => tl (q.1.headD 0) := List.map_congr_left fun u hu => by
      show tl ((upP tl c u).1.headD 0) = _
      rw [upP_h tl c u (h.at' u hu).1]
    rw [this]
    exact h.kn
theorem CI.new {tl : Nat → List Nat} {qs : List Part} {R : Th} {c : Nat} (h : CI tl qs R) (hk : (qs.find? fun q => decide (tl (q.1.headD 0) = tl c)) = none) : CI tl (qs ++ [([c], R.length)]) (R ++ [.lst (Sp.nd [c])]) := by
  refine ⟨fun q hq => ?_, ?_, ?_⟩
  · rcases List.mem_append.mp hq with hq | hq
    · exact ⟨(h.at' q hq).1, th_left (h.at' q hq).2⟩
    · obtain rfl := List.mem_singleton.mp hq
      exact ⟨by simp, th_last⟩
  · rw [List.map_append, List.nodup_append]
    refine ⟨h.nd, by simp, fun a ha b hb e => ?_⟩
    simp at hb
    obtain ⟨q, hq, rfl⟩ := List.mem_map.mp ha
    have := (List.getElem?_eq_some_iff.mp (h.at' q hq).2).1
    omega
  · rw [List.map_append, List.nodup_append]
    refine ⟨h.kn, by simp, fun a ha b hb e => ?_⟩
    simp at hb
    obtain ⟨q, hq, rfl⟩ := List.mem_map.mp ha
    exact List.find?_eq_none.mp hk q hq (decide_eq_true (by rw [e, hb]))
noncomputable def tell (h : Hist) (sk : List Nat) (c : Nat) : List Nat := (offs h c).filter fun m => !decide (m ∈ sk)
def rows (ps : List (List Nat)) : Dv := .tup (ps.map fun p => .tup (nd p))
end Sp

/-! Sp8: equal by repr. -/
namespace Sp
open PySem PySem.Spec PyProof.Rows L2 Mn
variable {E : Exn → Th → Prop} {θ : Th} {ρ : DEnv} {Q : Dv → Th → Prop}
theorem allSome_map {β γ δ : Type} {f : γ → Option δ} {g : β → γ} {k : β → δ} (h : ∀ x, f (g x) = some (k x)) : ∀ l : List β, allSome f (l.map g) = some (l.map k)
  | [] => rfl
  | x :: l => by
    rw [List.map_cons]
    unfold allSome
    rw [h, allSome_map h l]
    rfl
theorem s_same {x y : Dv} {d e : PyData} (hx : toPy θ 66 x = some d) (hy : toPy θ 66 y = some e) (sx : shows d) (sy : shows e) (hQ : Q (.bl (decide (d.shown = e.shown))) θ) : Cm.c__law_same [x, y] E θ Q := by
  unfold Cm.c__law_same Cm.m__law_same
  simp only [mxA, List.map_cons, List.map_nil, List.replicate, List.cons_append, List.nil_append, List.set_cons_zero, List.set_cons_succ]
  unfold reprD
  simp only [hx]
  refine ⟨sx, ?_⟩
  simp only [hy]
  refine ⟨sy, ?_⟩
  simp only [mxA, List.map_cons, List.map_nil, List.replicate, List.cons_append, List.nil_append, List.set_cons_zero, List.set_cons_succ]
  exact end_same hQ
/-! what is small is shown -/
end Sp

/-! Sp9: equal lists; the law's classes. -/
namespace Sp
open PySem PySem.Spec PyProof.Rows L2 Mn
variable {E : Exn → Th → Prop} {θ : Th} {ρ : DEnv} {Q : Dv → Th → Prop}
end Sp

/-! Sq1: answers, counted. -/
namespace Sp
open PySem PySem.Spec PyProof.Rows L2 Mn
variable {E : Exn → Th → Prop} {θ : Th} {Q : Dv → Th → Prop}
def word (b : Bool) : Str := if b then "broken" else "works"
def an (x : Bool × Nat) : Dv := .tup [.str (word x.1), .int (x.2 : Nat)]
theorem two_line {a b : Dv} : [a, b].length ≤ sizeLine := by
  show 2 ≤ sizeLine
  rw [sizeLine_eq]
  decide
end Sp

/-! Sq2: settled makes, holding back. -/
namespace Sp
open PySem PySem.Spec PyProof.Rows L2 Mn
variable {E : Exn → Th → Prop} {θ : Th} {Q : Dv → Th → Prop}
/-- settled as broken -/
def isBr (two : Bool) (k b : Nat) : Bool := decide ((if two then k else 0) < b)
def stl (two : Bool) (k w b : Nat) : Str := if k < w then (if isBr two k b then "both" else "works") else (if isBr two k b then "broken" else "")
def hld (two : Bool) (k w b : Nat) : Str := if (if two then 2 * k else k) ≤ w + b then "" else if two && decide ((w + b) % 2 = 1) then "broken" else "works"
def mst (two : Bool) (k : Nat) : Nat := if two then 2 * k + 1 else k + 1
end Sp

/-! Sp10: the law's classes. -/
namespace Sp
open PySem PySem.Spec PyProof.Rows L2 Mn
variable {E : Exn → Th → Prop} {θ : Th} {ρ : DEnv} {Q : Dv → Th → Prop}
/-- rows: a make and the place of its list -/
abbrev RQ := Nat × Nat
def ro (L : Nat) (qs : List RQ) : List Dv := qs.map fun q => .obj (L + 1 + q.2)
def RI (n : Nat) (h : Hist) (qs : List RQ) (R : Th) : Prop := ∀ q, q ∈ qs → R[q.2]? = some (.lst (bl n (anc h q.1)))
theorem RI.more {n : Nat} {h : Hist} {qs : List RQ} {R g : Th} (r : RI n h qs R) : RI n h qs (R ++ g) := fun q hq => th_left (r q hq)
theorem cls_mem (tl : Nat → List Nat) : ∀ n p, p ∈ cls tl n → ∀ x, x ∈ p → x < n
  | 0, p, h, _, _ => by simp [cls] at h
  | n + 1, p, h, x, hx => by
    rw [cls_succ] at h
    unfold addP at h
    split at h
    · obtain ⟨q, hq, rfl⟩ := List.mem_map.mp h
      split at hx
      · rcases List.mem_append.mp hx with hx | hx
        · have := cls_mem tl n q hq x hx; omega
        · have := List.mem_singleton.mp hx; omega
      · have := cls_mem tl n q hq x hx; omega
    · rcases List.mem_append.mp h with h | h
      · have := cls_mem tl n p h x hx; omega
      · obtain rfl := List.mem_singleton.mp h
        have := List.mem_singleton.mp hx; omega
theorem depth_ints : ∀ l : List Nat, PyData.depthAll (l.map fun m : Nat => PyData.int (m : Int)) = 0
  | [] => by simp [PyData.depthAll]
  | b :: bs => by
    rw [List.map_cons]
    simp [PyData.depthAll, PyData.depth, depth_ints bs]
def po (L : Nat) (ps : List Part) : List Dv := ps.map fun q => .obj (L + 1 + q.2)
end Sp

/-! Sp11: what is known of drawn histories, of classes. -/
namespace Sp
open PySem PySem.Spec PyProof.Rows L2 Mn
section
variable {n w : Nat} {P : Nat → List Nat}
end
theorem cls_ne (tl : Nat → List Nat) : ∀ n p, p ∈ cls tl n → p ≠ []
  | 0, p, h => by simp [cls] at h
  | n + 1, p, h => by
    rw [cls_succ] at h
    unfold addP at h
    split at h
    · obtain ⟨q, hq, rfl⟩ := List.mem_map.mp h
      split
      · simp
      · exact cls_ne tl n q hq
    · rcases List.mem_append.mp h with h | h
      · exact cls_ne tl n p h
      · obtain rfl := List.mem_singleton.mp h
        simp
end Sp

/-! Sp12: the law's tests. -/
namespace Sp
open PySem PySem.Spec PyProof.Rows L2 Mn
variable {E : Exn → Th → Prop} {θ : Th} {ρ : DEnv} {Q : Dv → Th → Prop}
section
variable {h : Hist} {sk : List Nat}
end
end Sp

/-! Sp13: the law's tests, told. -/
namespace Sp
open PySem PySem.Spec PyProof.Rows L2 Mn
variable {E : Exn → Th → Prop} {θ : Th} {ρ : DEnv} {Q : Dv → Th → Prop}
end Sp

/-! Sp14: without skipped makes, with all of them; right and wrong rows of skipped makes. -/
namespace Sp
open PySem PySem.Spec PyProof.Rows L2 Mn
/-! rows of skipped makes -/
end Sp

/-! Sq3: drawn histories of the other kind, drawn answers. -/
namespace Sp
open PySem PySem.Spec PyProof.Rows L2 Mn
variable {E : Exn → Th → Prop} {θ : Th} {Q : Dv → Th → Prop}
/-! ### histories -/
def nmV (i : Nat) : Str := ("v" : Str) ++ (⟨#[97 + i]⟩ : Str)
structure GV (i : Nat) (hs : Hist) : Prop where
  len : hs.length = i
  nm : hs.map (·.1) = (List.range i).map nmV
  srt : ∀ x ∈ hs, x.2.Pairwise (· < ·)
  ahead : Ahead hs
theorem par_app {hs : Hist} {x : Str × List Nat} {k : Nat} : par (hs ++ [x]) k = if k = hs.length then x.2 else par hs k := by
  unfold par
  by_cases h : k < hs.length
  · rw [if_neg (by omega), List.getElem?_append_left h]
  · by_cases h2 : k = hs.length
    · subst h2
      rw [if_pos rfl]
      simp
    · rw [if_neg h2, List.getElem?_eq_none (by simp; omega), List.getElem?_eq_none (by omega)]
theorem GV.step {i : Nat} {hs : Hist} {P : List Nat} (g : GV i hs) (h1 : P.Pairwise (· < ·)) (h2 : ∀ p ∈ P, p < i) : GV (i + 1) (hs ++ [(nmV i, P)]) := by
  refine ⟨by simp [g.len], by rw [List.map_append, g.nm, List.range_succ, List.map_append]; rfl, fun x hx => ?_, fun k p hp => ?_⟩
  · rcases List.mem_append.mp hx with hx | hx
    · exact g.srt x hx
    · rw [List.mem_singleton.mp hx]; exact h1
  · rw [par_app] at hp
    by_cases e : k = hs.length
    · rw [if_pos e] at hp
      have := h2 p hp
      have := g.len
      omega
    · rw [if_neg e] at hp
      exact g.ahead k p hp
theorem src_L {θ : Th} {k : Nat} {ds : List Dv} (h : θ[k]? = some (.lst ds)) (i : Nat) : (Src.sd (.L k)).at θ i = some ds[i]? := by
  simp only [Src.at, Sd.items, lstAt, h]
  rfl
/-! ### answers -/
end Sp

/-! Sq4: ancestors as a tuple. -/
namespace Sp
open PySem PySem.Spec PyProof.Rows L2 Mn
variable {E : Exn → Th → Prop} {θ : Th} {Q : Dv → Th → Prop}
end Sp

/-! Sq5: ancestors as a list, who can be it. -/
namespace Sp
open PySem PySem.Spec PyProof.Rows L2 Mn
variable {E : Exn → Th → Prop} {θ : Th} {Q : Dv → Th → Prop}
/-- histories whose parents stand ahead, once each -/
structure AN (h : Hist) : Prop where
  ahead : Ahead h
  nd : ∀ k, (par h k).Nodup
theorem GV.an {n : Nat} {h : Hist} (g : GV n h) : AN h := ⟨g.ahead, fun k => by
  unfold par
  cases e : h[k]? with
  | none => exact .nil
  | some x => exact (g.srt x (List.mem_of_getElem? e)).imp fun h => Nat.ne_of_lt h⟩
end Sp

/-! Sq6: who can be it by make. -/
namespace Sp
open PySem PySem.Spec PyProof.Rows L2 Mn
variable {E : Exn → Th → Prop} {θ : Th} {Q : Dv → Th → Prop}
abbrev Ans := List (Bool × Nat)
/-- make m lets candidate c -/
noncomputable def okm (h : Hist) (l : Ans) (k : Nat) (two : Bool) (c m : Nat) : Bool := !(anc h m c && decide (k < l.count (false, m))) && !(!anc h m c && isBr two k (l.count (true, m)))
noncomputable def okc (h : Hist) (l : Ans) (k : Nat) (two : Bool) (i c : Nat) : Bool := (List.range i).all (okm h l k two c)
noncomputable def canL (h : Hist) (l : Ans) (k : Nat) (two : Bool) (i : Nat) : List Nat := (List.range h.length).filter (okc h l k two i)
end Sp

/-! Sq7: who can be it by make: the program. -/
namespace Sp
open PySem PySem.Spec PyProof.Rows L2 Mn
variable {E : Exn → Th → Prop} {θ : Th} {Q : Dv → Th → Prop}
variable {h : Hist} {l : Ans} {k : Nat} {two : Bool}
end Sp

/-! Sq8: the candidates that agree. -/
namespace Sp
open PySem PySem.Spec PyProof.Rows L2 Mn
variable {E : Exn → Th → Prop} {θ : Th} {Q : Dv → Th → Prop} {h : Hist} {l : Ans} {k : Nat} {two : Bool}
abbrev st (l : Ans) (k : Nat) (two : Bool) (m : Nat) : Str := stl two k (l.count (false, m)) (l.count (true, m))
end Sp

/-! Sr1: trees. -/
namespace Sp
open PySem PySem.Spec PyProof.Rows L2 Mn
variable {E : Exn → Th → Prop} {θ : Th} {Q : Dv → Th → Prop}
inductive Tr where
  | nob | found (c : Nat) | ask (m : Nat) (b w : Tr)
def dp : Tr → Nat
  | .ask _ b w => 1 + max (dp b) (dp w)
  | _ => 0
def below (n : Nat) : Tr → Prop
  | .ask m b w => m < n ∧ below n b ∧ below n w
  | _ => True
end Sp

/-! Sr2: places in trees. -/
namespace Sp
open PySem PySem.Spec PyProof.Rows L2 Mn
variable {E : Exn → Th → Prop} {θ : Th} {Q : Dv → Th → Prop} {l : Ans} {k : Nat} {two : Bool}
theorem n1 : ("nobody" : Str) ≠ "ask" := by decide
theorem n2 : ("found" : Str) ≠ "ask" := by decide
theorem n3 : ("nobody" : Str) ≠ "found" := by decide
/-- the part that settled makes lead to -/
def pl_ (l : Ans) (k : Nat) (two : Bool) : Tr → Tr
  | .ask m b w => if st l k two m = "" then .ask m b w else if st l k two m = "works" then pl_ l k two w else pl_ l k two b
  | t => t
theorem pl_ask {m : Nat} {b w : Tr} : pl_ l k two (.ask m b w) = if st l k two m = "" then .ask m b w else if st l k two m = "works" then pl_ l k two w else pl_ l k two b := rfl
end Sp

/-! Sr3: the tests that are still needed. -/
namespace Sp
open PySem PySem.Spec PyProof.Rows L2 Mn
variable {E : Exn → Th → Prop} {θ : Th} {Q : Dv → Th → Prop} {l : Ans} {k : Nat} {two : Bool}
theorem x_max2 {i j : Int} : max2 [.int i, .int j] E θ Q = Q (.int (if j > i then j else i)) θ := (rfl)
def more (l : Ans) (k : Nat) (two : Bool) (m : Nat) : Int := (mst two k : Nat) - ((l.count (false, m) : Nat) + (l.count (true, m) : Nat) : Int)
/-- the tests still needed -/
def nn (l : Ans) (k : Nat) (two : Bool) : Tr → Int
  | .ask m b w => if st l k two m = "" then more l k two m + max (nn l k two b) (nn l k two w) else if st l k two m = "works" then nn l k two w else nn l k two b
  | _ => 0
theorem nn_ask {m : Nat} {b w : Tr} : nn l k two (.ask m b w) = if st l k two m = "" then more l k two m + max (nn l k two b) (nn l k two w) else if st l k two m = "works" then nn l k two w else nn l k two b := rfl
theorem nn_pl : ∀ t, nn l k two (pl_ l k two t) = nn l k two t ∧ dp (pl_ l k two t) ≤ dp t ∧ ∀ m b w, pl_ l k two t = .ask m b w → st l k two m = ""
  | .nob => ⟨rfl, Nat.le_refl _, fun _ _ _ h => by cases h⟩
  | .found c => ⟨rfl, Nat.le_refl _, fun _ _ _ h => by cases h⟩
  | .ask m b w => by
    have hb := nn_pl b
    have hw := nn_pl w
    rw [pl_ask, nn_ask]
    by_cases h1 : st l k two m = ""
    · rw [if_pos h1, if_pos h1, nn_ask, if_pos h1]
      exact ⟨rfl, Nat.le_refl _, fun m' b' w' e => by cases e; exact h1⟩
    · rw [if_neg h1, if_neg h1]
      by_cases h2 : st l k two m = "works"
      · rw [if_pos h2, if_pos h2]
        exact ⟨hw.1, by have := hw.2.1; simp only [dp]; omega, hw.2.2⟩
      · rw [if_neg h2, if_neg h2]
        exact ⟨hb.1, by have := hb.2.1; simp only [dp]; omega, hb.2.2⟩
end Sp

/-! Ss1: who contradicts whom. -/
namespace Sp
open PySem PySem.Spec PyProof.Rows L2 Mn
variable {E : Exn → Th → Prop} {θ : Th} {Q : Dv → Th → Prop} {h : Hist} {l : Ans}
/-- an answer contradicts a candidate -/
noncomputable def ag (h : Hist) (c : Nat) (x : Bool × Nat) : Bool := anc h x.2 c != x.1
noncomputable def plc (h : Hist) (l : Ans) (c : Nat) : List Nat := (List.range l.length).filter fun i => match l[i]? with
  | some x => ag h c x
  | none => false
end Sp

/-! Ss2: the law's counting; verdicts. -/
namespace Sp
open PySem PySem.Spec PyProof.Rows L2 Mn
variable {E : Exn → Th → Prop} {θ : Th} {Q : Dv → Th → Prop} {h : Hist} {l : Ans}
end Sp

/-! Ss3: verdicts. -/
namespace Sp
open PySem PySem.Spec PyProof.Rows L2 Mn
variable {E : Exn → Th → Prop} {θ : Th} {Q : Dv → Th → Prop} {h : Hist} {l : Ans}
theorem one_line {a : Dv} : [a].length ≤ sizeLine := by
  show 1 ≤ sizeLine
  rw [sizeLine_eq]
  decide
end Sp

/-! Ss4: the law's verdicts. -/
namespace Sp
open PySem PySem.Spec PyProof.Rows L2 Mn
variable {E : Exn → Th → Prop} {θ : Th} {Q : Dv → Th → Prop} {h : Hist} {l : Ans}
end Sp

/-! Ss5: papers. -/
namespace Sp
open PySem PySem.Spec PyProof.Rows L2 Mn
variable {E : Exn → Th → Prop} {θ : Th} {Q : Dv → Th → Prop} {h : Hist} {l : Ans} {k c : Nat}
theorem cut_tk {ds : List Dv} {i : Nat} : Mn.cutD ds none (some (i : Int)) = ds.take i := by
  unfold Mn.cutD
  have e1 : HT.sIx ds.length 0 none = 0 := rfl
  have e2 : HT.sIx ds.length ds.length (some (i : Int)) = min i ds.length := HT.sIx_nat _ _ _
  rw [e1, e2]
  simp
end Sp

/-! Su3: choices, weights. -/
namespace Sp
open PySem PySem.Spec PyProof.Rows L2 Mn
variable {E : Exn → Th → Prop} {θ : Th} {Q : Dv → Th → Prop}
abbrev id_ (ns : List Int) : List Dv := ns.map Dv.int
theorem sum_nat : ∀ xs : List Nat, (xs.map fun n : Nat => (n : Int)).sum = (xs.sum : Nat)
  | [] => rfl
  | x :: xs => by
    rw [List.map_cons, List.sum_cons, sum_nat xs, List.sum_cons, Int.natCast_add]
theorem chs_sum (q : Nat) : ∀ m : Nat, ((List.range m).map fun i => cho q i).sum = chs q m
  | 0 => rfl
  | m + 1 => by
    rw [List.range_succ, List.map_append, List.sum_append, chs_sum q m]
    simp [chs]
theorem x_sumLn {k : Nat} {ns : List Int} (h : θ[k]? = some (.lst (id_ ns))) (hQ : Q (.int ns.sum) θ) : onInts sumL (.obj k) E θ Q := by
  rw [x_intsP h (intsD_map ns)]
  exact hQ
theorem s_choices {q : Nat} {m : Int} (hq : q ≤ 1000) (h0 : -1 ≤ m) (hm : m ≤ 1000) (hQ : Q (.int (chs q (m + 1).toNat : Nat)) θ) : Cm7.c_choices [.int q, .int m] E θ Q := by
  unfold Cm7.c_choices Cm7.m_choices
  simp only [mxCN, List.map_cons, List.map_nil, List.replicate, List.cons_append, List.nil_append, List.set_cons_zero, List.set_cons_succ, wipeE]
  refine ⟨⟨by omega, by omega⟩, ?_⟩
  refine lc_pure (m + 1).toNat (fun _ => true) (fun i => .int (cho q i : Nat)) (by rw [sizeLine_eq]; omega) ?_ ?_ ?_
  · intro i acc g hi
    refine ⟨.int (i : Nat), _, by rw [rng_at hi]; simp, rfl, fun K hK => ?_⟩
    simp only [mxC, List.map_cons, List.map_nil, List.replicate, List.cons_append, List.nil_append, List.set_cons_zero, List.set_cons_succ]
    refine hK g fun _ K2 h2 => ?_
    simp only [mxC, List.map_cons, List.map_nil, List.replicate, List.cons_append, List.nil_append, List.set_cons_zero, List.set_cons_succ, x_comb]
    refine ⟨by omega, by omega, by omega, ?_⟩
    rw [comb_cho]
    exact h2 g
  · intro acc g
    exact rng_end
  · intro g
    rw [List.filter_eq_self.mpr fun _ _ => rfl]
    have e : (List.range (m + 1).toNat).map (fun i => Dv.int (cho q i : Nat)) = id_ (((List.range (m + 1).toNat).map fun i => cho q i).map fun n : Nat => (n : Int)) := by
      unfold id_
      rw [List.map_map, List.map_map]
      rfl
    rw [e]
    refine x_sumLn th_mid ?_
    rw [sum_nat, chs_sum]
    exact end_drop hQ fun _ => rfl
theorem x_shl {i j : Int} : oShl (.int i) (.int j) E θ Q = (CPow i j ∧ Q (.int (i * 2 ^ j.toNat)) θ) := (rfl)
end Sp

/-! Su4: the first state, what answers make of states. -/
namespace Sp
open PySem PySem.Spec PyProof.Rows L2 Mn
variable {E : Exn → Th → Prop} {θ : Th} {Q : Dv → Th → Prop} {h : Hist} {sk : List Nat}
noncomputable def nc (h : Hist) (sk : List Nat) : Nat := (cls (tell h sk) h.length).length
noncomputable def fr (h : Hist) (sk : List Nat) : List Nat := (cls (tell h sk) h.length).map (·.headD 0)
theorem fr_len : (fr h sk).length = nc h sk := by unfold fr nc; simp
theorem fr_lt {c : Nat} (hc : c ∈ fr h sk) : c < h.length := by
  obtain ⟨p, hp, rfl⟩ := List.mem_map.mp hc
  have ne := cls_ne _ _ p hp
  refine cls_mem _ _ p hp _ ?_
  cases p with
  | nil => exact absurd rfl ne
  | cons x r => exact List.mem_cons_self
/-- one less, if a and in -/
def dn (a : Bool) (y : Int) : Int := if (a && decide (0 ≤ y)) = true then y - 1 else y
def dns (as : List Bool) (st : List Int) : List Int := (List.range st.length).map fun i => dn (as.getD i false) (st.getD i 0)
end Sp

/-! Su5: what answers make of states. -/
namespace Sp
open PySem PySem.Spec PyProof.Rows L2 Mn
variable {E : Exn → Th → Prop} {θ : Th} {Q : Dv → Th → Prop} {h : Hist} {sk : List Nat} {st : List Int}
theorem dns_len (as : List Bool) : (dns as st).length = st.length := by unfold dns; simp
theorem getD_ids {i : Nat} (hi : i < st.length) : (id_ st)[i]? = some (.int (st.getD i 0)) := by
  unfold id_
  rw [List.getElem?_map, List.getElem?_eq_getElem hi, List.getD_eq_getElem?_getD, List.getElem?_eq_getElem hi]
  rfl
end Sp

/-! Ss6: the judge's look at one entry. -/
namespace Sp
open PySem PySem.Spec PyProof.Rows L2 Mn
variable {E : Exn → Th → Prop} {θ : Th} {Q : Dv → Th → Prop} {h : Hist} {l : Ans} {k o : Nat}
end Sp

/-! Ss7: the judge of papers. -/
namespace Sp
open PySem PySem.Spec PyProof.Rows L2 Mn
variable {E : Exn → Th → Prop} {θ : Th} {Q : Dv → Th → Prop} {h : Hist} {l : Ans} {k c : Nat}
end Sp

/-! Ss8: entries, good and bad. -/
namespace Sp
open PySem PySem.Spec PyProof.Rows L2 Mn
variable {E : Exn → Th → Prop} {θ : Th} {Q : Dv → Th → Prop} {h : Hist} {l : Ans} {k c o : Nat}
section
variable (a : Ahead h) (hl : h.length ≤ 1000) (hx : ∀ x ∈ l, x.2 < h.length)
include a hl hx
end
abbrev cI (P : List Nat) : List Int := P.map fun p : Nat => (p : Int)
end Sp

/-! Ss9: good papers. -/
namespace Sp
open PySem PySem.Spec PyProof.Rows L2 Mn
variable {E : Exn → Th → Prop} {θ : Th} {Q : Dv → Th → Prop} {h : Hist} {l : Ans} {k c o : Nat}
end Sp

/-! Va0: comprehensions over lists of anything; stores that grow. -/
namespace Sp
open PySem PySem.Spec PyProof.Rows L2 Mn
variable {E : Exn → Th → Prop} {θ θ' θ0 θ1 θ2 : Th} {Q : Dv → Th → Prop}
/-- a store that has grown -/
def Ext (θ θ' : Th) : Prop := ∃ g, θ' = θ ++ g
theorem Ext.refl : Ext θ θ := ⟨[], by simp⟩
theorem Ext.app {g : Th} : Ext θ (θ ++ g) := ⟨g, rfl⟩
theorem Ext.trans (a : Ext θ θ1) (b : Ext θ1 θ2) : Ext θ θ2 := by
  obtain ⟨g, rfl⟩ := a
  obtain ⟨g2, rfl⟩ := b
  exact ⟨g ++ g2, by rw [List.append_assoc]⟩
theorem Ext.left {g : Th} (a : Ext (θ ++ g) θ') : Ext θ θ' := Ext.trans .app a
theorem Ext.at (a : Ext θ θ') {k : Nat} {o : Ob} (h : θ[k]? = some o) : θ'[k]? = some o := by
  obtain ⟨g, rfl⟩ := a
  exact th_left h
theorem Ext.snoc {o : Ob} (a : Ext θ θ') : Ext θ (θ' ++ [o]) := a.trans .app
theorem end_ext {d : Dv} (h : Q d θ) (e : Ext θ θ') (hd : ∀ n, d.low n = true) : endQ θ Q d θ' := by
  obtain ⟨g, rfl⟩ := e
  exact end_drop h hd
/-- what a source gives -/
def SrcIs (src : Src) (θ : Th) (ds : List Dv) : Prop := ∀ θ', Ext θ θ' → ∀ i, i ≤ ds.length → src.at θ' i = some ds[i]?
theorem srcL {ds : List Dv} {k : Nat} (h : θ[k]? = some (.lst ds)) : SrcIs (.sd (.L k)) θ ds := fun θ' e i _ => src_L (e.at h) i
theorem srcR {n : Nat} : SrcIs (.rng 0 1 n) θ ((List.range n).map fun i => .int (i : Nat)) := fun θ' _ i hi => by
  rw [List.length_map, List.length_range] at hi
  by_cases h : i < n
  · rw [rng_at h]
    simp [h]
  · obtain rfl : i = n := by omega
    rw [rng_end]
    simp
theorem enAt_is {ds : List Dv} {i : Nat} (hi : i ≤ ds.length) : enAt (some ds) i = some ((ds.zipIdx.map fun x => Dv.tup [.int (x.2 : Nat), x.1])[i]?) := by
  simp only [enAt, if_pos hi]
  by_cases h : i < ds.length
  · simp [h]
  · rw [List.getElem?_eq_none (by omega), List.getElem?_eq_none (by simp; omega)]
    rfl
theorem srcE {s : Sd} {ds : List Dv} (h : ∀ θ', Ext θ θ' → s.items θ' = some ds) : SrcIs (.en s) θ (ds.zipIdx.map fun x => Dv.tup [.int (x.2 : Nat), x.1]) := fun θ' e i hi => by
  rw [List.length_map, List.length_zipIdx] at hi
  show enAt (s.items θ') i = _
  rw [h θ' e, enAt_is hi]
theorem srcET {ds : List Dv} : SrcIs (.en (.T ds)) θ (ds.zipIdx.map fun x => Dv.tup [.int (x.2 : Nat), x.1]) := srcE fun _ _ => rfl
theorem lc_list {β : Type} {src : Src} {T : Tg} {cond : DEnv → MX Bool} {elt : ME} {ρ : DEnv} {QT : Th → Prop} (l : List β) (dv : β → Dv) (p : β → Bool) (f : β → Dv) (hn : l.length < sizeLine) (hsrc : SrcIs src θ0 (l.map dv))
    (hs : ∀ x ∈ l, ∀ θ', Ext θ0 θ' → ∃ ρ1, asgT T (dv x) ρ = some ρ1 ∧ ∀ K : Bool → Th → Prop, (∀ θ1, Ext θ' θ1 → (p x = true → ∀ K2 : Dv → Th → Prop, (∀ θ2, Ext θ1 θ2 → K2 (f x) θ2) → elt ρ1 (fun _ _ => False) θ1 K2) → K (p x) θ1) → cond ρ1 (fun _ _ => False) θ' K)
    (q : ∀ θ2, Ext θ0 θ2 → θ2[θ0.length]? = some (.lst ((l.filter p).map f)) → QT θ2) : ∃ m, lcGo src T cond elt θ0.length ρ m 0 (θ0 ++ [.lst []]) QT := by
  refine lc_rule l.length (fun i θ => ∃ g, θ = θ0 ++ .lst (((l.take i).filter p).map f) :: g) ⟨[], by simp⟩ ?_ ?_
  · rintro i θ hi ⟨g, rfl⟩
    obtain ⟨ρ1, h2, h3⟩ := hs l[i] (List.getElem_mem hi) _ ⟨_, rfl⟩
    have et : l.take (i + 1) = l.take i ++ [l[i]] := by rw [List.take_add_one, List.getElem?_eq_getElem hi]; rfl
    refine ⟨dv l[i], ρ1, ?_, h2, fun K k0 k1 => h3 K fun θ1 e1 he => ?_⟩
    · rw [hsrc _ ⟨_, rfl⟩ i (by rw [List.length_map]; omega)]
      simp [hi]
    · obtain ⟨g', rfl⟩ := e1
      rw [List.append_assoc, List.cons_append] at he ⊢
      cases hp : p l[i] with
      | false =>
        refine k0 _ ⟨g ++ g', ?_⟩
        rw [et, List.filter_append]
        simp [hp]
      | true =>
        refine k1 _ fun K2 h4 => he hp K2 fun θ2 e2 => ?_
        obtain ⟨g2, rfl⟩ := e2
        rw [List.append_assoc, List.cons_append]
        refine h4 _ _ (((l.take i).filter p).map f) (by simp) ?_ ⟨g ++ g' ++ g2, ?_⟩
        · rw [List.length_map]
          refine Nat.lt_of_le_of_lt (List.length_filter_le _ _) ?_
          rw [List.length_take]
          omega
        · rw [et, List.filter_append]
          simp [hp]
  · rintro θ ⟨g, rfl⟩
    refine ⟨?_, q _ ⟨_, rfl⟩ ?_⟩
    · rw [hsrc _ ⟨_, rfl⟩ _ (by rw [List.length_map]; exact Nat.le_refl _)]
      simp
    · rw [List.take_length]
      exact th_mid
/-- without a test -/
theorem lc_all1 {β : Type} {src : Src} {T : Tg} {elt : ME} {ρ : DEnv} {QT : Th → Prop} (l : List β) (dv : β → Dv) (f : β → Dv) (hn : l.length < sizeLine) (hsrc : SrcIs src θ0 (l.map dv))
    (hs : ∀ x ∈ l, ∀ θ', Ext θ0 θ' → ∃ ρ1, asgT T (dv x) ρ = some ρ1 ∧ ∀ K2 : Dv → Th → Prop, (∀ θ2, Ext θ' θ2 → K2 (f x) θ2) → elt ρ1 (fun _ _ => False) θ' K2)
    (q : ∀ θ2, Ext θ0 θ2 → θ2[θ0.length]? = some (.lst (l.map f)) → QT θ2) : ∃ m, lcGo src T bYes elt θ0.length ρ m 0 (θ0 ++ [.lst []]) QT := by
  refine lc_list l dv (fun _ => true) f hn hsrc (fun x hx θ' e => ?_) fun θ2 e h => q θ2 e ?_
  · obtain ⟨ρ1, h1, h2⟩ := hs x hx θ' e
    refine ⟨ρ1, h1, fun K hK => ?_⟩
    rw [x_bYes]
    exact hK θ' .refl fun _ K2 h => h2 K2 h
  · rw [h, List.filter_eq_self.mpr fun _ _ => rfl]
theorem lt_line {n : Nat} (h : n ≤ 1000) : n < sizeLine := by rw [sizeLine_eq]; omega
end Sp

/-! Va1: standings. -/
namespace Sp
open PySem PySem.Spec PyProof.Rows L2 Mn
variable {E : Exn → Th → Prop} {θ : Th} {Q : Dv → Th → Prop} {h : Hist} {l : Ans} {k : Nat}
/-- how many answers contradict -/
noncomputable def cn (h : Hist) (l : Ans) (c : Nat) : Nat := (plc h l c).length
/-- where a candidate goes away -/
noncomputable def en (h : Hist) (l : Ans) (k c : Nat) : Nat := if k < (plc h l c).length then (plc h l c).getD k 0 else l.length
end Sp

/-! Va2: standings: rivals, ranking. -/
namespace Sp
open PySem PySem.Spec PyProof.Rows L2 Mn
variable {E : Exn → Th → Prop} {θ : Th} {Q : Dv → Th → Prop} {h : Hist} {l : Ans} {k : Nat}
end Sp

/-! Va3: standings: the order, the text; tellings; the law's counting. -/
namespace Sp
open PySem PySem.Spec PyProof.Rows L2 Mn
variable {E : Exn → Th → Prop} {θ : Th} {Q : Dv → Th → Prop} {h : Hist} {l : Ans} {k : Nat}
abbrev prP (x y : Nat) : PyData := .tuple [.int (x : Nat), .int (y : Nat)]
/-- candidates by how many answers contradict them -/
noncomputable def rk (h : Hist) (l : Ans) : List Nat := (List.range h.length).mergeSort fun a b => !PySem.W.dataLt (prP (cn h l b) b) (prP (cn h l a) a)
/-- the name of a make -/
def nmA (h : Hist) (c : Nat) : Str := (h.getD c (Str.empty, [])).1
/-! tellings -/
end Sp

/-! Va4: equality of rows of ints; drawn answers as a plain tuple. -/
namespace Sp
open PySem PySem.Spec PyProof.Rows L2 Mn
variable {E : Exn → Th → Prop} {θ : Th} {Q : Dv → Th → Prop} {h : Hist} {l : Ans} {k : Nat}
theorem eqPy_of {x y : Dv} {p q : PyData} {f : Bool → Bool} (hx : toPy θ 66 x = some p) (hy : toPy θ 66 y = some q) (sp : SeqAt.shaped p = true) (sq : SeqAt.shaped q = true) (hQ : Q (.bl (f (PyData.eqv p q))) θ) : eqPy x y f E θ Q := by
  unfold eqPy
  simp only [hx, hy]
  exact ⟨sp, sq, hQ⟩
/-! answers -/
end Sp

/-! Vi1: searches: the classes that are in, tests that part them, marked tests. -/
namespace Sp
open PySem PySem.Spec PyProof.Rows L2 Mn
variable {E : Exn → Th → Prop} {θ : Th} {Q : Dv → Th → Prop} {h : Hist} {sk : List Nat} {st : List Int}
/-- the classes that are in -/
def insL (st : List Int) : List Nat := (List.range st.length).filter fun i => decide (0 ≤ st.getD i 0)
theorem en_ids : (id_ st).zipIdx.map (fun x => Dv.tup [.int (x.2 : Nat), x.1]) = (List.range st.length).map fun i => Dv.tup [.int (i : Nat), .int (st.getD i 0)] := by
  refine List.ext_getElem (by simp [id_]) fun i h1 h2 => ?_
  have hi : i < st.length := by simpa [id_] using h1
  simp only [List.getElem_map, List.getElem_zipIdx, List.getElem_range, Nat.zero_add, id_]
  rw [List.getD_eq_getElem?_getD, List.getElem?_eq_getElem hi]
  rfl
theorem srcIds : SrcIs (.en (.T (id_ st))) θ ((List.range st.length).map fun i => Dv.tup [.int (i : Nat), .int (st.getD i 0)]) := by
  rw [← en_ids]
  exact srcET
/-- whether a test parts what is in -/
def prtB (st : List Int) (bs : List Bool) : Bool := (insL st).any (fun i => bs.getD i false) && (insL st).any fun i => !(bs.getD i false)
/-- the marks of a make -/
noncomputable def mkB (h : Hist) (sk : List Nat) (m : Nat) : List Bool := (fr h sk).map fun c => anc h m c
noncomputable def mkT (h : Hist) (sk : List Nat) (m : Nat) : Dv := .tup ((mkB h sk m).map Dv.bl)
theorem mkB_len {m : Nat} : (mkB h sk m).length = nc h sk := by unfold mkB; rw [List.length_map, fr_len]
/-- the tests -/
def tsL (h : Hist) (sk : List Nat) : List Nat := (List.range (h.length - 1)).filter fun m => !decide (m ∈ sk)
/-- the tests with their marks -/
noncomputable def mtD (h : Hist) (sk : List Nat) : Dv := .tup ((tsL h sk).map fun m => .tup [.int (m : Nat), mkT h sk m])
end Sp

/-! Vi2: the ways of a search. -/
namespace Sp
open PySem PySem.Spec PyProof.Rows L2 Mn
variable {E : Exn → Th → Prop} {θ : Th} {Q : Dv → Th → Prop} {h : Hist} {sk : List Nat} {st : List Int}
/-- the state behind an answer of a test -/
noncomputable def bhS (h : Hist) (sk : List Nat) (st : List Int) (m : Nat) (b : Bool) : List Int := dns ((mkB h sk m).map (· != b)) st
theorem bhS_len {m : Nat} {b : Bool} : (bhS h sk st m b).length = st.length := dns_len _
/-- the useful tests -/
noncomputable def usL (h : Hist) (sk : List Nat) (st : List Int) : List Nat := (tsL h sk).filter fun m => prtB st (mkB h sk m)
/-- a search in the store, with what it knows -/
structure SeA (θ : Th) (d kk : Nat) (h : Hist) (sk : List Nat) (kvs : List (List Key × Dv)) : Prop where
  hd : θ[d]? = some (.ins "Search" [("marked", mtD h sk), ("step", .fn "taken"), ("known", .obj kk)])
  hk : θ[kk]? = some (.dT kvs)
theorem SeA.ext {θ' : Th} {d kk : Nat} {kvs : List (List Key × Dv)} (a : SeA θ d kk h sk kvs) (e : Ext θ θ') : SeA θ' d kk h sk kvs := ⟨e.at a.hd, e.at a.hk⟩
section
variable {d kk : Nat} {kvs : List (List Key × Dv)} {R : Dv → Th → Prop}
end
end Sp

/-! Tq0: what sorting gives. -/
namespace Sp
open PySem PySem.Spec PyProof.Rows L2 Mn
variable {E : Exn → Th → Prop} {θ : Th} {Q : Dv → Th → Prop}
end Sp

/-! Vb1: desks: what is on one, what it tells of it. -/
namespace Sp
open PySem PySem.Spec PyProof.Rows L2 Mn
variable {E : Exn → Th → Prop} {θ : Th} {Q : Dv → Th → Prop} {h : Hist} {k : Nat}
/-- what is on a desk: answers with their numbers, skipped makes, the next number -/
structure DM where
  rows : List (Nat × (Bool × Nat))
  sk : List Nat
  nx : Nat
abbrev DM.ans (m : DM) : Ans := m.rows.map (·.2)
def rD (x : Nat × (Bool × Nat)) : Dv := .tup [.int (x.1 : Nat), an x.2]
/-- the program's word of it -/
structure ThR (m : DM) (d dr ds : Dv) : Prop where
  e : d = .tup [dr, ds, .int (m.nx : Nat)] ∨ d = .st [dr, ds, .int (m.nx : Nat)]
  r : dr = .tup (m.rows.map rD) ∨ m.rows = [] ∧ dr = .st []
  s : ds = .tup (nd m.sk) ∨ m.sk = [] ∧ ds = .st []
theorem rD_low (x : Nat × (Bool × Nat)) (n : Nat) : (rD x).low n = true := rfl
theorem rowsD_low (l : List (Nat × (Bool × Nat))) (n : Nat) : (Dv.tup (l.map rD)).low n = true := flat_low (flat_map (fun x => rD_low x 0) l) n
theorem ThR.dr_low {m : DM} {d dr ds : Dv} (t : ThR m d dr ds) (n : Nat) : dr.low n = true := by
  rcases t.r with e | ⟨_, e⟩ <;> rw [e]
  · exact rowsD_low _ n
  · rfl
theorem ThR.ds_low {m : DM} {d dr ds : Dv} (t : ThR m d dr ds) (n : Nat) : ds.low n = true := by
  rcases t.s with e | ⟨_, e⟩ <;> rw [e]
  · exact low_nats _ n
  · rfl
theorem ThR.low {m : DM} {d dr ds : Dv} (t : ThR m d dr ds) (n : Nat) : d.low n = true := by
  have h1 := t.dr_low n
  have h2 := t.ds_low n
  rcases t.e with e | e <;> rw [e] <;> unfold Dv.low Dv.lows Dv.lows Dv.lows Dv.lows <;> rw [h1, h2] <;> rfl
theorem ThR.ix {m : DM} {d dr ds : Dv} (t : ThR m d dr ds) {i : Int} {R : Dv → Th → Prop} : oIx d (.int i) E θ R = optW (atI [dr, ds, .int (m.nx : Nat)] i) θ R := by
  rcases t.e with e | e <;> rw [e] <;> rfl
theorem ThR.src {m : DM} {d dr ds : Dv} (t : ThR m d dr ds) {R : Src → Th → Prop} : srcK E R dr θ = R (.sd (.T (m.rows.map rD))) θ := by
  rcases t.r with e | ⟨e0, e⟩
  · rw [e]; rfl
  · rw [e, e0]; rfl
theorem ThR.len {m : DM} {d dr ds : Dv} (t : ThR m d dr ds) {R : Dv → Th → Prop} : lenD dr E θ R = R (.int (m.rows.length : Nat)) θ := by
  rcases t.r with e | ⟨e0, e⟩
  · rw [e]
    show R (.int ((m.rows.map rD).length : Nat)) θ = _
    rw [List.length_map]
  · rw [e, e0]; rfl
/-! deeds -/
inductive Deed where
  | ans (b : Bool) (x : Str) | take (n : Int) | skip (x : Str) | unskip (x : Str)
def dD : Deed → Dv
  | .ans b x => .tup [.str "answer", .str (word b), .str x]
  | .take n => .tup [.str "take", .int n]
  | .skip x => .tup [.str "skip", .str x]
  | .unskip x => .tup [.str "unskip", .str x]
open Classical in
/-- a desk in the store -/
structure DkA (θ : Th) (d i j : Nat) (h : Hist) (k : Nat) (r : Str) (D : List Deed) (ms : List Dv) : Prop where
  hd : θ[d]? = some (.ins "Desk" [("_history", hD h), ("_k", .int (k : Nat)), ("_rule", .str r), ("_deeds", .obj i), ("_moments", .obj j)])
  hi : θ[i]? = some (.lst (D.map dD))
  hj : θ[j]? = some (.lst ms)
theorem DkA.ext {θ' : Th} {d i j : Nat} {r : Str} {D : List Deed} {ms : List Dv} (a : DkA θ d i j h k r D ms) (e : Ext θ θ') : DkA θ' d i j h k r D ms := ⟨e.at a.hd, e.at a.hi, e.at a.hj⟩
section
variable {d i j : Nat} {r : Str} {D : List Deed} {ms : List Dv} {R : Dv → Th → Prop}
/-! what a desk tells -/
variable {m : DM} {dm dr ds : Dv}
end
end Sp

/-! Vb2: the law's classes (of the drawn kind by digits). -/
namespace Sp
open PySem PySem.Spec PyProof.Rows L2 Mn
variable {E : Exn → Th → Prop} {θ : Th} {Q : Dv → Th → Prop} {h : Hist} {k : Nat}
abbrev Pt4 := List Nat × (Nat × Nat × Nat)
structure CJ (tl : Nat → List Nat) (row : Nat → List Bool) (θ : Th) (J : Nat) (qs : List Pt4) : Prop where
  hJ : θ[J]? = some (.lst (qs.map fun q => .obj q.2.1))
  at' : ∀ q, q ∈ qs → q.1 ≠ [] ∧ θ[q.2.1]? = some (.lst [.obj q.2.2.1, .obj q.2.2.2]) ∧ θ[q.2.2.1]? = some (.lst ((row (q.1.headD 0)).map Dv.bl)) ∧ θ[q.2.2.2]? = some (.lst (nd q.1))
  gt : ∀ q, q ∈ qs → J < q.2.1 ∧ J < q.2.2.1 ∧ J < q.2.2.2
  kn : (qs.map fun q => tl (q.1.headD 0)).Nodup
  ndM : (qs.map fun q => q.2.2.2).Nodup
theorem CJ.ext {tl : Nat → List Nat} {row : Nat → List Bool} {θ θ' : Th} {J : Nat} {qs : List Pt4} (c : CJ tl row θ J qs) (e : Ext θ θ') : CJ tl row θ' J qs :=
  ⟨e.at c.hJ, fun q hq => ⟨(c.at' q hq).1, e.at (c.at' q hq).2.1, e.at (c.at' q hq).2.2.1, e.at (c.at' q hq).2.2.2⟩, c.gt, c.kn, c.ndM⟩
theorem nd_cons {l : List Nat} (h : l ≠ []) : ∃ x r, nd l = .int (x : Nat) :: r := by
  cases l with
  | nil => exact absurd rfl h
  | cons x r => exact ⟨x, nd r, rfl⟩
def upJ (tl : Nat → List Nat) (c : Nat) (q : Pt4) : Pt4 := if tl (q.1.headD 0) = tl c then (q.1 ++ [c], q.2) else q
theorem upJ_2 (tl : Nat → List Nat) (c : Nat) (q : Pt4) : (upJ tl c q).2 = q.2 := by unfold upJ; split <;> rfl
theorem upJ_h (tl : Nat → List Nat) (c : Nat) (q : Pt4) (h : q.1 ≠ []) : (upJ tl c q).1.headD 0 = q.1.headD 0 := by
  unfold upJ
  split
  · exact headD_snoc h
  · rfl
theorem CJ.found {tl : Nat → List Nat} {row : Nat → List Bool} {θ : Th} {J : Nat} {qs : List Pt4} {q : Pt4} {c : Nat} (C : CJ tl row θ J qs) (hq : q ∈ qs) (hk : tl (q.1.headD 0) = tl c) : CJ tl row (θ.set q.2.2.2 (.lst (nd (q.1 ++ [c])))) J (qs.map (upJ tl c)) := by
  obtain ⟨hq0, _, _, hqm⟩ := C.at' q hq
  obtain ⟨x, r, hx⟩ := nd_cons hq0
  have ne : ∀ {a : Nat} {o : Ob}, θ[a]? = some o → (∀ r, o ≠ .lst (.int (x : Nat) :: r)) → (θ.set q.2.2.2 (.lst (nd (q.1 ++ [c]))))[a]? = some o := fun {a o} ha hn => by
    rw [List.getElem?_set_ne]
    · exact ha
    · intro e
      rw [e, ha, hx] at hqm
      exact hn r (Option.some.inj hqm)
  refine ⟨?_, fun q' hq' => ?_, fun q' hq' => ?_, ?_, ?_⟩
  · rw [List.map_map]
    have e : (fun q : Pt4 => Dv.obj q.2.1) ∘ upJ tl c = fun q => Dv.obj q.2.1 := by
      funext u
      show Dv.obj (upJ tl c u).2.1 = _
      rw [upJ_2]
    rw [e]
    refine ne C.hJ fun r z => ?_
    have z := Ob.lst.inj z
    cases qs with
    | nil => cases hq
    | cons u us => cases z
  · obtain ⟨u, hu, rfl⟩ := List.mem_map.mp hq'
    obtain ⟨u0, u1, u2, u3⟩ := C.at' u hu
    rw [upJ_h _ _ _ u0, upJ_2]
    refine ⟨?_, ne u1 (fun r z => by cases z), ne u2 (fun r z => ?_), ?_⟩
    · unfold upJ
      split
      · simp
      · exact u0
    · have z := Ob.lst.inj z
      cases hr : row (u.1.headD 0) with
      | nil => rw [hr] at z; cases z
      | cons b bs => rw [hr] at z; cases z
    · unfold upJ
      by_cases e : tl (u.1.headD 0) = tl c
      · have : u = q := nodup_inj C.kn u q hu hq (e.trans hk.symm)
        subst this
        rw [if_pos e]
        exact List.getElem?_set_self (List.getElem?_eq_some_iff.mp u3).1
      · rw [if_neg e, List.getElem?_set_ne]
        · exact u3
        · intro z
          have : u = q := nodup_inj C.ndM u q hu hq z.symm
          subst this
          exact e hk
  · obtain ⟨u, hu, rfl⟩ := List.mem_map.mp hq'
    rw [upJ_2]
    exact C.gt u hu
  · rw [List.map_map]
    have e : qs.map ((fun q : Pt4 => tl (q.1.headD 0)) ∘ upJ tl c) = qs.map fun q => tl (q.1.headD 0) := by
      apply List.map_congr_left
      intro u hu
      show tl ((upJ tl c u).1.headD 0) = _
      rw [upJ_h _ _ _ (C.at' u hu).1]
    rw [e]
    exact C.kn
  · rw [List.map_map]
    have e : (fun q : Pt4 => q.2.2.2) ∘ upJ tl c = fun q => q.2.2.2 := by
      funext u
      show (upJ tl c u).2.2.2 = _
      rw [upJ_2]
    rw [e]
    exact C.ndM
theorem CJ.new {tl : Nat → List Nat} {row : Nat → List Bool} {θ : Th} {J : Nat} {qs : List Pt4} {c p r m : Nat} (C : CJ tl row θ J qs) (hk : ∀ q ∈ qs, tl (q.1.headD 0) ≠ tl c) (h1 : θ[p]? = some (.lst [.obj r, .obj m])) (h2 : θ[r]? = some (.lst ((row c).map Dv.bl))) (h3 : θ[m]? = some (.lst (nd [c])))
    (g1 : J < p) (g2 : J < r) (g3 : J < m) (hm : ∀ q ∈ qs, q.2.2.2 ≠ m) : CJ tl row (θ.set J (.lst (qs.map (fun q => Dv.obj q.2.1) ++ [.obj p]))) J (qs ++ [([c], (p, r, m))]) := by
  have ne : ∀ {a : Nat} {o : Ob}, θ[a]? = some o → J < a → (θ.set J (.lst (qs.map (fun q => Dv.obj q.2.1) ++ [.obj p])))[a]? = some o := fun {a o} ha hn => by
    rw [List.getElem?_set_ne (by omega)]
    exact ha
  refine ⟨?_, fun q hq => ?_, fun q hq => ?_, ?_, ?_⟩
  · rw [List.map_append]
    exact List.getElem?_set_self (List.getElem?_eq_some_iff.mp C.hJ).1
  · rcases List.mem_append.mp hq with hq | hq
    · obtain ⟨u0, u1, u2, u3⟩ := C.at' q hq
      obtain ⟨v1, v2, v3⟩ := C.gt q hq
      exact ⟨u0, ne u1 v1, ne u2 v2, ne u3 v3⟩
    · rw [List.mem_singleton.mp hq]
      exact ⟨by simp, ne h1 g1, ne h2 g2, ne h3 g3⟩
  · rcases List.mem_append.mp hq with hq | hq
    · exact C.gt q hq
    · rw [List.mem_singleton.mp hq]
      exact ⟨g1, g2, g3⟩
  · rw [List.map_append, List.nodup_append]
    refine ⟨C.kn, by simp, fun x hx y hy e => ?_⟩
    obtain ⟨q, hq, rfl⟩ := List.mem_map.mp hx
    simp at hy
    subst hy
    exact hk q hq e
  · rw [List.map_append, List.nodup_append]
    refine ⟨C.ndM, by simp, fun x hx y hy e => ?_⟩
    obtain ⟨q, hq, rfl⟩ := List.mem_map.mp hx
    simp at hy
    subst hy
    exact hm q hq e
/-- the makes that can be tested -/
def unsk (h : Hist) (sk : List Nat) : List Nat := (List.range h.length).filter fun m => !decide (m ∈ sk)
noncomputable def rowB (h : Hist) (sk : List Nat) (c : Nat) : List Bool := (unsk h sk).map fun m => anc h m c
theorem rowB_iff {sk : List Nat} {c d : Nat} : rowB h sk c = rowB h sk d ↔ tell h sk c = tell h sk d := by
  have e : ∀ c, tell h sk c = (unsk h sk).filter fun m => anc h m c := fun c => by
    unfold tell unsk offs
    rw [List.filter_filter, List.filter_filter]
    apply List.filter_congr
    intro m _
    rw [Bool.and_comm]
  rw [e, e]
  unfold rowB
  generalize unsk h sk = U
  constructor
  · intro hh
    have key : ∀ U : List Nat, U.map (fun m => anc h m c) = U.map (fun m => anc h m d) → U.filter (fun m => anc h m c) = U.filter fun m => anc h m d := by
      intro U
      induction U with
      | nil => intro _; rfl
      | cons x U ih =>
        intro e
        rw [List.map_cons, List.map_cons, List.cons.injEq] at e
        rw [List.filter_cons, List.filter_cons, e.1, ih e.2]
    exact key U hh
  · intro hh
    apply List.map_congr_left
    intro m hm
    have h1 : m ∈ U.filter (fun m => anc h m c) ↔ m ∈ U.filter fun m => anc h m d := by rw [hh]
    rw [List.mem_filter, List.mem_filter] at h1
    rw [Bool.eq_iff_iff]
    exact ⟨fun z => (h1.mp ⟨hm, z⟩).2, fun z => (h1.mpr ⟨hm, z⟩).2⟩
end Sp

/-! Vb3: the law's classes, what they are. -/
namespace Sp
open PySem PySem.Spec PyProof.Rows L2 Mn
variable {E : Exn → Th → Prop} {θ : Th} {Q : Dv → Th → Prop} {h : Hist} {k : Nat}
end Sp

/-! Va5: where candidates go away; what is drawn with a test. -/
namespace Sp
open PySem PySem.Spec PyProof.Rows L2 Mn
variable {E : Exn → Th → Prop} {θ : Th} {Q : Dv → Th → Prop} {h : Hist} {l : Ans} {k : Nat}
end Sp

/-! Vb4: the law's desk: who can be it, the state, the evenest test. -/
namespace Sp
open PySem PySem.Spec PyProof.Rows L2 Mn
variable {E : Exn → Th → Prop} {θ : Th} {Q : Dv → Th → Prop}
variable {h : Hist} {k : Nat} {m : DM}
/-- the law's word of what is on a desk -/
def lD (x : Nat × (Bool × Nat)) : Dv := .tup [.int (x.1 : Nat), .str (word x.2.1), .int (x.2.2 : Nat)]
def MdA (θ : Th) (q : Nat) (m : DM) : Prop := θ[q]? = some (.lst [.tup (m.rows.map lD), .tup (nd m.sk), .int (m.nx : Nat)])
theorem MdA.ext {θ' : Th} {q : Nat} (a : MdA θ q m) (e : Ext θ θ') : MdA θ' q m := e.at a
section
variable {d i j : Nat} {D : List Deed} {ms : List Dv} {dm dr ds : Dv} {r : Option Bool}
end
section
variable {d i j : Nat} {D : List Deed} {ms : List Dv} {dm dr ds : Dv} {r : Option Bool}
end
end Sp

/-! Vb5: the evenest test; all that a desk tells. -/
namespace Sp
open PySem PySem.Spec PyProof.Rows L2 Mn
variable {E : Exn → Th → Prop} {θ : Th} {Q : Dv → Th → Prop} {h : Hist} {k : Nat} {m : DM}
abbrev pp2 (x : Nat × Nat) : PyData := prP x.1 x.2
theorem pp2_inj {x y : Nat × Nat} (e : pp2 x = pp2 y) : x = y := by
  obtain ⟨a, b⟩ := x
  obtain ⟨c, d⟩ := y
  simp only [PyData.tuple.injEq, List.cons.injEq, PyData.int.injEq, and_true] at e
  obtain ⟨e1, e2⟩ := e
  have : a = c := by omega
  have : b = d := by omega
  subst_vars
  rfl
theorem fold_minD {β : Type} (f : β → PyData) (x : β) : ∀ xs : List β, ∃ y ∈ x :: xs, (xs.map f).foldl (fun a y => if PySem.W.dataLt y a then y else a) (f x) = f y
  | [] => ⟨x, .head _, rfl⟩
  | z :: xs => by
    rw [List.map_cons, List.foldl_cons]
    by_cases c : PySem.W.dataLt (f z) (f x) = true
    · rw [if_pos c]
      obtain ⟨y, hy, e⟩ := fold_minD f z xs
      exact ⟨y, .tail _ hy, e⟩
    · rw [if_neg c]
      obtain ⟨y, hy, e⟩ := fold_minD f x xs
      refine ⟨y, ?_, e⟩
      rcases List.mem_cons.mp hy with rfl | hy
      · exact .head _
      · exact .tail _ (.tail _ hy)
/-- the least of a list of pairs -/
theorem mn_ex (xs : List (Nat × Nat)) (hne : xs ≠ []) : ∃ y ∈ xs, ∀ p ps, xs.map pp2 = p :: ps → PySem.W.minD p ps = pp2 y := by
  cases xs with
  | nil => exact absurd rfl hne
  | cons x r =>
    obtain ⟨y, hy, e⟩ := fold_minD pp2 x r
    refine ⟨y, hy, fun p ps e2 => ?_⟩
    rw [List.map_cons, List.cons.injEq] at e2
    obtain ⟨rfl, rfl⟩ := e2
    exact e
noncomputable def mnP (xs : List (Nat × Nat)) : Nat × Nat := open Classical in if hne : xs ≠ [] then Classical.choose (mn_ex xs hne) else (0, 0)
theorem mnP_mem {xs : List (Nat × Nat)} (hne : xs ≠ []) : mnP xs ∈ xs := by
  unfold mnP
  rw [dif_pos hne]
  exact (Classical.choose_spec (mn_ex xs hne)).1
theorem mnP_is {xs : List (Nat × Nat)} (hne : xs ≠ []) : ∀ p ps, xs.map pp2 = p :: ps → PySem.W.minD p ps = pp2 (mnP xs) := by
  unfold mnP
  rw [dif_pos hne]
  exact (Classical.choose_spec (mn_ex xs hne)).2
section
variable {d i j : Nat} {D : List Deed} {ms : List Dv} {dm dr ds : Dv} {r : Option Bool}
end
end Sp

/-! Vi3: the fewest tests, by the definition. -/
namespace Sp
open PySem PySem.Spec PyProof.Rows L2 Mn
variable {h : Hist} {sk : List Nat} {st : List Int}
/-- how much a state can lose -/
def muS (st : List Int) : Nat := ((List.range st.length).map fun i => (st.getD i 0 + 1).toNat).sum
theorem sum_lt {l : List Nat} {f g : Nat → Nat} (hle : ∀ i ∈ l, f i ≤ g i) {j : Nat} (hj : j ∈ l) (hlt : f j < g j) : (l.map f).sum < (l.map g).sum := by
  induction l with
  | nil => cases hj
  | cons x l ih =>
    rw [List.map_cons, List.map_cons, List.sum_cons, List.sum_cons]
    have hx := hle x List.mem_cons_self
    have hl : ∀ i ∈ l, f i ≤ g i := fun i hi => hle i (List.mem_cons_of_mem _ hi)
    rcases List.mem_cons.mp hj with rfl | hj
    · have : (l.map f).sum ≤ (l.map g).sum := by
        clear ih hle hj hlt hx
        induction l with
        | nil => exact Nat.le_refl _
        | cons y l ih2 =>
          rw [List.map_cons, List.map_cons, List.sum_cons, List.sum_cons]
          have h1 := hl y List.mem_cons_self
          have h2 := ih2 fun i hi => hl i (List.mem_cons_of_mem _ hi)
          omega
      omega
    · have := ih hl hj
      omega
theorem dns_get {as : List Bool} {i : Nat} (hi : i < st.length) : (dns as st).getD i 0 = dn (as.getD i false) (st.getD i 0) := by
  unfold dns
  rw [List.getD_eq_getElem?_getD, List.getElem?_map, List.getElem?_range hi]
  rfl
theorem dn_le {a : Bool} {y : Int} : dn a y ≤ y := by
  unfold dn
  split <;> omega
theorem mu_lt {as : List Bool} {i : Nat} (hi : i < st.length) (h0 : 0 ≤ st.getD i 0) (ha : as.getD i false = true) : muS (dns as st) < muS st := by
  unfold muS
  rw [dns_len]
  refine sum_lt (j := i) (fun k hk => ?_) (List.mem_range.mpr hi) ?_
  · rw [dns_get (List.mem_range.mp hk)]
    have := dn_le (a := as.getD k false) (y := st.getD k 0)
    omega
  · rw [dns_get hi, ha]
    unfold dn
    rw [if_pos (by rw [Bool.true_and]; exact decide_eq_true h0)]
    omega
/-- a useful test leaves less, whatever the answer -/
theorem us_lt {m : Nat} {b : Bool} (hm : m ∈ usL h sk st) (hs : st.length = nc h sk) : muS (bhS h sk st m b) < muS st := by
  have hp := (List.mem_filter.mp hm).2
  unfold prtB at hp
  rw [Bool.and_eq_true, List.any_eq_true, List.any_eq_true] at hp
  obtain ⟨⟨i, hi, h1⟩, ⟨j, hj, h2⟩⟩ := hp
  have gi : i < st.length ∧ 0 ≤ st.getD i 0 := ⟨List.mem_range.mp (List.mem_filter.mp hi).1, of_decide_eq_true (List.mem_filter.mp hi).2⟩
  have gj : j < st.length ∧ 0 ≤ st.getD j 0 := ⟨List.mem_range.mp (List.mem_filter.mp hj).1, of_decide_eq_true (List.mem_filter.mp hj).2⟩
  have lb : (mkB h sk m).length = st.length := by rw [mkB_len, hs]
  have gd : ∀ k, k < st.length → ((mkB h sk m).map (· != b)).getD k false = ((mkB h sk m).getD k false != b) := fun k hk => by
    rw [List.getD_eq_getElem?_getD, List.getElem?_map, List.getD_eq_getElem?_getD, List.getElem?_eq_getElem (by rw [lb]; exact hk)]
    rfl
  unfold bhS
  cases b with
  | true =>
    refine mu_lt gj.1 gj.2 ?_
    rw [gd j gj.1]
    have : (mkB h sk m).getD j false = false := by simpa using h2
    rw [this]
    rfl
  | false =>
    refine mu_lt gi.1 gi.2 ?_
    rw [gd i gi.1, h1]
    rfl
/-- the least pair, (0, -1) if there is none -/
noncomputable def minP (xs : List (Nat × Nat)) : Nat × Int := open Classical in if xs = [] then (0, -1) else ((mnP xs).1, ((mnP xs).2 : Nat))
theorem minP_nil : minP [] = (0, -1) := by
  unfold minP
  rw [if_pos rfl]
/-- the fewest tests of a state, and the first make of them -/
noncomputable def bestF (h : Hist) (sk : List Nat) : Nat → List Int → Nat × Int
  | 0, _ => (0, -1)
  | f + 1, st => minP ((usL h sk st).map fun m => (1 + max (bestF h sk f (bhS h sk st m true)).1 (bestF h sk f (bhS h sk st m false)).1, m))
theorem bestF_eq : ∀ (n : Nat) (st : List Int) (f g : Nat), st.length = nc h sk → muS st ≤ n → muS st ≤ f → muS st ≤ g → bestF h sk f st = bestF h sk g st := by
  intro n
  induction n with
  | zero =>
    intro st f g hs h0 _ _
    have hu : usL h sk st = [] := by
      cases e : usL h sk st with
      | nil => rfl
      | cons m l =>
        have := us_lt (h := h) (sk := sk) (b := true) (show m ∈ usL h sk st by rw [e]; exact List.mem_cons_self) hs
        omega
    cases f <;> cases g <;> simp only [bestF, hu, List.map_nil, minP_nil]
  | succ n ih =>
    intro st f g hs h0 hf hg
    by_cases hu : usL h sk st = []
    · cases f <;> cases g <;> simp only [bestF, hu, List.map_nil, minP_nil]
    · obtain ⟨m0, hm0⟩ := List.exists_mem_of_ne_nil _ hu
      have p0 := us_lt (b := true) hm0 hs
      obtain ⟨f, rfl⟩ : ∃ f', f = f' + 1 := ⟨f - 1, by omega⟩
      obtain ⟨g, rfl⟩ : ∃ g', g = g' + 1 := ⟨g - 1, by omega⟩
      simp only [bestF]
      congr 1
      refine List.map_congr_left fun m hm => ?_
      have q1 := us_lt (b := true) hm hs
      have q2 := us_lt (b := false) hm hs
      rw [ih _ f g (by rw [bhS_len]; exact hs) (by omega) (by omega) (by omega), ih (bhS h sk st m false) f g (by rw [bhS_len]; exact hs) (by omega) (by omega) (by omega)]
noncomputable def bestS (h : Hist) (sk : List Nat) (st : List Int) : Nat × Int := bestF h sk (muS st) st
noncomputable def needS (h : Hist) (sk : List Nat) (st : List Int) : Nat := (bestS h sk st).1
theorem bestS_eq (hs : st.length = nc h sk) : bestS h sk st = minP ((usL h sk st).map fun m => (1 + max (needS h sk (bhS h sk st m true)) (needS h sk (bhS h sk st m false)), m)) := by
  unfold bestS
  rw [bestF_eq (muS st) st (muS st) (muS st + 1) hs (Nat.le_refl _) (Nat.le_refl _) (Nat.le_succ _)]
  simp only [bestF]
  congr 1
  refine List.map_congr_left fun m hm => ?_
  have q1 := us_lt (b := true) hm hs
  have q2 := us_lt (b := false) hm hs
  unfold needS bestS
  rw [bestF_eq (muS st) (bhS h sk st m true) (muS st) _ (by rw [bhS_len]; exact hs) (by omega) (by omega) (Nat.le_refl _), bestF_eq (muS st) (bhS h sk st m false) (muS st) _ (by rw [bhS_len]; exact hs) (by omega) (by omega) (Nat.le_refl _)]
end Sp

/-! Vi4: how many states there are. -/
namespace Sp
open PySem PySem.Spec PyProof.Rows L2 Mn
theorem sub_len {β : Type} [DecidableEq β] : ∀ {l1 l2 : List β}, l1.Nodup → (∀ x ∈ l1, x ∈ l2) → l1.length ≤ l2.length
  | [], _, _, _ => Nat.zero_le _
  | x :: l1, l2, h, hs => by
    have hx := hs x List.mem_cons_self
    rw [List.nodup_cons] at h
    have h1 : ∀ y ∈ l1, y ∈ l2.erase x := fun y hy => by
      have ne : y ≠ x := fun e => h.1 (e ▸ hy)
      exact (List.mem_erase_of_ne ne).mpr (hs y (List.mem_cons_of_mem _ hy))
    have := sub_len h.2 h1
    rw [List.length_erase_of_mem hx] at this
    have hp : 0 < l2.length := List.length_pos_of_mem hx
    rw [List.length_cons]
    omega
def allL (vs : List Int) : Nat → List (List Int)
  | 0 => [[]]
  | n + 1 => vs.flatMap fun v => (allL vs n).map (v :: ·)
theorem allL_len (vs : List Int) : ∀ n, (allL vs n).length = vs.length ^ n
  | 0 => rfl
  | n + 1 => by
    have ih := allL_len vs n
    unfold allL
    have e : ∀ ws : List Int, (ws.flatMap fun v => (allL vs n).map (v :: ·)).length = ws.length * vs.length ^ n := by
      intro ws
      induction ws with
      | nil => simp
      | cons w ws ih2 =>
        rw [List.flatMap_cons, List.length_append, ih2, List.length_map, ih, List.length_cons, Nat.succ_mul, Nat.add_comm]
    rw [e, Nat.pow_succ, Nat.mul_comm]
theorem mem_allL (vs : List Int) : ∀ {n : Nat} {x : List Int}, x.length = n → (∀ y ∈ x, y ∈ vs) → x ∈ allL vs n
  | 0, x, h, _ => by
    rw [List.length_eq_zero_iff.mp h]
    exact List.mem_singleton.mpr rfl
  | n + 1, x, h, hx => by
    cases x with
    | nil => cases h
    | cons y x =>
      unfold allL
      rw [List.mem_flatMap]
      exact ⟨y, hx y List.mem_cons_self, List.mem_map.mpr ⟨x, mem_allL vs (by simpa using h) (fun z hz => hx z (List.mem_cons_of_mem _ hz)), rfl⟩⟩
theorem few_lists {vs : List Int} {n : Nat} {l : List (List Int)} (hn : l.Nodup) (hl : ∀ x ∈ l, x.length = n ∧ ∀ y ∈ x, y ∈ vs) : l.length ≤ vs.length ^ n := by
  rw [← allL_len]
  exact sub_len hn fun x hx => mem_allL vs (hl x hx).1 (hl x hx).2
/-- the numbers of states: from -1 to top -/
def valsI (top : Nat) : List Int := (List.range (top + 2)).map fun (i : Nat) => (i : Int) - 1
theorem vals_len {top : Nat} : (valsI top).length = top + 2 := by unfold valsI; rw [List.length_map, List.length_range]
theorem mem_vals {top : Nat} {y : Int} : y ∈ valsI top ↔ -1 ≤ y ∧ y ≤ (top : Int) := by
  unfold valsI
  rw [List.mem_map]
  constructor
  · rintro ⟨i, hi, rfl⟩
    have := List.mem_range.mp hi
    omega
  · rintro ⟨h1, h2⟩
    exact ⟨(y + 1).toNat, List.mem_range.mpr (by omega), by omega⟩
/-- a state of a search -/
structure StK (n top : Nat) (st : List Int) : Prop where
  len : st.length = n
  lo : ∀ y ∈ st, -1 ≤ y ∧ y ≤ (top : Int)
theorem dn_lo {a : Bool} {y : Int} {top : Nat} (h : -1 ≤ y ∧ y ≤ (top : Int)) : -1 ≤ dn a y ∧ dn a y ≤ (top : Int) := by
  unfold dn
  split
  · rename_i c
    rw [Bool.and_eq_true, decide_eq_true_eq] at c
    omega
  · exact h
theorem StK.dns {n top : Nat} {st : List Int} (s : StK n top st) (as : List Bool) : StK n top (dns as st) := by
  refine ⟨by rw [dns_len]; exact s.len, fun y hy => ?_⟩
  unfold Sp.dns at hy
  obtain ⟨i, hi, rfl⟩ := List.mem_map.mp hy
  have hi2 := List.mem_range.mp hi
  refine dn_lo (s.lo _ ?_)
  rw [List.getD_eq_getElem?_getD, List.getElem?_eq_getElem hi2]
  exact List.getElem_mem hi2
end Sp

/-! Vi5: the search finds the fewest tests. -/
namespace Sp
open PySem PySem.Spec PyProof.Rows L2 Mn
variable {E : Exn → Th → Prop} {θ : Th} {Q : Dv → Th → Prop} {h : Hist} {sk : List Nat} {st : List Int}
def keyS (st : List Int) : List Key := st.map Sum.inl
theorem keyS_inj {a b : List Int} (e : keyS a = keyS b) : a = b := by
  unfold keyS at e
  exact List.map_inj_right (fun x y h => Sum.inl.inj h) |>.mp e
theorem tKey_ids : tKey (.tup (id_ st)) = some (keyS st) := by
  show allSome fKey (id_ st) = _
  unfold id_ keyS
  exact allSome_map (f := fKey) (g := Dv.int) (k := Sum.inl) (fun x => rfl) st
def bD (x : Nat × Int) : Dv := .tup [.int (x.1 : Nat), .int x.2]
/-- what a search knows is right -/
structure KnW (h : Hist) (sk : List Nat) (n top : Nat) (kvs : List (List Key × Dv)) : Prop where
  ok : ∀ p ∈ kvs, ∃ st, p.1 = keyS st ∧ StK n top st ∧ p.2 = bD (bestS h sk st)
  nd : (kvs.map (·.1)).Nodup
theorem KnW.nil {n top : Nat} : KnW h sk n top [] := ⟨fun p hp => (by cases hp), List.nodup_nil⟩
theorem KnW.few {n top : Nat} {kvs : List (List Key × Dv)} (w : KnW h sk n top kvs) : kvs.length ≤ (top + 2) ^ n := by
  obtain ⟨l, e⟩ : ∃ l : List (List Int), kvs.map (·.1) = l.map keyS ∧ ∀ x ∈ l, StK n top x := by
    have ok := w.ok
    clear w
    induction kvs with
    | nil => exact ⟨[], rfl, fun x hx => by cases hx⟩
    | cons p kvs ih =>
      obtain ⟨l, e1, e2⟩ := ih fun q hq => ok q (List.mem_cons_of_mem _ hq)
      obtain ⟨st, h1, h2, _⟩ := ok p List.mem_cons_self
      refine ⟨st :: l, by rw [List.map_cons, List.map_cons, e1, h1], fun x hx => ?_⟩
      rcases List.mem_cons.mp hx with rfl | hx
      · exact h2
      · exact e2 x hx
  have nd := w.nd
  rw [e.1] at nd
  have nl : l.Nodup := List.Pairwise.of_map keyS (fun a b hab e => hab (by rw [e])) nd
  have := few_lists (vs := valsI top) (n := n) nl fun x hx => ⟨(e.2 x hx).len, fun y hy => mem_vals.mpr ((e.2 x hx).lo y hy)⟩
  rw [vals_len] at this
  have el := congrArg List.length e.1
  rw [List.length_map, List.length_map] at el
  omega
theorem look_some {kvs : List (List Key × Dv)} {k : List Key} {v : Dv} (e : lookD kvs k = some v) : ∃ p ∈ kvs, p.1 = k ∧ p.2 = v := by
  unfold lookD at e
  cases c : kvs.find? fun kv => decide (kv.1 = k) with
  | none => rw [c] at e; cases e
  | some p =>
    rw [c] at e
    exact ⟨p, List.mem_of_find?_eq_some c, of_decide_eq_true (List.find?_some (p := fun kv : List Key × Dv => decide (kv.1 = k)) c), Option.some.inj e⟩
theorem look_none {kvs : List (List Key × Dv)} {k : List Key} (e : lookD kvs k = none) : ∀ p ∈ kvs, p.1 ≠ k := by
  unfold lookD at e
  rw [Option.map_eq_none_iff, List.find?_eq_none] at e
  exact fun p hp => by simpa using e p hp
theorem KnW.look {n top : Nat} {kvs : List (List Key × Dv)} {v : Dv} (w : KnW h sk n top kvs) (e : lookD kvs (keyS st) = some v) : v = bD (bestS h sk st) := by
  obtain ⟨p, hp, h1, h2⟩ := look_some e
  obtain ⟨st', e1, _, e2⟩ := w.ok p hp
  rw [h1] at e1
  rw [← h2, e2, keyS_inj e1]
theorem KnW.put {n top : Nat} {kvs : List (List Key × Dv)} (w : KnW h sk n top kvs) (hs : StK n top st) (e : lookD kvs (keyS st) = none) : KnW h sk n top (putD kvs (keyS st) (bD (bestS h sk st))) ∧ lookD (putD kvs (keyS st) (bD (bestS h sk st))) (keyS st) = some (bD (bestS h sk st)) := by
  have ne := look_none e
  have en : (kvs.any fun kv => decide (kv.1 = keyS st)) = false := by
    rw [List.any_eq_false]
    intro p hp
    simpa using ne p hp
  unfold putD
  rw [if_neg (by rw [en]; exact Bool.false_ne_true)]
  refine ⟨⟨fun p hp => ?_, ?_⟩, ?_⟩
  · rcases List.mem_append.mp hp with hp | hp
    · exact w.ok p hp
    · rw [List.mem_singleton.mp hp]
      exact ⟨st, rfl, hs, rfl⟩
  · rw [List.map_append, List.nodup_append]
    refine ⟨w.nd, by simp, fun a ha b hb e => ?_⟩
    obtain ⟨p, hp, rfl⟩ := List.mem_map.mp ha
    rw [List.map_singleton, List.mem_singleton] at hb
    rw [hb] at e
    exact ne p hp e
  · unfold lookD
    rw [List.find?_append]
    have c : kvs.find? (fun kv => decide (kv.1 = keyS st)) = none := by
      rw [List.find?_eq_none]
      intro p hp
      simpa using ne p hp
    rw [c]
    simp
/-- all but the table is as it was -/
structure Kept (kk : Nat) (θ θ' : Th) : Prop where
  len : θ.length ≤ θ'.length
  at' : ∀ n o, n ≠ kk → θ[n]? = some o → θ'[n]? = some o
theorem Kept.refl {kk : Nat} {θ : Th} : Kept kk θ θ := ⟨Nat.le_refl _, fun _ _ _ h => h⟩
theorem Kept.trans {kk : Nat} {θ θ1 θ2 : Th} (a : Kept kk θ θ1) (b : Kept kk θ1 θ2) : Kept kk θ θ2 := ⟨Nat.le_trans a.len b.len, fun n o hn h => b.at' n o hn (a.at' n o hn h)⟩
theorem Kept.ext {kk : Nat} {θ θ' : Th} (e : Ext θ θ') : Kept kk θ θ' := ⟨by obtain ⟨g, rfl⟩ := e; rw [List.length_append]; omega, fun n o _ h => e.at h⟩
end Sp

/-! Vi6: best. -/
namespace Sp
open PySem PySem.Spec PyProof.Rows L2 Mn
variable {E : Exn → Th → Prop} {θ : Th} {Q : Dv → Th → Prop} {h : Hist} {sk : List Nat} {st : List Int}
theorem x_notinT {kk : Nat} {kvs : List (List Key × Dv)} {R : Dv → Th → Prop} (hk : θ[kk]? = some (.dT kvs)) (hR : R (.bl (!(lookD kvs (keyS st)).isSome)) θ) : oNotIn (.tup (id_ st)) (.obj kk) E θ R := by
  unfold oNotIn inO
  simp only [hk, tKey_ids]
  exact hR
theorem x_ixdT {kk : Nat} {kvs : List (List Key × Dv)} {v : Dv} {R : Dv → Th → Prop} (hk : θ[kk]? = some (.dT kvs)) (hv : lookD kvs (keyS st) = some v) (hR : R v θ) : oIx (.obj kk) (.tup (id_ st)) E θ R := by
  unfold oIx
  simp only [hk, tKey_ids, hv]
  exact hR
variable {d kk n top : Nat}
theorem KnW.put' {n top : Nat} {kvs : List (List Key × Dv)} (w : KnW h sk n top kvs) (hs : StK n top st) : KnW h sk n top (putD kvs (keyS st) (bD (bestS h sk st))) ∧ lookD (putD kvs (keyS st) (bD (bestS h sk st))) (keyS st) = some (bD (bestS h sk st)) := by
  cases c : lookD kvs (keyS st) with
  | none => exact w.put hs c
  | some v =>
    have ev := w.look c
    rw [ev] at c
    obtain ⟨p, hp, h1, h2⟩ := look_some c
    have ea : (kvs.any fun kv => decide (kv.1 = keyS st)) = true := List.any_eq_true.mpr ⟨p, hp, by simpa using h1⟩
    have e : putD kvs (keyS st) (bD (bestS h sk st)) = kvs := by
      unfold putD
      rw [if_pos ea]
      refine (List.map_congr_left (g := id) fun q hq => ?_).trans (List.map_id _)
      obtain ⟨st', e1, _, e2⟩ := w.ok q hq
      split
      · next z =>
        have e3 := keyS_inj (e1.symm.trans z)
        subst e3
        show (q.1, _) = q
        rw [← e2]
      · rfl
    rw [e]
    exact ⟨w, c⟩
end Sp

/-! Vb6: the law's look at a desk. -/
namespace Sp
open PySem PySem.Spec PyProof.Rows L2 Mn
variable {E : Exn → Th → Prop} {θ : Th} {Q : Dv → Th → Prop} {h : Hist} {k : Nat} {m : DM}
end Sp

/-! Vb7: plain data, told twice; a desk told twice. -/
namespace Sp
open PySem PySem.Spec PyProof.Rows L2 Mn
variable {E : Exn → Th → Prop} {θ : Th} {Q : Dv → Th → Prop} {h : Hist} {k : Nat} {m : DM}
/-- plain data, with no objects -/
structure Pu (n : Nat) (d : Dv) (p : PyData) : Prop where
  py : ∀ (θ : Th) (f : Nat), n ≤ f → toPy θ f d = some p
  lay : PyData.canLay0 p = true
  dep : PyData.depth p ≤ n
structure Pus (n : Nat) (ds : List Dv) (ps : List PyData) : Prop where
  py : ∀ (θ : Th) (f : Nat), n ≤ f → allSome (toPy θ f) ds = some ps
  lay : PyData.canLayAll0 ps = true
  dep : PyData.depthAll ps ≤ n
theorem Pu.sh {n : Nat} {d : Dv} {p : PyData} (a : Pu n d p) (hn : n ≤ 64) : SeqAt.shaped p = true := by
  unfold SeqAt.shaped
  rw [Bool.and_eq_true]
  exact ⟨a.lay, decide_eq_true (Nat.le_trans a.dep hn)⟩
/-- a deed whose name can be told -/
def okD : Deed → Prop
  | .ans _ x => PyData.strOk x = true
  | .take _ => True
  | .skip x => PyData.strOk x = true
  | .unskip x => PyData.strOk x = true
section
variable {d i j : Nat} {D : List Deed} {ms : List Dv} {dm dr ds : Dv} {r : Option Bool}
end
end Sp

/-! Su6: both parts; the law's weights. -/
namespace Sp
open PySem PySem.Spec PyProof.Rows L2 Mn
variable {E : Exn → Th → Prop} {θ : Th} {Q : Dv → Th → Prop} {h : Hist} {sk : List Nat} {st : List Int}
end Sp

/-! Su7: the law's triangle. -/
namespace Sp
open PySem PySem.Spec PyProof.Rows L2 Mn
variable {E : Exn → Th → Prop} {θ : Th} {Q : Dv → Th → Prop}
end Sp

/-! Su8: the law's numbers of choices, and its weights. -/
namespace Sp
open PySem PySem.Spec PyProof.Rows L2 Mn
variable {E : Exn → Th → Prop} {θ : Th} {Q : Dv → Th → Prop} {st : List Int}
end Sp

/-! Su9: great numbers are shown alike. -/
namespace Sp
open PySem PySem.Spec PyProof.Rows L2 Mn
variable {E : Exn → Th → Prop} {θ : Th} {Q : Dv → Th → Prop}
def Og (d : PyData) (m n : Nat) : Prop := d.showable = true ∧ d.hasDict = false ∧ d.depth ≤ m ∧ d.leavesShort 100 = true ∧ d.weight ≤ n
def OgA (ds : List PyData) (m n : Nat) : Prop := PyData.showableAll ds = true ∧ PyData.hasDictAll ds = false ∧ PyData.depthAll ds ≤ m ∧ PyData.leavesShortAll 100 ds = true ∧ PyData.weightAll ds ≤ n
theorem OgA.nil {m n : Nat} : OgA [] m n := ⟨by simp [PyData.showableAll], by simp [PyData.hasDictAll], by simp [PyData.depthAll], by simp [PyData.leavesShortAll], by simp [PyData.weightAll]⟩
theorem OgA.cons {d : PyData} {ds : List PyData} {m a b : Nat} (x : Og d m a) (y : OgA ds m b) : OgA (d :: ds) m (a + b + 1) := by
  obtain ⟨x1, x2, x3, x4, x5⟩ := x
  obtain ⟨y1, y2, y3, y4, y5⟩ := y
  refine ⟨?_, ?_, ?_, ?_, ?_⟩
  · simp only [PyData.showableAll, x1, y1, Bool.and_true]
  · simp only [PyData.hasDictAll, x2, y2, Bool.or_false]
  · simp only [PyData.depthAll]; omega
  · simp only [PyData.leavesShortAll, x4, y4, Bool.and_true]
  · simp only [PyData.weightAll]; omega
theorem Og.tuple {ds : List PyData} {m n : Nat} (x : OgA ds m n) : Og (.tuple ds) (m + 1) (n + 1) := by
  obtain ⟨x1, x2, x3, x4, x5⟩ := x
  refine ⟨?_, ?_, ?_, ?_, ?_⟩
  · simpa only [PyData.showable] using x1
  · simpa only [PyData.hasDict] using x2
  · simp only [PyData.depth]; omega
  · simpa only [PyData.leavesShort] using x4
  · simp only [PyData.weight]; omega
theorem Og.list {ds : List PyData} {m n : Nat} (x : OgA ds m n) : Og (.list ds) (m + 1) (n + 1) := by
  obtain ⟨x1, x2, x3, x4, x5⟩ := x
  refine ⟨?_, ?_, ?_, ?_, ?_⟩
  · simpa only [PyData.showable] using x1
  · simpa only [PyData.hasDict] using x2
  · simp only [PyData.depth]; omega
  · simpa only [PyData.leavesShort] using x4
  · simp only [PyData.weight]; omega
theorem OgA.map {β : Type} {f : β → PyData} {m n : Nat} : ∀ {xs : List β}, (∀ x ∈ xs, Og (f x) m n) → OgA (xs.map f) m ((n + 1) * xs.length)
  | [], _ => OgA.nil
  | x :: xs, h => by
    have h1 := h x List.mem_cons_self
    have h2 := OgA.map (xs := xs) fun y hy => h y (List.mem_cons_of_mem _ hy)
    have := OgA.cons h1 h2
    rw [List.map_cons, List.length_cons, Nat.mul_add]
    have e : n + (n + 1) * xs.length + 1 = (n + 1) * xs.length + (n + 1) * 1 := by omega
    rw [← e]
    exact this
theorem Og.shows {d : PyData} {m n : Nat} (x : Og d m n) (hm : m ≤ 64) (hn : n ≤ 150000) : shows d := by
  refine ⟨x.1, x.2.1, Nat.le_trans x.2.2.1 hm, ?_⟩
  have := PyData.shown_le 100 (by decide) d x.2.2.2.1
  have h2 := x.2.2.2.2
  rw [sizeLine_eq]
  have h3 : (100 + 2) * d.weight ≤ (100 + 2) * 150000 := Nat.mul_le_mul_left _ (by omega)
  omega
def Big (i : Int) : Prop := i.natAbs < 10 ^ 90
theorem Og.int {i : Int} (hi : Big i) : Og (.int i) 0 400 := by
  unfold Big at hi
  have lg : i.natAbs.log2 < 300 := by
    by_cases h0 : i.natAbs = 0
    · rw [h0]; decide
    · exact (Nat.log2_lt h0).mpr (Nat.lt_of_lt_of_le hi (by decide))
  refine ⟨?_, ?_, ?_, ?_, ?_⟩
  · simp only [PyData.showable]
    exact decide_eq_true (by omega)
  · simp only [PyData.hasDict]
  · simp only [PyData.depth]; omega
  · simp only [PyData.leavesShort]
    refine decide_eq_true ?_
    have e := int_text_length_le10 (k := 90) (by decide) hi
    show (Str.ofString (toString i)).length ≤ 100
    rw [PySem.ofString_length]
    omega
  · have hw : PyData.weight (.int i) ≤ 301 := by
      show (if (i == 0) = true then 0 else i.natAbs.log2 + 1) ≤ 301
      split <;> omega
    omega
theorem same_og {x y : Dv} {d : PyData} {m n : Nat} (hx : toPy θ 66 x = some d) (hy : toPy θ 66 y = some d) (o : Og d m n) (hm : m ≤ 64) (hn : n ≤ 150000) (hQ : Q (.bl true) θ) : Cm.c__law_same [x, y] E θ Q :=
  s_same hx hy (o.shows hm hn) (o.shows hm hn) (by rw [decide_eq_true rfl]; exact hQ)
theorem same_int {i : Int} (hi : Big i) (hQ : Q (.bl true) θ) : Cm.c__law_same [.int i, .int i] E θ Q := same_og (d := .int i) rfl rfl (Og.int hi) (by omega) (by omega) hQ
abbrev pI (ns : List Int) : PyData := .tuple (ns.map PyData.int)
theorem toPy_ids {n : Nat} (ns : List Int) : toPy θ (n + 1) (.tup (id_ ns)) = some (pI ns) := by
  unfold toPy
  rw [allSome_map (k := PyData.int) (fun x => by cases n <;> rfl)]
  rfl
theorem toPy_lids {j : Nat} {ns : List Int} (hj : θ[j]? = some (.lst (id_ ns))) : toPy θ 66 (.obj j) = some (.list (ns.map PyData.int)) := by
  unfold toPy
  simp only [hj]
  have := allSome_map (f := toPy θ 65) (g := Dv.int) (k := PyData.int) (fun x => rfl) ns
  rw [this]
  rfl
theorem ogI {ns : List Int} (h : ∀ i ∈ ns, Big i) : OgA (ns.map PyData.int) 0 (401 * ns.length) := OgA.map fun i hi => Og.int (h i hi)
theorem same_lids {i j : Nat} {ns : List Int} (hi : θ[i]? = some (.lst (id_ ns))) (hj : θ[j]? = some (.lst (id_ ns))) (h : ∀ i ∈ ns, Big i) (hl : ns.length ≤ 100) (hQ : Q (.bl true) θ) : Cm.c__law_same [.obj i, .obj j] E θ Q :=
  same_og (toPy_lids hi) (toPy_lids hj) (Og.list (ogI h)) (by omega) (by omega) hQ
theorem toPy_2ids {j : Nat} {a b : List Int} (hj : θ[j]? = some (.lst [.tup (id_ a), .tup (id_ b)])) : toPy θ 66 (.obj j) = some (.list [pI a, pI b]) := by
  unfold toPy
  simp only [hj]
  have := allSome_map (f := toPy θ 65) (g := fun p : List Int => Dv.tup (id_ p)) (k := pI) (fun p => toPy_ids p) [a, b]
  simp only [List.map_cons, List.map_nil] at this
  rw [this]
  rfl
theorem same_2ids {i j : Nat} {a b : List Int} (hi : θ[i]? = some (.lst [.tup (id_ a), .tup (id_ b)])) (hj : θ[j]? = some (.lst [.tup (id_ a), .tup (id_ b)])) (ha : ∀ i ∈ a, Big i) (hb : ∀ i ∈ b, Big i) (al : a.length ≤ 100) (bl_ : b.length ≤ 100) (hQ : Q (.bl true) θ) : Cm.c__law_same [.obj i, .obj j] E θ Q :=
  same_og (toPy_2ids hi) (toPy_2ids hj) (Og.list (OgA.cons (Og.tuple (ogI ha)) (OgA.cons (Og.tuple (ogI hb)) (OgA.nil (n := 0))))) (by omega) (by omega) hQ
end Sp

/-! Tp1: patches and one false answer: the numbers. -/
namespace Sp
open PySem PySem.Spec PyProof.Rows L2 Mn
variable {E : Exn → Th → Prop} {θ : Th} {Q : Dv → Th → Prop}
def fit (a b q : Nat) : Prop := a * (q + 1) + b ≤ 2 ^ q
instance {a b q : Nat} : Decidable (fit a b q) := inferInstanceAs (Decidable (_ ≤ _))
def IsL (P : Nat → Prop) (L : Nat) : Prop := P L ∧ ∀ p, p < L → ¬ P p
theorem least_ex {P : Nat → Prop} [DecidablePred P] : ∀ {n : Nat}, P n → ∃ L, L ≤ n ∧ IsL P L := by
  intro n
  induction n using Nat.strongRecOn with
  | _ n ih =>
    intro h
    by_cases hx : ∃ p, p < n ∧ P p
    · obtain ⟨p, hp, hq⟩ := hx
      obtain ⟨L, h1, h2⟩ := ih p hp hq
      exact ⟨L, by omega, h2⟩
    · exact ⟨n, Nat.le_refl _, h, fun p hp hq => hx ⟨p, hp, hq⟩⟩
theorem fit_succ {a b q : Nat} (h : fit a b q) : fit a b (q + 1) := by
  unfold fit at h ⊢
  have e : a * (q + 1 + 1) = a * (q + 1) + a := Nat.mul_succ a (q + 1)
  have e2 : a * (q + 1) = a * q + a := Nat.mul_succ a q
  have e3 : 2 ^ (q + 1) = 2 ^ q * 2 := Nat.pow_succ 2 q
  omega
theorem fit_mono {a b p q : Nat} (hpq : p ≤ q) (h : fit a b p) : fit a b q := by
  induction hpq with
  | refl => exact h
  | step _ ih => exact fit_succ ih
theorem fit_big {a b : Nat} (h : a + b ≤ 2 ^ 40) : fit a b 60 := by
  unfold fit
  have : (2 : Nat) ^ 60 = 1048576 * 2 ^ 40 := by decide
  omega
/-- so many of the first -/
abbrev xOf (a : Nat) : Nat := (a + 1) / 2
/-- of the second -/
def yOf (a b L : Nat) : Nat := if a % 2 = 1 then (b + 1 - L) / 2 else b / 2
theorem sq_le : ∀ n : Nat, (n + 5) * (n + 6) ≤ 2 ^ (n + 5) + 2
  | 0 => by decide
  | n + 1 => by
    have ih := sq_le n
    have e1 : (n + 1 + 5) * (n + 1 + 6) = (n + 5) * (n + 6) + 2 * (n + 6) := by
      have : n + 1 + 5 = n + 6 := by omega
      rw [this, show n + 1 + 6 = (n + 5) + 2 by omega, Nat.mul_add, Nat.mul_comm (n + 6) (n + 5)]
      omega
    have e2 : 2 ^ (n + 1 + 5) = 2 ^ (n + 5) * 2 := Nat.pow_succ 2 (n + 5)
    have e3 : 2 * (n + 6) ≤ 2 ^ (n + 5) := by
      have : ∀ m : Nat, 2 * (m + 6) ≤ 2 ^ (m + 5) := by
        intro m
        induction m with
        | zero => decide
        | succ m ih =>
          have : 2 ^ (m + 1 + 5) = 2 ^ (m + 5) * 2 := Nat.pow_succ 2 (m + 5)
          omega
      exact this n
    omega
/-- x (q + 1) - 1 is at most 2 ^ (q - 1), where y is 0 -/
theorem low_case {x b q : Nat} (hx : 1 ≤ x) (hb : 2 * x ≤ b + 2) (hq : b + 2 ≤ q + 1) (hf : fit (2 * x - 1) b (q + 1)) : x * (q + 2) ≤ 2 ^ q + 1 := by
  by_cases h5 : 4 ≤ q
  · obtain ⟨n, rfl⟩ : ∃ n, q = n + 4 := ⟨q - 4, by omega⟩
    have h := sq_le n
    have e : 2 ^ (n + 5) = 2 ^ (n + 4) * 2 := Nat.pow_succ 2 (n + 4)
    have h2 : 2 * x * (n + 6) ≤ (n + 5) * (n + 6) := Nat.mul_le_mul_right _ (by omega)
    have e2 : 2 * x * (n + 6) = 2 * (x * (n + 4 + 2)) := by rw [Nat.mul_assoc]
    omega
  · have : q = 0 ∨ q = 1 ∨ q = 2 ∨ q = 3 := by omega
    rcases this with rfl | rfl | rfl | rfl
    · omega
    · have : x = 1 := by omega
      subst this
      decide
    · have : x = 1 := by omega
      subst this
      decide
    · have : x = 1 ∨ x = 2 := by omega
      rcases this with rfl | rfl
      · decide
      · have : b = 2 := by omega
        subst this
        exact absurd hf (by decide)
/-- the step down, from p4 -/
theorem step_down {a b q : Nat} (hb : a ≤ b + 1) (hf : fit a b (q + 1)) :
    xOf a ≤ a ∧ yOf a b (q + 1) ≤ b ∧ fit (xOf a) (yOf a b (q + 1) + a - xOf a) q ∧ fit (a - xOf a) (b - yOf a b (q + 1) + xOf a) q ∧
    xOf a ≤ (yOf a b (q + 1) + a - xOf a) + 1 ∧ a - xOf a ≤ (b - yOf a b (q + 1) + xOf a) + 1 := by
  have e3 : 2 ^ (q + 1) = 2 ^ q * 2 := Nat.pow_succ 2 q
  rcases Nat.mod_two_eq_zero_or_one a with h | h
  · obtain ⟨x, rfl⟩ : ∃ x, a = 2 * x := ⟨a / 2, by omega⟩
    have ex : xOf (2 * x) = x := by unfold xOf; omega
    have ey : yOf (2 * x) b (q + 1) = b / 2 := by unfold yOf; rw [if_neg (by omega)]
    have hf0 := hf
    unfold fit at hf
    have e1 : 2 * x * (q + 1 + 1) = 2 * (x * (q + 1)) + 2 * x := by rw [Nat.mul_assoc, Nat.mul_succ x (q + 1), Nat.mul_add]
    rw [ex, ey, show 2 * x - x = x by omega]
    unfold fit
    generalize x * (q + 1) = T at *
    generalize 2 ^ q = P at *
    refine ⟨by omega, by omega, by omega, by omega, by omega, by omega⟩
  · obtain ⟨x, rfl⟩ : ∃ x, a = 2 * x + 1 := ⟨a / 2, by omega⟩
    have ex : xOf (2 * x + 1) = x + 1 := by unfold xOf; omega
    have ey : yOf (2 * x + 1) b (q + 1) = (b - q) / 2 := by unfold yOf; rw [if_pos (by omega)]; congr 1; omega
    have lc := fun hq => low_case (x := x + 1) (b := b) (q := q) (by omega) (by omega) hq (by rw [show 2 * (x + 1) - 1 = 2 * x + 1 by omega]; exact hf)
    unfold fit at hf
    have e1 : (2 * x + 1) * (q + 1 + 1) = 2 * (x * (q + 1)) + 2 * x + (q + 2) := by
      rw [Nat.add_mul, Nat.mul_assoc, Nat.mul_succ x (q + 1), Nat.mul_add, Nat.one_mul]
    have e2 : (x + 1) * (q + 1) = x * (q + 1) + (q + 1) := by rw [Nat.add_mul, Nat.one_mul]
    have e4 : (x + 1) * (q + 2) = x * (q + 1) + x + (q + 2) := by rw [Nat.add_mul, Nat.mul_succ x (q + 1), Nat.one_mul]
    have lc' : b + 2 ≤ q + 1 → x * (q + 1) + x + (q + 2) ≤ 2 ^ q + 1 := fun h => by rw [← e4]; exact lc h
    clear lc e4
    rw [ex, ey, show 2 * x + 1 - (x + 1) = x by omega]
    unfold fit
    rw [e2]
    generalize x * (q + 1) = T at *
    generalize 2 ^ q = P at *
    by_cases hl : b + 2 ≤ q + 1
    · have lc := lc' hl
      refine ⟨by omega, by omega, by omega, by omega, by omega, by omega⟩
    · refine ⟨by omega, by omega, by omega, by omega, by omega, by omega⟩
/-- what fewest_patches looks for -/
def fp (a q : Nat) : Prop := a * (q + 1) + (if a % 2 = 1 then q else 0) ≤ 2 ^ q + (if a % 2 = 1 then 1 else 0)
instance {a q : Nat} : Decidable (fp a q) := inferInstanceAs (Decidable (_ ≤ _))
theorem fp_big {a : Nat} (h : a ≤ 2 ^ 40) : fp a 60 := by
  unfold fp
  have : (2 : Nat) ^ 60 = 1048576 * 2 ^ 40 := by decide
  split <;> omega
theorem begin_down {a q : Nat} (h2 : 2 ≤ a) (hf : fp a (q + 1)) : xOf a ≤ a ∧ fit (xOf a) (a - xOf a) q ∧ fit (a - xOf a) (xOf a) q ∧ xOf a ≤ (a - xOf a) + 1 ∧ a - xOf a ≤ xOf a + 1 := by
  have e3 : 2 ^ (q + 1) = 2 ^ q * 2 := Nat.pow_succ 2 q
  rcases Nat.mod_two_eq_zero_or_one a with h | h
  · obtain ⟨x, rfl⟩ : ∃ x, a = 2 * x := ⟨a / 2, by omega⟩
    have ex : xOf (2 * x) = x := by unfold xOf; omega
    unfold fp at hf
    rw [if_neg (by omega), if_neg (by omega)] at hf
    have e1 : 2 * x * (q + 1 + 1) = 2 * (x * (q + 1)) + 2 * x := by rw [Nat.mul_assoc, Nat.mul_succ x (q + 1), Nat.mul_add]
    rw [ex, show 2 * x - x = x by omega]
    unfold fit
    generalize x * (q + 1) = T at *
    generalize 2 ^ q = P at *
    refine ⟨by omega, by omega, by omega, by omega, by omega⟩
  · obtain ⟨x, rfl⟩ : ∃ x, a = 2 * x + 1 := ⟨a / 2, by omega⟩
    have ex : xOf (2 * x + 1) = x + 1 := by unfold xOf; omega
    unfold fp at hf
    rw [if_pos (by omega), if_pos (by omega)] at hf
    have e1 : (2 * x + 1) * (q + 1 + 1) = 2 * (x * (q + 1)) + 2 * x + (q + 2) := by
      rw [Nat.add_mul, Nat.mul_assoc, Nat.mul_succ x (q + 1), Nat.mul_add, Nat.one_mul]
    have e2 : (x + 1) * (q + 1) = x * (q + 1) + (q + 1) := by rw [Nat.add_mul, Nat.one_mul]
    rw [ex, show 2 * x + 1 - (x + 1) = x by omega]
    unfold fit
    rw [e2]
    generalize x * (q + 1) = T at *
    generalize 2 ^ q = P at *
    refine ⟨by omega, by omega, by omega, by omega, by omega⟩
end Sp

/-! Tp2: patches and one false answer: what the functions give. -/
namespace Sp
open PySem PySem.Spec PyProof.Rows L2 Mn
variable {E : Exn → Th → Prop} {θ : Th} {Q : Dv → Th → Prop}
theorem pow_cast (q : Nat) : (1 : Int) * 2 ^ ((q : Nat) : Int).toNat = ((2 ^ q : Nat) : Int) := by
  rw [Int.one_mul, Int.toNat_natCast, Int.natCast_pow]; rfl
theorem fit_int {a b q : Nat} : decide (((2 ^ q : Nat) : Int) < (a : Int) * ((q : Int) + 1) + (b : Int)) = decide (¬ fit a b q) := by
  unfold fit
  have e : (a : Int) * ((q : Int) + 1) + (b : Int) = ((a * (q + 1) + b : Nat) : Int) := by push_cast; rfl
  rw [e]
  exact decide_eq_decide.mpr (by omega)
theorem s_least {a b L : Nat} (hL : L ≤ 1000) (h : IsL (fit a b) L) (hQ : Q (.int (L : Nat)) θ) : Cm8.c_least_tests [.int (a : Nat), .int (b : Nat)] E θ Q := by
  unfold Cm8.c_least_tests Cm8.m_least_tests
  simp only [mxCN, List.map_cons, List.map_nil, List.replicate, List.cons_append, List.nil_append, List.set_cons_zero, List.set_cons_succ]
  rw [x_seqN, x_seq, x_while]
  refine while_rule (fun n ρ θ' => ∃ q : Nat, ρ = [some (.int (a : Nat)), some (.int (b : Nat)), some (.int (q : Nat))] ∧ θ' = θ ∧ q ≤ L ∧ L - q = n) (m := L) ⟨0, rfl, rfl, Nat.zero_le _, rfl⟩ ?_
  rintro n ρ θ' ⟨q, rfl, rfl, hq, hn⟩ K k1 k2
  simp only [mxCN, List.map_cons, List.map_nil, List.replicate, List.cons_append, List.nil_append, List.set_cons_zero, List.set_cons_succ, x_shl]
  refine ⟨.inr ⟨by omega, by omega⟩, ⟨by omega, by omega, by decide⟩, ?_⟩
  rw [pow_cast, fit_int]
  by_cases hlt : q < L
  · rw [decide_eq_true (h.2 q hlt)]
    refine k1 _ fun K2 LK => ?_
    show K2 (.nx [some (.int (a : Nat)), some (.int (b : Nat)), some (.int ((q : Nat) + 1))]) _
    exact LK.nx _ _ ⟨L - (q + 1), _, rfl, by omega, q + 1, rfl, rfl, by omega, rfl⟩
  · have e : q = L := by omega
    subst e
    rw [decide_eq_false (fun z => z h.1)]
    refine k2 _ ?_
    rw [x_seqN]
    simp only [mxCN, List.map_cons, List.map_nil, List.replicate, List.cons_append, List.nil_append, List.set_cons_zero, List.set_cons_succ]
    exact end_same hQ
theorem s_lleast {a b L : Nat} (hL : L < 80) (h : IsL (fit a b) L) (hQ : Q (.int (L : Nat)) θ) : Cm8.c__law_least [.int (a : Nat), .int (b : Nat)] E θ Q := by
  unfold Cm8.c__law_least Cm8.m__law_least
  simp only [mxCN, List.map_cons, List.map_nil, List.replicate, List.cons_append, List.nil_append, List.set_cons_zero, List.set_cons_succ]
  rw [x_seqN, x_seq, x_for]
  simp only [mxCN, List.map_cons, List.map_nil, List.replicate, List.cons_append, List.nil_append, List.set_cons_zero, List.set_cons_succ]
  refine ⟨⟨by decide, by decide⟩, ?_⟩
  refine for_rule 80 (fun i ρ θ' => ∃ x3, ρ = [some (.int (a : Nat)), some (.int (b : Nat)), some (.int ((2 ^ i : Nat) : Int)), x3] ∧ θ' = θ ∧ i ≤ L) ⟨none, rfl, rfl, Nat.zero_le _⟩ ?_ ?_
  · rintro i ρ θ' hi ⟨x3, rfl, rfl, hiL⟩
    refine ⟨.int (i : Nat), _, by rw [show ((80 : Int)).toNat = 80 from rfl, rng_at hi]; simp, rfl, fun K LK => ?_⟩
    simp only [mxCN, List.map_cons, List.map_nil, List.replicate, List.cons_append, List.nil_append, List.set_cons_zero, List.set_cons_succ]
    refine ⟨.inr ⟨by omega, by omega⟩, ?_⟩
    have e : decide ((a : Int) * ((i : Int) + 1) + (b : Int) ≤ ((2 ^ i : Nat) : Int)) = decide (fit a b i) := by
      unfold fit
      have e : (a : Int) * ((i : Int) + 1) + (b : Int) = ((a * (i + 1) + b : Nat) : Int) := by push_cast; rfl
      rw [e]
      exact decide_eq_decide.mpr (by omega)
    rw [e]
    by_cases hlt : i < L
    · rw [decide_eq_false (h.2 i hlt), if_neg Bool.false_ne_true]
      rw [x_seqN]
      simp only [mxCN, List.map_cons, List.map_nil, List.replicate, List.cons_append, List.nil_append, List.set_cons_zero, List.set_cons_succ]
      refine ⟨.inr ⟨by decide, by decide⟩, ?_⟩
      refine LK.nx _ _ ⟨_, rfl, some (.int (i : Nat)), ?_, rfl, by omega⟩
      have : ((2 ^ i : Nat) : Int) * 2 = ((2 ^ (i + 1) : Nat) : Int) := by rw [Nat.pow_succ]; push_cast; rfl
      rw [this]
    · have e : i = L := by omega
      subst e
      rw [decide_eq_true h.1, if_pos rfl]
      exact LK.rt _ _ (end_same hQ)
  · rintro ρ θ' ⟨x3, rfl, rfl, hiL⟩
    omega
theorem odd_nat (a : Nat) : (((a % 2 : Nat) : Int) != 0) = decide (a % 2 = 1) := by
  rcases Nat.mod_two_eq_zero_or_one a with h | h <;> rw [h] <;> rfl
theorem s_surplus {a q : Nat} (hQ : Q (.int (if a % 2 = 1 then (q : Int) - 1 else 0)) θ) : Cm8.c_odd_surplus [.int (a : Nat), .int (q : Nat)] E θ Q := by
  unfold Cm8.c_odd_surplus Cm8.m_odd_surplus
  simp only [mxCN, List.map_cons, List.map_nil, List.replicate, List.cons_append, List.nil_append, List.set_cons_zero, List.set_cons_succ]
  rw [odd_nat]
  by_cases h : a % 2 = 1
  · rw [if_pos h] at hQ
    rw [decide_eq_true h, if_pos rfl]
    exact end_same hQ
  · rw [if_neg h] at hQ
    rw [decide_eq_false h, if_neg Bool.false_ne_true]
    exact end_same hQ
theorem s_fewp {a L : Nat} (hL : L ≤ 1000) (h : IsL (fp a) L) (hQ : Q (.int (L : Nat)) θ) : Cm8.c_fewest_patches [.int (a : Nat)] E θ Q := by
  unfold Cm8.c_fewest_patches Cm8.m_fewest_patches
  simp only [mxCN, List.map_cons, List.map_nil, List.replicate, List.cons_append, List.nil_append, List.set_cons_zero, List.set_cons_succ]
  rw [x_seqN, x_seq, x_while]
  refine while_rule (fun n ρ θ' => ∃ q : Nat, ρ = [some (.int (a : Nat)), some (.int (q : Nat))] ∧ θ' = θ ∧ q ≤ L ∧ L - q = n) (m := L) ⟨0, rfl, rfl, Nat.zero_le _, rfl⟩ ?_
  rintro n ρ θ' ⟨q, rfl, rfl, hq, hn⟩ K k1 k2
  simp only [mxCN, List.map_cons, List.map_nil, List.replicate, List.cons_append, List.nil_append, List.set_cons_zero, List.set_cons_succ]
  refine ⟨.inr ⟨by omega, by omega⟩, rfl, s_surplus ?_⟩
  simp only [mxCN, List.map_cons, List.map_nil, List.replicate, List.cons_append, List.nil_append, List.set_cons_zero, List.set_cons_succ, x_shl]
  refine ⟨⟨by omega, by omega, by decide⟩, ?_⟩
  have e : decide ((1 : Int) * 2 ^ ((q : Nat) : Int).toNat < (a : Int) * ((q : Int) + 1) + (if a % 2 = 1 then (q : Int) - 1 else 0)) = decide (¬ fp a q) := by
    rw [pow_cast]
    unfold fp
    have e : (a : Int) * ((q : Int) + 1) = ((a * (q + 1) : Nat) : Int) := by push_cast; rfl
    rw [e]
    refine decide_eq_decide.mpr ?_
    by_cases h : a % 2 = 1
    · rw [if_pos h, if_pos h, if_pos h]
      omega
    · rw [if_neg h, if_neg h, if_neg h]
      omega
  rw [e]
  by_cases hlt : q < L
  · rw [decide_eq_true (h.2 q hlt)]
    refine k1 _ fun K2 LK => ?_
    show K2 (.nx [some (.int (a : Nat)), some (.int ((q : Nat) + 1))]) _
    exact LK.nx _ _ ⟨L - (q + 1), _, rfl, by omega, q + 1, rfl, rfl, by omega, rfl⟩
  · have e : q = L := by omega
    subst e
    rw [decide_eq_false (fun z => z h.1)]
    refine k2 _ ?_
    rw [x_seqN]
    simp only [mxCN, List.map_cons, List.map_nil, List.replicate, List.cons_append, List.nil_append, List.set_cons_zero, List.set_cons_succ]
    exact end_same hQ
theorem max0_half {b L : Nat} : (if ((b : Int) - (L : Int) + 1) / 2 > 0 then ((b : Int) - (L : Int) + 1) / 2 else 0) = (((b + 1 - L) / 2 : Nat) : Int) := by
  split <;> omega
theorem two_len {x y : Dv} : [x, y].length ≤ sizeLine := by rw [sizeLine_eq]; show 2 ≤ 16777216; omega
theorem sn_next0 {a : Nat} (h : 2 ≤ a) (hQ : Q (.tup [.int (xOf a : Nat), .int (0 : Nat)]) θ) : Cm8.c_next_numbers [.int (a : Nat), .int (0 : Nat)] E θ Q := by
  unfold Cm8.c_next_numbers Cm8.m_next_numbers
  simp only [mxCN, List.map_cons, List.map_nil, List.replicate, List.cons_append, List.nil_append, List.set_cons_zero, List.set_cons_succ]
  rw [if_neg (by simp; omega), x_seqN]
  simp only [mxCN, List.map_cons, List.map_nil, List.replicate, List.cons_append, List.nil_append, List.set_cons_zero, List.set_cons_succ]
  rw [if_pos (by simp; omega)]
  rw [if_pos (by simp)]
  refine ⟨⟨by decide, by decide⟩, two_len, ?_⟩
  refine end_same ?_
  have e : ((a : Int) + 1) / 2 = ((xOf a : Nat) : Int) := by unfold xOf; omega
  rw [e]
  exact hQ
theorem sn_next {a b L : Nat} (h : 2 ≤ a + b) (hb : a ≤ b + 1) (hL : L ≤ 1000) (hl : IsL (fit a b) L) (hQ : Q (.tup [.int (xOf a : Nat), .int (yOf a b L : Nat)]) θ) : Cm8.c_next_numbers [.int (a : Nat), .int (b : Nat)] E θ Q := by
  unfold Cm8.c_next_numbers Cm8.m_next_numbers
  simp only [mxCN, List.map_cons, List.map_nil, List.replicate, List.cons_append, List.nil_append, List.set_cons_zero, List.set_cons_succ]
  rw [if_neg (by simp; omega), x_seqN]
  simp only [mxCN, List.map_cons, List.map_nil, List.replicate, List.cons_append, List.nil_append, List.set_cons_zero, List.set_cons_succ]
  have key : ∀ K : Bool → Prop, K false → (if (decide ((2 : Int) ≤ (a : Int))) = true then K (decide ((b : Int) = 0)) else K false) := by
    intro K hK
    by_cases h2 : (2 : Int) ≤ (a : Int)
    · rw [if_pos (decide_eq_true h2), decide_eq_false (by omega)]
      exact hK
    · rw [if_neg (by simpa using h2)]
      exact hK
  refine key (fun v => if v = true then _ else _) ?_
  rw [if_neg Bool.false_ne_true, x_seqN]
  simp only [mxCN, List.map_cons, List.map_nil, List.replicate, List.cons_append, List.nil_append, List.set_cons_zero, List.set_cons_succ]
  rw [if_neg (by simp; omega), x_seqN]
  simp only [mxCN, List.map_cons, List.map_nil, List.replicate, List.cons_append, List.nil_append, List.set_cons_zero, List.set_cons_succ]
  rw [odd_nat]
  by_cases ho : a % 2 = 1
  · rw [if_pos (decide_eq_true ho)]
    refine ⟨⟨by decide, by decide⟩, rfl, s_least hL hl ?_⟩
    simp only [mxCN, List.map_cons, List.map_nil, List.replicate, List.cons_append, List.nil_append, List.set_cons_zero, List.set_cons_succ, x_max2]
    refine ⟨⟨by decide, by decide⟩, two_len, ?_⟩
    refine end_same ?_
    rw [max0_half]
    have e : ((a : Int) + 1) / 2 = ((xOf a : Nat) : Int) := by unfold xOf; omega
    rw [e]
    unfold yOf at hQ
    rw [if_pos ho] at hQ
    exact hQ
  · rw [if_neg (by simpa using ho)]
    refine ⟨⟨by decide, by decide⟩, ⟨by decide, by decide⟩, two_len, ?_⟩
    refine end_same ?_
    have e : (a : Int) / 2 = ((xOf a : Nat) : Int) := by unfold xOf; omega
    have e2 : (b : Int) / 2 = ((yOf a b L : Nat) : Int) := by unfold yOf; rw [if_neg ho]; omega
    rw [e, e2]
    exact hQ
end Sp

/-! Tp3: patches and one false answer: the law's own helpers. -/
namespace Sp
open PySem PySem.Spec PyProof.Rows L2 Mn
variable {E : Exn → Th → Prop} {θ : Th} {Q : Dv → Th → Prop}
theorem lk1 {y : Str} {b : Bool} : List.lookup y [(y, b)] = some b := by simp [List.lookup]
theorem sn_due0 {a : Nat} (hQ : Q (.tup [.int (xOf a : Nat), .int (0 : Nat)]) θ) : Cm8.c__law_due [.int (a : Nat), .int (0 : Nat)] E θ Q := by
  unfold Cm8.c__law_due Cm8.m__law_due
  simp only [mxCN, List.map_cons, List.map_nil, List.replicate, List.cons_append, List.nil_append, List.set_cons_zero, List.set_cons_succ]
  rw [if_pos (by simp)]
  refine ⟨⟨by decide, by decide⟩, two_len, ?_⟩
  refine end_same ?_
  have e : ((a : Int) + 1) / 2 = ((xOf a : Nat) : Int) := by unfold xOf; omega
  rw [e]
  exact hQ
theorem sn_due {a b L : Nat} (h : b ≠ 0) (hL : L < 80) (hl : IsL (fit a b) L) (hQ : Q (.tup [.int (xOf a : Nat), .int (yOf a b L : Nat)]) θ) : Cm8.c__law_due [.int (a : Nat), .int (b : Nat)] E θ Q := by
  unfold Cm8.c__law_due Cm8.m__law_due
  simp only [mxCN, List.map_cons, List.map_nil, List.replicate, List.cons_append, List.nil_append, List.set_cons_zero, List.set_cons_succ]
  rw [if_neg (by simp; omega), x_seqN]
  simp only [mxCN, List.map_cons, List.map_nil, List.replicate, List.cons_append, List.nil_append, List.set_cons_zero, List.set_cons_succ]
  refine ⟨by decide, ?_⟩
  by_cases ho : a % 2 = 1
  · rw [if_neg (by simp; omega), x_seqN]
    simp only [mxCN, List.map_cons, List.map_nil, List.replicate, List.cons_append, List.nil_append, List.set_cons_zero, List.set_cons_succ]
    refine ⟨rfl, s_lleast hL hl ?_⟩
    simp only [mxCN, List.map_cons, List.map_nil, List.replicate, List.cons_append, List.nil_append, List.set_cons_zero, List.set_cons_succ]
    rw [x_seqN]
    simp only [mxCN, List.map_cons, List.map_nil, List.replicate, List.cons_append, List.nil_append, List.set_cons_zero, List.set_cons_succ, x_max2]
    refine ⟨⟨by decide, by decide⟩, ⟨by decide, by decide⟩, two_len, ?_⟩
    refine end_same ?_
    have e : ((a : Int) + 1) / 2 = ((xOf a : Nat) : Int) := by unfold xOf; omega
    have e2 : (if (b : Int) - (L : Int) + 1 > 0 then (b : Int) - (L : Int) + 1 else 0) / 2 = ((yOf a b L : Nat) : Int) := by
      unfold yOf
      rw [if_pos ho]
      split <;> omega
    rw [e, e2]
    exact hQ
  · rw [if_pos (by simp; omega)]
    refine ⟨⟨by decide, by decide⟩, ⟨by decide, by decide⟩, two_len, ?_⟩
    refine end_same ?_
    have e : (a : Int) / 2 = ((xOf a : Nat) : Int) := by unfold xOf; omega
    have e2 : (b : Int) / 2 = ((yOf a b L : Nat) : Int) := by unfold yOf; rw [if_neg ho]; omega
    rw [e, e2]
    exact hQ
abbrev pr (x y : Nat) : Dv := .tup [.int (x : Nat), .int (y : Nat)]
/-- what holds ahead of a turn with r tests to come -/
def Dn (a b r : Nat) : Prop := a + b ≤ 2 ^ 40 ∧ fit a b r ∧ (a ≤ b + 1 ∨ (b = 0 ∧ 2 ≤ a ∧ fp a r))
theorem Dn.pos {a b r : Nat} (h : Dn a b r) (h2 : 2 ≤ a + b) : 1 ≤ r := by
  obtain ⟨_, h1, _⟩ := h
  cases r with
  | zero => unfold fit at h1; simp at h1; omega
  | succ r => omega
theorem Dn.yes {a b r x y : Nat} (hs : x + y ≤ 2 ^ 40) (h1 : fit x y r) (h2 : x ≤ y + 1) : Dn x y r := ⟨hs, h1, .inl h2⟩
/-- what the program and the law tell of the test -/
theorem Dn.step {a b r : Nat} (h : Dn a b (r + 1)) (h2 : 2 ≤ a + b) : ∃ y, (∀ {E : Exn → Th → Prop} {θ : Th} {Q : Dv → Th → Prop}, Q (pr (xOf a) y) θ → Cm8.c_next_numbers [.int (a : Nat), .int (b : Nat)] E θ Q) ∧
    (∀ {E : Exn → Th → Prop} {θ : Th} {Q : Dv → Th → Prop}, Q (pr (xOf a) y) θ → Cm8.c__law_due [.int (a : Nat), .int (b : Nat)] E θ Q) ∧ xOf a ≤ a ∧ y ≤ b ∧ Dn (xOf a) (y + a - xOf a) r ∧ Dn (a - xOf a) (b - y + xOf a) r ∧
    fit (xOf a) (y + a - xOf a) r ∧ fit (a - xOf a) (b - y + xOf a) r ∧ xOf a ≤ (y + a - xOf a) + 1 ∧ a - xOf a ≤ (b - y + xOf a) + 1 := by
  obtain ⟨h0, h1, h3⟩ := h
  rcases h3 with h3 | ⟨rfl, h4, h5⟩
  · obtain ⟨L, hL, hl⟩ := least_ex (P := fit a b) (n := 60) (fit_big h0)
    have hLr : L ≤ r + 1 := by
      rcases Nat.lt_or_ge (r + 1) L with z | z
      · exact absurd h1 (hl.2 _ z)
      · exact z
    have hL1 : 1 ≤ L := Dn.pos (a := a) (b := b) ⟨h0, hl.1, .inl h3⟩ h2
    obtain ⟨M, rfl⟩ : ∃ M, L = M + 1 := ⟨L - 1, by omega⟩
    obtain ⟨s1, s2, s3, s4, s5, s6⟩ := step_down h3 hl.1
    have s3 := fit_mono (show M ≤ r by omega) s3
    have s4 := fit_mono (show M ≤ r by omega) s4
    refine ⟨yOf a b (M + 1), fun q => sn_next h2 h3 (by omega) hl q, fun q => sn_due (by omega) (by omega) hl q, s1, s2, ⟨by omega, s3, .inl s5⟩, ⟨by omega, s4, .inl s6⟩, s3, s4, s5, s6⟩
  · obtain ⟨s1, s3, s4, s5, s6⟩ := begin_down h4 h5
    have e1 : 0 + a - xOf a = a - xOf a := by omega
    have e2 : 0 - 0 + xOf a = xOf a := by omega
    refine ⟨0, fun q => sn_next0 h4 q, fun q => sn_due0 q, s1, Nat.le_refl _, ?_⟩
    rw [e1, e2]
    exact ⟨⟨by omega, s3, .inl s5⟩, ⟨by omega, s4, .inl s6⟩, s3, s4, s5, s6⟩
end Sp

/-! Tp4: patches and one false answer: the way down. -/
namespace Sp
open PySem PySem.Spec PyProof.Rows L2 Mn
variable {E : Exn → Th → Prop} {θ : Th} {Q : Dv → Th → Prop}
end Sp

/-! Ux1: histories are looked at: shapes, names, parents. -/
namespace Sp
open PySem PySem.Spec PyProof.Rows L2 Mn
variable {E : Exn → Th → Prop} {θ : Th} {Q : Dv → Th → Prop}
/-! makes -/
abbrev MkI := Str × List Int
def mkI (m : MkI) : Dv := .tup [.str m.1, .tup (m.2.map Dv.int)]
/-- whether d is taken for a make -/
def IM (θ : Th) (d : Dv) (b : Bool) : Prop := ∀ (E : Exn → Th → Prop) (g : Th) (Q : Dv → Th → Prop), Q (.bl b) (θ ++ g) → Cm11.c_is_make [d] E (θ ++ g) Q
theorem IM.app {d : Dv} {b : Bool} {g : Th} (h : IM θ d b) : IM (θ ++ g) d b := fun E g2 Q hQ => by
  rw [List.append_assoc] at hQ ⊢
  exact h E _ Q hQ
/-! shapes -/
/-! names -/
def LET : Str := "abcdefghijklmnopqrstuvwxyz"
def nameB (t : Str) : Bool := decide (1 ≤ t.length) && decide (t.length ≤ 8) && (List.range t.length).all fun i => (t.cps[i]?.map fun c => decide (c ∈ LET.cps.toList)).getD false
/-! parents -/
def parB (ns : List Int) (at_ : Nat) : Bool := decide (ns.length ≤ 4) && asc ns && (List.range ns.length).all fun i => decide (0 ≤ ns.getD i 0) && decide (ns.getD i 0 < (at_ : Int))
end Sp

/-! Ux2: histories are looked at: the makes one by one. -/
namespace Sp
open PySem PySem.Spec PyProof.Rows L2 Mn
variable {E : Exn → Th → Prop} {θ : Th} {Q : Dv → Th → Prop}
def fltM (ms : List MkI) (i : Nat) : Option Str := match ms[i]? with
  | none => none
  | some m => if nameB m.1 = false then some "bad name" else if m.1 ∈ (ms.take i).map (·.1) then some "two of a name" else if parB m.2 i = false then some "bad parents" else none
/-! the whole -/
abbrev hI (ms : List MkI) : Dv := .tup [.str "history", .tup (ms.map mkI)]
/-! what the law is told -/
end Sp

/-! Vb8: the program's deeds. -/
namespace Sp
open PySem PySem.Spec PyProof.Rows L2 Mn
variable {E : Exn → Th → Prop} {θ : Th} {Q : Dv → Th → Prop} {h : Hist} {k : Nat} {m : DM}
section
variable {dm dr ds : Dv}
/-- what is on a desk, told again -/
structure DMok (h : Hist) (m : DM) : Prop where
  lr : m.rows.length ≤ 1000
  ls : m.sk.length ≤ 1000
  ps : m.sk.Pairwise (· ≤ ·)
end
end Sp

/-! Vb9: doing and undoing. -/
namespace Sp
open PySem PySem.Spec PyProof.Rows L2 Mn
variable {E : Exn → Th → Prop} {θ : Th} {Q : Dv → Th → Prop} {h : Hist} {k : Nat} {m : DM}
section
variable {d i j : Nat} {r : Str} {D : List Deed} {ms : List Dv} {dm dr ds : Dv}
/-! the law's word of it -/
end
end Sp

/-! Vb10: the law's desk. -/
namespace Sp
open PySem PySem.Spec PyProof.Rows L2 Mn
variable {E : Exn → Th → Prop} {θ : Th} {Q : Dv → Th → Prop} {h : Hist} {k : Nat} {m : DM}
end Sp

/-! Vb11: the law's drawn deeds. -/
namespace Sp
open PySem PySem.Spec PyProof.Rows L2 Mn
variable {E : Exn → Th → Prop} {θ : Th} {Q : Dv → Th → Prop} {h : Hist} {k : Nat} {m : DM}
end Sp

/-! Vb12: a drawn history is a history. -/
namespace Sp
open PySem PySem.Spec PyProof.Rows L2 Mn
variable {E : Exn → Th → Prop} {θ : Th} {Q : Dv → Th → Prop} {h : Hist} {k : Nat} {m : DM}
theorem anc_app {hs : Hist} {x : Str × List Nat} {e c : Nat} (r : Anc hs e c) : Anc (hs ++ [x]) e c := by
  induction r with
  | self => exact .self
  | step r1 h1 h2 ih =>
    rename_i k p
    refine .step ih h1 ?_
    rw [par_app]
    have : k ≠ hs.length := by
      rintro rfl
      unfold par at h2
      simp at h2
    rw [if_neg this]
    exact h2
/-- a history that keeps the rules -/
structure GVX (n : Nat) (hs : Hist) : Prop extends GV n hs where
  few : ∀ x ∈ hs, x.2.length ≤ 3
  top : ∀ c, c < n → Anc hs (n - 1) c
structure HX (n i : Nat) (hs : Hist) (ends : List Nat) : Prop where
  l3 : ends.length ≤ 3
  few : ∀ x ∈ hs, x.2.length ≤ 3
  cov : ∀ c, c < i → ∃ e ∈ ends, Anc hs e c
  last : i = n → ends = [n - 1]
theorem HX.p0 {n i : Nat} {hs : Hist} {ends : List Nat} (x : HX n i hs ends) : ends.length ≤ 2 ∨ ∃ p ∈ ends, p ∈ ends := by
  by_cases h : ends.length ≤ 2
  · exact .inl h
  · cases ends with
    | nil => exact .inl (by simp)
    | cons a l => exact .inr ⟨a, .head _, .head _⟩
theorem HX.step {n i : Nat} {hs : Hist} {ends P : List Nat} (x : HX n i hs ends) (g : GV i hs) (p2 : ∀ p ∈ P, p < i) (p3 : P.length ≤ 3) (p4 : ends.length ≤ 2 ∨ ∃ p ∈ ends, p ∈ P) (p5 : i + 1 = n → ∀ p ∈ ends, p ∈ P) :
    HX n (i + 1) (hs ++ [(nmV i, P)]) (ends.filter (fun p => !decide (p ∈ P)) ++ [i]) := by
  have pi : par (hs ++ [(nmV i, P)]) i = P := by rw [par_app, if_pos g.len.symm]
  refine ⟨?_, ?_, ?_, ?_⟩
  · rw [List.length_append, List.length_singleton]
    rcases p4 with h | ⟨p, h1, h2⟩
    · have := List.length_filter_le (fun p => !decide (p ∈ P)) ends
      omega
    · have h3 : (ends.filter fun p => !decide (p ∈ P)).length < ends.length := by
        refine Nat.lt_of_le_of_ne (List.length_filter_le _ _) fun e => ?_
        rw [List.length_filter_eq_length_iff] at e
        have := e p h1
        simp [h2] at this
      have := x.l3
      omega
  · intro y hy
    rcases List.mem_append.mp hy with hy | hy
    · exact x.few y hy
    · rw [List.mem_singleton.mp hy]; exact p3
  · intro c hc
    by_cases e : c = i
    · exact ⟨i, by simp, by rw [e]; exact .self⟩
    · obtain ⟨z, hz, r⟩ := x.cov c (by omega)
      by_cases hzP : z ∈ P
      · exact ⟨i, by simp, Anc.head.mpr (.inr ⟨z, by rw [pi]; exact hzP, anc_app r⟩)⟩
      · exact ⟨z, List.mem_append_left _ (List.mem_filter.mpr ⟨hz, by simpa using hzP⟩), anc_app r⟩
  · intro e
    have : (ends.filter fun p => !decide (p ∈ P)) = [] := by
      rw [List.filter_eq_nil_iff]
      intro p hp
      simp [p5 e p hp]
    rw [this, List.nil_append]
    congr 1
    omega
theorem HX.fin {n : Nat} {hs : Hist} {ends : List Nat} (x : HX n n hs ends) (g : GV n hs) (hn : 0 < n) : GVX n hs :=
  ⟨g, x.few, fun c hc => by
    obtain ⟨e, he, r⟩ := x.cov c hc
    rw [x.last rfl, List.mem_singleton] at he
    rw [he] at r
    exact r⟩
end Sp

/-! Vb13: a desk that is made. -/
namespace Sp
open PySem PySem.Spec PyProof.Rows L2 Mn
variable {E : Exn → Th → Prop} {θ : Th} {Q : Dv → Th → Prop} {h : Hist} {k : Nat} {m : DM}
theorem nmV_ok : ∀ i, i < 24 → nameB (nmV i) = true := by decide +kernel
theorem nmV_inj : ∀ i, i < 24 → ∀ j, j < 24 → nmV i = nmV j → i = j := by decide +kernel
theorem GV.name {n : Nat} {hs : Hist} (g : GV n hs) {i : Nat} (hi : i < hs.length) : hs[i].1 = nmV i := by
  have e := congrArg (fun l => l[i]?) g.nm
  have hn : i < n := by have := g.len; omega
  simpa [hi, hn] using e
theorem asc_ofN {P : List Nat} (hp : P.Pairwise (· < ·)) : asc (cI P) = true := by
  unfold asc
  rw [List.all_map, List.all_eq_true]
  intro i hi
  rw [List.mem_range, cI, List.length_map] at hi
  have h1 := (List.pairwise_iff_getElem.mp hp) i (i + 1) (by omega) (by omega) (by omega)
  have e : ∀ j (hj : j < P.length), (cI P).getD j 0 = (P[j] : Int) := fun j hj => by simp [cI, List.getD_eq_getElem?_getD, hj]
  show decide ((cI P).getD i 0 < (cI P).getD (i + 1) 0) = true
  rw [e i (by omega), e (i + 1) (by omega), decide_eq_true_eq]
  omega
theorem parB_of {P : List Nat} {i : Nat} (hp : P.Pairwise (· < ·)) (h3 : P.length ≤ 3) (hl : ∀ p ∈ P, p < i) : parB (cI P) i = true := by
  unfold parB
  rw [asc_ofN hp]
  have el : (cI P).length = P.length := by simp [cI]
  rw [Bool.and_eq_true, Bool.and_eq_true, decide_eq_true_eq, List.all_eq_true]
  refine ⟨⟨by omega, rfl⟩, fun j hj => ?_⟩
  rw [List.mem_range] at hj
  have e : (cI P).getD j 0 = (P[j]'(by omega) : Int) := by simp [cI, List.getD_eq_getElem?_getD, show j < P.length by omega]
  rw [e, Bool.and_eq_true, decide_eq_true_eq, decide_eq_true_eq]
  have := hl _ (List.getElem_mem (show j < P.length by omega))
  omega
theorem GVX.good {n : Nat} {hs : Hist} (g : GVX n hs) (hn : n ≤ 24) {i : Nat} (hi : i < hs.length) : fltM (hs.map fun x => (x.1, cI x.2)) i = none := by
  have len := g.len
  unfold fltM
  rw [List.getElem?_map, List.getElem?_eq_getElem hi]
  have mem : hs[i] ∈ hs := List.getElem_mem hi
  have e1 : nameB hs[i].1 = true := by rw [g.name hi]; exact nmV_ok i (by omega)
  have e2 : hs[i].1 ∉ ((hs.map fun x => (x.1, cI x.2)).take i).map (·.1) := by
    intro hm
    obtain ⟨y, hy, e⟩ := List.mem_map.mp hm
    obtain ⟨j, hj, rfl⟩ := List.mem_take_iff_getElem.mp hy
    rw [List.length_map] at hj
    have hj2 : j < hs.length := by omega
    have e3 : nmV j = nmV i := by
      rw [← g.name hi, ← g.name hj2, ← e]
      simp
    have := nmV_inj j (by omega) i (by omega) e3
    omega
  have e4 : parB (cI hs[i].2) i = true := parB_of (g.srt _ mem) (g.few _ mem) fun p hp => g.ahead i p (by rw [← par_get hi]; exact hp)
  show (if nameB hs[i].1 = false then _ else if hs[i].1 ∈ _ then _ else if parB (cI hs[i].2) i = false then _ else _) = _
  rw [if_neg (by rw [e1]; decide), if_neg e2, if_neg (by rw [e4]; decide)]
end Sp

/-! Vb14: the store when a desk is used. -/
namespace Sp
open PySem PySem.Spec PyProof.Rows L2 Mn
variable {E : Exn → Th → Prop} {θ : Th} {Q : Dv → Th → Prop} {h : Hist} {k : Nat} {m : DM}
/-! the box stays where it is -/
end Sp

/-! Vc1: what a desk tells as a text. -/
namespace Sp
open PySem PySem.Spec PyProof.Rows L2 Mn
variable {E : Exn → Th → Prop} {θ : Th} {Q : Dv → Th → Prop} {h : Hist} {k : Nat} {m : DM}
/-- names of at most eight letters, each of one make -/
structure NM (h : Hist) : Prop where
  sh : ∀ c, c < h.length → (nmA h c).length ≤ 8
  inj : ∀ c d, c < h.length → d < h.length → nmA h c = nmA h d → c = d
section
variable {d i j d2 i2 j2 k2 : Nat} {D D2 : List Deed} {ms ms2 : List Dv} {dm dr ds dm2 dr2 ds2 : Dv} {r r2 : Option Bool} {m2 : DM}
end
end Sp

/-! Vc2: the lines of a report. -/
namespace Sp
open PySem PySem.Spec PyProof.Rows L2 Mn
variable {E : Exn → Th → Prop} {θ : Th} {Q : Dv → Th → Prop} {h : Hist} {k : Nat} {m : DM}
section
variable {d i j : Nat} {D : List Deed} {ms : List Dv} {dm dr ds : Dv} {r : Option Bool}
end
end Sp

/-! Vc3: a report. -/
namespace Sp
open PySem PySem.Spec PyProof.Rows L2 Mn
variable {E : Exn → Th → Prop} {θ : Th} {Q : Dv → Th → Prop} {h : Hist} {k : Nat} {m : DM}
section
variable {d i j : Nat} {D : List Deed} {ms : List Dv} {dm dr ds : Dv} {r : Option Bool}
end
end Sp

/-! Vi7: fewest tests. -/
namespace Sp
open PySem PySem.Spec PyProof.Rows L2 Mn
variable {E : Exn → Th → Prop} {θ : Th} {Q : Dv → Th → Prop} {h : Hist} {sk : List Nat} {st : List Int} {n top : Nat}
theorem ext_kept {kk : Nat} {θ1 θ' : Th} (e : Ext θ θ1) (K : Kept kk θ1 θ') (hk : θ.length ≤ kk) : Ext θ θ' := by
  have l1 := (Kept.ext (kk := kk) e).len
  have l2 := K.len
  refine ⟨θ'.drop θ.length, ?_⟩
  have e2 : θ'.take θ.length = θ := by
    apply List.ext_getElem?
    intro i
    rw [List.getElem?_take]
    split
    · next hi =>
      have h1 : θ[i]? = some θ[i] := List.getElem?_eq_getElem hi
      rw [h1]
      exact K.at' i _ (by omega) (e.at h1)
    · next hi => rw [List.getElem?_eq_none (by omega)]
  exact (List.take_append_drop θ.length θ').symm.trans (by rw [e2])
end Sp

/-! Vi8: fewest_by_make, the next answer. -/
namespace Sp
open PySem PySem.Spec PyProof.Rows L2 Mn
variable {E : Exn → Th → Prop} {θ : Th} {Q : Dv → Th → Prop} {h : Hist} {sk : List Nat} {st : List Int} {n top : Nat}
/-- the state at the start -/
noncomputable def st0 (h : Hist) (sk : List Nat) : List Int := List.replicate (nc h sk) 0
theorem st0_k : StK (nc h sk) 0 (st0 h sk) := ⟨by unfold st0; rw [List.length_replicate], fun y hy => by
  unfold st0 at hy
  rw [List.eq_of_mem_replicate hy]
  omega⟩
end Sp

/-! Vi9: the next answer (k25's law). -/
namespace Sp
open PySem PySem.Spec PyProof.Rows L2 Mn
variable {E : Exn → Th → Prop} {θ : Th} {Q : Dv → Th → Prop} {h : Hist} {sk : List Nat} {st : List Int} {n top : Nat}
end Sp

/-! Via: the next answer, a make not yet told. -/
namespace Sp
open PySem PySem.Spec PyProof.Rows L2 Mn
variable {E : Exn → Th → Prop} {θ : Th} {Q : Dv → Th → Prop} {h : Hist} {sk : List Nat} {st : List Int} {n top : Nat}
end Sp

/-! Vib: what an answerer who holds back keeps (the maths of k25). -/
namespace Sp
open PySem PySem.Spec PyProof.Rows L2 Mn
variable {h : Hist} {sk : List Nat} {st : List Int}
theorem dlt_if {x y : Nat × Nat} : PySem.W.dataLt (pp2 y) (pp2 x) = (if (y.1 : Int) = (x.1 : Int) then decide ((y.2 : Int) < (x.2 : Int)) else decide ((y.1 : Int) < (x.1 : Int))) :=
  PySem.W.DatumOrd.lt_eq (α := Int × Int) ((y.1 : Int), (y.2 : Int)) ((x.1 : Int), (x.2 : Int))
theorem dlt_le {x y : Nat × Nat} (c : PySem.W.dataLt (pp2 y) (pp2 x) = true) : y.1 ≤ x.1 := by
  rw [dlt_if] at c
  split at c
  · omega
  · have := of_decide_eq_true c
    omega
theorem dlt_ge {x y : Nat × Nat} (c : ¬ PySem.W.dataLt (pp2 y) (pp2 x) = true) : x.1 ≤ y.1 := by
  rw [dlt_if] at c
  split at c
  · omega
  · rw [decide_eq_true_eq] at c
    omega
theorem fold_min_le : ∀ (xs : List (Nat × Nat)) (x y : Nat × Nat), (xs.map pp2).foldl (fun a y => if PySem.W.dataLt y a then y else a) (pp2 x) = pp2 y → ∀ z ∈ x :: xs, y.1 ≤ z.1
  | [], x, y, e, z, hz => by
    have e := pp2_inj e
    subst e
    rw [List.mem_singleton.mp hz]
    exact Nat.le_refl _
  | w :: xs, x, y, e, z, hz => by
    rw [List.map_cons, List.foldl_cons] at e
    by_cases c : PySem.W.dataLt (pp2 w) (pp2 x) = true
    · rw [if_pos c] at e
      have ih := fold_min_le xs w y e
      rcases List.mem_cons.mp hz with rfl | hz
      · have h1 := ih w (.head _)
        have h2 := dlt_le c
        omega
      · exact ih z hz
    · rw [if_neg c] at e
      have ih := fold_min_le xs x y e
      rcases List.mem_cons.mp hz with rfl | hz
      · exact ih _ (.head _)
      · rcases List.mem_cons.mp hz with rfl | hz
        · have h1 := ih x (.head _)
          have h2 := dlt_ge c
          omega
        · exact ih z (.tail _ hz)
theorem mnP_le {xs : List (Nat × Nat)} {z : Nat × Nat} (hz : z ∈ xs) : (mnP xs).1 ≤ z.1 := by
  cases xs with
  | nil => cases hz
  | cons x r => exact fold_min_le r x _ (mnP_is (xs := x :: r) (by simp) (pp2 x) (r.map pp2) rfl) z hz
theorem need_us {m : Nat} (hs : st.length = nc h sk) (hm : m ∈ usL h sk st) : needS h sk st ≤ 1 + max (needS h sk (bhS h sk st m true)) (needS h sk (bhS h sk st m false)) := by
  have e : needS h sk st = (bestS h sk st).1 := rfl
  rw [e, bestS_eq hs]
  unfold minP
  have hx := List.mem_map_of_mem (f := fun m => (1 + max (needS h sk (bhS h sk st m true)) (needS h sk (bhS h sk st m false)), m)) hm
  rw [if_neg (List.ne_nil_of_mem hx)]
  exact mnP_le hx
theorem need_none (hs : st.length = nc h sk) (hu : usL h sk st = []) : needS h sk st = 0 := by
  have e : needS h sk st = (bestS h sk st).1 := rfl
  rw [e, bestS_eq hs, hu, List.map_nil, minP_nil]
theorem dns_same {as : List Bool} (hh : ∀ i, i < st.length → 0 ≤ st.getD i 0 → as.getD i false = false) : dns as st = st := by
  apply List.ext_getElem
  · exact dns_len _
  · intro i h1 h2
    have e1 := dns_get (as := as) h2
    rw [List.getD_eq_getElem?_getD, List.getElem?_eq_getElem h1] at e1
    have e2 : st.getD i 0 = st[i] := by rw [List.getD_eq_getElem?_getD, List.getElem?_eq_getElem h2]; rfl
    have e3 : (dns as st)[i] = dn (as.getD i false) (st.getD i 0) := e1
    rw [e3, ← e2]
    unfold dn
    by_cases c : 0 ≤ st.getD i 0
    · rw [hh i h2 c]
      rfl
    · rw [if_neg]
      rw [Bool.and_eq_true, decide_eq_true_eq]
      exact fun z => c z.2
theorem mk_get {m i : Nat} (hi : i < nc h sk) : (mkB h sk m).getD i false = anc h m ((fr h sk).getD i 0) := by
  unfold mkB
  have hf : i < (fr h sk).length := by rw [fr_len]; exact hi
  rw [List.getD_eq_getElem?_getD, List.getElem?_map, List.getElem?_eq_getElem hf, List.getD_eq_getElem?_getD, List.getElem?_eq_getElem hf]
  rfl
theorem mkx_get {m i : Nat} {b : Bool} (hi : i < nc h sk) : ((mkB h sk m).map (· != b)).getD i false = ((mkB h sk m).getD i false != b) := by
  rw [List.getD_eq_getElem?_getD, List.getElem?_map, List.getD_eq_getElem?_getD, List.getElem?_eq_getElem (by rw [mkB_len]; exact hi)]
  rfl
theorem fr_get {i : Nat} (hi : i < nc h sk) : (fr h sk).getD i 0 ∈ fr h sk := by
  have hf : i < (fr h sk).length := by rw [fr_len]; exact hi
  rw [List.getD_eq_getElem?_getD, List.getElem?_eq_getElem hf]
  exact List.getElem_mem hf
theorem ins_lt {i : Nat} (hi : i ∈ insL st) : i < st.length ∧ 0 ≤ st.getD i 0 := ⟨List.mem_range.mp (List.mem_filter.mp hi).1, of_decide_eq_true (List.mem_filter.mp hi).2⟩
theorem ins_in {i : Nat} (h1 : i < st.length) (h2 : 0 ≤ st.getD i 0) : i ∈ insL st := List.mem_filter.mpr ⟨List.mem_range.mpr h1, decide_eq_true h2⟩
theorem need_test {n m : Nat} (g : GVX n h) (hm : m < h.length) (hsk : m ∉ sk) (hs : st.length = nc h sk) : needS h sk st ≤ 1 + max (needS h sk (bhS h sk st m true)) (needS h sk (bhS h sk st m false)) := by
  by_cases hp : prtB st (mkB h sk m) = true
  · refine need_us hs ?_
    unfold usL
    rw [List.mem_filter]
    refine ⟨?_, hp⟩
    unfold tsL
    rw [List.mem_filter]
    refine ⟨List.mem_range.mpr ?_, by simpa using hsk⟩
    refine Nat.lt_of_not_le fun hle => ?_
    have em : m = n - 1 := by have := g.len; omega
    unfold prtB at hp
    rw [Bool.and_eq_true, List.any_eq_true, List.any_eq_true] at hp
    obtain ⟨_, j, hj, h2⟩ := hp
    have hj2 := (ins_lt hj).1
    rw [hs] at hj2
    rw [mk_get hj2] at h2
    have ha : anc h m ((fr h sk).getD j 0) = true := by
      refine anc_iff.mpr ?_
      rw [em]
      refine g.top _ ?_
      have := fr_lt (fr_get hj2)
      have := g.len
      omega
    rw [ha] at h2
    cases h2
  · have hb : ∃ b, bhS h sk st m b = st := by
      unfold prtB at hp
      have hp : ((insL st).any fun i => (mkB h sk m).getD i false) = false ∨ ((insL st).any fun i => !(mkB h sk m).getD i false) = false := by
        cases hA : ((insL st).any fun i => (mkB h sk m).getD i false)
        · exact .inl rfl
        · cases hB : ((insL st).any fun i => !(mkB h sk m).getD i false)
          · exact .inr rfl
          · rw [hA, hB] at hp
            exact absurd rfl hp
      rw [List.any_eq_false, List.any_eq_false] at hp
      rcases hp with hp | hp
      · refine ⟨false, dns_same fun i h1 h2 => ?_⟩
        have := hp i (ins_in h1 h2)
        rw [mkx_get (by omega)]
        simpa using this
      · refine ⟨true, dns_same fun i h1 h2 => ?_⟩
        have := hp i (ins_in h1 h2)
        rw [mkx_get (by omega)]
        simpa using this
    obtain ⟨b, e⟩ := hb
    cases b <;> rw [e] <;> omega
theorem cnt_app {l : Ans} {b c : Bool} {m m' : Nat} : (l ++ [(b, m)]).count (c, m') = l.count (c, m') + if b = c ∧ m = m' then 1 else 0 := by
  rw [List.count_append, List.count_singleton]
  congr 1
  by_cases e : b = c ∧ m = m'
  · obtain ⟨rfl, rfl⟩ := e
    simp
  · rw [if_neg e, if_neg]
    intro z
    have := eq_of_beq z
    rw [Prod.mk.injEq] at this
    exact e this
/-- the answers of a make -/
def ofM (l : Ans) (m : Nat) : Nat := l.count (false, m) + l.count (true, m)
theorem ofM_len {l : Ans} {m : Nat} : ofM l m = (l.filter fun x => x.2 == m).length := by
  unfold ofM
  induction l with
  | nil => rfl
  | cons x l ih =>
    obtain ⟨b, m'⟩ := x
    rw [List.count_cons, List.count_cons, List.filter_cons]
    by_cases e : m' = m
    · subst e
      cases b <;> simp <;> omega
    · have e1 : ((m' == m) = true) = False := by simp [e]
      simp only [e1, if_false]
      have n1 : ∀ c, ((b, m') == (c, m)) = false := fun c => by
        rw [Bool.eq_false_iff]
        intro z
        have := eq_of_beq z
        rw [Prod.mk.injEq] at this
        exact e this.2
      rw [n1, n1]
      simpa using ih
theorem len_parts {β : Type} (p : β → Bool) : ∀ l : List β, l.length = (l.filter p).length + (l.filter fun x => !(p x)).length
  | [] => rfl
  | x :: l => by
    have ih := len_parts p l
    rw [List.filter_cons, List.filter_cons]
    cases p x <;> simp <;> omega
theorem of_sum (t : Nat) : ∀ (ms : List Nat) (l : Ans), ms.Nodup → (∀ m ∈ ms, t ≤ ofM l m) → t * ms.length ≤ l.length
  | [], l, _, _ => by simp
  | m :: ms, l, hn, hc => by
    rw [List.nodup_cons] at hn
    have h1 : ∀ m' ∈ ms, t ≤ ofM (l.filter fun x => !(x.2 == m)) m' := fun m' hm' => by
      have := hc m' (.tail _ hm')
      rw [ofM_len] at this ⊢
      rw [List.filter_filter]
      have e : (fun x : Bool × Nat => (x.2 == m') && !(x.2 == m)) = fun x => x.2 == m' := by
        funext x
        by_cases c : x.2 = m'
        · have : x.2 ≠ m := fun z => hn.1 (by rw [← z, c]; exact hm')
          simp [c]
          intro z
          exact this (c.trans z)
        · simp [c]
      rw [e]
      exact this
    have ih := of_sum t ms _ hn.2 h1
    have h2 := hc m (.head _)
    rw [ofM_len] at h2
    have e := len_parts (fun x : Bool × Nat => x.2 == m) l
    rw [List.length_cons, Nat.mul_succ]
    omega
/-- what holds behind each answer of the answerer who holds back -/
structure HK (h : Hist) (sk : List Nat) (two : Bool) (k F : Nat) (l : Ans) (tf : Nat → Option Bool) (ms : List Nat) (st : List Int) : Prop where
  no : ∀ m, tf m = none → l.count (false, m) + l.count (true, m) < mst two k ∧ l.count (false, m) ≤ k ∧ l.count (true, m) ≤ (if two then k else 0) ∧ (two = true → l.count (false, m) = l.count (true, m) ∨ l.count (false, m) = l.count (true, m) + 1)
  so : ∀ m b, tf m = some b → mst two k ≤ l.count (false, m) + l.count (true, m) ∧ (b = true → l.count (false, m) ≤ k) ∧ (b = false → l.count (true, m) ≤ (if two then k else 0))
  nd : ms.Nodup
  mem : ∀ m ∈ ms, tf m ≠ none
  stk : StK (nc h sk) 0 st
  ok : ∀ i, i < nc h sk → 0 ≤ st.getD i 0 → ∀ m b, tf m = some b → (mkB h sk m).getD i false = b
  pot : F ≤ needS h sk st + ms.length
theorem HK.start {two : Bool} {k : Nat} : HK h sk two k (needS h sk (st0 h sk)) [] (fun _ => none) [] (st0 h sk) :=
  ⟨fun m _ => by
    have : 0 < mst two k := by unfold mst; split <;> omega
    simp only [List.count_nil]
    refine ⟨by omega, by omega, by split <;> omega, fun _ => .inl trivial⟩, fun m b e => (by cases e), .nil, fun m hm => (by cases hm), st0_k, fun i _ _ m b e => (by cases e), by simp⟩
theorem HK.held {two : Bool} {k F m : Nat} {l : Ans} {tf : Nat → Option Bool} {ms : List Nat} (H : HK h sk two k F l tf ms st) (hw : hld two k (l.count (false, m)) (l.count (true, m)) ≠ "") :
    ∃ b, hld two k (l.count (false, m)) (l.count (true, m)) = word b ∧ HK h sk two k F (l ++ [(b, m)]) tf ms st := by
  have hlt : l.count (false, m) + l.count (true, m) < (if two then 2 * k else k) := by
    refine Nat.lt_of_not_le fun hle => hw ?_
    unfold hld
    rw [if_pos hle]
  have hno : tf m = none := by
    cases e : tf m with
    | none => rfl
    | some b =>
      have h1 := (H.so m b e).1
      unfold mst at h1
      split at h1 <;> simp_all <;> omega
  obtain ⟨n1, n2, n3, n4⟩ := H.no m hno
  refine ⟨two && decide ((l.count (false, m) + l.count (true, m)) % 2 = 1), ?_, ?_⟩
  · unfold hld word
    rw [if_neg (by omega)]
  · refine ⟨fun m' hm' => ?_, fun m' b' e => ?_, H.nd, H.mem, H.stk, H.ok, H.pot⟩
    · by_cases e : m = m'
      · subst e
        rw [cnt_app, cnt_app]
        clear hw hno H
        generalize l.count (false, m) = w at *
        generalize l.count (true, m) = b at *
        by_cases c : (two && decide ((w + b) % 2 = 1)) = true
        · rw [c, if_neg (by simp), if_pos ⟨rfl, rfl⟩]
          rw [Bool.and_eq_true, decide_eq_true_eq] at c
          obtain ⟨rfl, c⟩ := c
          have n4 := n4 rfl
          unfold mst at n1 ⊢
          simp only [if_true] at hlt n1 n3 ⊢
          refine ⟨by omega, by omega, by omega, fun _ => by omega⟩
        · rw [Bool.not_eq_true] at c
          rw [c, if_pos ⟨rfl, rfl⟩, if_neg (by simp)]
          cases two
          · unfold mst at n1 ⊢
            simp only [Bool.false_eq_true, if_false] at hlt n1 n3 ⊢
            exact ⟨by omega, by omega, by omega, fun z => z.elim⟩
          · rw [Bool.true_and, decide_eq_false_iff_not] at c
            have n4 := n4 rfl
            unfold mst at n1 ⊢
            simp only [if_true] at hlt n1 n3 ⊢
            refine ⟨by omega, by omega, by omega, fun _ => by omega⟩
      · rw [cnt_app, cnt_app, if_neg (fun z => e z.2), if_neg (fun z => e z.2)]
        exact H.no m' hm'
    · have ne : m ≠ m' := fun z => by subst z; rw [hno] at e; cases e
      rw [cnt_app, cnt_app, if_neg (fun z => ne z.2), if_neg (fun z => ne z.2)]
      exact H.so m' b' e
theorem HK.again {two : Bool} {k F m : Nat} {b : Bool} {l : Ans} {tf : Nat → Option Bool} {ms : List Nat} (H : HK h sk two k F l tf ms st) (hb : tf m = some b) : HK h sk two k F (l ++ [(b, m)]) tf ms st := by
  refine ⟨fun m' hm' => ?_, fun m' b' e => ?_, H.nd, H.mem, H.stk, H.ok, H.pot⟩
  · have ne : m ≠ m' := fun z => by subst z; rw [hb] at hm'; cases hm'
    rw [cnt_app, cnt_app, if_neg (fun z => ne z.2), if_neg (fun z => ne z.2)]
    exact H.no m' hm'
  · by_cases ne : m = m'
    · subst ne
      rw [hb] at e
      cases e
      obtain ⟨s1, s2, s3⟩ := H.so m b hb
      rw [cnt_app, cnt_app]
      refine ⟨by omega, fun z => ?_, fun z => ?_⟩
      · subst z
        rw [if_neg (by simp)]
        exact s2 rfl
      · subst z
        rw [if_neg (by simp)]
        exact s3 rfl
    · rw [cnt_app, cnt_app, if_neg (fun z => ne z.2), if_neg (fun z => ne z.2)]
      exact H.so m' b' e
theorem HK.new {two : Bool} {n k F m : Nat} {b : Bool} {l : Ans} {tf : Nat → Option Bool} {ms : List Nat} (g : GVX n h) (H : HK h sk two k F l tf ms st) (hm : m < h.length) (hsk : m ∉ sk)
    (hw : hld two k (l.count (false, m)) (l.count (true, m)) = "") (hn : tf m = none) (hb : needS h sk (bhS h sk st m (!b)) ≤ needS h sk (bhS h sk st m b)) :
    HK h sk two k F (l ++ [(b, m)]) (fun x => if x = m then some b else tf x) (m :: ms) (bhS h sk st m b) := by
  have hge : (if two then 2 * k else k) ≤ l.count (false, m) + l.count (true, m) := by
    refine Nat.le_of_not_lt fun hlt => ?_
    unfold hld at hw
    rw [if_neg (by omega)] at hw
    split at hw <;> exact absurd hw (by decide)
  obtain ⟨n1, n2, n3, n4⟩ := H.no m hn
  refine ⟨fun m' hm' => ?_, fun m' b' e => ?_, ?_, ?_, ?_, ?_, ?_⟩
  · skip
    have ne : m' ≠ m := fun z => by rw [if_pos z] at hm'; cases hm'
    rw [if_neg ne] at hm'
    rw [cnt_app, cnt_app, if_neg (fun z => ne z.2.symm), if_neg (fun z => ne z.2.symm)]
    exact H.no m' hm'
  · skip
    by_cases ne : m' = m
    · rw [if_pos ne] at e
      cases e
      subst ne
      rw [cnt_app, cnt_app]
      refine ⟨?_, fun z => ?_, fun z => ?_⟩
      · unfold mst
        cases b <;> cases two <;> simp at hge ⊢ <;> omega
      · subst z
        rw [if_neg (by simp)]
        exact n2
      · subst z
        rw [if_neg (by simp)]
        exact n3
    · rw [if_neg ne] at e
      rw [cnt_app, cnt_app, if_neg (fun z => ne z.2.symm), if_neg (fun z => ne z.2.symm)]
      exact H.so m' b' e
  · rw [List.nodup_cons]
    exact ⟨fun z => H.mem m z hn, H.nd⟩
  · intro m' hm'
    by_cases ne : m' = m
    · rw [if_pos ne]
      simp
    · rw [if_neg ne]
      rcases List.mem_cons.mp hm' with z | z
      · exact absurd z ne
      · exact H.mem m' z
  · exact H.stk.dns _
  · intro i hi h0 m' b' e
    have hi2 : i < st.length := by rw [H.stk.len]; exact hi
    have e0 : (bhS h sk st m b).getD i 0 = dn ((mkB h sk m).getD i false != b) (st.getD i 0) := by
      unfold bhS
      rw [dns_get hi2, mkx_get hi]
    rw [e0] at h0
    have lo := H.stk.lo (st.getD i 0) (by rw [List.getD_eq_getElem?_getD, List.getElem?_eq_getElem hi2]; exact List.getElem_mem hi2)
    have hs0 : 0 ≤ st.getD i 0 := Int.le_trans h0 dn_le
    by_cases ne : m' = m
    · rw [if_pos ne] at e
      cases e
      subst ne
      cases c : (mkB h sk m').getD i false != b
      · simpa using c
      · rw [c] at h0
        unfold dn at h0
        rw [if_pos (by rw [Bool.true_and]; exact decide_eq_true hs0)] at h0
        have := lo.2
        omega
    · rw [if_neg ne] at e
      exact H.ok i hi hs0 m' b' e
  · have t := need_test g hm hsk H.stk.len
    have := H.pot
    rw [List.length_cons]
    cases b <;> simp only [Bool.not_true, Bool.not_false] at hb <;> omega
theorem flt_two {β : Type} {p : β → Bool} : ∀ {l : List β} {i j : Nat} (hij : i < j) (hj : j < l.length), p l[i] = true → p l[j] = true → 2 ≤ (l.filter p).length
  | [], _, _, _, hj, _, _ => by simp at hj
  | x :: l, 0, 0, hij, _, _, _ => by omega
  | x :: l, 0, j + 1, _, hj, h1, h2 => by
    have hx : p x = true := h1
    rw [List.filter_cons_of_pos hx, List.length_cons]
    have : 0 < (l.filter p).length := List.length_pos_of_mem (List.mem_filter.mpr ⟨List.getElem_mem (by simpa using hj), h2⟩)
    omega
  | x :: l, i + 1, 0, hij, _, _, _ => by omega
  | x :: l, i + 1, j + 1, hij, hj, h1, h2 => by
    have ih := flt_two (l := l) (i := i) (j := j) (by omega) (by simpa using hj) h1 h2
    rw [List.filter_cons]
    split
    · rw [List.length_cons]
      omega
    · exact ih
theorem HK.okc {two : Bool} {k F i : Nat} {l : Ans} {tf : Nat → Option Bool} {ms : List Nat} (H : HK h sk two k F l tf ms st) (hi : i < nc h sk) (h0 : 0 ≤ st.getD i 0) : Sp.okc h l k two h.length ((fr h sk).getD i 0) = true := by
  unfold Sp.okc
  rw [List.all_eq_true]
  intro m hm
  unfold okm isBr
  cases e : tf m with
  | none =>
    obtain ⟨n1, n2, n3, n4⟩ := H.no m e
    rw [decide_eq_false (show ¬ k < l.count (false, m) by omega), decide_eq_false (show ¬ (if two = true then k else 0) < l.count (true, m) by omega)]
    simp
  | some b =>
    obtain ⟨s1, s2, s3⟩ := H.so m b e
    have hb := H.ok i hi h0 m b e
    rw [mk_get hi] at hb
    rw [hb]
    cases b
    · have := s3 rfl
      rw [decide_eq_false (show ¬ (if two = true then k else 0) < l.count (true, m) by omega)]
      simp
    · have := s2 rfl
      rw [decide_eq_false (show ¬ k < l.count (false, m) by omega)]
      simp
/-- the classes that are left -/
noncomputable def clsLeft (h : Hist) (sk : List Nat) (L : List Nat) : Nat := ((cls (tell h sk) h.length).filter fun p => decide (0 < (p.filter fun c => decide (c ∈ L)).length)).length
theorem HK.fin {two : Bool} {k F : Nat} {l : Ans} {tf : Nat → Option Bool} {ms : List Nat} (H : HK h sk two k F l tf ms st) (hl : l.length < mst two k * F) : 1 < clsLeft h sk (canL h l k two h.length) := by
  have h1 : mst two k * ms.length ≤ l.length := of_sum _ ms l H.nd fun m hm => by
    cases e : tf m with
    | none => exact absurd e (H.mem m hm)
    | some b => exact (H.so m b e).1
  have h2 : ms.length < F := by
    refine Nat.lt_of_not_le fun hle => ?_
    have := Nat.mul_le_mul_left (mst two k) hle
    omega
  have h3 : 0 < needS h sk st := by have := H.pot; omega
  obtain ⟨m, hm⟩ : ∃ m, m ∈ usL h sk st := by
    cases e : usL h sk st with
    | nil => rw [need_none H.stk.len e] at h3; omega
    | cons m l => exact ⟨m, List.mem_cons_self⟩
  have hp := (List.mem_filter.mp hm).2
  unfold prtB at hp
  rw [Bool.and_eq_true, List.any_eq_true, List.any_eq_true] at hp
  obtain ⟨⟨i, hi, b1⟩, ⟨j, hj, b2⟩⟩ := hp
  have ne : i ≠ j := fun z => by subst z; rw [b1] at b2; cases b2
  obtain ⟨i1, i2⟩ := ins_lt hi
  obtain ⟨j1, j2⟩ := ins_lt hj
  rw [H.stk.len] at i1 j1
  have row : ∀ i, i < nc h sk → 0 ≤ st.getD i 0 → ∀ (hc : i < (cls (tell h sk) h.length).length), decide (0 < ((cls (tell h sk) h.length)[i].filter fun c => decide (c ∈ canL h l k two h.length)).length) = true := fun i hi h0 hc => by
    rw [decide_eq_true_eq]
    have hok := H.okc hi h0
    have hpm := List.getElem_mem hc
    have hne := cls_ne _ _ _ hpm
    have e : (fr h sk).getD i 0 = (cls (tell h sk) h.length)[i].headD 0 := by
      unfold fr
      rw [List.getD_eq_getElem?_getD, List.getElem?_map, List.getElem?_eq_getElem hc]
      rfl
    have hf := fr_lt (fr_get hi)
    rw [e] at hok hf
    refine List.length_pos_of_mem (a := (cls (tell h sk) h.length)[i].headD 0) (List.mem_filter.mpr ⟨?_, ?_⟩)
    · revert hne
      generalize (cls (tell h sk) h.length)[i] = p
      intro hne
      cases p with
      | nil => exact absurd rfl hne
      | cons x p => exact .head _
    · rw [decide_eq_true_eq]
      exact List.mem_filter.mpr ⟨List.mem_range.mpr hf, hok⟩
  unfold clsLeft
  rcases Nat.lt_or_gt_of_ne ne with lt | lt
  · exact flt_two lt j1 (row i i1 i2 i1) (row j j1 j2 j1)
  · exact flt_two lt i1 (row j j1 j2 j1) (row i i1 i2 i1)
end Sp

/-! Vic: skipped makes, the classes that are left (k25's law). -/
namespace Sp
open PySem PySem.Spec PyProof.Rows L2 Mn
variable {E : Exn → Th → Prop} {θ : Th} {Q : Dv → Th → Prop}
end Sp

/-! Vj1: answers counted in a list; settled makes, places in trees by them. -/
namespace Sp
open PySem PySem.Spec PyProof.Rows L2 Mn
variable {E : Exn → Th → Prop} {θ : Th} {Q : Dv → Th → Prop} {l : Ans} {k j : Nat} {two : Bool}
/-- whether one more answer can be false -/
def lieB (l : Ans) (k : Nat) (two : Bool) (m : Nat) (b : Bool) : Bool := (two || b) && decide (l.count (!b, m) < k)
end Sp

/-! Vj2: where two classes are in, a test is useful; the best way; grown trees. -/
namespace Sp
open PySem PySem.Spec PyProof.Rows L2 Mn
variable {E : Exn → Th → Prop} {θ : Th} {Q : Dv → Th → Prop} {h : Hist} {sk : List Nat} {st : List Int}
theorem cls_nd (tl : Nat → List Nat) : ∀ n, ((cls tl n).map fun p => tl (p.headD 0)).Nodup
  | 0 => .nil
  | n + 1 => by
    have ih := cls_nd tl n
    rw [cls_succ]
    unfold addP
    by_cases c : ((cls tl n).any fun p => decide (tl (p.headD 0) = tl n)) = true
    · rw [if_pos c, List.map_map]
      have e : (cls tl n).map ((fun p => tl (p.headD 0)) ∘ fun p => if tl (p.headD 0) = tl n then p ++ [n] else p) = (cls tl n).map fun p => tl (p.headD 0) := by
        refine List.map_congr_left fun p hp => ?_
        show tl ((if tl (p.headD 0) = tl n then p ++ [n] else p).headD 0) = _
        split
        · rw [headD_snoc (cls_ne tl n p hp)]
        · rfl
      rw [e]
      exact ih
    · rw [if_neg c, List.map_append, List.nodup_append]
      refine ⟨ih, by simp, fun x hx y hy e => ?_⟩
      obtain ⟨p, hp, rfl⟩ := List.mem_map.mp hx
      have hy : y = tl n := by simpa using hy
      subst hy
      exact c (List.any_eq_true.mpr ⟨p, hp, decide_eq_true e⟩)
theorem fr_inj {i j : Nat} (hi : i < nc h sk) (hj : j < nc h sk) (e : tell h sk ((fr h sk).getD i 0) = tell h sk ((fr h sk).getD j 0)) : i = j := by
  have nd := cls_nd (tell h sk) h.length
  have g : ∀ i, i < nc h sk → (fr h sk).getD i 0 = ((cls (tell h sk) h.length).getD i []).headD 0 := fun i hi => by
    unfold nc at hi
    unfold fr
    rw [List.getD_eq_getElem?_getD, List.getElem?_map, List.getD_eq_getElem?_getD, List.getElem?_eq_getElem hi]
    rfl
  rw [g i hi, g j hj] at e
  unfold nc at hi hj
  have hi2 : i < ((cls (tell h sk) h.length).map fun p => tell h sk (p.headD 0)).length := by rw [List.length_map]; exact hi
  have hj2 : j < ((cls (tell h sk) h.length).map fun p => tell h sk (p.headD 0)).length := by rw [List.length_map]; exact hj
  have pw := List.pairwise_iff_getElem.mp nd
  rw [List.getD_eq_getElem?_getD, List.getD_eq_getElem?_getD, List.getElem?_eq_getElem hi, List.getElem?_eq_getElem hj] at e
  refine Classical.byContradiction fun ne => ?_
  rcases Nat.lt_or_gt_of_ne ne with lt | lt
  · refine pw i j hi2 hj2 lt ?_
    rw [List.getElem_map, List.getElem_map]
    exact e
  · refine pw j i hj2 hi2 lt ?_
    rw [List.getElem_map, List.getElem_map]
    exact e.symm
section
variable {d kk n top : Nat} {kvs : List (List Key × Dv)}
end
end Sp

/-! Sv1: drawn states; great states. -/
namespace Sp
open PySem PySem.Spec PyProof.Rows L2 Mn
end Sp

/-! Sv2: many tests to come. -/
namespace Sp
open PySem PySem.Spec PyProof.Rows L2 Mn
end Sp

/-! Wa1: the fewest tests once more (searches may be deeper), and states that are refused. -/
namespace Sp
open PySem PySem.Spec PyProof.Rows L2 Mn
variable {E : Exn → Th → Prop} {θ : Th} {Q : Dv → Th → Prop} {h : Hist} {sk : List Nat} {st : List Int} {n top : Nat}
end Sp

/-! Wa2: the law's own fewest tests, by a table with nested keys. -/
namespace Sp
open PySem PySem.Spec PyProof.Rows L2 Mn
variable {E : Exn → Th → Prop} {θ : Th} {Q : Dv → Th → Prop} {h : Hist} {sk : List Nat} {st : List Int} {n top : Nat}
theorem us_twoT {i j : Nat} (tp : ∀ c, c < h.length → Anc h (h.length - 1) c) (hs : st.length = nc h sk) (hi : i ∈ insL st) (hj : j ∈ insL st) (ne : i ≠ j) : usL h sk st ≠ [] := by
  obtain ⟨i1, i2⟩ := ins_lt hi
  obtain ⟨j1, j2⟩ := ins_lt hj
  rw [hs] at i1 j1
  have ex : ∃ m ∈ unsk h sk, anc h m ((fr h sk).getD i 0) ≠ anc h m ((fr h sk).getD j 0) := by
    refine Classical.byContradiction fun z => ne (fr_inj i1 j1 (rowB_iff.mp ?_))
    unfold rowB
    refine List.map_congr_left fun m hm => ?_
    exact Classical.byContradiction fun y => z ⟨m, hm, y⟩
  obtain ⟨m, hm, hd⟩ := ex
  unfold unsk at hm
  rw [List.mem_filter, List.mem_range] at hm
  have hp : prtB st (mkB h sk m) = true := by
    unfold prtB
    rw [Bool.and_eq_true, List.any_eq_true, List.any_eq_true]
    cases ci : anc h m ((fr h sk).getD i 0)
    · cases cj : anc h m ((fr h sk).getD j 0)
      · exact absurd (ci.trans cj.symm) hd
      · exact ⟨⟨j, hj, by rw [mk_get j1]; exact cj⟩, ⟨i, hi, by rw [mk_get i1, ci]; rfl⟩⟩
    · cases cj : anc h m ((fr h sk).getD j 0)
      · exact ⟨⟨i, hi, by rw [mk_get i1]; exact ci⟩, ⟨j, hj, by rw [mk_get j1, cj]; rfl⟩⟩
      · exact absurd (ci.trans cj.symm) hd
  refine List.ne_nil_of_mem (a := m) (List.mem_filter.mpr ⟨List.mem_filter.mpr ⟨List.mem_range.mpr ?_, hm.2⟩, hp⟩)
  refine Nat.lt_of_not_le fun hle => ?_
  have em : m = h.length - 1 := by omega
  have ha : ∀ i, i < nc h sk → anc h m ((fr h sk).getD i 0) = true := fun i hi => by
    refine anc_iff.mpr ?_
    rw [em]
    exact tp _ (fr_lt (fr_get hi))
  exact hd ((ha i i1).trans (ha j j1).symm)
theorem ins_us {st : List Int} (hl : (insL st).length ≤ 1) : usL h sk st = [] := by
  cases e : usL h sk st with
  | nil => rfl
  | cons m l =>
    have hm : m ∈ usL h sk st := by rw [e]; exact List.mem_cons_self
    have hp := (List.mem_filter.mp hm).2
    unfold prtB at hp
    match hI : insL st, hl with
    | [], _ => rw [hI] at hp; cases hp
    | [c], _ => rw [hI] at hp; simp at hp
theorem s_linsideX (hl : st.length ≤ 1000) (hQ : ∀ θ' j, Ext θ θ' → θ'[j]? = some (.lst (nd (insL st))) → Q (.obj j) θ') : Cm.c__law_inside [.tup (id_ st)] E θ Q := by
  unfold Cm.c__law_inside Cm.m__law_inside
  simp only [mxDN, List.map_cons, List.map_nil, List.replicate, List.cons_append, List.nil_append, List.set_cons_zero, List.set_cons_succ, wipeE, List.length_map]
  refine ⟨⟨by omega, by omega⟩, ?_⟩
  rw [show ((st.length : Nat) : Int).toNat = st.length from rfl]
  refine lc_list (List.range st.length) (fun i => .int (i : Nat)) (fun i => decide (0 ≤ st.getD i 0)) (fun i => .int (i : Nat)) (by rw [List.length_range]; exact lt_line hl) srcR ?_ ?_
  · intro i hi θ' e
    refine ⟨_, rfl, fun K hK => ?_⟩
    have e1 : atI (id_ st) ((i : Nat) : Int) = some (.int (st.getD i 0)) := at_nat (getD_ids (List.mem_range.mp hi))
    simp only [mxDN, List.map_cons, List.map_nil, List.replicate, List.cons_append, List.nil_append, List.set_cons_zero, List.set_cons_succ, e1]
    refine hK _ .refl fun _ K2 h2 => ?_
    simp only [mxDN, List.map_cons, List.map_nil, List.replicate, List.cons_append, List.nil_append, List.set_cons_zero, List.set_cons_succ]
    exact h2 _ .refl
  · intro θ2 e h3
    exact end_same (hQ θ2 _ e h3)
/-! ### the table -/
def nkS (st : List Int) (q : Nat) : NestedKey := .tup [.tup (st.map .num), .num (q : Int)]
theorem nKeyDs_ids : ∀ st : List Int, nKeyDs (id_ st) = some (st.map .num)
  | [] => rfl
  | x :: st => by
    have ih := nKeyDs_ids st
    unfold id_ at ih ⊢
    rw [List.map_cons, List.map_cons]
    unfold nKeyDs
    rw [ih]
    rfl
theorem depth_ids : ∀ st : List Int, NestedKey.depthAll (st.map .num) = 0
  | [] => by simp [NestedKey.depthAll]
  | x :: st => by
    rw [List.map_cons]
    simp [NestedKey.depthAll, NestedKey.depth, depth_ids st]
theorem nkS_key {q : Nat} : nKeyT (.tup [.tup (id_ st), .int (q : Nat)]) = some (nkS st q) := by
  have e : nKeyDs [.tup (id_ st), .int (q : Nat)] = some [.tup (st.map .num), .num (q : Int)] := by
    unfold nKeyDs nKeyD
    rw [nKeyDs_ids]
    rfl
  unfold nKeyT
  simp only [e]
  rw [if_pos]
  · rfl
  · simp [NestedKey.depth, NestedKey.depthAll, depth_ids]
theorem num_inj : ∀ {a b : List Int}, a.map NestedKey.num = b.map NestedKey.num → a = b
  | [], [], _ => rfl
  | [], _ :: _, e => by cases e
  | _ :: _, [], e => by cases e
  | x :: a, y :: b, e => by
    rw [List.map_cons, List.map_cons, List.cons.injEq] at e
    have h1 : x = y := by injection e.1
    rw [h1, num_inj e.2]
theorem nkS_inj {a b : List Int} {p q : Nat} (e : nkS a p = nkS b q) : a = b ∧ p = q := by
  unfold nkS at e
  injection e with e
  rw [List.cons.injEq, List.cons.injEq] at e
  obtain ⟨e1, e2, _⟩ := e
  injection e1 with e1
  injection e2 with e2
  exact ⟨num_inj e1, by omega⟩
structure KnN (h : Hist) (sk : List Nat) (n top : Nat) (kvs : List (NestedKey × Dv)) : Prop where
  ok : ∀ p ∈ kvs, ∃ st q, p.1 = nkS st q ∧ StK n top st ∧ q ≤ 40 ∧ p.2 = .bl (decide (needS h sk st ≤ q))
  nd : (kvs.map (·.1)).Nodup
theorem KnN.nil : KnN h sk n top [] := ⟨fun p hp => (by cases hp), .nil⟩
theorem KnN.few {kvs : List (NestedKey × Dv)} (w : KnN h sk n top kvs) : kvs.length ≤ (top + 2) ^ n * 41 := by
  have e1 : ((allL (valsI top) n).flatMap fun st => (List.range 41).map fun q => nkS st q).length = (top + 2) ^ n * 41 := by
    rw [← vals_len (top := top), ← allL_len]
    generalize allL (valsI top) n = l
    induction l with
    | nil => simp
    | cons x l ih =>
      rw [List.flatMap_cons, List.length_append, ih, List.length_map, List.length_range, List.length_cons]
      omega
  rw [← e1, ← List.length_map (f := (·.1)) (as := kvs)]
  refine sub_len w.nd fun k hk => ?_
  obtain ⟨p, hp, rfl⟩ := List.mem_map.mp hk
  obtain ⟨st, q, e, hs, hq, _⟩ := w.ok p hp
  rw [List.mem_flatMap]
  exact ⟨st, mem_allL _ hs.len (fun y hy => mem_vals.mpr (hs.lo y hy)), List.mem_map.mpr ⟨q, List.mem_range.mpr (by omega), e.symm⟩⟩
theorem lookN_some {kvs : List (NestedKey × Dv)} {k : NestedKey} {v : Dv} (e : lookD kvs k = some v) : ∃ p ∈ kvs, p.1 = k ∧ p.2 = v := by
  unfold lookD at e
  obtain ⟨p, h1, h2⟩ := Option.map_eq_some_iff.mp e
  exact ⟨p, List.mem_of_find?_eq_some h1, by simpa using List.find?_some h1, h2⟩
theorem KnN.look {kvs : List (NestedKey × Dv)} {v : Dv} {q : Nat} (w : KnN h sk n top kvs) (e : lookD kvs (nkS st q) = some v) : v = .bl (decide (needS h sk st ≤ q)) := by
  obtain ⟨p, hp, h1, h2⟩ := lookN_some e
  obtain ⟨st', q', e1, _, _, e2⟩ := w.ok p hp
  obtain ⟨rfl, rfl⟩ := nkS_inj (h1.symm.trans e1)
  rw [← h2, e2]
theorem KnN.put {kvs : List (NestedKey × Dv)} {q : Nat} (w : KnN h sk n top kvs) (hs : StK n top st) (hq : q ≤ 40) : KnN h sk n top (putD kvs (nkS st q) (.bl (decide (needS h sk st ≤ q)))) ∧ lookD (putD kvs (nkS st q) (.bl (decide (needS h sk st ≤ q)))) (nkS st q) = some (.bl (decide (needS h sk st ≤ q))) := by
  by_cases hc : (kvs.any fun kv => decide (kv.1 = nkS st q)) = true
  · have el : ∃ v, lookD kvs (nkS st q) = some v := by
      rw [List.any_eq_true] at hc
      obtain ⟨p, hp, e⟩ := hc
      cases c : kvs.find? (fun kv => decide (kv.1 = nkS st q)) with
      | none => rw [List.find?_eq_none] at c; exact absurd e (c p hp)
      | some p => exact ⟨p.2, by unfold lookD; rw [c]; rfl⟩
    obtain ⟨v, el⟩ := el
    have ev := w.look el
    rw [ev] at el
    have e : putD kvs (nkS st q) (.bl (decide (needS h sk st ≤ q))) = kvs := by
      unfold putD
      rw [if_pos hc]
      refine (List.map_congr_left (g := id) fun p hp => ?_).trans (List.map_id _)
      obtain ⟨st', q', e1, _, _, e2⟩ := w.ok p hp
      split
      · next z =>
        obtain ⟨rfl, rfl⟩ := nkS_inj (e1.symm.trans z)
        show (p.1, _) = p
        rw [← e2]
      · rfl
    rw [e]
    exact ⟨w, el⟩
  · unfold putD
    rw [if_neg hc]
    have ne : ∀ p ∈ kvs, p.1 ≠ nkS st q := fun p hp z => hc (List.any_eq_true.mpr ⟨p, hp, decide_eq_true z⟩)
    refine ⟨⟨fun p hp => ?_, ?_⟩, ?_⟩
    · rcases List.mem_append.mp hp with hp | hp
      · exact w.ok p hp
      · rw [List.mem_singleton.mp hp]
        exact ⟨st, q, rfl, hs, hq, rfl⟩
    · rw [List.map_append, List.nodup_append]
      refine ⟨w.nd, by simp, fun a ha b hb e => ?_⟩
      obtain ⟨p, hp, rfl⟩ := List.mem_map.mp ha
      rw [List.map_singleton, List.mem_singleton] at hb
      rw [hb] at e
      exact ne p hp e
    · unfold lookD
      rw [List.find?_append]
      have c : kvs.find? (fun kv => decide (kv.1 = nkS st q)) = none := by
        rw [List.find?_eq_none]
        intro p hp
        simpa using ne p hp
      rw [c]
      simp
/-! ### is_settled -/
end Sp

/-! We1: rows of tables, and their order. -/
namespace Sp
open PySem PySem.Spec PyProof.Rows L2 Mn
variable {E : Exn → Th → Prop} {θ : Th} {Q : Dv → Th → Prop}
abbrev Rw := Nat × List Int
def rwD (x : Rw) : Dv := .tup [.int (x.1 : Nat), .tup (id_ x.2)]
def rwP (x : Rw) : PyData := .tuple [.int (x.1 : Nat), .tuple (x.2.map .int)]
def rwK (x : Rw) : NestedKey := .tup [.num (x.1 : Nat), .tup (x.2.map .num)]
/-- the order of rows -/
def rwLt (x y : Rw) : Bool := decide (x.1 < y.1 ∨ (x.1 = y.1 ∧ x.2 < y.2))
theorem eqv_ints : ∀ a b : List Int, PyData.eqvAll (a.map .int) (b.map .int) = decide (a = b)
  | [], [] => by simp [PyData.eqvAll]
  | [], _ :: _ => by simp [PyData.eqvAll]
  | _ :: _, [] => by simp [PyData.eqvAll]
  | x :: a, y :: b => by
    rw [List.map_cons, List.map_cons, PyData.eqvAll, eqv_ints a b]
    by_cases h1 : x = y <;> by_cases h2 : a = b <;> simp [PyData.eqv, h1, h2]
theorem rw_lt (x y : Rw) : PySem.W.dataLt (rwP x) (rwP y) = rwLt x y := by
  unfold rwP rwLt
  rw [PySem.W.dataLt_pair (by simp [PySem.W.alike]) (by simp only [PySem.W.alike, PySem.W.alike_ints]), PySem.W.dataLt_int, PySem.W.dataLt_tuple]
  have e1 := PySem.W.dataLt_ints x.2 y.2
  unfold PySem.W.rowLt at e1
  rw [e1]
  simp only [PyData.eqv, eqv_ints, beq_iff_eq, decide_eq_true_eq]
  by_cases h1 : x.1 = y.1
  · by_cases h2 : x.2 = y.2
    · simp [h1, h2, List.lt_irrefl]
    · simp [h1, h2]
  · have h3 : ¬ ((x.1 : Int) = (y.1 : Int)) := by omega
    simp [h1, h3]
theorem rl_irr (x : Rw) : rwLt x x = false := by
  rw [← rw_lt]
  exact PySem.W.dataLt_self _
theorem rl_conn {x y : Rw} (h1 : rwLt x y = false) (h2 : rwLt y x = false) : x = y := by
  unfold rwLt at h1 h2
  rw [decide_eq_false_iff_not] at h1 h2
  have e1 : x.1 = y.1 := by omega
  have e2 : ¬ x.2 < y.2 := fun z => h1 (.inr ⟨e1, z⟩)
  have e3 : ¬ y.2 < x.2 := fun z => h2 (.inr ⟨e1.symm, z⟩)
  exact Prod.ext e1 (List.le_antisymm (List.not_lt.mp e3) (List.not_lt.mp e2))
theorem rl_trans {x y z : Rw} (h1 : rwLt x y = true) (h2 : rwLt y z = true) : rwLt x z = true := by
  unfold rwLt at *
  rw [decide_eq_true_eq] at *
  rcases h1 with h1 | ⟨e1, h1⟩
  · rcases h2 with h2 | ⟨e2, h2⟩
    · exact .inl (by omega)
    · exact .inl (by omega)
  · rcases h2 with h2 | ⟨e2, h2⟩
    · exact .inl (by omega)
    · exact .inr ⟨by omega, List.lt_trans h1 h2⟩
theorem rl_asym {x y : Rw} (h : rwLt x y = true) : rwLt y x = false := by
  cases c : rwLt y x with
  | false => rfl
  | true => have := rl_trans h c; rw [rl_irr] at this; cases this
/-- the order of the sorted rows -/
def rwLe (x y : Rw) : Bool := !rwLt y x
theorem rle_trans {x y z : Rw} (h1 : rwLe x y = true) (h2 : rwLe y z = true) : rwLe x z = true := by
  unfold rwLe at *
  rw [Bool.not_eq_true'] at *
  cases c : rwLt z x with
  | false => rfl
  | true =>
    cases d : rwLt x y with
    | true => have := rl_trans c d; rw [this] at h2; cases h2
    | false =>
      have e := rl_conn d h1
      subst e
      rw [c] at h2
      cases h2
theorem rle_total (x y : Rw) : (rwLe x y || rwLe y x) = true := by
  unfold rwLe
  cases c : rwLt y x with
  | false => rfl
  | true => rw [rl_asym c]; rfl
/-- the table of the rows of a list -/
def srtR (l : List Rw) : List Rw := l.mergeSort rwLe
theorem srt_perm (l : List Rw) : (srtR l).Perm l := List.mergeSort_perm l _
theorem mem_srtR {l : List Rw} {x : Rw} : x ∈ srtR l ↔ x ∈ l := (srt_perm l).mem_iff
abbrev Asc (l : List Rw) : Prop := l.Pairwise fun a b => rwLt a b = true
theorem srt_asc {l : List Rw} (nd : l.Nodup) : Asc (srtR l) := by
  have h1 : (srtR l).Pairwise fun a b => rwLe a b = true := List.pairwise_mergeSort (le := rwLe) (fun a b c h1 h2 => rle_trans h1 h2) rle_total l
  have h2 : (srtR l).Nodup := (srt_perm l).nodup_iff.mpr nd
  refine (h1.and h2).imp fun {a b} ⟨q1, q2⟩ => ?_
  unfold rwLe at q1
  rw [Bool.not_eq_true'] at q1
  cases c : rwLt a b with
  | true => rfl
  | false => exact absurd (rl_conn c q1) q2
theorem Asc.nodup {l : List Rw} (a : Asc l) : l.Nodup := a.imp fun h e => by
  subst e
  rw [rl_irr] at h
  cases h
end Sp

/-! Wa0: weights behind both answers; (k,) * n (as in k02's goal). -/
namespace Sp
open PySem PySem.Spec PyProof.Rows L2 Mn
theorem least {P : Nat → Prop} [DecidablePred P] : ∀ n : Nat, P n → ∃ b, b ≤ n ∧ P b ∧ ∀ q, q < b → ¬ P q
  | 0, h => ⟨0, Nat.le_refl _, h, fun q hq => by omega⟩
  | n + 1, h => by
    by_cases h2 : ∃ q, q ≤ n ∧ P q
    · obtain ⟨q, hq, hp⟩ := h2
      obtain ⟨b, h3, h4, h5⟩ := least q hp
      exact ⟨b, by omega, h4, h5⟩
    · exact ⟨n + 1, Nat.le_refl _, h, fun q hq hp => h2 ⟨q, by omega, hp⟩⟩
theorem rep_one {x : Dv} : ∀ n : Nat, (List.replicate n [x]).flatten = List.replicate n x
  | 0 => rfl
  | n + 1 => by
    rw [List.replicate_succ, List.flatten_cons, rep_one n, List.replicate_succ]
    rfl
theorem mul_one_t {k : Int} {c : Nat} {E : Exn → Th → Prop} {θ : Th} {Q : Dv → Th → Prop} (h1 : 0 < c) (h2 : c ≤ 1000) (hQ : Q (.tup (id_ (List.replicate c k))) θ) : oMulT1 (.tup [.int k]) (.int (c : Nat)) E θ Q := by
  rw [x_mulT1]
  by_cases hc : c = 1
  · subst hc
    rw [if_pos (show ((1 : Nat) : Int) = 1 from rfl)]
    exact hQ
  · rw [if_neg (by omega)]
    refine ⟨by simp, by omega, by omega, by simp, ?_⟩
    rw [Int.toNat_natCast, rep_one]
    unfold id_ at hQ
    rw [List.map_replicate] at hQ
    exact hQ
end Sp

/-! Wa3: the law's fewest tests, rows and useful tests; the weight of the fewest tests. -/
namespace Sp
open PySem PySem.Spec PyProof.Rows L2 Mn
variable {E : Exn → Th → Prop} {θ : Th} {Q : Dv → Th → Prop} {h : Hist} {sk : List Nat} {st : List Int} {n top : Nat}
/-! ### the weight -/
end Sp

/-! Wa4: the law's states and cases. -/
namespace Sp
open PySem PySem.Spec PyProof.Rows L2 Mn
variable {E : Exn → Th → Prop} {θ : Th} {Q : Dv → Th → Prop} {h : Hist} {sk : List Nat} {st : List Int} {n top : Nat}
noncomputable abbrev rowP (h : Hist) (sk : List Nat) (m : Nat) : PyData := .tuple [.int (m : Nat), .tuple ((mkB h sk m).map PyData.bool)]
end Sp

/-! Wa5: chains. -/
namespace Sp
open PySem PySem.Spec PyProof.Rows L2 Mn
section
variable {E : Exn → Th → Prop} {θ : Th} {Q : Dv → Th → Prop}
end
end Sp

/-! Wc1: the fewest tests, one or both answers lie (o : only the works may lie). -/
namespace Sp
open PySem PySem.Spec PyProof.Rows L2 Mn
variable {h : Hist} {sk : List Nat} {st : List Int} {n top : Nat} {o : Bool}
/-- the state behind an answer -/
noncomputable def bhO (o : Bool) (h : Hist) (sk : List Nat) (st : List Int) (m : Nat) (b : Bool) : List Int := if (o && b) = true then (List.range st.length).map fun i => if (mkB h sk m).getD i false = true then st.getD i 0 else -1 else bhS h sk st m b
theorem bhO_len {m : Nat} {b : Bool} : (bhO o h sk st m b).length = st.length := by
  unfold bhO
  split
  · rw [List.length_map, List.length_range]
  · exact bhS_len
theorem bhO_get {m i : Nat} {b : Bool} (hs : st.length = nc h sk) (hi : i < st.length) : (bhO o h sk st m b).getD i 0 = if (o && b) = true then (if (mkB h sk m).getD i false = true then st.getD i 0 else -1) else dn ((mkB h sk m).getD i false != b) (st.getD i 0) := by
  unfold bhO
  split
  · rw [List.getD_eq_getElem?_getD, List.getElem?_map, List.getElem?_range hi]
    rfl
  · unfold bhS
    rw [dns_get hi, mkx_get (by omega)]
/-- a useful test leaves less, whatever the answer -/
theorem us_ltO {m : Nat} {b : Bool} (hm : m ∈ usL h sk st) (hs : st.length = nc h sk) : muS (bhO o h sk st m b) < muS st := by
  cases hob : (o && b) with
  | false =>
    have e : bhO o h sk st m b = bhS h sk st m b := by unfold bhO; rw [hob, if_neg Bool.false_ne_true]
    rw [e]
    exact us_lt hm hs
  | true =>
    have hp := (List.mem_filter.mp hm).2
    unfold prtB at hp
    rw [Bool.and_eq_true, List.any_eq_true, List.any_eq_true] at hp
    obtain ⟨_, ⟨j, hj, h2⟩⟩ := hp
    have gj : j < st.length ∧ 0 ≤ st.getD j 0 := ⟨List.mem_range.mp (List.mem_filter.mp hj).1, of_decide_eq_true (List.mem_filter.mp hj).2⟩
    unfold muS
    rw [bhO_len]
    have g := fun i (hi : i < st.length) => bhO_get (o := o) (b := b) (m := m) hs hi
    refine sum_lt (j := j) (fun i hi => ?_) (List.mem_range.mpr gj.1) ?_
    · have hi := List.mem_range.mp hi
      rw [g i hi, hob, if_pos rfl]
      split
      · exact Nat.le_refl _
      · exact Nat.zero_le _
    · rw [g j gj.1, hob, if_pos rfl, if_neg (by simpa using h2)]
      show (0 : Nat) < _
      have := gj.2
      omega
/-- the fewest tests of a state, and the first make of them -/
noncomputable def bestFO (o : Bool) (h : Hist) (sk : List Nat) : Nat → List Int → Nat × Int
  | 0, _ => (0, -1)
  | f + 1, st => minP ((usL h sk st).map fun m => (1 + max (bestFO o h sk f (bhO o h sk st m true)).1 (bestFO o h sk f (bhO o h sk st m false)).1, m))
theorem bestFO_eq : ∀ (n : Nat) (st : List Int) (f g : Nat), st.length = nc h sk → muS st ≤ n → muS st ≤ f → muS st ≤ g → bestFO o h sk f st = bestFO o h sk g st := by
  intro n
  induction n with
  | zero =>
    intro st f g hs h0 _ _
    have hu : usL h sk st = [] := by
      cases e : usL h sk st with
      | nil => rfl
      | cons m l =>
        have := us_ltO (o := o) (h := h) (sk := sk) (b := true) (show m ∈ usL h sk st by rw [e]; exact List.mem_cons_self) hs
        omega
    cases f <;> cases g <;> simp only [bestFO, hu, List.map_nil, minP_nil]
  | succ n ih =>
    intro st f g hs h0 hf hg
    by_cases hu : usL h sk st = []
    · cases f <;> cases g <;> simp only [bestFO, hu, List.map_nil, minP_nil]
    · obtain ⟨m0, hm0⟩ := List.exists_mem_of_ne_nil _ hu
      have p0 := us_ltO (o := o) (b := true) hm0 hs
      obtain ⟨f, rfl⟩ : ∃ f', f = f' + 1 := ⟨f - 1, by omega⟩
      obtain ⟨g, rfl⟩ : ∃ g', g = g' + 1 := ⟨g - 1, by omega⟩
      simp only [bestFO]
      congr 1
      refine List.map_congr_left fun m hm => ?_
      have q1 := us_ltO (o := o) (b := true) hm hs
      have q2 := us_ltO (o := o) (b := false) hm hs
      rw [ih _ f g (by rw [bhO_len]; exact hs) (by omega) (by omega) (by omega), ih (bhO o h sk st m false) f g (by rw [bhO_len]; exact hs) (by omega) (by omega) (by omega)]
noncomputable def bestO (o : Bool) (h : Hist) (sk : List Nat) (st : List Int) : Nat × Int := bestFO o h sk (muS st) st
noncomputable def needO (o : Bool) (h : Hist) (sk : List Nat) (st : List Int) : Nat := (bestO o h sk st).1
theorem bestO_eq (hs : st.length = nc h sk) : bestO o h sk st = minP ((usL h sk st).map fun m => (1 + max (needO o h sk (bhO o h sk st m true)) (needO o h sk (bhO o h sk st m false)), m)) := by
  unfold bestO
  rw [bestFO_eq (muS st) st (muS st) (muS st + 1) hs (Nat.le_refl _) (Nat.le_refl _) (Nat.le_succ _)]
  simp only [bestFO]
  congr 1
  refine List.map_congr_left fun m hm => ?_
  have q1 := us_ltO (o := o) (b := true) hm hs
  have q2 := us_ltO (o := o) (b := false) hm hs
  unfold needO bestO
  rw [bestFO_eq (muS st) (bhO o h sk st m true) (muS st) _ (by rw [bhO_len]; exact hs) (by omega) (by omega) (Nat.le_refl _), bestFO_eq (muS st) (bhO o h sk st m false) (muS st) _ (by rw [bhO_len]; exact hs) (by omega) (by omega) (Nat.le_refl _)]
theorem need_usO {m : Nat} (hs : st.length = nc h sk) (hm : m ∈ usL h sk st) : needO o h sk st ≤ 1 + max (needO o h sk (bhO o h sk st m true)) (needO o h sk (bhO o h sk st m false)) := by
  have e : needO o h sk st = (bestO o h sk st).1 := rfl
  rw [e, bestO_eq hs]
  unfold minP
  have hx := List.mem_map_of_mem (f := fun m => (1 + max (needO o h sk (bhO o h sk st m true)) (needO o h sk (bhO o h sk st m false)), m)) hm
  rw [if_neg (List.ne_nil_of_mem hx)]
  exact mnP_le hx
theorem need_noneO (hs : st.length = nc h sk) (hu : usL h sk st = []) : needO o h sk st = 0 := by
  have e : needO o h sk st = (bestO o h sk st).1 := rfl
  rw [e, bestO_eq hs, hu, List.map_nil, minP_nil]
/-- the first of the fewest tests -/
noncomputable def bwO (o : Bool) (h : Hist) (sk : List Nat) (st : List Int) : Nat := (mnP ((usL h sk st).map fun m => (1 + max (needO o h sk (bhO o h sk st m true)) (needO o h sk (bhO o h sk st m false)), m))).2
theorem bw_isO (hs : st.length = nc h sk) (hu : usL h sk st ≠ []) : bwO o h sk st ∈ usL h sk st ∧ bestO o h sk st = (1 + max (needO o h sk (bhO o h sk st (bwO o h sk st) true)) (needO o h sk (bhO o h sk st (bwO o h sk st) false)), (bwO o h sk st : Int)) := by
  have hne : ((usL h sk st).map fun m => (1 + max (needO o h sk (bhO o h sk st m true)) (needO o h sk (bhO o h sk st m false)), m)) ≠ [] := by simpa using hu
  have hm := mnP_mem hne
  obtain ⟨m, h1, h2⟩ := List.mem_map.mp hm
  have e : bwO o h sk st = m := by
    unfold bwO
    rw [← h2]
  refine ⟨by rw [e]; exact h1, ?_⟩
  rw [bestO_eq hs]
  unfold minP
  rw [if_neg hne, e, ← h2]
/-! ### less may be left -/
def leS (a b : List Int) : Prop := a.length = b.length ∧ ∀ i, i < a.length → a.getD i 0 ≤ b.getD i 0
theorem leS.ins {a b : List Int} (l : leS a b) {i : Nat} (hi : i ∈ insL a) : i ∈ insL b := by
  obtain ⟨h1, h2⟩ := ins_lt hi
  have := l.2 i h1
  exact ins_in (by rw [← l.1]; exact h1) (by omega)
theorem dn_mono {a : Bool} {x y : Int} (h : x ≤ y) : dn a x ≤ dn a y := by
  unfold dn
  cases a
  · simpa using h
  · simp only [Bool.true_and, decide_eq_true_eq]
    split <;> split <;> omega
theorem bhO_mono {a b : List Int} {m : Nat} {c : Bool} (l : leS a b) (hs : b.length = nc h sk) : leS (bhO o h sk a m c) (bhO o h sk b m c) := by
  refine ⟨by rw [bhO_len, bhO_len]; exact l.1, fun i hi => ?_⟩
  rw [bhO_len] at hi
  have := l.2 i hi
  have e := l.1
  rw [bhO_get (by omega) hi, bhO_get hs (by omega)]
  split
  · split
    · exact this
    · exact Int.le_refl _
  · exact dn_mono this
theorem two_ins {st : List Int} (h1 : ¬ (insL st).length ≤ 1) : ∃ i j, i ∈ insL st ∧ j ∈ insL st ∧ i ≠ j := by
  have nd : (insL st).Nodup := List.nodup_range.sublist List.filter_sublist
  match hI : insL st, h1 with
  | [], h1 => exact absurd (Nat.zero_le 1) h1
  | [_], h1 => exact absurd (Nat.le_refl 1) h1
  | a :: b :: r, _ =>
    rw [hI, List.nodup_cons] at nd
    exact ⟨a, b, .head _, .tail _ (.head _), fun e => nd.1 (e ▸ List.mem_cons_self)⟩
/-- a test that does not part leaves all with one answer -/
theorem no_part {m : Nat} (hs : st.length = nc h sk) (h0 : ∀ y ∈ st, -1 ≤ y) (hp : prtB st (mkB h sk m) = false) : ∃ c, leS st (bhO o h sk st m c) := by
  unfold prtB at hp
  have low : ∀ i, i < st.length → -1 ≤ st.getD i 0 := fun i hi => h0 _ (by rw [List.getD_eq_getElem?_getD, List.getElem?_eq_getElem hi]; exact List.getElem_mem hi)
  have cs : ∀ c : Bool, (∀ i ∈ insL st, (mkB h sk m).getD i false = c) → leS st (bhO o h sk st m c) := fun c hc => by
    refine ⟨bhO_len.symm, fun i hi => ?_⟩
    rw [bhO_get hs hi]
    by_cases hin : 0 ≤ st.getD i 0
    · have e := hc i (ins_in hi hin)
      rw [e]
      split
      · next hoc =>
        rw [Bool.and_eq_true] at hoc
        rw [hoc.2, if_pos rfl]
        exact Int.le_refl _
      · unfold dn
        cases c <;> exact Int.le_refl _
    · have := low i hi
      split
      · split <;> omega
      · unfold dn
        rw [if_neg (by rw [Bool.and_eq_true, decide_eq_true_eq]; omega)]
        exact Int.le_refl _
  rw [Bool.and_eq_false_iff] at hp
  rcases hp with hp | hp
  · rw [List.any_eq_false] at hp
    exact ⟨false, cs false fun i hi => by simpa using hp i hi⟩
  · rw [List.any_eq_false] at hp
    exact ⟨true, cs true fun i hi => by simpa using hp i hi⟩
theorem lowO {m : Nat} {c : Bool} (hs : st.length = nc h sk) (h0 : ∀ y ∈ st, -1 ≤ y) : ∀ y ∈ bhO o h sk st m c, -1 ≤ y := fun y hy => by
  obtain ⟨i, hi, rfl⟩ := List.mem_iff_getElem.mp hy
  have e : (bhO o h sk st m c)[i] = (bhO o h sk st m c).getD i 0 := by rw [List.getD_eq_getElem?_getD, List.getElem?_eq_getElem hi]; rfl
  rw [bhO_len] at hi
  have hm : st.getD i 0 ∈ st := by
    rw [List.getD_eq_getElem?_getD, List.getElem?_eq_getElem hi]
    exact List.getElem_mem _
  have := h0 _ hm
  rw [e, bhO_get hs hi]
  split
  · split <;> omega
  · unfold dn
    split
    · next z =>
      rw [Bool.and_eq_true, decide_eq_true_eq] at z
      omega
    · exact this
theorem need_one (hs : st.length = nc h sk) (h1 : (insL st).length ≤ 1) : needO o h sk st = 0 := need_noneO hs (ins_us h1)
theorem usNe (tp : ∀ c, c < h.length → Anc h (h.length - 1) c) (hs : st.length = nc h sk) (h1 : ¬ (insL st).length ≤ 1) : usL h sk st ≠ [] := by
  obtain ⟨i, j, hi, hj, ne⟩ := two_ins h1
  exact us_twoT tp hs hi hj ne
theorem need_mono (tp : ∀ c, c < h.length → Anc h (h.length - 1) c) : ∀ (f : Nat) (a b : List Int), muS b < f → b.length = nc h sk → (∀ y ∈ a, -1 ≤ y) → (∀ y ∈ b, -1 ≤ y) → leS a b → needO o h sk a ≤ needO o h sk b := by
  intro f
  induction f with
  | zero => intro a b hf; omega
  | succ f ih =>
    intro a b hf hs ha hb l
    have hsa : a.length = nc h sk := by rw [l.1, hs]
    by_cases h1 : (insL a).length ≤ 1
    · rw [need_one hsa h1]
      exact Nat.zero_le _
    · obtain ⟨i, j, hi, hj, ne⟩ := two_ins h1
      have hub : usL h sk b ≠ [] := us_twoT tp hs (l.ins hi) (l.ins hj) ne
      obtain ⟨b1, b2⟩ := bw_isO (o := o) hs hub
      have en : needO o h sk b = 1 + max (needO o h sk (bhO o h sk b (bwO o h sk b) true)) (needO o h sk (bhO o h sk b (bwO o h sk b) false)) := by
        unfold needO
        rw [b2]
        rfl
      have q := fun (a' : List Int) (c : Bool) (ha' : ∀ y ∈ a', -1 ≤ y) (l' : leS a' (bhO o h sk b (bwO o h sk b) c)) => ih a' (bhO o h sk b (bwO o h sk b) c) (by have := us_ltO (o := o) (b := c) b1 hs; omega) (by rw [bhO_len]; exact hs) ha' (lowO hs hb) l'
      cases hp : prtB a (mkB h sk (bwO o h sk b)) with
      | true =>
        have hm : bwO o h sk b ∈ usL h sk a := List.mem_filter.mpr ⟨(List.mem_filter.mp b1).1, hp⟩
        have u := need_usO (o := o) hsa hm
        have q1 := q _ true (lowO hsa ha) (bhO_mono l hs)
        have q2 := q _ false (lowO hsa ha) (bhO_mono l hs)
        omega
      | false =>
        obtain ⟨c, lc⟩ := no_part (o := o) hsa ha hp
        have l2 := bhO_mono (o := o) (m := bwO o h sk b) (c := c) l hs
        have q1 := q a c ha ⟨by rw [bhO_len]; exact l.1, fun i hi => Int.le_trans (lc.2 i hi) (l2.2 i (by rw [bhO_len]; exact hi))⟩
        rw [en]
        cases c <;> omega
def minZ (st : List Int) : List Int := st.map fun y => min y 0
theorem minZ_len : (minZ st).length = st.length := by unfold minZ; rw [List.length_map]
theorem minZ_get {i : Nat} (hi : i < st.length) : (minZ st).getD i 0 = min (st.getD i 0) 0 := by
  unfold minZ
  rw [List.getD_eq_getElem?_getD, List.getElem?_map, List.getD_eq_getElem?_getD, List.getElem?_eq_getElem hi]
  rfl
theorem minZ_ins : insL (minZ st) = insL st := by
  unfold insL
  rw [minZ_len]
  refine List.filter_congr fun i hi => ?_
  rw [minZ_get (List.mem_range.mp hi)]
  exact decide_eq_decide.mpr (by omega)
theorem minZ_low (h0 : ∀ y ∈ st, -1 ≤ y) : ∀ y ∈ minZ st, -1 ≤ y := fun y hy => by
  obtain ⟨x, hx, rfl⟩ := List.mem_map.mp hy
  have := h0 x hx
  omega
/-- no false answer costs no more -/
theorem zero_le (tp : ∀ c, c < h.length → Anc h (h.length - 1) c) : ∀ (f : Nat) (st : List Int), muS st < f → st.length = nc h sk → (∀ y ∈ st, -1 ≤ y) → needO false h sk (minZ st) ≤ needO true h sk st := by
  intro f
  induction f with
  | zero => intro st hf; omega
  | succ f ih =>
    intro st hf hs h0
    have hsz : (minZ st).length = nc h sk := by rw [minZ_len, hs]
    by_cases h1 : (insL st).length ≤ 1
    · rw [need_one hsz (by rw [minZ_ins]; exact h1)]
      exact Nat.zero_le _
    · have hu := usNe tp hs h1
      obtain ⟨b1, b2⟩ := bw_isO (o := true) hs hu
      have en : needO true h sk st = 1 + max (needO true h sk (bhO true h sk st (bwO true h sk st) true)) (needO true h sk (bhO true h sk st (bwO true h sk st) false)) := by
        unfold needO
        rw [b2]
        rfl
      have bz : bwO true h sk st ∈ usL h sk (minZ st) := by
        refine List.mem_filter.mpr ⟨(List.mem_filter.mp b1).1, ?_⟩
        have := (List.mem_filter.mp b1).2
        unfold prtB at this ⊢
        rw [minZ_ins]
        exact this
      have u := need_usO (o := false) hsz bz
      have q : ∀ c, needO false h sk (bhO false h sk (minZ st) (bwO true h sk st) c) ≤ needO true h sk (bhO true h sk st (bwO true h sk st) c) := fun c => by
        refine Nat.le_trans (need_mono tp _ _ (minZ (bhO true h sk st (bwO true h sk st) c)) (Nat.lt_succ_self _) (by rw [minZ_len, bhO_len]; exact hs) (lowO hsz (minZ_low h0)) (minZ_low (lowO hs h0)) ⟨by rw [bhO_len, minZ_len, minZ_len, bhO_len], fun i hi => ?_⟩) (ih _ (by have := us_ltO (o := true) (b := c) b1 hs; omega) (by rw [bhO_len]; exact hs) (lowO hs h0))
        rw [bhO_len, minZ_len] at hi
        rw [bhO_get hsz (by rw [minZ_len]; exact hi), minZ_get hi, minZ_get (st := bhO true h sk st (bwO true h sk st) c) (by rw [bhO_len]; exact hi), bhO_get hs hi]
        rw [Bool.false_and, if_neg Bool.false_ne_true]
        have hm : st.getD i 0 ∈ st := by
          rw [List.getD_eq_getElem?_getD, List.getElem?_eq_getElem hi]
          exact List.getElem_mem _
        have := h0 _ hm
        have dt : ∀ x : Int, dn true x = if 0 ≤ x then x - 1 else x := fun x => by unfold dn; simp
        have df : ∀ x : Int, dn false x = x := fun x => by unfold dn; simp
        cases c
        · rw [Bool.and_false, if_neg Bool.false_ne_true]
          cases (mkB h sk (bwO true h sk st)).getD i false
          · show dn false _ ≤ min (dn false _) 0
            rw [df, df]
            exact Int.le_refl _
          · show dn true _ ≤ min (dn true _) 0
            rw [dt, dt]
            split <;> split <;> omega
        · rw [if_pos (by rfl)]
          cases (mkB h sk (bwO true h sk st)).getD i false
          · rw [if_neg Bool.false_ne_true]
            show dn true _ ≤ min (-1) 0
            rw [dt]
            split <;> omega
          · rw [if_pos rfl]
            show dn false _ ≤ _
            rw [df]
            exact Int.le_refl _
      have q1 := q true
      have q2 := q false
      omega
end Sp

/-! Wc2: the search, one or both answers lie. -/
namespace Sp
open PySem PySem.Spec PyProof.Rows L2 Mn
variable {E : Exn → Th → Prop} {θ : Th} {Q : Dv → Th → Prop} {h : Hist} {sk : List Nat} {st : List Int} {o : Bool}
def stepN : Bool → Str
  | true => "taken_one"
  | false => "taken"
theorem StK.bhO {n top : Nat} (s : StK n top st) (hs : st.length = nc h sk) {m : Nat} {b : Bool} : StK n top (Sp.bhO o h sk st m b) := by
  refine ⟨by rw [bhO_len]; exact s.len, fun y hy => ?_⟩
  obtain ⟨i, hi, rfl⟩ := List.mem_iff_getElem.mp hy
  have e : (Sp.bhO o h sk st m b)[i] = (Sp.bhO o h sk st m b).getD i 0 := by rw [List.getD_eq_getElem?_getD, List.getElem?_eq_getElem hi]; rfl
  rw [bhO_len] at hi
  have hm : st.getD i 0 ∈ st := by
    rw [List.getD_eq_getElem?_getD, List.getElem?_eq_getElem hi]
    exact List.getElem_mem _
  have := s.lo _ hm
  rw [e, bhO_get hs hi]
  split
  · split
    · exact this
    · omega
  · exact dn_lo this
/-- a search in the store, with what it knows -/
structure SeAO (o : Bool) (θ : Th) (d kk : Nat) (h : Hist) (sk : List Nat) (kvs : List (List Key × Dv)) : Prop where
  hd : θ[d]? = some (.ins "Search" [("marked", mtD h sk), ("step", .fn (stepN o)), ("known", .obj kk)])
  hk : θ[kk]? = some (.dT kvs)
theorem SeAO.ext {θ' : Th} {d kk : Nat} {kvs : List (List Key × Dv)} (a : SeAO o θ d kk h sk kvs) (e : Ext θ θ') : SeAO o θ' d kk h sk kvs := ⟨e.at a.hd, e.at a.hk⟩
section
variable {d kk : Nat} {kvs : List (List Key × Dv)} {R : Dv → Th → Prop}
end
/-- what a search knows is right -/
structure KnWO (o : Bool) (h : Hist) (sk : List Nat) (n top : Nat) (kvs : List (List Key × Dv)) : Prop where
  ok : ∀ p ∈ kvs, ∃ st, p.1 = keyS st ∧ StK n top st ∧ p.2 = bD (bestO o h sk st)
  nd : (kvs.map (·.1)).Nodup
theorem KnWO.nil {n top : Nat} : KnWO o h sk n top [] := ⟨fun p hp => (by cases hp), List.nodup_nil⟩
theorem KnWO.few {n top : Nat} {kvs : List (List Key × Dv)} (w : KnWO o h sk n top kvs) : kvs.length ≤ (top + 2) ^ n := by
  obtain ⟨l, e⟩ : ∃ l : List (List Int), kvs.map (·.1) = l.map keyS ∧ ∀ x ∈ l, StK n top x := by
    have ok := w.ok
    clear w
    induction kvs with
    | nil => exact ⟨[], rfl, fun x hx => by cases hx⟩
    | cons p kvs ih =>
      obtain ⟨l, e1, e2⟩ := ih fun q hq => ok q (List.mem_cons_of_mem _ hq)
      obtain ⟨st, h1, h2, _⟩ := ok p List.mem_cons_self
      refine ⟨st :: l, by rw [List.map_cons, List.map_cons, e1, h1], fun x hx => ?_⟩
      rcases List.mem_cons.mp hx with rfl | hx
      · exact h2
      · exact e2 x hx
  have nd := w.nd
  rw [e.1] at nd
  have nl : l.Nodup := List.Pairwise.of_map keyS (fun a b hab e => hab (by rw [e])) nd
  have := few_lists (vs := valsI top) (n := n) nl fun x hx => ⟨(e.2 x hx).len, fun y hy => mem_vals.mpr ((e.2 x hx).lo y hy)⟩
  rw [vals_len] at this
  have el := congrArg List.length e.1
  rw [List.length_map, List.length_map] at el
  omega
theorem KnWO.look {n top : Nat} {kvs : List (List Key × Dv)} {v : Dv} (w : KnWO o h sk n top kvs) (e : lookD kvs (keyS st) = some v) : v = bD (bestO o h sk st) := by
  obtain ⟨p, hp, h1, h2⟩ := look_some e
  obtain ⟨st', e1, _, e2⟩ := w.ok p hp
  rw [h1] at e1
  rw [← h2, e2, keyS_inj e1]
theorem KnWO.put {n top : Nat} {kvs : List (List Key × Dv)} (w : KnWO o h sk n top kvs) (hs : StK n top st) (e : lookD kvs (keyS st) = none) : KnWO o h sk n top (putD kvs (keyS st) (bD (bestO o h sk st))) ∧ lookD (putD kvs (keyS st) (bD (bestO o h sk st))) (keyS st) = some (bD (bestO o h sk st)) := by
  have ne := look_none e
  have en : (kvs.any fun kv => decide (kv.1 = keyS st)) = false := by
    rw [List.any_eq_false]
    intro p hp
    simpa using ne p hp
  unfold putD
  rw [if_neg (by rw [en]; exact Bool.false_ne_true)]
  refine ⟨⟨fun p hp => ?_, ?_⟩, ?_⟩
  · rcases List.mem_append.mp hp with hp | hp
    · exact w.ok p hp
    · rw [List.mem_singleton.mp hp]
      exact ⟨st, rfl, hs, rfl⟩
  · rw [List.map_append, List.nodup_append]
    refine ⟨w.nd, by simp, fun a ha b hb e => ?_⟩
    obtain ⟨p, hp, rfl⟩ := List.mem_map.mp ha
    rw [List.map_singleton, List.mem_singleton] at hb
    rw [hb] at e
    exact ne p hp e
  · unfold lookD
    rw [List.find?_append]
    have c : kvs.find? (fun kv => decide (kv.1 = keyS st)) = none := by
      rw [List.find?_eq_none]
      intro p hp
      simpa using ne p hp
    rw [c]
    simp
theorem KnWO.put' {n top : Nat} {kvs : List (List Key × Dv)} (w : KnWO o h sk n top kvs) (hs : StK n top st) : KnWO o h sk n top (putD kvs (keyS st) (bD (bestO o h sk st))) ∧ lookD (putD kvs (keyS st) (bD (bestO o h sk st))) (keyS st) = some (bD (bestO o h sk st)) := by
  cases c : lookD kvs (keyS st) with
  | none => exact w.put hs c
  | some v =>
    have ev := w.look c
    rw [ev] at c
    obtain ⟨p, hp, h1, h2⟩ := look_some c
    have ea : (kvs.any fun kv => decide (kv.1 = keyS st)) = true := List.any_eq_true.mpr ⟨p, hp, by simpa using h1⟩
    have e : putD kvs (keyS st) (bD (bestO o h sk st)) = kvs := by
      unfold putD
      rw [if_pos ea]
      refine (List.map_congr_left (g := id) fun q hq => ?_).trans (List.map_id _)
      obtain ⟨st', e1, _, e2⟩ := w.ok q hq
      split
      · next z =>
        have e3 := keyS_inj (e1.symm.trans z)
        subst e3
        show (q.1, _) = q
        rw [← e2]
      · rfl
    rw [e]
    exact ⟨w, c⟩
section
variable {d kk n top : Nat}
end
section
variable {n top : Nat}
end
end Sp

/-! Wc3: the law's own fewest tests, where only the works may lie. -/
namespace Sp
open PySem PySem.Spec PyProof.Rows L2 Mn
variable {E : Exn → Th → Prop} {θ : Th} {Q : Dv → Th → Prop} {h : Hist} {sk : List Nat} {st : List Int} {n top : Nat} {o : Bool}
def RowIs (θ : Th) (r : Dv) (n : Nat) (f : Nat → Bool) : Prop := ∀ i, i < n → ∀ (E' : Exn → Th → Prop) (θ' : Th) (R : Dv → Th → Prop), Ext θ θ' → R (.bl (f i)) θ' → oIx r (.int (i : Nat)) E' θ' R
theorem RowIs.ext {r : Dv} {f : Nat → Bool} {θ' : Th} (a : RowIs θ r n f) (e : Ext θ θ') : RowIs θ' r n f := fun i hi E' θ2 R e2 hR => a i hi E' θ2 R (e.trans e2) hR
structure KnNO (o : Bool) (h : Hist) (sk : List Nat) (n top : Nat) (kvs : List (NestedKey × Dv)) : Prop where
  ok : ∀ p ∈ kvs, ∃ st q, p.1 = nkS st q ∧ StK n top st ∧ q ≤ 40 ∧ p.2 = .bl (decide (needO true h sk st ≤ q))
  nd : (kvs.map (·.1)).Nodup
theorem KnNO.nil : KnNO true h sk n top [] := ⟨fun p hp => (by cases hp), .nil⟩
theorem KnNO.few {kvs : List (NestedKey × Dv)} (w : KnNO true h sk n top kvs) : kvs.length ≤ (top + 2) ^ n * 41 := by
  have e1 : ((allL (valsI top) n).flatMap fun st => (List.range 41).map fun q => nkS st q).length = (top + 2) ^ n * 41 := by
    rw [← vals_len (top := top), ← allL_len]
    generalize allL (valsI top) n = l
    induction l with
    | nil => simp
    | cons x l ih =>
      rw [List.flatMap_cons, List.length_append, ih, List.length_map, List.length_range, List.length_cons]
      omega
  rw [← e1, ← List.length_map (f := (·.1)) (as := kvs)]
  refine sub_len w.nd fun k hk => ?_
  obtain ⟨p, hp, rfl⟩ := List.mem_map.mp hk
  obtain ⟨st, q, e, hs, hq, _⟩ := w.ok p hp
  rw [List.mem_flatMap]
  exact ⟨st, mem_allL _ hs.len (fun y hy => mem_vals.mpr (hs.lo y hy)), List.mem_map.mpr ⟨q, List.mem_range.mpr (by omega), e.symm⟩⟩
theorem KnNO.look {kvs : List (NestedKey × Dv)} {v : Dv} {q : Nat} (w : KnNO true h sk n top kvs) (e : lookD kvs (nkS st q) = some v) : v = .bl (decide (needO true h sk st ≤ q)) := by
  obtain ⟨p, hp, h1, h2⟩ := lookN_some e
  obtain ⟨st', q', e1, _, _, e2⟩ := w.ok p hp
  obtain ⟨rfl, rfl⟩ := nkS_inj (h1.symm.trans e1)
  rw [← h2, e2]
theorem KnNO.put {kvs : List (NestedKey × Dv)} {q : Nat} (w : KnNO true h sk n top kvs) (hs : StK n top st) (hq : q ≤ 40) : KnNO true h sk n top (putD kvs (nkS st q) (.bl (decide (needO true h sk st ≤ q)))) ∧ lookD (putD kvs (nkS st q) (.bl (decide (needO true h sk st ≤ q)))) (nkS st q) = some (.bl (decide (needO true h sk st ≤ q))) := by
  by_cases hc : (kvs.any fun kv => decide (kv.1 = nkS st q)) = true
  · have el : ∃ v, lookD kvs (nkS st q) = some v := by
      rw [List.any_eq_true] at hc
      obtain ⟨p, hp, e⟩ := hc
      cases c : kvs.find? (fun kv => decide (kv.1 = nkS st q)) with
      | none => rw [List.find?_eq_none] at c; exact absurd e (c p hp)
      | some p => exact ⟨p.2, by unfold lookD; rw [c]; rfl⟩
    obtain ⟨v, el⟩ := el
    have ev := w.look el
    rw [ev] at el
    have e : putD kvs (nkS st q) (.bl (decide (needO true h sk st ≤ q))) = kvs := by
      unfold putD
      rw [if_pos hc]
      refine (List.map_congr_left (g := id) fun p hp => ?_).trans (List.map_id _)
      obtain ⟨st', q', e1, _, _, e2⟩ := w.ok p hp
      split
      · next z =>
        obtain ⟨rfl, rfl⟩ := nkS_inj (e1.symm.trans z)
        show (p.1, _) = p
        rw [← e2]
      · rfl
    rw [e]
    exact ⟨w, el⟩
  · unfold putD
    rw [if_neg hc]
    have ne : ∀ p ∈ kvs, p.1 ≠ nkS st q := fun p hp z => hc (List.any_eq_true.mpr ⟨p, hp, decide_eq_true z⟩)
    refine ⟨⟨fun p hp => ?_, ?_⟩, ?_⟩
    · rcases List.mem_append.mp hp with hp | hp
      · exact w.ok p hp
      · rw [List.mem_singleton.mp hp]
        exact ⟨st, q, rfl, hs, hq, rfl⟩
    · rw [List.map_append, List.nodup_append]
      refine ⟨w.nd, by simp, fun a ha b hb e => ?_⟩
      obtain ⟨p, hp, rfl⟩ := List.mem_map.mp ha
      rw [List.map_singleton, List.mem_singleton] at hb
      rw [hb] at e
      exact ne p hp e
    · unfold lookD
      rw [List.find?_append]
      have c : kvs.find? (fun kv => decide (kv.1 = nkS st q)) = none := by
        rw [List.find?_eq_none]
        intro p hp
        simpa using ne p hp
      rw [c]
      simp
end Sp

/-! Wc4: one answer's state, refusals, and who can be it. -/
namespace Sp
open PySem PySem.Spec PyProof.Rows L2 Mn
variable {E : Exn → Th → Prop} {θ : Th} {Q : Dv → Th → Prop} {h : Hist} {sk : List Nat} {st : List Int} {n top k : Nat} {l : Ans}
/-! ### who can be it -/
end Sp

/-! Wc5: answers drawn late (as in Vfd, which cannot be imported here); a chain of two. -/
namespace Sp
open PySem PySem.Spec PyProof.Rows L2 Mn
variable {E : Exn → Th → Prop} {θ : Th} {Q : Dv → Th → Prop} {h : Hist} {sk : List Nat} {st : List Int}
end Sp

/-! We2: the judge of tables, at tables of rows that ascend. -/
namespace Sp
open PySem PySem.Spec PyProof.Rows L2 Mn
variable {E : Exn → Th → Prop} {θ : Th} {Q : Dv → Th → Prop} {h : Hist} {sk : List Nat} {st : List Int}
/-- rows with the shape of rows -/
structure RowsOk (n q : Nat) (T : List Rw) : Prop where
  ln : ∀ x ∈ T, x.1 ≤ q ∧ x.2.length = n
  rg : ∀ x ∈ T, ∀ y ∈ x.2, -1 ≤ y ∧ y ≤ 20
  asc : Asc T
  few : T.length < 1000000
abbrev tbD (T : List Rw) : Dv := .tup (T.map rwD)
/-- what shows that a row's tests do not settle it -/
noncomputable def frc (h : Hist) (sk : List Nat) (T : List Rw) (x : Rw) : Bool :=
  decide (2 ≤ (insL x.2).length) && (decide (x.1 = 0) || (usL h sk x.2).all fun m => decide ((x.1 - 1, bhS h sk x.2 m true) ∈ T) || decide ((x.1 - 1, bhS h sk x.2 m false) ∈ T))
noncomputable def hldT (h : Hist) (sk : List Nat) (T : List Rw) (x : Rw) : Bool := decide (2 ^ x.1 < wt x.1 x.2) || frc h sk T x
noncomputable def jdgT (h : Hist) (sk : List Nat) (T : List Rw) (q : Nat) (st : List Int) : Bool := decide ((q, st) ∈ T) && T.all (hldT h sk T)
end Sp

/-! Wd1: trees of a search (as in Vj2, deeper and for any history with a last make). -/
namespace Sp
open PySem PySem.Spec PyProof.Rows L2 Mn
variable {E : Exn → Th → Prop} {θ : Th} {Q : Dv → Th → Prop} {h : Hist} {sk : List Nat} {st : List Int}
section
variable {d kk n top : Nat} {kvs : List (List Key × Dv)}
end
end Sp

/-! Wd2: the program's judge of trees. -/
namespace Sp
open PySem PySem.Spec PyProof.Rows L2 Mn
variable {E : Exn → Th → Prop} {θ : Th} {Q : Dv → Th → Prop} {h : Hist} {sk : List Nat} {st : List Int}
noncomputable def amD (h : Hist) (sk : List Nat) : List (Key × Dv) := zpKD ((unsk h sk).map fun m => ((m : Nat) : Int)) ((unsk h sk).map (mkT h sk))
end Sp

/-! Wd3: depths; what the judge says. -/
namespace Sp
open PySem PySem.Spec PyProof.Rows L2 Mn
variable {E : Exn → Th → Prop} {θ : Th} {Q : Dv → Th → Prop} {h : Hist} {sk : List Nat} {st : List Int} {n top : Nat}
end Sp

/-! Wd4: the law's own look at a tree. -/
namespace Sp
open PySem PySem.Spec PyProof.Rows L2 Mn
variable {E : Exn → Th → Prop} {θ : Th} {Q : Dv → Th → Prop} {h : Hist} {sk : List Nat} {st : List Int} {n top : Nat}
noncomputable def evD (h : Hist) (sk : List Nat) : List Dv := (unsk h sk).map fun m => .tup [.int (m : Nat), mkT h sk m]
end Sp

/-! We3: the law's look at tables, at tables of rows that ascend. -/
namespace Sp
open PySem PySem.Spec PyProof.Rows L2 Mn
variable {E : Exn → Th → Prop} {θ : Th} {Q : Dv → Th → Prop} {h : Hist} {sk : List Nat} {st : List Int}
theorem lay_ints : ∀ l : List Int, PyData.canLayAll0 (l.map PyData.int) = true
  | [] => by simp [PyData.canLayAll0]
  | i :: l => by
    rw [List.map_cons, PyData.canLayAll0, lay_ints l]
    simp [PyData.canLay0]
end Sp

/-! We4: the table that a search finds. -/
namespace Sp
open PySem PySem.Spec PyProof.Rows L2 Mn
variable {E : Exn → Th → Prop} {θ : Th} {Q : Dv → Th → Prop} {h : Hist} {sk : List Nat} {st : List Int}
/-- a row that its tests do not settle -/
structure GoodW (h : Hist) (sk : List Nat) (n top q : Nat) (x : Rw) : Prop where
  le : x.1 ≤ q
  st : StK n top x.2
  no : x.1 < needS h sk x.2
theorem few_good {n top q : Nat} {R : List Rw} (nd : R.Nodup) (g : ∀ x ∈ R, GoodW h sk n top q x) : R.length ≤ (top + 2) ^ n * (q + 1) := by
  have e1 : ((allL (valsI top) n).flatMap fun st => (List.range (q + 1)).map fun p => ((p, st) : Rw)).length = (top + 2) ^ n * (q + 1) := by
    rw [← vals_len (top := top), ← allL_len]
    generalize allL (valsI top) n = l
    induction l with
    | nil => simp
    | cons x l ih =>
      rw [List.flatMap_cons, List.length_append, ih, List.length_map, List.length_range, List.length_cons, Nat.succ_mul]
      omega
  rw [← e1]
  refine sub_len nd fun x hx => ?_
  have gx := g x hx
  rw [List.mem_flatMap]
  exact ⟨x.2, mem_allL _ gx.st.len (fun y hy => mem_vals.mpr (gx.st.lo y hy)), List.mem_map.mpr ⟨x.1, List.mem_range.mpr (by have := gx.le; omega), rfl⟩⟩
theorem hld_mono {R R' : List Rw} (hs : ∀ x ∈ R, x ∈ R') {x : Rw} (hh : hldT h sk R x = true) : hldT h sk R' x = true := by
  unfold hldT frc at *
  rw [Bool.or_eq_true] at hh ⊢
  rcases hh with hh | hh
  · exact .inl hh
  · refine .inr ?_
    rw [Bool.and_eq_true, Bool.or_eq_true, List.all_eq_true] at hh ⊢
    refine ⟨hh.1, hh.2.imp_right fun h2 m hm => ?_⟩
    have := h2 m hm
    rw [Bool.or_eq_true, decide_eq_true_eq, decide_eq_true_eq] at this ⊢
    exact this.imp (hs _) (hs _)
/-- the rows found, those still to do -/
structure InvT (h : Hist) (sk : List Nat) (n top q : Nat) (st : List Int) (R L : List Rw) : Prop where
  nd : R.Nodup
  ndl : L.Nodup
  good : ∀ x ∈ R, GoodW h sk n top q x
  sub : ∀ x ∈ L, x ∈ R
  first : (q, st) ∈ R
  done : ∀ x ∈ R, x ∉ L → hldT h sk R x = true
theorem InvT.start {n top q : Nat} (g : GoodW h sk n top q (q, st)) : InvT h sk n top q st [(q, st)] [(q, st)] :=
  ⟨by simp, by simp, fun x hx => by rw [List.mem_singleton.mp hx]; exact g, fun x hx => hx, by simp, fun x hx hn => absurd hx hn⟩
/-- a table of the document -/
structure TabOk (h : Hist) (sk : List Nat) (n top q : Nat) (st : List Int) (T : List Rw) : Prop where
  asc : Asc T
  first : (q, st) ∈ T
  good : ∀ x ∈ T, GoodW h sk n top q x
  holds : ∀ x ∈ T, hldT h sk T x = true
theorem InvT.tab {n top q : Nat} {R : List Rw} (i : InvT h sk n top q st R []) : TabOk h sk n top q st (srtR R) :=
  ⟨srt_asc i.nd, mem_srtR.mpr i.first, fun x hx => i.good x (mem_srtR.mp hx), fun x hx => hld_mono (fun y hy => mem_srtR.mpr hy) (i.done x (mem_srtR.mp hx) (by simp))⟩
section
variable {d kk jr jt n top : Nat} {kvs : List (List Key × Dv)} {R L : List Rw} {θ0 : Th}
/-- the store while a table is made -/
structure TbS (θ0 θ : Th) (d kk jr jt : Nat) (h : Hist) (sk : List Nat) (n top : Nat) (kvs : List (List Key × Dv)) (R L : List Rw) : Prop where
  A : SeA θ d kk h sk kvs
  W : KnW h sk n top kvs
  hr : θ[jr]? = some (.dN (R.map fun x => (rwK x, Dv.bl true)))
  ht : θ[jt]? = some (.lst (L.map rwD))
  ex : Ext θ0 θ
theorem TbS.nr (t : TbS θ0 θ d kk jr jt h sk n top kvs R L) : jr ≠ kk := fun e => by
  have h1 := t.hr
  rw [e, t.A.hk] at h1
  cases h1
theorem TbS.nt (t : TbS θ0 θ d kk jr jt h sk n top kvs R L) : jt ≠ kk := fun e => by
  have h1 := t.ht
  rw [e, t.A.hk] at h1
  cases h1
theorem TbS.ext {θ' : Th} (t : TbS θ0 θ d kk jr jt h sk n top kvs R L) (e : Ext θ θ') : TbS θ0 θ' d kk jr jt h sk n top kvs R L :=
  ⟨t.A.ext e, t.W, e.at t.hr, e.at t.ht, t.ex.trans e⟩
theorem TbS.kept {θ' : Th} {kvs' : List (List Key × Dv)} (t : TbS θ0 θ d kk jr jt h sk n top kvs R L) (hk : θ0.length ≤ kk) (A : SeA θ' d kk h sk kvs') (W : KnW h sk n top kvs') (K : Kept kk θ θ') : TbS θ0 θ' d kk jr jt h sk n top kvs' R L :=
  ⟨A, W, K.at' _ _ t.nr t.hr, K.at' _ _ t.nt t.ht, ext_kept t.ex K hk⟩
theorem ext_set {j : Nat} {o : Ob} (e : Ext θ0 θ) (hj : θ0.length ≤ j) : Ext θ0 (θ.set j o) := by
  obtain ⟨g, rfl⟩ := e
  rw [List.set_append_right _ _ hj]
  exact .app
theorem set_at {i j : Nat} {o x : Ob} (hx : θ[i]? = some x) (ne : i ≠ j) : (θ.set j o)[i]? = some x := by
  rw [List.getElem?_set_ne (Ne.symm ne)]
  exact hx
theorem TbS.put {R' : List Rw} (t : TbS θ0 θ d kk jr jt h sk n top kvs R L) (hj : θ0.length ≤ jr) : TbS θ0 (θ.set jr (.dN (R'.map fun x => (rwK x, Dv.bl true)))) d kk jr jt h sk n top kvs R' L := by
  refine ⟨⟨set_at t.A.hd fun e => ?_, set_at t.A.hk (Ne.symm t.nr)⟩, t.W, List.getElem?_set_self (List.getElem?_eq_some_iff.mp t.hr).1, set_at t.ht fun e => ?_, ext_set t.ex hj⟩
  · have h1 := t.hr
    rw [← e, t.A.hd] at h1
    cases h1
  · have h1 := t.hr
    rw [← e, t.ht] at h1
    cases h1
theorem TbS.new {j : Nat} {o : Ob} (t : TbS θ0 θ d kk jr jt h sk n top kvs R L) (hd : d < j) (hk : kk < j) (hr : jr < j) (ht : jt < j) (hj : θ0.length ≤ j) : TbS θ0 (θ.set j o) d kk jr jt h sk n top kvs R L :=
  ⟨⟨set_at t.A.hd (by omega), set_at t.A.hk (by omega)⟩, t.W, set_at t.hr (by omega), set_at t.ht (by omega), ext_set t.ex hj⟩
end
end Sp

/-! We5: table_of. -/
namespace Sp
open PySem PySem.Spec PyProof.Rows L2 Mn
variable {E : Exn → Th → Prop} {θ : Th} {Q : Dv → Th → Prop} {h : Hist} {sk : List Nat} {st : List Int}
theorem TabOk.rows {n top q q' : Nat} {T : List Rw} (t : TabOk h sk n top q st T) (ht : top ≤ 20) (hp : (top + 2) ^ n ≤ 20000) (hq : q ≤ 19) (hle : q ≤ q') : RowsOk n q' T :=
  ⟨fun x hx => ⟨Nat.le_trans (t.good x hx).le hle, (t.good x hx).st.len⟩, fun x hx y hy => by have := (t.good x hx).st.lo y hy; omega, t.asc, by
    have h1 := few_good t.asc.nodup t.good
    have h2 := Nat.mul_le_mul hp (show q + 1 ≤ 20 by omega)
    omega⟩
theorem TabOk.yes {n top q : Nat} {T : List Rw} (t : TabOk h sk n top q st T) : jdgT h sk T q st = true := by
  unfold jdgT
  rw [decide_eq_true t.first, Bool.true_and, List.all_eq_true]
  exact t.holds
theorem TabOk.no {n top q q' : Nat} {T : List Rw} (t : TabOk h sk n top q st T) (hlt : q < q') : jdgT h sk T q' st = false := by
  unfold jdgT
  rw [decide_eq_false (fun hm => by have := (t.good _ hm).le; omega), Bool.false_and]
end Sp

/-! Wd5: a tree followed with lies. -/
namespace Sp
open PySem PySem.Spec PyProof.Rows L2 Mn
variable {E : Exn → Th → Prop} {θ : Th} {Q : Dv → Th → Prop} {h : Hist} {sk : List Nat} {st : List Int} {n top : Nat}
end Sp

/-! Vj3: answers along a tree, some of them false (the maths of k24). -/
namespace Sp
open PySem PySem.Spec PyProof.Rows L2 Mn
variable {h : Hist} {sk : List Nat} {stt : List Int} {l : Ans} {k : Nat} {two : Bool} {tr : Nat → Bool} {nz : List Nat} {t : Tr}
/-- the answer along a tree -/
def nxA (tr : Nat → Bool) (nz : List Nat) (k : Nat) (two : Bool) (l : Ans) (m : Nat) : Bool × Nat :=
  (tr m != ((decide (l.length < nz.length) && decide (nz.getD l.length 0 = 1)) && lieB l k two m (tr m)), m)
def stepR (t : Tr) (tr : Nat → Bool) (nz : List Nat) (k : Nat) (two : Bool) (l : Ans) : Ans := match pl_ l k two t with
  | .ask m _ _ => l ++ [nxA tr nz k two l m]
  | _ => l
def seqR (t : Tr) (tr : Nat → Bool) (nz : List Nat) (k : Nat) (two : Bool) : Nat → Ans
  | 0 => []
  | n + 1 => stepR t tr nz k two (seqR t tr nz k two n)
def isAsk : Tr → Bool
  | .ask _ _ _ => true
  | _ => false
theorem st_app {b : Bool} {m m' : Nat} (ne : m' ≠ m) : st (l ++ [(b, m)]) k two m' = st l k two m' := by
  unfold st
  rw [cnt_app, cnt_app, if_neg (fun z => ne z.2.symm), if_neg (fun z => ne z.2.symm)]
  rfl
theorem st_open {m : Nat} (hm : st l k two m = "") : l.count (false, m) ≤ k ∧ l.count (true, m) ≤ (if two then k else 0) := by
  unfold st stl isBr at hm
  refine ⟨Nat.le_of_not_lt fun z => ?_, Nat.le_of_not_lt fun z => ?_⟩
  · rw [if_pos z] at hm
    cases hq : decide ((if two = true then k else 0) < l.count (true, m)) <;> rw [hq] at hm <;> exact absurd hm (by decide)
  · simp only [decide_eq_true z, if_true] at hm
    split at hm <;> exact absurd hm (by decide)
theorem more_pos {m : Nat} (hm : st l k two m = "") : 1 ≤ more l k two m := by
  obtain ⟨h1, h2⟩ := st_open hm
  unfold more mst
  cases two <;> simp at h2 ⊢ <;> omega
theorem nn_pos : ∀ t, 0 ≤ nn l k two t
  | .nob => Int.le_refl _
  | .found _ => Int.le_refl _
  | .ask m x y => by
    have h1 := nn_pos x
    have h2 := nn_pos y
    rw [nn_ask]
    split
    · next h => have := more_pos h; omega
    · split <;> assumption
theorem more_app {b : Bool} {m : Nat} : more (l ++ [(b, m)]) k two m = more l k two m - 1 := by
  unfold more
  rw [cnt_app, cnt_app]
  cases b <;> simp <;> omega
theorem more_ne {b : Bool} {m m' : Nat} (ne : m' ≠ m) : more (l ++ [(b, m)]) k two m' = more l k two m' := by
  unfold more
  rw [cnt_app, cnt_app, if_neg (fun z => ne z.2.symm), if_neg (fun z => ne z.2.symm)]
  rfl
theorem nn_mono {b : Bool} {m : Nat} (hm : st l k two m = "") : ∀ t, nn (l ++ [(b, m)]) k two t ≤ nn l k two t
  | .nob => Int.le_refl _
  | .found _ => Int.le_refl _
  | .ask m' x y => by
    have h1 := nn_mono (b := b) hm x
    have h2 := nn_mono (b := b) hm y
    rw [nn_ask, nn_ask]
    by_cases ne : m' = m
    · subst ne
      rw [if_pos hm, more_app]
      have := more_pos hm
      split
      · omega
      · split <;> omega
    · rw [st_app ne, more_ne ne]
      split
      · omega
      · split <;> assumption
theorem nn_less {b : Bool} {m : Nat} (hm : st l k two m = "") : ∀ t, (∃ x y, pl_ l k two t = .ask m x y) → nn (l ++ [(b, m)]) k two t + 1 ≤ nn l k two t
  | .nob, ⟨_, _, e⟩ => by cases e
  | .found _, ⟨_, _, e⟩ => by cases e
  | .ask m' x y, hx => by
    by_cases h1 : st l k two m' = ""
    · rw [pl_ask, if_pos h1] at hx
      obtain ⟨_, _, e⟩ := hx
      cases e
      have h2 := nn_mono (b := b) hm x
      have h3 := nn_mono (b := b) hm y
      rw [nn_ask, nn_ask, if_pos hm, more_app]
      have := more_pos hm
      split
      · omega
      · split <;> omega
    · have ne : m' ≠ m := fun e => h1 (e ▸ hm)
      rw [pl_ask, if_neg h1] at hx
      rw [nn_ask, nn_ask, st_app ne, if_neg h1, if_neg h1]
      split
      · next h2 => rw [if_pos h2] at hx; exact nn_less hm y hx
      · next h2 => rw [if_neg h2] at hx; exact nn_less hm x hx
theorem seq_step {n : Nat} (ha : isAsk (pl_ (seqR t tr nz k two n) k two t) = true) : ∃ m x y, pl_ (seqR t tr nz k two n) k two t = .ask m x y ∧ st (seqR t tr nz k two n) k two m = "" ∧ seqR t tr nz k two (n + 1) = seqR t tr nz k two n ++ [nxA tr nz k two (seqR t tr nz k two n) m] := by
  have e3 := (nn_pl (l := seqR t tr nz k two n) (k := k) (two := two) t).2.2
  cases e : pl_ (seqR t tr nz k two n) k two t with
  | nob => rw [e] at ha; cases ha
  | found c => rw [e] at ha; cases ha
  | ask m x y =>
    refine ⟨m, x, y, rfl, e3 m x y e, ?_⟩
    show stepR t tr nz k two (seqR t tr nz k two n) = _
    unfold stepR
    rw [e]
/-- n answers are given -/
structure RunN (t : Tr) (tr : Nat → Bool) (nz : List Nat) (k : Nat) (two : Bool) (n : Nat) : Prop where
  fin : isAsk (pl_ (seqR t tr nz k two n) k two t) = false
  go : ∀ i, i < n → isAsk (pl_ (seqR t tr nz k two i) k two t) = true
theorem RunN.low {n : Nat} (r : RunN t tr nz k two n) : ∀ i, i ≤ n → ((n - i : Nat) : Int) ≤ nn (seqR t tr nz k two i) k two t := by
  have h2 : ∀ d i, i + d = n → (d : Int) ≤ nn (seqR t tr nz k two i) k two t := by
    intro d
    induction d with
    | zero => intro i _; exact nn_pos t
    | succ d ih =>
      intro i e
      have i1 := ih (i + 1) (by omega)
      obtain ⟨m, x, y, e1, e2, e3⟩ := seq_step (r.go i (by omega))
      rw [e3] at i1
      have e4 : nxA tr nz k two (seqR t tr nz k two i) m = ((nxA tr nz k two (seqR t tr nz k two i) m).1, m) := rfl
      rw [e4] at i1
      have := nn_less (b := (nxA tr nz k two (seqR t tr nz k two i) m).1) e2 t ⟨x, y, e1⟩
      omega
  intro i hi
  exact h2 (n - i) i (by omega)
end Sp

/-! Wd6: lies do not mislead a tree; the law's lies and classes. -/
namespace Sp
open PySem PySem.Spec PyProof.Rows L2 Mn
variable {E : Exn → Th → Prop} {θ : Th} {Q : Dv → Th → Prop} {h : Hist} {sk : List Nat} {st : List Int} {n top : Nat}
end Sp

/-! Wd7: the law's lies, classes, and all that a tree finds. -/
namespace Sp
open PySem PySem.Spec PyProof.Rows L2 Mn
variable {E : Exn → Th → Prop} {θ : Th} {Q : Dv → Th → Prop} {h : Hist} {sk : List Nat} {st : List Int} {n top k : Nat}
end Sp

/-! Wd8: the law's pair. -/
namespace Sp
open PySem PySem.Spec PyProof.Rows L2 Mn
variable {E : Exn → Th → Prop} {θ : Th} {Q : Dv → Th → Prop} {h : Hist} {sk : List Nat} {st : List Int}
end Sp

/-! We6: what the judge of trees says of any tree, right or spoilt. -/
namespace Sp
open PySem PySem.Spec PyProof.Rows L2 Mn
variable {E : Exn → Th → Prop} {θ : Th} {Q : Dv → Th → Prop} {h : Hist} {sk : List Nat} {st : List Int}
/-- a tree that may be spoilt: bad d is no tree -/
inductive XT where
  | nob | fnd (i : Int) | ask (m : Int) (a b : XT) | bad (d : Dv)
def xD : XT → Dv
  | .nob => .tup [.str "nobody"]
  | .fnd i => .tup [.str "found", .int i]
  | .ask m a b => .tup [.str "ask", .int m, xD a, xD b]
  | .bad d => d
def xdp : XT → Nat
  | .ask _ a b => 1 + max (xdp a) (xdp b)
  | _ => 0
def ofT : Tr → XT
  | .nob => .nob
  | .found c => .fnd (c : Nat)
  | .ask m a b => .ask (m : Nat) (ofT a) (ofT b)
/-- what is bad is refused -/
def JBad (h : Hist) (sk : List Nat) (n top : Nat) (θ : Th) (d : Dv) : Prop := ∀ (f jm q : Nat) (st : List Int) (E : Exn → Th → Prop) (Q : Dv → Th → Prop), StK n top st → θ[jm]? = some (.dK (amD h sk)) → (∀ θ', Ext θ θ' → Q (.bl false) θ') → Cm25.c_is_tree (f + 1) [.fn "taken", .obj jm, .tup (id_ st), .int (q : Nat), d] E θ Q
def JX (h : Hist) (sk : List Nat) (n top : Nat) (θ : Th) : XT → Prop
  | .ask _ a b => JX h sk n top θ a ∧ JX h sk n top θ b
  | .bad d => ∀ θ', Ext θ θ' → JBad h sk n top θ' d
  | _ => True
theorem JX.ext {n top : Nat} {θ' : Th} (e : Ext θ θ') : ∀ {x : XT}, JX h sk n top θ x → JX h sk n top θ' x
  | .nob, _ => trivial
  | .fnd _, _ => trivial
  | .ask m a b, j => ⟨JX.ext e j.1, JX.ext e j.2⟩
  | .bad d, j => fun θ2 e2 => j θ2 (e.trans e2)
theorem JX.of {n top : Nat} : ∀ t : Tr, JX h sk n top θ (ofT t)
  | .nob => trivial
  | .found _ => trivial
  | .ask m a b => ⟨JX.of a, JX.of b⟩
end Sp

/-! We7: what the law says of any tree, right or spoilt. -/
namespace Sp
open PySem PySem.Spec PyProof.Rows L2 Mn
variable {E : Exn → Th → Prop} {θ : Th} {Q : Dv → Th → Prop} {h : Hist} {sk : List Nat} {st : List Int}
def LBad (h : Hist) (sk : List Nat) (n top : Nat) (θ : Th) (d : Dv) : Prop := ∀ (f je q : Nat) (st : List Int) (E : Exn → Th → Prop) (Q : Dv → Th → Prop), StK n top st → n ≤ 1000 → θ[je]? = some (.lst (evD h sk)) → (∀ θ', Ext θ θ' → Q (.bl false) θ') → Cm27.c__law_takes_tree (f + 1) [.obj je, .tup (id_ st), .int (q : Nat), d] E θ Q
def LX (h : Hist) (sk : List Nat) (n top : Nat) (θ : Th) : XT → Prop
  | .ask _ a b => LX h sk n top θ a ∧ LX h sk n top θ b
  | .bad d => ∀ θ', Ext θ θ' → LBad h sk n top θ' d
  | _ => True
theorem LX.ext {n top : Nat} {θ' : Th} (e : Ext θ θ') : ∀ {x : XT}, LX h sk n top θ x → LX h sk n top θ' x
  | .nob, _ => trivial
  | .fnd _, _ => trivial
  | .ask m a b, j => ⟨LX.ext e j.1, LX.ext e j.2⟩
  | .bad d, j => fun θ2 e2 => j θ2 (e.trans e2)
theorem LX.of {n top : Nat} : ∀ t : Tr, LX h sk n top θ (ofT t)
  | .nob => trivial
  | .found _ => trivial
  | .ask m a b => ⟨LX.of a, LX.of b⟩
end Sp

/-! We8: things that are no trees. -/
namespace Sp
open PySem PySem.Spec PyProof.Rows L2 Mn
variable {E : Exn → Th → Prop} {θ : Th} {Q : Dv → Th → Prop} {h : Hist} {sk : List Nat} {st : List Int} {n top : Nat}
/-- a tuple with a text ahead that is no tree -/
structure NoT (s : Str) (ds : List Dv) (ps : List PyData) : Prop where
  ask : ¬ (ds.length = 3 ∧ s = "ask")
  fnd : ¬ (ds.length = 1 ∧ s = "found")
  nob : ¬ (ds.length = 0 ∧ s = "nobody")
  py : ∀ θ : Th, toPy θ 66 (.tup (.str s :: ds)) = some (.tuple (.str s :: ps))
  sh : SeqAt.shaped (.tuple (.str s :: ps)) = true
  ln : ps.length = ds.length
  few : ds.length ≤ 1000
theorem if_and_no {a b : Prop} [Decidable a] [Decidable b] {X Y : Prop} (h : ¬ (a ∧ b)) (y : Y) : if decide a = true then (if decide b = true then X else Y) else (if false = true then X else Y) := by
  by_cases ha : a
  · rw [if_pos (decide_eq_true ha), if_neg (by rw [decide_eq_true_eq]; exact fun hb => h ⟨ha, hb⟩)]
    exact y
  · rw [if_neg (by rw [decide_eq_true_eq]; exact ha), if_neg Bool.false_ne_true]
    exact y
theorem NoT.judge {s : Str} {ds : List Dv} {ps : List PyData} (b : NoT s ds ps) : JBad h sk n top θ (.tup (.str s :: ds)) := by
  intro f jm q st E Q hst hj hQ
  have t1 : ∀ ds, tyD θ (.tup ds) = some "tuple" := fun _ => rfl
  have t2 : kitB "tuple" "tuple" = some true := by decide +kernel
  have e0 : atI (Dv.str s :: ds) 0 = some (.str s) := by
    show atI _ ((0 : Nat) : Int) = _
    exact at_nat rfl
  have few := b.few
  unfold Cm25.c_is_tree Cm25.m_is_tree
  simp only [mxDN, List.map_cons, List.map_nil, List.replicate, List.cons_append, List.nil_append, List.set_cons_zero, List.set_cons_succ, t1, t2]
  rw [if_neg (by decide), x_seqN]
  simp only [mxDN, List.map_cons, List.map_nil, List.replicate, List.cons_append, List.nil_append, List.set_cons_zero, List.set_cons_succ, e0]
  have ll : ((Dv.str s :: ds).length : Int) = (ds.length : Int) + 1 := by rw [List.length_cons]; omega
  refine if_and_no (fun z => b.ask ⟨by have := z.1; omega, z.2⟩) ?_
  rw [x_seqN]
  simp only [mxDN, List.map_cons, List.map_nil, List.replicate, List.cons_append, List.nil_append, List.set_cons_zero, List.set_cons_succ, e0]
  refine if_and_no (fun z => b.fnd ⟨by have := z.1; omega, z.2⟩) ?_
  rw [x_seqN]
  simp only [mxDN, List.map_cons, List.map_nil, List.replicate, List.cons_append, List.nil_append, List.set_cons_zero, List.set_cons_succ]
  refine ⟨one_line, ?_⟩
  have tn : toPy θ 66 (.tup [.str "nobody"]) = some (.tuple [.str "nobody"]) := rfl
  refine eqPy_of (E := E) (f := fun b => b) (b.py θ) tn b.sh (by decide +kernel) ?_
  have ev : PyData.eqv (.tuple (.str s :: ps)) (.tuple [.str "nobody"]) = false := by
    cases hp : ps with
    | nil =>
      have hl := b.ln
      rw [hp] at hl
      have ns : ¬ s = "nobody" := fun z => b.nob ⟨hl.symm, z⟩
      simp only [PyData.eqv, PyData.eqvAll, Bool.and_true]
      simpa using ns
    | cons p ps => simp [PyData.eqv, PyData.eqvAll]
  rw [ev, x_andK, if_neg Bool.false_ne_true]
  exact end_same (hQ θ .refl)
theorem NoT.law {s : Str} {ds : List Dv} {ps : List PyData} (b : NoT s ds ps) : LBad h sk n top θ (.tup (.str s :: ds)) := by
  intro f je q st E Q hst hn hj hQ
  have t1 : ∀ ds, tyD θ (.tup ds) = some "tuple" := fun _ => rfl
  have t2 : kitB "tuple" "tuple" = some true := by decide +kernel
  have e0 : atI (Dv.str s :: ds) 0 = some (.str s) := by
    show atI _ ((0 : Nat) : Int) = _
    exact at_nat rfl
  have few := b.few
  unfold Cm27.c__law_takes_tree Cm27.m__law_takes_tree
  simp only [mxDN, List.map_cons, List.map_nil, List.replicate, List.cons_append, List.nil_append, List.set_cons_zero, List.set_cons_succ, t1, t2]
  rw [if_neg (by decide), if_neg (by simp; omega), x_seqN]
  simp only [mxDN, List.map_cons, List.map_nil, List.replicate, List.cons_append, List.nil_append, List.set_cons_zero, List.set_cons_succ, e0]
  refine ⟨rfl, s_linsideX (by rw [hst.len]; exact hn) fun θ1 j1 e1 hj1 => ?_⟩
  rw [x_seqN]
  simp only [mxDN, List.map_cons, List.map_nil, List.replicate, List.cons_append, List.nil_append, List.set_cons_zero, List.set_cons_succ, e0]
  have ll : ((Dv.str s :: ds).length : Int) = (ds.length : Int) + 1 := by rw [List.length_cons]; omega
  by_cases sa : s = "ask"
  · rw [if_pos (decide_eq_true sa)]
    rw [if_pos (by rw [decide_eq_false (fun z => b.ask ⟨by omega, sa⟩)]; rfl), if_pos trivial]
    exact end_same (hQ _ e1)
  rw [if_neg (by rw [decide_eq_true_eq]; exact sa), x_seqN]
  simp only [mxDN, List.map_cons, List.map_nil, List.replicate, List.cons_append, List.nil_append, List.set_cons_zero, List.set_cons_succ, e0]
  by_cases l0 : ds.length = 0
  · rw [if_pos (decide_eq_true (by omega)), decide_eq_false (fun z => b.nob ⟨l0, z⟩), if_neg Bool.false_ne_true]
    exact end_same (hQ _ e1)
  rw [if_neg (by rw [decide_eq_true_eq]; omega), x_seqN]
  simp only [mxDN, List.map_cons, List.map_nil, List.replicate, List.cons_append, List.nil_append, List.set_cons_zero, List.set_cons_succ, e0]
  by_cases l1 : ds.length = 1
  · rw [if_pos (decide_eq_true (by omega)), decide_eq_false (fun z => b.fnd ⟨l1, z⟩), if_neg Bool.false_ne_true]
    exact end_same (hQ _ e1)
  rw [if_neg (by rw [decide_eq_true_eq]; omega)]
  exact end_same (hQ _ e1)
end Sp

/-! We9: trees with one part put wrong. -/
namespace Sp
open PySem PySem.Spec PyProof.Rows L2 Mn
variable {E : Exn → Th → Prop} {θ : Th} {Q : Dv → Th → Prop} {h : Hist} {sk : List Nat} {st : List Int} {n top : Nat}
/-- things that are no trees -/
inductive BadV (θ : Th) : Dv → Prop
  | non : BadV θ .non
  | str (s : Str) : BadV θ (.str s)
  | nil : BadV θ (.tup [])
  | lst (j : Nat) (ds : List Dv) (h2 : 2 ≤ j) (hj : θ[j]? = some (.lst ds)) : BadV θ (.obj j)
  | fndB : BadV θ (.tup [.str "found", .bl true])
  | askB (a b : Dv) : BadV θ (.tup [.str "ask", .bl true, a, b])
  | noT (s : Str) (ds : List Dv) (ps : List PyData) (b : NoT s ds ps) : BadV θ (.tup (.str s :: ds))
def XV (θ : Th) : XT → Prop
  | .ask _ a b => XV θ a ∧ XV θ b
  | .bad d => BadV θ d
  | _ => True
theorem XV.of : ∀ t : Tr, XV θ (ofT t)
  | .nob => trivial
  | .found _ => trivial
  | .ask m a b => ⟨XV.of a, XV.of b⟩
theorem bx_move {ds : List Int} {a a' j : Nat} {g g' : Th} {o : Ob} (h2 : 2 ≤ j) (h : (bx ds a ++ g)[j]? = some o) : (bx ds a' ++ (g ++ g'))[j]? = some o := by
  have l1 : (bx ds a).length = 2 := rfl
  have l2 : (bx ds a').length = 2 := rfl
  rw [List.getElem?_append_right (by omega)] at h ⊢
  rw [l1] at h
  rw [l2]
  exact th_left h
theorem BadV.move {ds : List Int} {a a' : Nat} {g g' : Th} {d : Dv} (b : BadV (bx ds a ++ g) d) : BadV (bx ds a' ++ (g ++ g')) d := by
  cases b with
  | non => exact .non
  | str s => exact .str s
  | nil => exact .nil
  | lst j ds h2 hj => exact .lst j ds h2 (bx_move h2 hj)
  | fndB => exact .fndB
  | askB a b => exact .askB a b
  | noT s ds ps b => exact .noT s ds ps b
theorem XV.move {ds : List Int} {a a' : Nat} {g g' : Th} : ∀ {x : XT}, XV (bx ds a ++ g) x → XV (bx ds a' ++ (g ++ g')) x
  | .nob, _ => trivial
  | .fnd _, _ => trivial
  | .ask m a b, v => ⟨XV.move v.1, XV.move v.2⟩
  | .bad d, v => BadV.move v
theorem XV.ext {θ' : Th} (e : Ext θ θ') : ∀ {x : XT}, XV θ x → XV θ' x
  | .nob, _ => trivial
  | .fnd _, _ => trivial
  | .ask m a b, v => ⟨XV.ext e v.1, XV.ext e v.2⟩
  | .bad d, v => by
    cases v with
    | non => exact BadV.non
    | str s => exact BadV.str s
    | nil => exact BadV.nil
    | lst j ds h2 hj => exact BadV.lst j ds h2 (e.at hj)
    | fndB => exact BadV.fndB
    | askB a b => exact BadV.askB a b
    | noT s ds ps b => exact BadV.noT s ds ps b
/-- d is a thing to try: as deep as a tree t and one more -/
def PT (ds : List Int) (t : Tr) (G : Th) (d : Dv) : Prop := ∃ x, d = xD x ∧ xdp x ≤ dp t + 1 ∧ ∀ a' g', XV (bx ds a' ++ (G ++ g')) x
theorem PT.grow {ds : List Int} {t : Tr} {G G' : Th} {d : Dv} (p : PT ds t G d) : PT ds t (G ++ G') d := by
  obtain ⟨x, h1, h2, h3⟩ := p
  exact ⟨x, h1, h2, fun a' g' => by rw [List.append_assoc]; exact h3 a' _⟩
theorem PT.good {ds : List Int} {t : Tr} {G : Th} {x : XT} {d : Dv} (e : d = xD x) (h : xdp x ≤ dp t + 1) (v : ∀ θ, XV θ x) : PT ds t G d := ⟨x, e, h, fun _ _ => v _⟩
theorem PT.bad {ds : List Int} {t : Tr} {G : Th} {d : Dv} (v : ∀ θ, BadV θ d) : PT ds t G d := ⟨.bad d, rfl, Nat.zero_le _, fun _ _ => v _⟩
theorem sz {l : List Dv} (h : l.length ≤ 40) : l.length ≤ sizeLine := by rw [sizeLine_eq]; omega
end Sp

/-! Wf1: tables that may be spoilt: what the judge says. -/
namespace Sp
open PySem PySem.Spec PyProof.Rows L2 Mn
variable {E : Exn → Th → Prop} {θ : Th} {Q : Dv → Th → Prop} {h : Hist} {sk : List Nat} {st : List Int}
/-- an item of a table that may be spoilt -/
inductive RowX where
  | row (p : Int) (s : List Int) | bad (d : Dv)
def riD : RowX → Dv
  | .row p s => .tup [.int p, .tup (id_ s)]
  | .bad d => d
/-- items that are no rows -/
inductive BadI (θ : Th) : Dv → Prop
  | int (i : Int) : BadI θ (.int i)
  | three (q : Int) (s : List Int) : BadI θ (.tup [.int q, .tup (id_ s), .int 0])
  | lstS (q : Int) (j : Nat) (ds : List Dv) (h2 : 2 ≤ j) (hj : θ[j]? = some (.lst ds)) : BadI θ (.tup [.int q, .obj j])
  | yes (s : List Int) : BadI θ (.tup [.bl true, .tup (id_ s)])
  | yesS (q : Int) (s : List Int) (hl : s.length ≤ 900) : BadI θ (.tup [.int q, .tup (.bl true :: id_ s)])
  | lst (j : Nat) (ds : List Dv) (h2 : 2 ≤ j) (hj : θ[j]? = some (.lst ds)) : BadI θ (.obj j)
def IV (θ : Th) : RowX → Prop
  | .row _ s => s.length ≤ 1000
  | .bad d => BadI θ d
theorem BadI.ext {θ' : Th} {d : Dv} (e : Ext θ θ') (b : BadI θ d) : BadI θ' d := by
  cases b with
  | int i => exact .int i
  | three q s => exact .three q s
  | lstS q j ds h2 hj => exact .lstS q j ds h2 (e.at hj)
  | yes s => exact .yes s
  | yesS q s hl => exact .yesS q s hl
  | lst j ds h2 hj => exact .lst j ds h2 (e.at hj)
theorem IV.ext {θ' : Th} {r : RowX} (e : Ext θ θ') (v : IV θ r) : IV θ' r := by
  cases r with
  | row p s => exact v
  | bad d => exact BadI.ext e v
theorem BadI.move {ds : List Int} {a a' : Nat} {g g' : Th} {d : Dv} (b : BadI (bx ds a ++ g) d) : BadI (bx ds a' ++ (g ++ g')) d := by
  cases b with
  | int i => exact .int i
  | three q s => exact .three q s
  | lstS q j ds h2 hj => exact .lstS q j ds h2 (bx_move h2 hj)
  | yes s => exact .yes s
  | yesS q s hl => exact .yesS q s hl
  | lst j ds h2 hj => exact .lst j ds h2 (bx_move h2 hj)
abbrev txD (I : List RowX) : Dv := .tup (I.map riD)
end Sp

/-! Wf2: tables that may be spoilt: what the law says; what is no tuple. -/
namespace Sp
open PySem PySem.Spec PyProof.Rows L2 Mn
variable {E : Exn → Th → Prop} {θ : Th} {Q : Dv → Th → Prop} {h : Hist} {sk : List Nat} {st : List Int}
end Sp

/-! Wf3: tables that are no tuple; tables with one row put wrong. -/
namespace Sp
open PySem PySem.Spec PyProof.Rows L2 Mn
variable {E : Exn → Th → Prop} {θ : Th} {Q : Dv → Th → Prop} {h : Hist} {sk : List Nat} {st : List Int}
/-- what a table put wrong is -/
inductive TV (θ : Th) : Dv → Prop
  | tab (I : List RowX) (v : ∀ r ∈ I, IV θ r) (few : I.length < 1000000) : TV θ (txD I)
  | non : TV θ .non
  | lst (j : Nat) (ds : List Dv) (h2 : 2 ≤ j) (hj : θ[j]? = some (.lst ds)) : TV θ (.obj j)
theorem IV.move {ds : List Int} {a a' : Nat} {g g' : Th} {r : RowX} (v : IV (bx ds a ++ g) r) : IV (bx ds a' ++ (g ++ g')) r := by
  cases r with
  | row p s => exact v
  | bad d => exact BadI.move v
theorem TV.move {ds : List Int} {a a' : Nat} {g g' : Th} {d : Dv} (t : TV (bx ds a ++ g) d) : TV (bx ds a' ++ (g ++ g')) d := by
  cases t with
  | tab I v few => exact .tab I (fun r hr => (v r hr).move) few
  | non => exact .non
  | lst j ds h2 hj => exact .lst j ds h2 (bx_move h2 hj)
theorem TV.ext {θ' : Th} {d : Dv} (e : Ext θ θ') (t : TV θ d) : TV θ' d := by
  cases t with
  | tab I v few => exact .tab I (fun r hr => (v r hr).ext e) few
  | non => exact .non
  | lst j ds h2 hj => exact .lst j ds h2 (e.at hj)
theorem lst_set {k j : Nat} {R R' ds : List Dv} (hk : θ[k]? = some (.lst R)) (hj : θ[j]? = some (.lst ds)) : ∃ ds', (θ.set k (.lst R'))[j]? = some (.lst ds') := by
  by_cases e : k = j
  · subst e
    exact ⟨R', by rw [List.getElem?_set_self (List.getElem?_eq_some_iff.mp hk).1]⟩
  · exact ⟨ds, by rw [List.getElem?_set_ne e]; exact hj⟩
theorem BadI.set {k : Nat} {R R' : List Dv} {d : Dv} (hk : θ[k]? = some (.lst R)) (b : BadI θ d) : BadI (θ.set k (.lst R')) d := by
  cases b with
  | int i => exact .int i
  | three q s => exact .three q s
  | lstS q j ds h2 hj => obtain ⟨ds', e⟩ := lst_set (R' := R') hk hj; exact .lstS q j ds' h2 e
  | yes s => exact .yes s
  | yesS q s hl => exact .yesS q s hl
  | lst j ds h2 hj => obtain ⟨ds', e⟩ := lst_set (R' := R') hk hj; exact .lst j ds' h2 e
theorem IV.set {k : Nat} {R R' : List Dv} {r : RowX} (hk : θ[k]? = some (.lst R)) (v : IV θ r) : IV (θ.set k (.lst R')) r := by
  cases r with
  | row p s => exact v
  | bad d => exact BadI.set hk v
theorem TV.set {k : Nat} {R R' : List Dv} {d : Dv} (hk : θ[k]? = some (.lst R)) (t : TV θ d) : TV (θ.set k (.lst R')) d := by
  cases t with
  | tab I v few => exact .tab I (fun r hr => (v r hr).set hk) few
  | non => exact .non
  | lst j ds h2 hj => obtain ⟨ds', e⟩ := lst_set (R' := R') hk hj; exact .lst j ds' h2 e
/-- rows that stand as they are -/
def gI (T : List Rw) : List RowX := T.map fun x => .row (x.1 : Nat) x.2
theorem gI_D (T : List Rw) : (gI T).map riD = T.map rwD := by
  unfold gI
  rw [List.map_map]
  rfl
theorem gI_V {T : List Rw} (hT : ∀ x ∈ T, x.2.length ≤ 1000) : ∀ r ∈ gI T, IV θ r := fun r hr => by
  obtain ⟨x, hx, rfl⟩ := List.mem_map.mp hr
  exact hT x hx
theorem TV.good {T : List Rw} (few : T.length < 1000000) (hT : ∀ x ∈ T, x.2.length ≤ 1000) : TV θ (tbD T) := by
  have := TV.tab (θ := θ) (gI T) (gI_V hT) (by unfold gI; rw [List.length_map]; exact few)
  unfold txD at this
  rw [gI_D] at this
  exact this
/-- what is known of the table, the row and its parts -/
structure Fx (T : List Rw) (i q : Nat) (s : List Int) (Rs : List Rw) (low : List Int) : Prop where
  few : T.length < 800000
  hT : ∀ x ∈ T, x.2.length ≤ 900
  hi : i < T.length
  hx : T[i]? = some (q, s)
  hs : s.length ≤ 900
  s0 : 0 < s.length
  fR : Rs.length < 800000
  gR : ∀ x ∈ Rs, x ∈ T
  lw : low.length ≤ 900
end Sp

/-! Xa1: counts of patches: the maths of k18. -/
namespace Sp
open PySem PySem.Spec PyProof.Rows L2 Mn
/-- how many stay -/
def stay (b : Bool) (c t : Nat) : Nat := if b then t else c - t
def aft (b : Bool) : Nat → List Nat → List Nat → List Nat
  | m, c :: cs, t :: ts => (stay b c t + m) :: aft b (c - stay b c t) cs ts
  | _, _, _ => []
inductive LeL : List Nat → List Nat → Prop
  | nil : LeL [] []
  | cons {t c : Nat} {ts cs : List Nat} : t ≤ c → LeL ts cs → LeL (t :: ts) (c :: cs)
theorem LeL.len {t c : List Nat} (h : LeL t c) : t.length = c.length := by
  induction h with
  | nil => rfl
  | cons _ _ ih => rw [List.length_cons, List.length_cons, ih]
theorem stay_le {b : Bool} {c t : Nat} (h : t ≤ c) : stay b c t ≤ c := by
  unfold stay
  split <;> omega
theorem aft_len {b : Bool} : ∀ {c t : List Nat} {m : Nat}, LeL t c → (aft b m c t).length = c.length
  | [], [], m, _ => rfl
  | c :: cs, t :: ts, m, .cons h hs => by
    unfold aft
    rw [List.length_cons, List.length_cons, aft_len hs]
def phi : List Nat → Nat
  | [] => 0
  | c :: cs => c * (cs.length + 1) + phi cs
/-- how many move -/
def mov (b : Bool) (c t : List Nat) : Nat := if b then c.sum - t.sum else t.sum
theorem LeL.sum {t c : List Nat} (h : LeL t c) : t.sum ≤ c.sum := by
  induction h with
  | nil => exact Nat.le_refl _
  | cons h _ ih => simp only [List.sum_cons]; omega
theorem phi_aft {b : Bool} : ∀ {c t : List Nat} {m : Nat}, LeL t c → phi (aft b m c t) + mov b c t = phi c + m * c.length
  | [], [], m, _ => by cases b <;> rfl
  | c :: cs, t :: ts, m, .cons h hs => by
    have ih := phi_aft (b := b) (m := c - stay b c t) hs
    have hl := aft_len (b := b) (m := c - stay b c t) hs
    have hsum := hs.sum
    unfold aft phi
    rw [hl, List.length_cons]
    have e1 : mov b (c :: cs) (t :: ts) = (c - stay b c t) + mov b cs ts := by
      unfold mov stay
      simp only [List.sum_cons]
      cases b <;> simp <;> omega
    rw [e1]
    have hst := stay_le (b := b) h
    generalize stay b c t = st at *
    generalize phi (aft b (c - st) cs ts) = A at *
    obtain ⟨d, rfl⟩ : ∃ d, c = st + d := ⟨c - st, by omega⟩
    rw [Nat.add_sub_cancel_left] at *
    have e2 : (st + m) * (cs.length + 1) + d * (cs.length + 1) = (st + d) * (cs.length + 1) + m * (cs.length + 1) := by
      rw [← Nat.add_mul, ← Nat.add_mul]
      congr 1
      omega
    have e3 : d * (cs.length + 1) = d * cs.length + d := Nat.mul_succ _ _
    omega
theorem sum_aft {b : Bool} : ∀ {c t : List Nat} {m : Nat}, LeL t c → (aft b m c t).sum ≤ c.sum + m
  | [], [], m, _ => Nat.zero_le _
  | c :: cs, t :: ts, m, .cons h hs => by
    have ih := sum_aft (b := b) (m := c - stay b c t) hs
    have hst := stay_le (b := b) h
    unfold aft
    simp only [List.sum_cons]
    omega
/-- all tests -/
def tstF (rows : List (List Nat)) (c : Nat) : List (List Nat) := rows.flatMap fun r => (List.range (c + 1)).map fun k => r ++ [k]
def tst (c : List Nat) : List (List Nat) := c.foldl tstF [[]]
theorem mem_tstF {rows : List (List Nat)} {c : Nat} {r : List Nat} : r ∈ tstF rows c ↔ ∃ p ∈ rows, ∃ k, k ≤ c ∧ r = p ++ [k] := by
  unfold tstF
  simp only [List.mem_flatMap, List.mem_map, List.mem_range]
  constructor
  · rintro ⟨p, hp, k, hk, rfl⟩
    exact ⟨p, hp, k, by omega, rfl⟩
  · rintro ⟨p, hp, k, hk, rfl⟩
    exact ⟨p, hp, k, by omega, rfl⟩
theorem mem_tstG {c : List Nat} : ∀ {rows : List (List Nat)} {r : List Nat}, r ∈ c.foldl tstF rows ↔ ∃ p ∈ rows, ∃ s, LeL s c ∧ r = p ++ s := by
  induction c with
  | nil =>
    intro rows r
    constructor
    · exact fun h => ⟨r, h, [], .nil, (List.append_nil r).symm⟩
    · rintro ⟨p, hp, s, hs, rfl⟩
      cases hs
      simpa using hp
  | cons c cs ih =>
    intro rows r
    rw [List.foldl_cons, ih]
    constructor
    · rintro ⟨p, hp, s, hs, rfl⟩
      obtain ⟨p', hp', k, hk, rfl⟩ := mem_tstF.mp hp
      exact ⟨p', hp', k :: s, .cons hk hs, by simp⟩
    · rintro ⟨p, hp, s, hs, rfl⟩
      cases hs with
      | cons hk hs => exact ⟨p ++ [_], mem_tstF.mpr ⟨p, hp, _, hk, rfl⟩, _, hs, by simp⟩
theorem mem_tst {c r : List Nat} : r ∈ tst c ↔ LeL r c := by
  unfold tst
  rw [mem_tstG]
  constructor
  · rintro ⟨p, hp, s, hs, rfl⟩
    rw [List.mem_singleton] at hp
    subst hp
    exact hs
  · exact fun h => ⟨[], by simp, r, h, rfl⟩
def tells (c : List Nat) : List (List Nat) := (tst c).filter fun t => decide (0 < t.sum ∧ t.sum < c.sum)
theorem mem_tells {c t : List Nat} : t ∈ tells c ↔ LeL t c ∧ 0 < t.sum ∧ t.sum < c.sum := by
  unfold tells
  rw [List.mem_filter, mem_tst, decide_eq_true_eq]
theorem phi_lt {b : Bool} {c t : List Nat} (h : t ∈ tells c) : phi (aft b 0 c t) < phi c := by
  obtain ⟨h1, h2, h3⟩ := mem_tells.mp h
  have := phi_aft (b := b) (m := 0) h1
  have hm : 0 < mov b c t := by
    unfold mov
    split <;> omega
  omega
/-- a test of one patch -/
def one1 : List Nat → List Nat
  | [] => []
  | 0 :: cs => 0 :: one1 cs
  | _ :: cs => 1 :: cs.map fun _ => 0
theorem le0 : ∀ cs : List Nat, LeL (cs.map fun _ => 0) cs
  | [] => .nil
  | _ :: cs => .cons (Nat.zero_le _) (le0 cs)
theorem sum0 : ∀ cs : List Nat, (cs.map fun _ => 0).sum = 0
  | [] => rfl
  | _ :: cs => by rw [List.map_cons, List.sum_cons, sum0 cs]
theorem one1_ok : ∀ {c : List Nat}, 0 < c.sum → LeL (one1 c) c ∧ (one1 c).sum = 1
  | [], h => by simp at h
  | 0 :: cs, h => by
    have ih := one1_ok (c := cs) (by simpa using h)
    exact ⟨.cons (Nat.le_refl 0) ih.1, by rw [one1, List.sum_cons, ih.2]⟩
  | (c + 1) :: cs, h => ⟨.cons (by omega) (le0 cs), by rw [one1, List.sum_cons, sum0] ; simp⟩
theorem tells_ne {c : List Nat} (h : 2 ≤ c.sum) : one1 c ∈ tells c := by
  obtain ⟨h1, h2⟩ := one1_ok (c := c) (by omega)
  exact mem_tells.mpr ⟨h1, by omega, by omega⟩
/-- the least of a list that has something -/
def minN : List Nat → Nat
  | [] => 0
  | [x] => x
  | x :: y :: r => min x (minN (y :: r))
theorem minN_le : ∀ {l : List Nat} {q : Nat}, l ≠ [] → (minN l ≤ q ↔ ∃ x ∈ l, x ≤ q)
  | [x], q, _ => by simp [minN]
  | x :: y :: r, q, _ => by
    have ih := minN_le (l := y :: r) (q := q) (by simp)
    unfold minN
    rw [show (min x (minN (y :: r)) ≤ q) ↔ (x ≤ q ∨ minN (y :: r) ≤ q) by omega, ih]
    constructor
    · rintro (h | ⟨z, hz, h⟩)
      · exact ⟨x, .head _, h⟩
      · exact ⟨z, .tail _ hz, h⟩
    · rintro ⟨z, hz, h⟩
      cases hz with
      | head => exact .inl h
      | tail _ hz => exact .inr ⟨z, hz, h⟩
def nfF : Nat → List Nat → Nat
  | 0, _ => 0
  | f + 1, c => if c.sum ≤ 1 then 0 else 1 + minN ((tells c).map fun t => max (nfF f (aft true 0 c t)) (nfF f (aft false 0 c t)))
theorem nf_same : ∀ {f f' : Nat} {c : List Nat}, phi c < f → phi c < f' → nfF f c = nfF f' c
  | 0, _, _, h, _ => by omega
  | _ + 1, 0, _, _, h => by omega
  | f + 1, f' + 1, c, h, h' => by
    unfold nfF
    split
    · rfl
    · congr 2
      refine List.map_congr_left fun t ht => ?_
      have h1 := phi_lt (b := true) ht
      have h2 := phi_lt (b := false) ht
      rw [nf_same (f := f) (f' := f') (by omega) (by omega), nf_same (f := f) (f' := f') (c := aft false 0 c t) (by omega) (by omega)]
/-- the fewest tests -/
def nN (c : List Nat) : Nat := nfF (phi c + 1) c
theorem nN_0 {c : List Nat} (h : c.sum ≤ 1) : nN c = 0 := by
  unfold nN nfF
  rw [if_pos h]
theorem nN_s {c : List Nat} (h : 2 ≤ c.sum) : nN c = 1 + minN ((tells c).map fun t => max (nN (aft true 0 c t)) (nN (aft false 0 c t))) := by
  unfold nN
  rw [nfF, if_neg (by omega)]
  congr 2
  refine List.map_congr_left fun t ht => ?_
  have h1 := phi_lt (b := true) ht
  have h2 := phi_lt (b := false) ht
  rw [nf_same (f := phi c) (f' := phi (aft true 0 c t) + 1) (by omega) (by omega), nf_same (f := phi c) (f' := phi (aft false 0 c t) + 1) (c := aft false 0 c t) (by omega) (by omega)]
theorem tells_map {c : List Nat} {f : List Nat → Nat} (h : 2 ≤ c.sum) : (tells c).map f ≠ [] := fun e => by
  rw [List.map_eq_nil_iff] at e
  have := tells_ne h
  rw [e] at this
  cases this
theorem nN_le {c : List Nat} {q : Nat} (h : 2 ≤ c.sum) : nN c ≤ q + 1 ↔ ∃ t ∈ tells c, nN (aft true 0 c t) ≤ q ∧ nN (aft false 0 c t) ≤ q := by
  rw [nN_s h]
  rw [show (1 + minN ((tells c).map fun t => max (nN (aft true 0 c t)) (nN (aft false 0 c t))) ≤ q + 1) ↔ minN ((tells c).map fun t => max (nN (aft true 0 c t)) (nN (aft false 0 c t))) ≤ q by omega, minN_le (tells_map h)]
  constructor
  · rintro ⟨x, hx, hq⟩
    obtain ⟨t, ht, rfl⟩ := List.mem_map.mp hx
    exact ⟨t, ht, by omega, by omega⟩
  · rintro ⟨t, ht, h1, h2⟩
    exact ⟨_, List.mem_map.mpr ⟨t, ht, rfl⟩, by omega⟩
theorem nN_phi : ∀ (k : Nat) {c : List Nat}, phi c ≤ k → nN c ≤ phi c
  | k, c, h => by
    by_cases h2 : 2 ≤ c.sum
    · have ht := tells_ne h2
      have h3 := phi_lt (b := true) ht
      have h4 := phi_lt (b := false) ht
      match k, h with
      | 0, h => omega
      | k + 1, h =>
        have i1 := nN_phi k (c := aft true 0 c (one1 c)) (by omega)
        have i2 := nN_phi k (c := aft false 0 c (one1 c)) (by omega)
        have := (nN_le (q := phi c - 1) h2).mpr ⟨_, ht, by omega, by omega⟩
        omega
    · rw [nN_0 (by omega)]
      exact Nat.zero_le _
/-- what the law's search finds -/
theorem nN_pos {c : List Nat} (h : 2 ≤ c.sum) : 1 ≤ nN c := by
  rw [nN_s h]
  omega
/-! ### lists that are not too long -/
structure CK (c : List Nat) : Prop where
  sz : c.sum ≤ 12 ∨ (c.length = 1 ∧ c.sum ≤ 24)
  len : c.length ≤ 24
theorem CK.aft {b : Bool} {c t : List Nat} (h : CK c) (ht : LeL t c) : CK (aft b 0 c t) := by
  have h1 := sum_aft (b := b) (m := 0) ht
  have h2 := aft_len (b := b) (m := 0) ht
  exact ⟨by have := h.sz; omega, by have := h.len; omega⟩
theorem tstF_len {rows : List (List Nat)} {c : Nat} : (tstF rows c).length = rows.length * (c + 1) := by
  unfold tstF
  induction rows with
  | nil => simp
  | cons r rows ih =>
    rw [List.flatMap_cons, List.length_append, ih, List.length_map, List.length_range, List.length_cons, Nat.add_mul]
    omega
theorem tst_pow : ∀ (c : List Nat) (rows : List (List Nat)), (c.foldl tstF rows).length ≤ rows.length * 2 ^ c.sum
  | [], rows => by simp
  | c :: cs, rows => by
    rw [List.foldl_cons]
    have ih := tst_pow cs (tstF rows c)
    rw [tstF_len] at ih
    rw [List.sum_cons, Nat.pow_add]
    have h1 : c + 1 ≤ 2 ^ c := Nat.lt_two_pow_self
    have h2 := Nat.mul_le_mul (Nat.mul_le_mul (Nat.le_refl rows.length) h1) (Nat.le_refl (2 ^ cs.sum))
    rw [Nat.mul_assoc rows.length (2 ^ c)] at h2
    omega
theorem CK.few {c : List Nat} (h : CK c) (i : Nat) : ((c.take i).foldl tstF [[]]).length ≤ 5000 := by
  rcases h.sz with h1 | ⟨h1, h2⟩
  · have h3 := tst_pow (c.take i) [[]]
    have h4 : (c.take i).sum ≤ 12 := by
      have e := congrArg List.sum (List.take_append_drop i c)
      rw [List.sum_append] at e
      omega
    have h5 := Nat.pow_le_pow_right (n := 2) (by omega) h4
    have e1 : ([[]] : List (List Nat)).length = 1 := rfl
    rw [e1] at h3
    omega
  · match c, h1 with
    | [x], _ =>
      have : x ≤ 24 := by simpa using h2
      match i with
      | 0 => simp
      | i + 1 =>
        rw [List.take_succ_cons, List.take_nil, List.foldl_cons, List.foldl_nil, tstF_len]
        simp
        omega
end Sp

/-! Xa2: counts behind an answer, by the program and by the law. -/
namespace Sp
open PySem PySem.Spec PyProof.Rows L2 Mn
variable {E : Exn → Th → Prop} {θ : Th} {Q : Dv → Th → Prop}
theorem srcZg {s t : Sd} {as bs : List Dv} (hs : ∀ θ', Ext θ θ' → s.items θ' = some as) (ht : ∀ θ', Ext θ θ' → t.items θ' = some bs) : SrcIs (.zp s t) θ ((as.zip bs).map fun x => .tup [x.1, x.2]) := fun θ' e i hi => by
  rw [List.length_map, List.length_zip] at hi
  simp only [Src.at, hs θ' e, ht θ' e, zpAt]
  by_cases c : i < min as.length bs.length
  · have c1 : i < as.length := by omega
    have c2 : i < bs.length := by omega
    rw [if_pos c, List.getElem?_eq_getElem c1, List.getElem?_eq_getElem c2, List.getElem?_map, List.getElem?_eq_getElem (by rw [List.length_zip]; omega), List.getElem_zip]
    rfl
  · rw [if_neg c, if_pos (by omega), List.getElem?_eq_none (by rw [List.length_map, List.length_zip]; omega)]
theorem itT {ds : List Dv} : ∀ θ', Ext θ θ' → (Sd.T ds).items θ' = some ds := fun _ _ => rfl
theorem itL {k : Nat} {ds : List Dv} (h : θ[k]? = some (.lst ds)) : ∀ θ', Ext θ θ' → (Sd.L k).items θ' = some ds := fun θ' e => by
  have := e.at h
  simp only [Sd.items, lstAt, this]
theorem zip_nd (c t : List Nat) : ((nd c).zip (nd t)).map (fun x => Dv.tup [x.1, x.2]) = (c.zip t).map fun p => .tup [.int (p.1 : Nat), .int (p.2 : Nat)] := by
  unfold nd
  rw [List.zip_map, List.map_map]
  rfl
theorem aft_zip {b : Bool} : ∀ {c t : List Nat} {m : Nat}, LeL t c →
    (((c.zip t).map fun p => stay b p.1 p.2).zip (m :: (c.zip ((c.zip t).map fun p => stay b p.1 p.2)).map fun p => p.1 - p.2)).map (fun p => p.1 + p.2) = aft b m c t
  | [], [], m, _ => rfl
  | c :: cs, t :: ts, m, .cons h hs => by
    unfold aft
    rw [← aft_zip (m := c - stay b c t) hs]
    rfl
theorem LeL.mem {t c : List Nat} (h : LeL t c) : ∀ p ∈ c.zip t, p.2 ≤ p.1 := by
  induction h with
  | nil => intro p hp; cases hp
  | cons h _ ih =>
    intro p hp
    rw [List.zip_cons_cons] at hp
    cases hp with
    | head => exact h
    | tail _ hp => exact ih p hp
theorem low_nd {l : List Nat} : ∀ n, (Dv.tup (nd l)).low n = true := fun n => by
  unfold nd
  induction l with
  | nil => rfl
  | cons x l ih => exact ih
theorem zk_TL {as bs : List Dv} {k : Nat} {R : Src → Th → Prop} (hk : θ[k]? = some (.lst bs)) (h : R (.zp (.T as) (.L k)) θ) : zk [.tup as, .obj k] E θ R := by
  show (match θ[k]? with
    | some (.lst _) => R (.zp (.T as) (.L k)) θ
    | _ => False)
  rw [hk]
  exact h
theorem zk_LL {as bs : List Dv} {k l : Nat} {R : Src → Th → Prop} (hk : θ[k]? = some (.lst as)) (hl : θ[l]? = some (.lst bs)) (h : R (.zp (.L k) (.L l)) θ) : zk [.obj k, .obj l] E θ R := by
  show (match θ[k]? with
    | some (.lst _) => (match θ[l]? with
      | some (.lst _) => R (.zp (.L k) (.L l)) θ
      | _ => False)
    | _ => False)
  rw [hk]
  show (match θ[l]? with
      | some (.lst _) => R (.zp (.L k) (.L l)) θ
      | _ => False)
  rw [hl]
  exact h
theorem s_cafter {b : Bool} {c t : List Nat} (h : LeL t c) (hl : c.length ≤ 1000) (hQ : Q (.tup (nd (aft b 0 c t))) θ) : Cm28.c_counts_after [.tup (nd c), .tup (nd t), .bl b] E θ Q := by
  unfold Cm28.c_counts_after Cm28.m_counts_after
  have lt := h.len
  have lz : (c.zip t).length = c.length := by rw [List.length_zip]; omega
  simp only [mxDN, List.map_cons, List.map_nil, List.replicate, List.cons_append, List.nil_append, List.set_cons_zero, List.set_cons_succ, wipeE, x_srcZp]
  refine lc_all1 (c.zip t) (fun p => .tup [.int (p.1 : Nat), .int (p.2 : Nat)]) (fun p => .int (stay b p.1 p.2 : Nat)) (lt_line (by omega)) (zip_nd c t ▸ srcZg itT itT) ?_ ?_
  · intro p hp θ' e
    refine ⟨_, rfl, fun K2 h2 => ?_⟩
    have := h.mem p hp
    simp only [mxDN, List.map_cons, List.map_nil, List.replicate, List.cons_append, List.nil_append, List.set_cons_zero, List.set_cons_succ, x_if]
    unfold stay at h2
    cases b with
    | true => exact h2 _ .refl
    | false =>
      rw [if_neg Bool.false_ne_true] at h2 ⊢
      have := h2 _ .refl
      rw [show (((p.1 - p.2 : Nat) : Nat) : Int) = (p.1 : Int) - (p.2 : Int) by omega] at this
      exact this
  intro θ1 e1 h1
  have es : ((c.zip t).map fun p => Dv.int (stay b p.1 p.2 : Nat)) = nd ((c.zip t).map fun p => stay b p.1 p.2) := by unfold nd; rw [List.map_map]; rfl
  rw [es] at h1
  have le1 : ∀ p ∈ c.zip ((c.zip t).map fun p => stay b p.1 p.2), p.2 ≤ p.1 := by
    clear h1 es lz hl lt hQ
    induction h with
    | nil => intro p hp; cases hp
    | cons h hs ih =>
      intro p hp
      rw [List.zip_cons_cons, List.map_cons, List.zip_cons_cons] at hp
      cases hp with
      | head => exact stay_le h
      | tail _ hp => exact ih p hp
  have ez := aft_zip (b := b) (m := 0) h
  have ls : ((c.zip t).map fun p => stay b p.1 p.2).length = c.length := by rw [List.length_map, lz]
  generalize ((c.zip t).map fun p => stay b p.1 p.2) = S at h1 le1 ez ls
  have lz2 : (c.zip S).length = c.length := by rw [List.length_zip]; omega
  rw [x_seqN]
  simp only [mxDN, List.map_cons, List.map_nil, List.replicate, List.cons_append, List.nil_append, List.set_cons_zero, List.set_cons_succ, wipeE, x_srcZp]
  refine zk_TL h1 ?_
  refine lc_all1 (c.zip S) (fun p => .tup [.int (p.1 : Nat), .int (p.2 : Nat)]) (fun p => .int (p.1 - p.2 : Nat)) (lt_line (by omega)) (zip_nd c S ▸ srcZg itT (itL h1)) ?_ ?_
  · intro p hp θ' e
    refine ⟨_, rfl, fun K2 h2 => ?_⟩
    have hle := le1 p hp
    simp only [mxDN, List.map_cons, List.map_nil, List.replicate, List.cons_append, List.nil_append, List.set_cons_zero, List.set_cons_succ]
    have := h2 _ .refl
    rw [show (((p.1 - p.2 : Nat) : Nat) : Int) = (p.1 : Int) - (p.2 : Int) by omega] at this
    exact this
  intro θ2 e2 h2
  have es2 : ((c.zip S).map fun p => Dv.int (p.1 - p.2 : Nat)) = nd ((c.zip S).map fun p => p.1 - p.2) := by unfold nd; rw [List.map_map]; rfl
  rw [es2] at h2
  have lM : ((c.zip S).map fun p => p.1 - p.2).length = c.length := by rw [List.length_map, lz2]
  generalize ((c.zip S).map fun p => p.1 - p.2) = M at h2 ez lM
  rw [x_seqN]
  simp only [mxDN, List.map_cons, List.map_nil, List.replicate, List.cons_append, List.nil_append, List.set_cons_zero, List.set_cons_succ, wipeE, x_srcZp]
  refine x_starL (k := θ1.length) rfl h2 ?_
  simp only [mxDN, List.map_cons, List.map_nil, List.replicate, List.cons_append, List.nil_append, List.set_cons_zero, List.set_cons_succ]
  have eM : Dv.int 0 :: (nd M ++ []) = nd (0 :: M) := by rw [List.append_nil]; rfl
  rw [eM]
  have l0 : (nd (0 :: M)).length = M.length + 1 := by unfold nd; rw [List.length_map]; rfl
  refine ⟨by rw [sizeLine_eq]; omega, ?_⟩
  have hS : (θ2 ++ [Ob.lst (nd (0 :: M))])[θ.length]? = some (.lst (nd S)) := th_left (e2.at h1)
  refine zk_LL hS th_last ?_
  have hZ : (S.zip (0 :: M)).length = c.length := by rw [List.length_zip, List.length_cons]; omega
  refine lc_all1 (S.zip (0 :: M)) (fun p => .tup [.int (p.1 : Nat), .int (p.2 : Nat)]) (fun p => .int (p.1 + p.2 : Nat)) (lt_line (by omega)) (zip_nd S (0 :: M) ▸ srcZg (itL hS) (itL th_last)) ?_ ?_
  · intro p hp θ' e
    refine ⟨_, rfl, fun K2 h2 => ?_⟩
    simp only [mxDN, List.map_cons, List.map_nil, List.replicate, List.cons_append, List.nil_append, List.set_cons_zero, List.set_cons_succ]
    exact h2 _ .refl
  intro θ3 e3 h3
  have es3 : ((S.zip (0 :: M)).map fun p => Dv.int (p.1 + p.2 : Nat)) = nd ((S.zip (0 :: M)).map fun p => p.1 + p.2) := by unfold nd; rw [List.map_map]; rfl
  rw [es3, ez] at h3
  generalize (θ2 ++ [Ob.lst (nd (0 :: M))]).length = ix at h3 ⊢
  simp only [mxDN, List.map_cons, List.map_nil, List.replicate, List.cons_append, List.nil_append, List.set_cons_zero, List.set_cons_succ, h3]
  exact end_ext hQ (((e1.trans e2).trans .app).trans e3) low_nd
/-! ### by real patches -/
def pat (b : Bool) : Nat → List Nat → List Nat → List Nat
  | i, c :: cs, t :: ts => ((List.range c).map fun j => i + if decide (j < t) = b then 0 else 1) ++ pat b (i + 1) cs ts
  | _, _, _ => []
theorem pat_cons {b : Bool} {i c t : Nat} {cs ts : List Nat} : pat b i (c :: cs) (t :: ts) = ((List.range c).map fun j => i + if decide (j < t) = b then 0 else 1) ++ pat b (i + 1) cs ts := by rw [pat]
theorem pat_lt {b : Bool} : ∀ {c t : List Nat} {i : Nat}, ∀ x ∈ pat b i c t, i ≤ x
  | [], _, i => fun x hx => by unfold pat at hx; cases hx
  | _ :: _, [], i => fun x hx => by unfold pat at hx; cases hx
  | c :: cs, t :: ts, i => fun x hx => by
    unfold pat at hx
    rcases List.mem_append.mp hx with hx | hx
    · obtain ⟨j, _, rfl⟩ := List.mem_map.mp hx
      split <;> omega
    · have := pat_lt (c := cs) (t := ts) (i := i + 1) x hx
      omega
theorem count_lt (c t : Nat) : (List.range c).countP (fun j => decide (j < t)) = min c t := by
  induction c with
  | zero => simp
  | succ c ih =>
    rw [List.range_succ, List.countP_append, ih]
    simp only [List.countP_cons, List.countP_nil]
    by_cases h : c < t
    · simp [h]; omega
    · simp [h]; omega
theorem count_nlt (c t : Nat) : (List.range c).countP (fun j => !decide (j < t)) = c - t := by
  induction c with
  | zero => simp
  | succ c ih =>
    rw [List.range_succ, List.countP_append, ih]
    simp only [List.countP_cons, List.countP_nil]
    by_cases h : c < t
    · simp [h]; omega
    · simp [h]; omega
theorem head_count {b : Bool} {c t i k : Nat} (h : t ≤ c) : ((List.range c).map fun j => i + if decide (j < t) = b then 0 else 1).count k = (if k = i then stay b c t else 0) + (if k = i + 1 then c - stay b c t else 0) := by
  rw [List.count, List.countP_map]
  have h1 := count_lt c t
  have h2 := count_nlt c t
  by_cases e1 : k = i
  · subst e1
    rw [if_pos rfl, if_neg (by omega)]
    have : ((fun x => x == k) ∘ fun j => k + if decide (j < t) = b then 0 else 1) = fun j => decide (decide (j < t) = b) := by
      funext j
      show ((k + if decide (j < t) = b then 0 else 1) == k) = _
      by_cases c : decide (j < t) = b
      · rw [if_pos c, decide_eq_true c]; simp
      · rw [if_neg c, decide_eq_false c]; simp
    rw [this]
    unfold stay
    cases b with
    | true => simp only [decide_eq_true_eq, if_true]; rw [h1]; omega
    | false =>
      have e : (fun j => decide (decide (j < t) = false)) = fun j => !decide (j < t) := by
        funext j
        cases decide (j < t) <;> rfl
      rw [e, h2]
      simp
  · rw [if_neg e1]
    by_cases e2 : k = i + 1
    · subst e2
      rw [if_pos rfl]
      have : ((fun x => x == i + 1) ∘ fun j => i + if decide (j < t) = b then 0 else 1) = fun j => !decide (decide (j < t) = b) := by
        funext j
        show ((i + if decide (j < t) = b then 0 else 1) == i + 1) = _
        by_cases c : decide (j < t) = b
        · rw [if_pos c, decide_eq_true c]; simp
        · rw [if_neg c, decide_eq_false c]; simp
      rw [this]
      unfold stay
      cases b with
      | true =>
        have e : (fun j => !decide (decide (j < t) = true)) = fun j => !decide (j < t) := by
          funext j
          cases decide (j < t) <;> rfl
        rw [e, h2]
        simp
      | false =>
        have e : (fun j => !decide (decide (j < t) = false)) = fun j => decide (j < t) := by
          funext j
          cases decide (j < t) <;> rfl
        rw [e, h1]
        simp
        omega
    · rw [if_neg e2, List.countP_eq_zero.mpr]
      intro j _
      show ¬ ((i + if decide (j < t) = b then 0 else 1) == k) = true
      rw [beq_iff_eq]
      split <;> omega
theorem pat_aft {b : Bool} : ∀ {c t : List Nat} {i m : Nat}, LeL t c → ((List.range' i c.length).map fun k => (pat b i c t).count k + if k = i then m else 0) = aft b m c t
  | [], [], i, m, _ => rfl
  | c :: cs, t :: ts, i, m, .cons h hs => by
    have ih := pat_aft (b := b) (i := i + 1) (m := c - stay b c t) hs
    rw [List.length_cons, List.range'_succ, List.map_cons]
    unfold aft
    rw [← ih]
    congr 1
    · rw [pat_cons]
      rw [List.count_append, head_count h, if_pos rfl, if_neg (by omega), if_pos rfl, List.count_eq_zero.mpr fun hx => by have := pat_lt _ hx; omega]
      omega
    · refine List.map_congr_left fun k hk => ?_
      have hk2 := List.mem_range'.mp hk
      obtain ⟨d, hd, rfl⟩ := hk2
      rw [pat_cons]
      rw [List.count_append, head_count h, if_neg (by omega), if_neg (by omega : ¬ i + 1 + 1 * d = i)]
      omega
theorem pat_len {b : Bool} : ∀ {c t : List Nat} {i : Nat}, LeL t c → (pat b i c t).length = c.sum
  | [], [], _, _ => rfl
  | c :: cs, t :: ts, i, .cons h hs => by
    unfold pat
    rw [List.length_append, List.length_map, List.length_range, pat_len hs, List.sum_cons]
end Sp

/-! Xa3: counts behind an answer, by the law; all tests. -/
namespace Sp
open PySem PySem.Spec PyProof.Rows L2 Mn
variable {E : Exn → Th → Prop} {θ : Th} {Q : Dv → Th → Prop}
theorem toPy_ndW : ∀ {n : Nat} (l : List Nat), allSome (toPy θ n) (nd l) = some (l.map fun k : Nat => PyData.int k)
  | _, [] => rfl
  | n, i :: l => by
    show allSome (toPy θ n) (.int (i : Nat) :: nd l) = _
    unfold allSome
    rw [toPy_ndW l]
    cases n <;> rfl
theorem sh_ndK (l : List Nat) : SeqAt.shaped (.list (l.map fun k : Nat => PyData.int k)) = true := by
  have e : (l.map fun k : Nat => PyData.int k) = (l.map fun k : Nat => (k : Int)).map PyData.int := by rw [List.map_map]; rfl
  rw [e]
  unfold SeqAt.shaped
  rw [Bool.and_eq_true]
  refine ⟨by
    have := lay_ints (l.map fun k : Nat => (k : Int))
    simpa only [PyData.canLay0] using this, decide_eq_true ?_⟩
  simp only [PyData.depth, PySem.W.depth_ints]
  decide
theorem c_ndL {l : List Nat} {j k : Nat} (hj : θ[j]? = some (.lst (nd l))) (hQ : Q (.int ((l.count k : Nat) : Int)) θ) : countLD (.obj j) [.int (k : Nat)] E θ Q := by
  have e1 : toPy θ 66 (.obj j) = some (.list (l.map fun k : Nat => PyData.int k)) := by
    unfold toPy
    simp only [hj]
    rw [toPy_ndW]
    rfl
  have e2 : toPy θ 66 (.int (k : Nat)) = some (.int (k : Nat)) := rfl
  unfold countLD
  simp only [e1, e2]
  refine ⟨sh_ndK l, rfl, ?_⟩
  have e : (l.map fun k : Nat => PyData.int k).countP (fun z => PyData.eqv z (.int (k : Nat))) = l.count k := by
    rw [List.countP_map, List.count]
    congr 1
    funext y
    show PyData.eqv (.int (y : Nat)) (.int (k : Nat)) = (y == k)
    rw [Bool.eq_iff_iff]
    simp [PyData.eqv]
    omega
  rw [e]
  exact hQ
theorem pat_take {b : Bool} : ∀ {c t : List Nat} {s i ci ti : Nat}, LeL t c → c[i]? = some ci → t[i]? = some ti → pat b s (c.take (i + 1)) (t.take (i + 1)) = pat b s (c.take i) (t.take i) ++ (List.range ci).map fun j => (s + i) + if decide (j < ti) = b then 0 else 1
  | [], [], s, i, ci, ti, _, h, _ => by simp at h
  | c :: cs, t :: ts, s, 0, ci, ti, .cons h hs, h1, h2 => by
    simp only [List.getElem?_cons_zero, Option.some.injEq] at h1 h2
    subst h1 h2
    rw [List.take_succ_cons, List.take_succ_cons, List.take_zero, List.take_zero, List.take_zero, List.take_zero, pat_cons]
    unfold pat
    simp
  | c :: cs, t :: ts, s, i + 1, ci, ti, .cons h hs, h1, h2 => by
    simp only [List.getElem?_cons_succ] at h1 h2
    rw [List.take_succ_cons, List.take_succ_cons, List.take_succ_cons, List.take_succ_cons, pat_cons, pat_cons, pat_take hs h1 h2, List.append_assoc, show s + 1 + i = s + (i + 1) by omega]
theorem LeL.take {t c : List Nat} (h : LeL t c) : ∀ i, LeL (t.take i) (c.take i) := by
  induction h with
  | nil => intro i; simp; exact .nil
  | cons h _ ih =>
    intro i
    cases i with
    | zero => exact .nil
    | succ i => exact .cons h (ih i)
theorem mem_sum_le {x : Nat} : ∀ {l : List Nat}, x ∈ l → x ≤ l.sum
  | y :: l, h => by
    rw [List.sum_cons]
    cases h with
    | head => omega
    | tail _ h => have := mem_sum_le h; omega
theorem s_moved {b : Bool} {c t : List Nat} (h : LeL t c) (hl : c.length ≤ 1000) (hs : c.sum ≤ 100000) (hQ : Q (.tup (nd (aft b 0 c t))) θ) : Cm28.c__law_moved [.tup (nd c), .tup (nd t), .bl b] E θ Q := by
  unfold Cm28.c__law_moved Cm28.m__law_moved
  have lt := h.len
  have lc : (nd c).length = c.length := by unfold nd; rw [List.length_map]
  have ez := sizeLine_eq
  simp only [mxDN, List.map_cons, List.map_nil, List.replicate, List.cons_append, List.nil_append, List.set_cons_zero, List.set_cons_succ, wipeE]
  refine ⟨Nat.zero_le _, ?_⟩
  rw [x_seqN]
  simp only [mxDN, List.map_cons, List.map_nil, List.replicate, List.cons_append, List.nil_append, List.set_cons_zero, List.set_cons_succ, wipeE, lc]
  refine ⟨⟨by omega, by omega⟩, ?_⟩
  rw [show ((c.length : Nat) : Int).toNat = c.length from rfl]
  refine for_rule c.length (fun i ρ θ' => ∃ x4 x5 x6, ρ = [some (.tup (nd c)), some (.tup (nd t)), some (.bl b), some (.obj θ.length), x4, x5, x6] ∧ θ' = θ ++ [.lst (nd (pat b 0 (c.take i) (t.take i)))]) ⟨none, none, none, rfl, by unfold pat; simp [nd]⟩ ?_ ?_
  · rintro i ρ θ' hi ⟨x4, x5, x6, rfl, rfl⟩
    obtain ⟨ci, hci⟩ : ∃ ci, c[i]? = some ci := ⟨_, List.getElem?_eq_getElem hi⟩
    obtain ⟨ti, hti⟩ : ∃ ti, t[i]? = some ti := ⟨_, List.getElem?_eq_getElem (by omega)⟩
    have ac : atI (nd c) ((i : Nat) : Int) = some (.int (ci : Nat)) := at_nat (by unfold nd; rw [List.getElem?_map, hci]; rfl)
    have at1 : atI (nd t) ((i : Nat) : Int) = some (.int (ti : Nat)) := at_nat (by unfold nd; rw [List.getElem?_map, hti]; rfl)
    have hcs : ci ≤ c.sum := mem_sum_le (List.mem_of_getElem? hci)
    refine ⟨.int (i : Nat), _, by rw [rng_at hi]; simp, rfl, fun K LK => ?_⟩
    simp only [mxDN, List.map_cons, List.map_nil, List.replicate, List.cons_append, List.nil_append, List.set_cons_zero, List.set_cons_succ, wipeE, List.set_cons_zero, List.set_cons_succ, ac, x_optW]
    refine ⟨⟨by omega, by omega⟩, ?_⟩
    rw [show ((ci : Nat) : Int).toNat = ci from rfl]
    have pl : (pat b 0 (c.take i) (t.take i)).length ≤ c.sum := by
      rw [pat_len (h.take i)]
      have e := congrArg List.sum (List.take_append_drop i c)
      rw [List.sum_append] at e
      omega
    refine for_rule ci (fun j ρ θ' => ∃ x5 x6, ρ = [some (.tup (nd c)), some (.tup (nd t)), some (.bl b), some (.obj θ.length), some (.int (i : Nat)), x5, x6] ∧ θ' = θ ++ [.lst (nd (pat b 0 (c.take i) (t.take i) ++ (List.range j).map fun j => i + if decide (j < ti) = b then 0 else 1))]) ⟨x5, x6, rfl, by simp⟩ ?_ ?_
    · rintro j ρ θ' hj ⟨x5, x6, rfl, rfl⟩
      refine ⟨.int (j : Nat), _, by rw [rng_at hj]; simp, rfl, fun K2 LK2 => ?_⟩
      simp only [mxDN, List.map_cons, List.map_nil, List.replicate, List.cons_append, List.nil_append, List.set_cons_zero, List.set_cons_succ, wipeE, List.set_cons_zero, List.set_cons_succ, at1, x_optW]
      rw [x_seqN]
      simp only [mxDN, List.map_cons, List.map_nil, List.replicate, List.cons_append, List.nil_append, List.set_cons_zero, List.set_cons_succ, th_last]
      have lj : ((List.range j).map fun j => i + if decide (j < ti) = b then 0 else 1).length = j := by rw [List.length_map, List.length_range]
      refine ⟨trivial, by unfold nd; rw [List.length_map, List.length_append, lj]; omega, ?_⟩
      refine LK2.nx _ _ ⟨_, rfl, _, _, rfl, ?_⟩
      rw [List.set_append_right _ _ (Nat.le_refl _), Nat.sub_self, List.set_cons_zero, List.range_succ, List.map_append, ← List.append_assoc]
      have e5 : ∀ (l : List Nat) (x : Nat), nd l ++ [Dv.int (x : Nat)] = nd (l ++ [x]) := fun l x => by unfold nd; rw [List.map_append]; rfl
      have e6 : ((i : Nat) : Int) + (if (!decide (decide (((j : Nat) : Int) < ((ti : Nat) : Int)) = b)) = true then 1 else 0) = ((i + (if decide (j < ti) = b then 0 else 1) : Nat) : Int) := by
        have e7 : decide (((j : Nat) : Int) < ((ti : Nat) : Int)) = decide (j < ti) := decide_eq_decide.mpr (by omega)
        rw [e7]
        by_cases c : decide (j < ti) = b
        · rw [if_pos c, decide_eq_true c, if_neg (by decide)]
          rfl
        · rw [if_neg c, decide_eq_false c, if_pos (by decide)]
          rfl
      rw [e6, e5]
      rfl
    · rintro ρ θ' ⟨x5, x6, rfl, rfl⟩
      refine ⟨rng_end, ?_⟩
      refine LK.nx _ _ ⟨_, rfl, _, _, _, rfl, ?_⟩
      rw [pat_take h hci hti, Nat.zero_add]
  · rintro ρ θ' ⟨x4, x5, x6, rfl, rfl⟩
    refine ⟨rng_end, ?_⟩
    rw [List.take_length, ← lt, List.take_length, x_seqN]
    simp only [mxDN, List.map_cons, List.map_nil, List.replicate, List.cons_append, List.nil_append, List.set_cons_zero, List.set_cons_succ, wipeE, lc]
    refine ⟨⟨by omega, by omega⟩, ?_⟩
    rw [show ((c.length : Nat) : Int).toNat = c.length from rfl]
    refine lc_all1 (List.range c.length) (fun k => .int (k : Nat)) (fun k => .int ((pat b 0 c t).count k : Nat)) (by rw [List.length_range]; exact lt_line hl) srcR ?_ ?_
    · intro k hk θ1 e1
      refine ⟨_, rfl, fun K2 h2 => ?_⟩
      have hp := e1.at (th_last (θ := θ) (o := .lst (nd (pat b 0 c t))))
      simp only [mxDN, List.map_cons, List.map_nil, List.replicate, List.cons_append, List.nil_append, List.set_cons_zero, List.set_cons_succ, hp]
      refine ⟨trivial, c_ndL hp (h2 _ .refl)⟩
    · intro θ1 e1 h1
      have es : ((List.range c.length).map fun k => Dv.int ((pat b 0 c t).count k : Nat)) = nd (aft b 0 c t) := by
        rw [← pat_aft h (i := 0)]
        unfold nd
        rw [List.map_map, List.range_eq_range']
        refine List.map_congr_left fun k _ => ?_
        simp
      rw [es] at h1
      simp only [mxDN, List.map_cons, List.map_nil, List.replicate, List.cons_append, List.nil_append, List.set_cons_zero, List.set_cons_succ, h1]
      exact end_ext hQ (Ext.app.trans e1) low_nd
end Sp

/-! Xa4: all tests, by the program and by the law. -/
namespace Sp
open PySem PySem.Spec PyProof.Rows L2 Mn
variable {E : Exn → Th → Prop} {θ : Th} {Q : Dv → Th → Prop}
theorem lc2_rule {src : Src} {T : Tg} {cond : DEnv → MX Bool} {ms1 : DEnv → MX Src} {T1 : Tg} {cond1 : DEnv → MX Bool} {elt : ME} {k : Nat} {ρ : DEnv} {vs1 : List Nat} {Q : Th → Prop} {θ : Th} (n : Nat) (I : Nat → Th → Prop) (h0 : I 0 θ)
    (hs : ∀ i θ, i < n → I i θ → ∃ d ρ1, src.at θ i = some (some d) ∧ asgT T d ρ = some ρ1 ∧ ∀ K : Th → Prop, (∀ θ', I (i + 1) θ' → K θ') → cond ρ1 (fun _ _ => False) θ fun b θ1 => match b with
      | true => ms1 ρ1 (fun _ _ => False) θ1 fun src1 θ2 => ∃ m, lcGo src1 T1 cond1 elt k (wipeE ρ1 vs1) m 0 θ2 K
      | false => K θ1)
    (he : ∀ θ, I n θ → src.at θ n = some none ∧ Q θ) : ∃ m, lcGo2 src T cond ms1 T1 cond1 elt k ρ vs1 m 0 θ Q := by
  have key : ∀ j i θ, i + j = n → I i θ → lcGo2 src T cond ms1 T1 cond1 elt k ρ vs1 (j + 1) i θ Q := by
    intro j
    induction j with
    | zero =>
      intro i θ e h
      obtain rfl : i = n := by omega
      obtain ⟨h1, h2⟩ := he θ h
      unfold lcGo2
      simp only [h1]
      exact h2
    | succ j ih =>
      intro i θ e h
      obtain ⟨d, ρ1, h1, h2, h3⟩ := hs i θ (by omega) h
      unfold lcGo2
      simp only [h1, h2]
      exact h3 _ fun θ' h' => ih (i + 1) θ' (by omega) h'
  exact ⟨n + 1, key n 0 θ (by omega) h0⟩
abbrev rwN (r : List Nat) : Dv := .tup (nd r)
theorem nd_snoc {r : List Nat} {x : Nat} : nd r ++ [Dv.int (x : Nat)] = nd (r ++ [x]) := by unfold nd; rw [List.map_append]; rfl
theorem tstF_snoc {rows : List (List Nat)} {r : List Nat} {c : Nat} : tstF (rows ++ [r]) c = tstF rows c ++ (List.range (c + 1)).map fun k => r ++ [k] := by
  unfold tstF
  rw [List.flatMap_append]
  simp
theorem take_snoc {rows : List (List Nat)} {i : Nat} {r : List Nat} (h : rows[i]? = some r) : rows.take (i + 1) = rows.take i ++ [r] := by rw [List.take_add_one, h]; rfl
theorem take_fold {c : List Nat} {i x : Nat} (h : c[i]? = some x) : (c.take (i + 1)).foldl tstF [[]] = tstF ((c.take i).foldl tstF [[]]) x := by
  rw [List.take_add_one, h, List.foldl_append]
  rfl
theorem tst_row {c : List Nat} {i : Nat} {r : List Nat} (h : r ∈ (c.take i).foldl tstF [[]]) : r.length ≤ c.length := by
  have := (mem_tst (c := c.take i)).mp h
  have := this.len
  rw [List.length_take] at this
  omega
theorem sum_ndT {l : List Nat} (hQ : Q (.int (l.sum : Nat)) θ) : sumD (.tup (nd l)) E θ Q := by
  unfold sumD
  have e : intsD (nd l) = some (l.map fun n : Nat => (n : Int)) := by
    have := intsD_map (l.map fun n : Nat => (n : Int))
    rw [List.map_map] at this
    exact this
  simp only [e]
  have es : (l.map fun n : Nat => (n : Int)).sum = ((l.sum : Nat) : Int) := by
    clear e hQ
    induction l with
    | nil => rfl
    | cons x l ih => rw [List.map_cons, List.sum_cons, ih, List.sum_cons]; omega
  unfold sumL
  rw [es]
  exact hQ
theorem x_lc2 {ms ms1 : DEnv → MX Src} {T T1 : Tg} {cond cond1 : DEnv → MX Bool} {elt : ME} {vs vs1 : List Nat} {ρ : DEnv} : mLc2 ms T cond ms1 T1 cond1 elt vs vs1 ρ E θ Q = ms ρ E θ fun src θ' => ∃ n, lcGo2 src T cond ms1 T1 cond1 elt θ'.length (wipeE ρ vs) vs1 n 0 (θ' ++ [.lst []]) fun θ2 => Q (.obj θ'.length) θ2 := (rfl)
theorem s_telltests {c : List Nat} (k : CK c) (hQ : ∀ θ' j, Ext θ θ' → θ'[j]? = some (.lst ((tells c).map rwN)) → θ.length ≤ j → Q (.obj j) θ') : Cm28.c_telling_tests [.tup (nd c)] E θ Q := by
  unfold Cm28.c_telling_tests Cm28.m_telling_tests
  have lc : (nd c).length = c.length := by unfold nd; rw [List.length_map]
  have ez := sizeLine_eq
  have kl := k.len
  simp only [mxDN, List.map_cons, List.map_nil, List.replicate, List.cons_append, List.nil_append, List.set_cons_zero, List.set_cons_succ, wipeE]
  refine ⟨sz (by simp), sz (by simp), ?_⟩
  rw [x_seqN]
  simp only [mxDN, List.map_cons, List.map_nil, List.replicate, List.cons_append, List.nil_append, List.set_cons_zero, List.set_cons_succ, wipeE]
  refine for_rule c.length (fun i ρ θ' => ∃ j x2, ρ = [some (.tup (nd c)), some (.obj j), x2, none, none] ∧ Ext θ θ' ∧ θ.length ≤ j ∧ θ'[j]? = some (.lst (((c.take i).foldl tstF [[]]).map rwN))) ⟨θ.length, none, rfl, .app, Nat.le_refl _, by rw [th_last]; rfl⟩ ?_ ?_
  · rintro i ρ θ1 hi ⟨j, x2, rfl, e1, hj, h1⟩
    obtain ⟨x, hx⟩ : ∃ x, c[i]? = some x := ⟨_, List.getElem?_eq_getElem hi⟩
    refine ⟨.int (x : Nat), _, by show some (nd c)[i]? = _; unfold nd; rw [List.getElem?_map, hx]; rfl, rfl, fun K LK => ?_⟩
    have hxs : x ≤ 24 := by
      have := mem_sum_le (List.mem_of_getElem? hx)
      have := k.sz
      omega
    have few := k.few i
    have few1 := k.few (i + 1)
    rw [take_fold hx] at few1
    have hrl : ∀ r ∈ (c.take i).foldl tstF [[]], r.length ≤ c.length := fun r hr => tst_row hr
    generalize hrows : (c.take i).foldl tstF [[]] = rows at h1 few few1 hrl
    simp only [mxDN, List.map_cons, List.map_nil, List.replicate, List.cons_append, List.nil_append, List.set_cons_zero, List.set_cons_succ, wipeE, List.set_cons_zero, List.set_cons_succ]
    rw [x_lc2]
    simp only [mxDN, List.map_cons, List.map_nil, List.replicate, List.cons_append, List.nil_append, List.set_cons_zero, List.set_cons_succ, wipeE, h1]
    refine lc2_rule rows.length (fun t θ' => θ' = θ1 ++ [.lst ((tstF (rows.take t) x).map rwN)]) (by simp [tstF]) ?_ ?_
    · rintro t θ' ht rfl
      obtain ⟨r, hr⟩ : ∃ r, rows[t]? = some r := ⟨_, List.getElem?_eq_getElem ht⟩
      have h1' : (θ1 ++ [Ob.lst ((tstF (rows.take t) x).map rwN)])[j]? = some (.lst (rows.map rwN)) := th_left h1
      refine ⟨rwN r, _, by rw [src_L h1', List.getElem?_map, hr]; rfl, rfl, fun K2 hK2 => ?_⟩
      simp only [mxDN, List.map_cons, List.map_nil, List.replicate, List.cons_append, List.nil_append, List.set_cons_zero, List.set_cons_succ, wipeE, List.set_cons_zero, List.set_cons_succ]
      refine ⟨⟨by omega, by omega⟩, ?_⟩
      rw [show (((x : Nat) : Int) + 1).toNat = x + 1 by omega]
      rw [tstF_len] at few1
      have hm := Nat.mul_le_mul (show t + 1 ≤ rows.length from ht) (Nat.le_refl (x + 1))
      rw [Nat.succ_mul] at hm
      have hr2 := hrl r (List.mem_of_getElem? hr)
      have lr : (nd r).length = r.length := by unfold nd; rw [List.length_map]
      have lt1 : (rows.take t).length = t := by rw [List.length_take]; omega
      refine lc_rule (x + 1) (fun u θ' => θ' = θ1 ++ [.lst ((tstF (rows.take t) x ++ (List.range u).map fun k => r ++ [k]).map rwN)]) (by simp) ?_ ?_
      · rintro u θ' hu rfl
        refine ⟨.int (u : Nat), _, by rw [rng_at hu]; simp, rfl, fun K3 k0 k1 => ?_⟩
        simp only [mxDN, List.map_cons, List.map_nil, List.replicate, List.cons_append, List.nil_append, List.set_cons_zero, List.set_cons_succ, wipeE, List.set_cons_zero, List.set_cons_succ]
        refine k1 _ fun K4 h4 => ?_
        simp only [mxDN, List.map_cons, List.map_nil, List.replicate, List.cons_append, List.nil_append, List.set_cons_zero, List.set_cons_succ, wipeE, List.set_cons_zero, List.set_cons_succ]
        refine ⟨sz (by simp), by rw [ez, lr]; simp; omega, ?_⟩
        refine h4 _ _ _ th_last (by rw [ez, List.length_map, List.length_append, tstF_len, lt1, List.length_map, List.length_range]; omega) ?_
        rw [List.set_append_right _ _ (Nat.le_refl _), Nat.sub_self, List.set_cons_zero, nd_snoc]
        have e9 : (List.range (u + 1)).map (fun k => r ++ [k]) = (List.range u).map (fun k => r ++ [k]) ++ [r ++ [u]] := by rw [List.range_succ, List.map_append]; rfl
        rw [e9, ← List.append_assoc, List.map_append (l₁ := tstF (rows.take t) x ++ (List.range u).map fun k => r ++ [k])]
        rfl
      · rintro θ' rfl
        refine ⟨rng_end, hK2 _ ?_⟩
        rw [take_snoc hr, tstF_snoc]
    · rintro θ' rfl
      rw [List.take_length]
      refine ⟨by rw [src_L (th_left h1), List.getElem?_eq_none (by rw [List.length_map]; omega)], ?_⟩
      refine LK.nx _ _ ⟨_, rfl, _, _, rfl, e1.trans .app, ?_, ?_⟩
      · exact (Kept.ext (kk := 0) e1).len
      · rw [th_last, take_fold hx, hrows]
  · rintro ρ θ1 ⟨j, x2, rfl, e1, hj, h1⟩
    rw [List.take_length] at h1
    refine ⟨by show some (nd c)[c.length]? = _; rw [List.getElem?_eq_none (by omega)], ?_⟩
    have few := k.few c.length
    rw [List.take_length] at few
    rw [x_seqN]
    simp only [mxDN, List.map_cons, List.map_nil, List.replicate, List.cons_append, List.nil_append, List.set_cons_zero, List.set_cons_succ, wipeE, h1]
    refine lc_list (tst c) rwN (fun t => decide (0 < t.sum ∧ t.sum < c.sum)) rwN (by rw [ez]; unfold tst; omega) (srcL h1) ?_ ?_
    · intro t ht θ2 e2
      refine ⟨_, rfl, fun K hK => ?_⟩
      simp only [mxDN, List.map_cons, List.map_nil, List.replicate, List.cons_append, List.nil_append, List.set_cons_zero, List.set_cons_succ]
      refine sum_ndT ?_
      rw [x_lt, x_chK]
      have fin : ∀ b, b = decide (0 < t.sum ∧ t.sum < c.sum) → K b θ2 := fun b e => by
        subst e
        refine hK θ2 .refl fun _ K2 k2 => ?_
        simp only [mxDN, List.map_cons, List.map_nil, List.replicate, List.cons_append, List.nil_append, List.set_cons_zero, List.set_cons_succ]
        exact k2 _ .refl
      by_cases h0 : 0 < t.sum
      · rw [if_pos (decide_eq_true (by omega))]
        refine sum_ndT ?_
        rw [x_lt, x_boolK]
        refine fin _ (decide_eq_decide.mpr ⟨fun z => ⟨h0, by omega⟩, fun z => by omega⟩)
      · rw [if_neg (by rw [decide_eq_true_eq]; omega), x_boolK]
        exact fin _ (decide_eq_false (by omega)).symm
    · intro θ2 e2 h2
      exact end_same (hQ _ _ (e1.trans e2) h2 (Kept.ext (kk := 0) e1).len)
theorem s_lawtests {c : List Nat} (k : CK c) (hQ : ∀ θ' j, Ext θ θ' → θ'[j]? = some (.lst ((tst c).map rwN)) → Q (.obj j) θ') : Cm28.c__law_tests [.tup (nd c)] E θ Q := by
  unfold Cm28.c__law_tests Cm28.m__law_tests
  have lc : (nd c).length = c.length := by unfold nd; rw [List.length_map]
  have ez := sizeLine_eq
  have kl := k.len
  simp only [mxDN, List.map_cons, List.map_nil, List.replicate, List.cons_append, List.nil_append, List.set_cons_zero, List.set_cons_succ, wipeE]
  refine ⟨sz (by simp), sz (by simp), ?_⟩
  rw [x_seqN]
  simp only [mxDN, List.map_cons, List.map_nil, List.replicate, List.cons_append, List.nil_append, List.set_cons_zero, List.set_cons_succ, wipeE]
  refine for_rule c.length (fun i ρ θ' => ∃ j x2 x3 x4 x5, ρ = [some (.tup (nd c)), some (.obj j), x2, x3, x4, x5] ∧ Ext θ θ' ∧ θ'[j]? = some (.lst (((c.take i).foldl tstF [[]]).map rwN))) ⟨θ.length, none, none, none, none, rfl, .app, by rw [th_last]; rfl⟩ ?_ ?_
  · rintro i ρ θ1 hi ⟨j, x2, x3, x4, x5, rfl, e1, h1⟩
    obtain ⟨x, hx⟩ : ∃ x, c[i]? = some x := ⟨_, List.getElem?_eq_getElem hi⟩
    refine ⟨.int (x : Nat), _, by show some (nd c)[i]? = _; unfold nd; rw [List.getElem?_map, hx]; rfl, rfl, fun K LK => ?_⟩
    have hxs : x ≤ 24 := by
      have := mem_sum_le (List.mem_of_getElem? hx)
      have := k.sz
      omega
    have few := k.few i
    have few1 := k.few (i + 1)
    rw [take_fold hx, tstF_len] at few1
    have hrl : ∀ r ∈ (c.take i).foldl tstF [[]], r.length ≤ c.length := fun r hr => tst_row hr
    generalize hrows : (c.take i).foldl tstF [[]] = rows at h1 few few1 hrl
    simp only [mxDN, List.map_cons, List.map_nil, List.replicate, List.cons_append, List.nil_append, List.set_cons_zero, List.set_cons_succ, wipeE, List.set_cons_zero, List.set_cons_succ]
    refine ⟨Nat.zero_le _, ?_⟩
    rw [x_seqN]
    simp only [mxDN, List.map_cons, List.map_nil, List.replicate, List.cons_append, List.nil_append, List.set_cons_zero, List.set_cons_succ, wipeE, List.set_cons_zero, List.set_cons_succ, th_left h1]
    refine for_rule rows.length (fun t ρ θ' => ∃ p x4 x5, ρ = [some (.tup (nd c)), some (.obj j), some (.int (x : Nat)), some (.obj p), x4, x5] ∧ Ext θ1 θ' ∧ θ'[p]? = some (.lst ((tstF (rows.take t) x).map rwN))) ⟨θ1.length, x4, x5, rfl, .app, by rw [th_last]; rfl⟩ ?_ ?_
    · rintro t ρ θ2 ht ⟨p, x4, x5, rfl, e2, hp⟩
      obtain ⟨r, hr⟩ : ∃ r, rows[t]? = some r := ⟨_, List.getElem?_eq_getElem ht⟩
      refine ⟨rwN r, _, by rw [src_L (e2.at h1), List.getElem?_map, hr]; rfl, rfl, fun K2 LK2 => ?_⟩
      simp only [mxDN, List.map_cons, List.map_nil, List.replicate, List.cons_append, List.nil_append, List.set_cons_zero, List.set_cons_succ, wipeE, List.set_cons_zero, List.set_cons_succ]
      refine ⟨⟨by omega, by omega⟩, ?_⟩
      rw [show (((x : Nat) : Int) + 1).toNat = x + 1 by omega]
      have hm := Nat.mul_le_mul (show t + 1 ≤ rows.length from ht) (Nat.le_refl (x + 1))
      rw [Nat.succ_mul] at hm
      have hr2 := hrl r (List.mem_of_getElem? hr)
      have lr : (nd r).length = r.length := by unfold nd; rw [List.length_map]
      have lt1 : (rows.take t).length = t := by rw [List.length_take]; omega
      refine lc_all1 (List.range (x + 1)) (fun k => .int (k : Nat)) (fun k => rwN (r ++ [k])) (by rw [List.length_range]; exact lt_line (by omega)) srcR ?_ ?_
      · intro u _ θ3 e3
        refine ⟨_, rfl, fun K3 h3 => ?_⟩
        simp only [mxDN, List.map_cons, List.map_nil, List.replicate, List.cons_append, List.nil_append, List.set_cons_zero, List.set_cons_succ, wipeE, List.set_cons_zero, List.set_cons_succ]
        refine ⟨sz (by simp), by rw [ez, lr]; simp; omega, ?_⟩
        rw [nd_snoc]
        exact h3 _ .refl
      · intro θ3 e3 h3
        simp only [mxDN, List.map_cons, List.map_nil, List.replicate, List.cons_append, List.nil_append, List.set_cons_zero, List.set_cons_succ, e3.at hp, h3]
        refine ⟨by rw [ez, List.length_map, tstF_len, lt1, List.length_map, List.length_range]; omega, ?_⟩
        refine LK2.nx _ _ ⟨_, rfl, _, _, _, rfl, (e2.trans e3).trans .app, ?_⟩
        rw [th_last, take_snoc hr, tstF_snoc, List.map_append, List.map_map]
        rfl
    · rintro ρ θ2 ⟨p, x4, x5, rfl, e2, hp⟩
      rw [List.take_length] at hp
      refine ⟨by rw [src_L (e2.at h1), List.getElem?_eq_none (by rw [List.length_map]; omega)], ?_⟩
      rw [x_seqN]
      simp only [mxDN, List.map_cons, List.map_nil, List.replicate, List.cons_append, List.nil_append, List.set_cons_zero, List.set_cons_succ, wipeE, List.set_cons_zero, List.set_cons_succ]
      refine LK.nx _ _ ⟨_, rfl, _, _, _, _, _, rfl, e1.trans e2, ?_⟩
      rw [hp, take_fold hx, hrows]
  · rintro ρ θ1 ⟨j, x2, x3, x4, x5, rfl, e1, h1⟩
    rw [List.take_length] at h1
    refine ⟨by show some (nd c)[c.length]? = _; rw [List.getElem?_eq_none (by omega)], ?_⟩
    rw [x_seqN]
    simp only [mxDN, List.map_cons, List.map_nil, List.replicate, List.cons_append, List.nil_append, List.set_cons_zero, List.set_cons_succ]
    exact end_same (hQ _ _ e1 h1)
end Sp

/-! Xa5: what the program's search finds. -/
namespace Sp
open PySem PySem.Spec PyProof.Rows L2 Mn
variable {E : Exn → Th → Prop} {θ : Th} {Q : Dv → Th → Prop} {st : List Int} {F : List Int → Nat} {n top : Nat}
structure KnV (F : List Int → Nat) (n top : Nat) (kvs : List (List Key × Dv)) : Prop where
  ok : ∀ p ∈ kvs, ∃ st, p.1 = keyS st ∧ StK n top st ∧ p.2 = .int (F st : Nat)
  nd : (kvs.map (·.1)).Nodup
theorem KnV.nil {n top : Nat} : KnV F n top [] := ⟨fun p hp => (by cases hp), List.nodup_nil⟩
theorem KnV.few {n top : Nat} {kvs : List (List Key × Dv)} (w : KnV F n top kvs) : kvs.length ≤ (top + 2) ^ n := by
  obtain ⟨l, e⟩ : ∃ l : List (List Int), kvs.map (·.1) = l.map keyS ∧ ∀ x ∈ l, StK n top x := by
    have ok := w.ok
    clear w
    induction kvs with
    | nil => exact ⟨[], rfl, fun x hx => by cases hx⟩
    | cons p kvs ih =>
      obtain ⟨l, e1, e2⟩ := ih fun q hq => ok q (List.mem_cons_of_mem _ hq)
      obtain ⟨st, h1, h2, _⟩ := ok p List.mem_cons_self
      refine ⟨st :: l, by rw [List.map_cons, List.map_cons, e1, h1], fun x hx => ?_⟩
      rcases List.mem_cons.mp hx with rfl | hx
      · exact h2
      · exact e2 x hx
  have nd := w.nd
  rw [e.1] at nd
  have nl : l.Nodup := List.Pairwise.of_map keyS (fun a b hab e => hab (by rw [e])) nd
  have := few_lists (vs := valsI top) (n := n) nl fun x hx => ⟨(e.2 x hx).len, fun y hy => mem_vals.mpr ((e.2 x hx).lo y hy)⟩
  rw [vals_len] at this
  have el := congrArg List.length e.1
  rw [List.length_map, List.length_map] at el
  omega
theorem KnV.look {n top : Nat} {kvs : List (List Key × Dv)} {v : Dv} (w : KnV F n top kvs) (e : lookD kvs (keyS st) = some v) : v = .int (F st : Nat) := by
  obtain ⟨p, hp, h1, h2⟩ := look_some e
  obtain ⟨st', e1, _, e2⟩ := w.ok p hp
  rw [h1] at e1
  rw [← h2, e2, keyS_inj e1]
theorem KnV.put {n top : Nat} {kvs : List (List Key × Dv)} (w : KnV F n top kvs) (hs : StK n top st) (e : lookD kvs (keyS st) = none) : KnV F n top (putD kvs (keyS st) (.int (F st : Nat))) ∧ lookD (putD kvs (keyS st) (.int (F st : Nat))) (keyS st) = some (.int (F st : Nat)) := by
  have ne := look_none e
  have en : (kvs.any fun kv => decide (kv.1 = keyS st)) = false := by
    rw [List.any_eq_false]
    intro p hp
    simpa using ne p hp
  unfold putD
  rw [if_neg (by rw [en]; exact Bool.false_ne_true)]
  refine ⟨⟨fun p hp => ?_, ?_⟩, ?_⟩
  · rcases List.mem_append.mp hp with hp | hp
    · exact w.ok p hp
    · rw [List.mem_singleton.mp hp]
      exact ⟨st, rfl, hs, rfl⟩
  · rw [List.map_append, List.nodup_append]
    refine ⟨w.nd, by simp, fun a ha b hb e => ?_⟩
    obtain ⟨p, hp, rfl⟩ := List.mem_map.mp ha
    rw [List.map_singleton, List.mem_singleton] at hb
    rw [hb] at e
    exact ne p hp e
  · unfold lookD
    rw [List.find?_append]
    have c : kvs.find? (fun kv => decide (kv.1 = keyS st)) = none := by
      rw [List.find?_eq_none]
      intro p hp
      simpa using ne p hp
    rw [c]
    simp
theorem KnV.put' {n top : Nat} {kvs : List (List Key × Dv)} (w : KnV F n top kvs) (hs : StK n top st) : KnV F n top (putD kvs (keyS st) (.int (F st : Nat))) ∧ lookD (putD kvs (keyS st) (.int (F st : Nat))) (keyS st) = some (.int (F st : Nat)) := by
  cases c : lookD kvs (keyS st) with
  | none => exact w.put hs c
  | some v =>
    have ev := w.look c
    rw [ev] at c
    obtain ⟨p, hp, h1, h2⟩ := look_some c
    have ea : (kvs.any fun kv => decide (kv.1 = keyS st)) = true := List.any_eq_true.mpr ⟨p, hp, by simpa using h1⟩
    have e : putD kvs (keyS st) (.int (F st : Nat)) = kvs := by
      unfold putD
      rw [if_pos ea]
      refine (List.map_congr_left (g := id) fun q hq => ?_).trans (List.map_id _)
      obtain ⟨st', e1, _, e2⟩ := w.ok q hq
      split
      · next z =>
        have e3 := keyS_inj (e1.symm.trans z)
        subst e3
        show (q.1, _) = q
        rw [← e2]
      · rfl
    rw [e]
    exact ⟨w, c⟩
structure KnF (F : List Int → Nat) (n top : Nat) (kvs : List (NestedKey × Dv)) : Prop where
  ok : ∀ p ∈ kvs, ∃ st q, p.1 = nkS st q ∧ StK n top st ∧ q ≤ 40 ∧ p.2 = .bl (decide (F st ≤ q))
  nd : (kvs.map (·.1)).Nodup
theorem KnF.nil : KnF F n top [] := ⟨fun p hp => (by cases hp), .nil⟩
theorem KnF.few {kvs : List (NestedKey × Dv)} (w : KnF F n top kvs) : kvs.length ≤ (top + 2) ^ n * 41 := by
  have e1 : ((allL (valsI top) n).flatMap fun st => (List.range 41).map fun q => nkS st q).length = (top + 2) ^ n * 41 := by
    rw [← vals_len (top := top), ← allL_len]
    generalize allL (valsI top) n = l
    induction l with
    | nil => simp
    | cons x l ih =>
      rw [List.flatMap_cons, List.length_append, ih, List.length_map, List.length_range, List.length_cons]
      omega
  rw [← e1, ← List.length_map (f := (·.1)) (as := kvs)]
  refine sub_len w.nd fun k hk => ?_
  obtain ⟨p, hp, rfl⟩ := List.mem_map.mp hk
  obtain ⟨st, q, e, hs, hq, _⟩ := w.ok p hp
  rw [List.mem_flatMap]
  exact ⟨st, mem_allL _ hs.len (fun y hy => mem_vals.mpr (hs.lo y hy)), List.mem_map.mpr ⟨q, List.mem_range.mpr (by omega), e.symm⟩⟩
theorem KnF.look {kvs : List (NestedKey × Dv)} {v : Dv} {q : Nat} (w : KnF F n top kvs) (e : lookD kvs (nkS st q) = some v) : v = .bl (decide (F st ≤ q)) := by
  obtain ⟨p, hp, h1, h2⟩ := lookN_some e
  obtain ⟨st', q', e1, _, _, e2⟩ := w.ok p hp
  obtain ⟨rfl, rfl⟩ := nkS_inj (h1.symm.trans e1)
  rw [← h2, e2]
theorem KnF.put {kvs : List (NestedKey × Dv)} {q : Nat} (w : KnF F n top kvs) (hs : StK n top st) (hq : q ≤ 40) : KnF F n top (putD kvs (nkS st q) (.bl (decide (F st ≤ q)))) ∧ lookD (putD kvs (nkS st q) (.bl (decide (F st ≤ q)))) (nkS st q) = some (.bl (decide (F st ≤ q))) := by
  by_cases hc : (kvs.any fun kv => decide (kv.1 = nkS st q)) = true
  · have el : ∃ v, lookD kvs (nkS st q) = some v := by
      rw [List.any_eq_true] at hc
      obtain ⟨p, hp, e⟩ := hc
      cases c : kvs.find? (fun kv => decide (kv.1 = nkS st q)) with
      | none => rw [List.find?_eq_none] at c; exact absurd e (c p hp)
      | some p => exact ⟨p.2, by unfold lookD; rw [c]; rfl⟩
    obtain ⟨v, el⟩ := el
    have ev := w.look el
    rw [ev] at el
    have e : putD kvs (nkS st q) (.bl (decide (F st ≤ q))) = kvs := by
      unfold putD
      rw [if_pos hc]
      refine (List.map_congr_left (g := id) fun p hp => ?_).trans (List.map_id _)
      obtain ⟨st', q', e1, _, _, e2⟩ := w.ok p hp
      split
      · next z =>
        obtain ⟨rfl, rfl⟩ := nkS_inj (e1.symm.trans z)
        show (p.1, _) = p
        rw [← e2]
      · rfl
    rw [e]
    exact ⟨w, el⟩
  · unfold putD
    rw [if_neg hc]
    have ne : ∀ p ∈ kvs, p.1 ≠ nkS st q := fun p hp z => hc (List.any_eq_true.mpr ⟨p, hp, decide_eq_true z⟩)
    refine ⟨⟨fun p hp => ?_, ?_⟩, ?_⟩
    · rcases List.mem_append.mp hp with hp | hp
      · exact w.ok p hp
      · rw [List.mem_singleton.mp hp]
        exact ⟨st, q, rfl, hs, hq, rfl⟩
    · rw [List.map_append, List.nodup_append]
      refine ⟨w.nd, by simp, fun a ha b hb e => ?_⟩
      obtain ⟨p, hp, rfl⟩ := List.mem_map.mp ha
      rw [List.map_singleton, List.mem_singleton] at hb
      rw [hb] at e
      exact ne p hp e
    · unfold lookD
      rw [List.find?_append]
      have c : kvs.find? (fun kv => decide (kv.1 = nkS st q)) = none := by
        rw [List.find?_eq_none]
        intro p hp
        simpa using ne p hp
      rw [c]
      simp

def iI (c : List Nat) : List Int := c.map fun k : Nat => (k : Int)
theorem nd_iI (c : List Nat) : nd c = id_ (iI c) := by
  unfold nd iI id_
  rw [List.map_map]
  rfl
def fN (st : List Int) : Nat := nN (st.map Int.toNat)
theorem fN_iI (c : List Nat) : fN (iI c) = nN c := by
  unfold fN iI
  rw [List.map_map]
  congr 1
  exact (List.map_congr_left fun x _ => rfl).trans (List.map_id _)
theorem stk_iI {c : List Nat} (hn : c.length = n) (ht : c.sum ≤ top) : StK n top (iI c) := ⟨by unfold iI; rw [List.length_map, hn], fun y hy => by
  obtain ⟨x, hx, rfl⟩ := List.mem_map.mp hy
  have := mem_sum_le hx
  omega⟩
theorem minN_is {l : List Nat} {m : Int} (hm : m ∈ l.map fun k : Nat => (k : Int)) (hb : ∀ y ∈ l.map fun k : Nat => (k : Int), m ≤ y) : m = (minN l : Nat) := by
  obtain ⟨x, hx, rfl⟩ := List.mem_map.mp hm
  have hne : l ≠ [] := fun e => by rw [e] at hx; cases hx
  have h1 : minN l ≤ x := (minN_le hne).mpr ⟨x, hx, Nat.le_refl _⟩
  obtain ⟨y, hy, h2⟩ := (minN_le (q := minN l) hne).mp (Nat.le_refl _)
  have := hb y (List.mem_map.mpr ⟨y, hy, rfl⟩)
  omega
theorem x_setT1 {kk : Nat} {kvs : List (List Key × Dv)} {v : Dv} {R : Unit → Th → Prop} (hk : θ[kk]? = some (.dT kvs)) (hl : kvs.length < sizeLine) (hR : R () (θ.set kk (.dT (putD kvs (keyS st) v)))) : putK1 θ[kk]? kk (.tup (id_ st)) v θ R := by
  rw [hk]
  unfold putK1
  simp only [tKey_ids]
  exact ⟨hl, hR⟩
theorem s_needed {kk : Nat} : ∀ (f : Nat) (c : List Nat) (θ : Th) (kvs : List (List Key × Dv)) (E : Exn → Th → Prop) (Q : Dv → Th → Prop), phi c < f → CK c → c.length = n → c.sum ≤ top → (top + 2) ^ n ≤ 100000 → θ[kk]? = some (.dT kvs) → KnV fN n top kvs →
    (∀ θ' kvs', θ'[kk]? = some (.dT kvs') → KnV fN n top kvs' → Kept kk θ θ' → Q (.int (nN c : Nat)) θ') → Cm28.c_needed f [.obj kk, .tup (nd c)] E θ Q := by
  intro f
  induction f with
  | zero => intro c θ kvs E Q hf; omega
  | succ f ih =>
    intro c θ kvs E Q hf ck hn ht hp hk W hQ
    have ez := sizeLine_eq
    have hst := stk_iI hn ht
    have few := W.few
    unfold Cm28.c_needed Cm28.m_needed
    simp only [mxDN, List.map_cons, List.map_nil, List.replicate, List.cons_append, List.nil_append, List.set_cons_zero, List.set_cons_succ]
    refine sum_ndT ?_
    rw [x_le, x_boolK]
    by_cases h1 : c.sum ≤ 1
    · rw [if_pos (decide_eq_true (by omega))]
      have := hQ θ kvs hk W .refl
      rw [nN_0 h1] at this
      exact end_same this
    · rw [if_neg (by rw [decide_eq_true_eq]; omega), x_seqN]
      have h2 : 2 ≤ c.sum := by omega
      simp only [mxDN, List.map_cons, List.map_nil, List.replicate, List.cons_append, List.nil_append, List.set_cons_zero, List.set_cons_succ]
      rw [nd_iI]
      refine x_notinT hk ?_
      cases c' : lookD kvs (keyS (iI c)) with
      | some v =>
        have ev := W.look c'
        rw [ev, fN_iI] at c'
        rw [x_boolK, if_neg (by simp), x_seqN]
        simp only [mxDN, List.map_cons, List.map_nil, List.replicate, List.cons_append, List.nil_append, List.set_cons_zero, List.set_cons_succ]
        refine x_ixdT (E := E) hk c' ?_
        exact end_same (hQ θ kvs hk W .refl)
      | none =>
        rw [x_boolK, if_pos (by simp)]
        rw [← nd_iI]
        refine ⟨rfl, s_telltests ck fun θ1 j e1 hj lj => ?_⟩
        simp only [mxDN, List.map_cons, List.map_nil, List.replicate, List.cons_append, List.nil_append, List.set_cons_zero, List.set_cons_succ, hj]
        have hk1 := e1.at hk
        have njk : j ≠ kk := fun e => by rw [e, hk1] at hj; cases hj
        have hkl : kk < θ1.length := (List.getElem?_eq_some_iff.mp hk1).1
        have few2 := ck.few c.length
        rw [List.take_length] at few2
        have lte : (tells c).length ≤ 5000 := Nat.le_trans (List.length_filter_le _ _) few2
        obtain ⟨vl, hvl⟩ : ∃ vl : List Nat → Nat, vl = fun t => max (nN (aft true 0 c t)) (nN (aft false 0 c t)) := ⟨_, rfl⟩
        have hN : nN c = 1 + minN ((tells c).map vl) := by rw [hvl]; exact nN_s h2
        refine lc_rule (tells c).length (fun t θ' => ∃ kvs', θ'[kk]? = some (.dT kvs') ∧ KnV fN n top kvs' ∧ Kept kk θ1 θ' ∧ θ'[θ1.length]? = some (.lst (nd (((tells c).take t).map vl))) ∧ θ1.length < θ'.length)
          ⟨kvs, th_left hk1, W, .ext .app, by rw [th_last]; rfl, by simp⟩ ?_ ?_
        · rintro i θ2 hi ⟨kvs2, hk2, W2, K2, hL2, ll2⟩
          obtain ⟨t, ht'⟩ : ∃ t, (tells c)[i]? = some t := ⟨_, List.getElem?_eq_getElem hi⟩
          have hmem := List.mem_of_getElem? ht'
          have hle := (mem_tells.mp hmem).1
          have hj2 := K2.at' _ _ njk hj
          refine ⟨rwN t, _, by rw [src_L hj2, List.getElem?_map, ht']; rfl, rfl, fun K5 k0 k1 => ?_⟩
          simp only [mxDN, List.map_cons, List.map_nil, List.replicate, List.cons_append, List.nil_append, List.set_cons_zero, List.set_cons_succ]
          refine k1 _ fun K6 h6 => ?_
          simp only [mxDN, List.map_cons, List.map_nil, List.replicate, List.cons_append, List.nil_append, List.set_cons_zero, List.set_cons_succ]
          have p1 := phi_lt (b := true) hmem
          have p2 := phi_lt (b := false) hmem
          have hl24 := ck.len
          refine ⟨rfl, s_cafter hle (by omega) ?_⟩
          refine ⟨rfl, ih _ θ2 kvs2 _ _ (by omega) (ck.aft hle) (by rw [aft_len hle, hn]) (Nat.le_trans (sum_aft hle) ht) hp hk2 W2 fun θ3 kvs3 hk3 W3 K3 => ?_⟩
          refine ⟨rfl, s_cafter hle (by omega) ?_⟩
          refine ⟨rfl, ih _ θ3 kvs3 _ _ (by omega) (ck.aft hle) (by rw [aft_len hle, hn]) (Nat.le_trans (sum_aft hle) ht) hp hk3 W3 fun θ4 kvs4 hk4 W4 K4 => ?_⟩
          rw [x_max2]
          have em : (if ((nN (aft false 0 c t) : Nat) : Int) > ((nN (aft true 0 c t) : Nat) : Int) then ((nN (aft false 0 c t) : Nat) : Int) else ((nN (aft true 0 c t) : Nat) : Int)) = ((vl t : Nat) : Int) := by
            rw [hvl]
            show _ = ((max (nN (aft true 0 c t)) (nN (aft false 0 c t)) : Nat) : Int)
            split <;> omega
          rw [em]
          have nLk : θ1.length ≠ kk := by omega
          have hL4 := K4.at' _ _ nLk (K3.at' _ _ nLk hL2)
          have hl4 := (List.getElem?_eq_some_iff.mp hL4).1
          refine h6 _ _ _ hL4 (by unfold nd; rw [List.length_map, List.length_map, ez, List.length_take]; omega) ⟨kvs4, ?_, W4, ?_, ?_, by rw [List.length_set]; exact hl4⟩
          · rw [List.getElem?_set_ne nLk]
            exact hk4
          · refine ⟨?_, fun m o hm ho => ?_⟩
            · rw [List.length_set]
              exact (K2.trans (K3.trans K4)).len
            · have := (List.getElem?_eq_some_iff.mp ho).1
              rw [List.getElem?_set_ne (by omega)]
              exact (K2.trans (K3.trans K4)).at' m o hm ho
          · rw [List.getElem?_set_self hl4, List.take_add_one, ht', List.map_append, nd_snoc]
            rfl
        · rintro θ2 ⟨kvs2, hk2, W2, K2, hL2, ll2⟩
          have hj2 := K2.at' _ _ njk hj
          refine ⟨by rw [src_L hj2, List.getElem?_eq_none (by rw [List.length_map]; omega)], ?_⟩
          rw [List.take_length] at hL2
          have ei : intsD (nd ((tells c).map vl)) = some (((tells c).map vl).map fun k : Nat => (k : Int)) := by
            have := intsD_map (((tells c).map vl).map fun k : Nat => (k : Int))
            rw [List.map_map] at this
            exact this
          rw [x_intsP hL2 ei]
          have lne : 0 < ((tells c).map vl).length := List.length_pos_iff.mpr (tells_map h2)
          refine ⟨by rw [List.length_map]; exact lne, fun m hm hb => ?_⟩
          rw [minN_is hm hb]
          dsimp only
          rw [x_addI]
          have e1' : (1 : Int) + ((minN ((tells c).map vl) : Nat) : Int) = ((fN (iI c) : Nat) : Int) := by rw [fN_iI, hN]; omega
          rw [e1', nd_iI]
          have few4 := W2.few
          refine x_setT1 hk2 (by omega) ?_
          obtain ⟨W4, lk⟩ := W2.put' hst
          have hlk : kk < θ2.length := (List.getElem?_eq_some_iff.mp hk2).1
          have hk4 : (θ2.set kk (.dT (putD kvs2 (keyS (iI c)) (.int (fN (iI c) : Nat)))))[kk]? = some (.dT (putD kvs2 (keyS (iI c)) (.int (fN (iI c) : Nat)))) := List.getElem?_set_self hlk
          rw [x_seqN]
          simp only [mxDN, List.map_cons, List.map_nil, List.replicate, List.cons_append, List.nil_append, List.set_cons_zero, List.set_cons_succ]
          refine x_ixdT (E := E) hk4 lk ?_
          rw [fN_iI]
          refine end_same (hQ _ _ ?_ W4 ⟨?_, fun m o hm ho => ?_⟩)
          · rw [← fN_iI c]
            exact hk4
          · rw [List.length_set]
            exact ((Kept.ext e1).trans K2).len
          · rw [List.getElem?_set_ne (Ne.symm hm)]
            exact ((Kept.ext (kk := kk) e1).trans K2).at' m o hm ho
end Sp

/-! Xa6: what the law's search finds. -/
namespace Sp
open PySem PySem.Spec PyProof.Rows L2 Mn
variable {E : Exn → Th → Prop} {θ : Th} {Q : Dv → Th → Prop} {n top : Nat}
theorem nkS_nd {c : List Nat} {q : Nat} : nKeyT (.tup [.tup (nd c), .int (q : Nat)]) = some (nkS (iI c) q) := by
  rw [nd_iI]
  exact nkS_key
def gdC (c : List Nat) (p : Nat) (t : List Nat) : Bool := decide (0 < t.sum ∧ t.sum < c.sum) && (decide (nN (aft true 0 c t) ≤ p) && decide (nN (aft false 0 c t) ≤ p))
theorem gdC_any {c : List Nat} {p : Nat} (h : 2 ≤ c.sum) : (tst c).any (gdC c p) = decide (nN c ≤ p + 1) := by
  rw [Bool.eq_iff_iff, List.any_eq_true, decide_eq_true_eq, nN_le h]
  unfold gdC
  simp only [Bool.and_eq_true, decide_eq_true_eq]
  constructor
  · rintro ⟨t, ht, h1, h2, h3⟩
    exact ⟨t, mem_tells.mpr ⟨mem_tst.mp ht, h1⟩, h2, h3⟩
  · rintro ⟨t, ht, h2, h3⟩
    obtain ⟨h4, h5⟩ := mem_tells.mp ht
    exact ⟨t, mem_tst.mpr h4, h5, h2, h3⟩
theorem any_takeG {α : Type} {p : α → Bool} {l : List α} {t : Nat} {m : α} (hm : l[t]? = some m) : (l.take (t + 1)).any p = ((l.take t).any p || p m) := by
  rw [List.take_add_one, hm, List.any_append]
  simp
theorem s_lsettledC {jk : Nat} : ∀ (f : Nat) (c : List Nat) (q : Nat) (θ : Th) (kvs : List (NestedKey × Dv)) (E : Exn → Th → Prop) (Q : Dv → Th → Prop), q < f → CK c → c.length = n → c.sum ≤ top → (top + 2) ^ n ≤ 100000 → q ≤ 40 → θ[jk]? = some (.dN kvs) → KnF fN n top kvs →
    (∀ θ' kvs', Kept jk θ θ' → θ'[jk]? = some (.dN kvs') → KnF fN n top kvs' → Q (.bl (decide (nN c ≤ q))) θ') → Cm28.c__law_settled f [.tup (nd c), .int (q : Nat), .obj jk] E θ Q := by
  intro f
  induction f with
  | zero => intro c q θ kvs E Q hf; omega
  | succ f ih =>
    intro c q θ kvs E Q hf ck hn ht hp hq hk W hQ
    have ez := sizeLine_eq
    have hst := stk_iI hn ht
    have few := W.few
    unfold Cm28.c__law_settled Cm28.m__law_settled
    simp only [mxDN, List.map_cons, List.map_nil, List.replicate, List.cons_append, List.nil_append, List.set_cons_zero, List.set_cons_succ]
    refine sum_ndT ?_
    rw [x_le, x_boolK]
    by_cases h1 : c.sum ≤ 1
    · rw [if_pos (decide_eq_true (by omega))]
      have := hQ θ kvs .refl hk W
      rw [nN_0 h1, decide_eq_true (Nat.zero_le _)] at this
      exact end_same this
    have h2 : 2 ≤ c.sum := by omega
    rw [if_neg (by rw [decide_eq_true_eq]; omega), x_seqN]
    simp only [mxDN, List.map_cons, List.map_nil, List.replicate, List.cons_append, List.nil_append, List.set_cons_zero, List.set_cons_succ]
    by_cases hq0 : q = 0
    · rw [if_pos (decide_eq_true (by omega))]
      have := hQ θ kvs .refl hk W
      have hpos := nN_pos h2
      rw [decide_eq_false (by omega)] at this
      exact end_same this
    rw [if_neg (by rw [decide_eq_true_eq]; omega), x_seqN]
    simp only [mxDN, List.map_cons, List.map_nil, List.replicate, List.cons_append, List.nil_append, List.set_cons_zero, List.set_cons_succ]
    refine ⟨two_line, in_N hk nkS_nd ?_⟩
    rw [x_boolK]
    cases c' : lookD kvs (nkS (iI c) q) with
    | some v =>
      have ev := W.look c'
      rw [if_neg (by simp), x_seqN]
      simp only [mxDN, List.map_cons, List.map_nil, List.replicate, List.cons_append, List.nil_append, List.set_cons_zero, List.set_cons_succ]
      refine ⟨two_line, ix_dN hk nkS_nd c' ?_⟩
      rw [ev, fN_iI]
      exact end_same (hQ θ kvs .refl hk W)
    | none =>
      rw [if_pos (by simp), x_seqN]
      simp only [mxDN, List.map_cons, List.map_nil, List.replicate, List.cons_append, List.nil_append, List.set_cons_zero, List.set_cons_succ]
      obtain ⟨p, rfl⟩ : ∃ p, q = p + 1 := ⟨q - 1, by omega⟩
      have ga := gdC_any (p := p) h2
      refine ⟨rfl, s_lawtests ck fun θ1 j e1 hj => ?_⟩
      simp only [mxDN, List.map_cons, List.map_nil, List.replicate, List.cons_append, List.nil_append, List.set_cons_zero, List.set_cons_succ, hj]
      have hk1 := e1.at hk
      have njk : j ≠ jk := fun e => by rw [e, hk1] at hj; cases hj
      have few2 := ck.few c.length
      rw [List.take_length] at few2
      refine for_rule (tst c).length (fun t ρ θ' => ∃ x4 kvs', ρ = [some (.tup (nd c)), some (.int (p + 1 : Nat)), some (.obj jk), some (.bl (((tst c).take t).any (gdC c p))), x4] ∧ Kept jk θ1 θ' ∧ θ'[jk]? = some (.dN kvs') ∧ KnF fN n top kvs')
        ⟨none, kvs, rfl, .refl, hk1, W⟩ ?_ ?_
      · rintro i ρ θ2 hi ⟨x4, kvs2, rfl, K2, hk2, W2⟩
        obtain ⟨t, ht'⟩ : ∃ t, (tst c)[i]? = some t := ⟨_, List.getElem?_eq_getElem hi⟩
        have hle := mem_tst.mp (List.mem_of_getElem? ht')
        refine ⟨rwN t, _, by rw [src_L (K2.at' _ _ njk hj), List.getElem?_map, ht']; rfl, rfl, fun K LK => ?_⟩
        have ea := any_takeG (p := gdC c p) ht'
        have nx : ∀ (b : Bool) (θ' : Th) (kvs' : List (NestedKey × Dv)), b = ((tst c).take (i + 1)).any (gdC c p) → Kept jk θ1 θ' → θ'[jk]? = some (.dN kvs') → KnF fN n top kvs' → K (.nx [some (.tup (nd c)), some (.int (p + 1 : Nat)), some (.obj jk), some (.bl b), some (rwN t)]) θ' := fun b θ' kvs' e k1 k2 k3 => LK.nx _ _ ⟨_, rfl, some (rwN t), kvs', by rw [e], k1, k2, k3⟩
        clear LK
        rw [ea] at nx
        simp only [mxDN, List.map_cons, List.map_nil, List.replicate, List.cons_append, List.nil_append, List.set_cons_zero, List.set_cons_succ, List.set_cons_zero, List.set_cons_succ]
        cases hg : ((tst c).take i).any (gdC c p) with
        | true =>
          rw [Bool.not_true, if_neg Bool.false_ne_true, if_neg Bool.false_ne_true]
          exact nx true θ2 kvs2 (by rw [hg]; rfl) K2 hk2 W2
        | false =>
          rw [Bool.not_false, if_pos rfl]
          rw [hg, Bool.false_or] at nx
          refine sum_ndT ?_
          rw [x_lt, x_chK]
          by_cases b1 : 0 < t.sum
          case neg =>
            rw [if_neg (by rw [decide_eq_true_eq]; omega), x_boolK, if_neg Bool.false_ne_true]
            exact nx false θ2 kvs2 (by unfold gdC; rw [decide_eq_false (by omega), Bool.false_and]) K2 hk2 W2
          rw [if_pos (decide_eq_true (by omega))]
          refine sum_ndT ?_
          rw [x_lt, x_boolK]
          by_cases b2 : t.sum < c.sum
          case neg =>
            rw [if_neg (by rw [decide_eq_true_eq]; omega)]
            exact nx false θ2 kvs2 (by unfold gdC; rw [decide_eq_false (by omega), Bool.false_and]) K2 hk2 W2
          rw [if_pos (decide_eq_true (by omega))]
          have hs24 : c.sum ≤ 24 := by have := ck.sz; omega
          have hl24 := ck.len
          have ep : ((p + 1 : Nat) : Int) - 1 = ((p : Nat) : Int) := by omega
          have egd : gdC c p t = (decide (nN (aft true 0 c t) ≤ p) && decide (nN (aft false 0 c t) ≤ p)) := by unfold gdC; rw [decide_eq_true ⟨b1, b2⟩, Bool.true_and]
          rw [egd] at nx
          refine ⟨rfl, s_moved hle (by omega) (by omega) ?_⟩
          rw [ep]
          refine ⟨rfl, ih _ p θ2 kvs2 _ _ (by omega) (ck.aft hle) (by rw [aft_len hle, hn]) (Nat.le_trans (sum_aft hle) ht) hp (by omega) hk2 W2 fun θ3 kvs3 K3 hk3 W3 => ?_⟩
          rw [x_andK]
          cases ha : decide (nN (aft true 0 c t) ≤ p) with
          | false =>
            rw [if_neg Bool.false_ne_true]
            rw [ha, Bool.false_and] at nx
            exact nx false θ3 kvs3 rfl (K2.trans K3) hk3 W3
          | true =>
            rw [if_pos rfl]
            rw [ha, Bool.true_and] at nx
            simp only [mxDN, List.map_cons, List.map_nil, List.replicate, List.cons_append, List.nil_append, List.set_cons_zero, List.set_cons_succ, ep]
            refine ⟨rfl, s_moved hle (by omega) (by omega) ?_⟩
            refine ⟨rfl, ih _ p θ3 kvs3 _ _ (by omega) (ck.aft hle) (by rw [aft_len hle, hn]) (Nat.le_trans (sum_aft hle) ht) hp (by omega) hk3 W3 fun θ4 kvs4 K4 hk4 W4 => ?_⟩
            exact nx _ θ4 kvs4 rfl ((K2.trans K3).trans K4) hk4 W4
      · rintro ρ θ2 ⟨x4, kvs2, rfl, K2, hk2, W2⟩
        refine ⟨by rw [src_L (K2.at' _ _ njk hj), List.getElem?_eq_none (by rw [List.length_map]; omega)], ?_⟩
        rw [List.take_length, ga, ← fN_iI]
        rw [x_seqN, x_putN]
        simp only [mxDN, List.map_cons, List.map_nil, List.replicate, List.cons_append, List.nil_append, List.set_cons_zero, List.set_cons_succ]
        refine ⟨two_line, ?_⟩
        have few2 := W2.few
        obtain ⟨w1, w2⟩ := W2.put (st := iI c) (q := p + 1) hst hq
        refine set_dN hk2 nkS_nd (by omega) ?_
        rw [x_seqN]
        simp only [mxDN, List.map_cons, List.map_nil, List.replicate, List.cons_append, List.nil_append, List.set_cons_zero, List.set_cons_succ]
        have hk3 : (θ2.set jk (.dN (putD kvs2 (nkS (iI c) (p + 1)) (.bl (decide (fN (iI c) ≤ p + 1))))))[jk]? = some (.dN (putD kvs2 (nkS (iI c) (p + 1)) (.bl (decide (fN (iI c) ≤ p + 1))))) := List.getElem?_set_self (List.getElem?_eq_some_iff.mp hk2).1
        refine ⟨two_line, ix_dN hk3 nkS_nd w2 ?_⟩
        have hQ2 := hQ _ _ (((Kept.ext e1).trans K2).trans ⟨by rw [List.length_set]; exact Nat.le_refl _, fun n o hn ho => by rw [List.getElem?_set_ne (fun e => hn e.symm)]; exact ho⟩) hk3 w1
        rw [← fN_iI] at hQ2
        exact end_same hQ2
theorem s_lleastC {c : List Nat} (ck : CK c) (hn : c.length = n) (ht : c.sum ≤ top) (hp : (top + 2) ^ n ≤ 100000) (hphi : phi c ≤ 24) (hQ : Q (.int (nN c : Nat)) θ) : Cm28.c__law_least [.tup (nd c)] E θ Q := by
  have hneed := nN_phi _ (Nat.le_refl (phi c))
  unfold Cm28.c__law_least Cm28.m__law_least
  simp only [mxDN, List.map_cons, List.map_nil, List.replicate, List.cons_append, List.nil_append, List.set_cons_zero, List.set_cons_succ]
  rw [x_dN, x_seqN]
  simp only [mxDN, List.map_cons, List.map_nil, List.replicate, List.cons_append, List.nil_append, List.set_cons_zero, List.set_cons_succ]
  refine ⟨⟨by decide, by decide⟩, ?_⟩
  rw [show (30 : Int).toNat = 30 from rfl]
  refine for_rule 30 (fun i ρ θ' => ∃ x3 kvs', i ≤ nN c ∧ ρ = [some (.tup (nd c)), some (.obj θ.length), x3] ∧ Kept θ.length (θ ++ [.dN []]) θ' ∧ θ'[θ.length]? = some (.dN kvs') ∧ KnF fN n top kvs') ⟨none, [], Nat.zero_le _, rfl, .refl, th_last, .nil⟩ ?_ ?_
  · rintro i ρ θ' hi ⟨x3, kvs', hle, rfl, K1, hk1, W1⟩
    refine ⟨.int (i : Nat), _, by rw [rng_at hi]; simp, rfl, fun K LK => ?_⟩
    simp only [mxDN, List.map_cons, List.map_nil, List.replicate, List.cons_append, List.nil_append, List.set_cons_zero, List.set_cons_succ]
    refine ⟨rfl, s_lsettledC 26 c i θ' kvs' _ _ (by omega) ck hn ht hp (by omega) hk1 W1 fun θ2 kvs2 K2 hk2 W2 => ?_⟩
    rw [x_boolK]
    by_cases hd : nN c ≤ i
    · have e : i = nN c := by omega
      rw [if_pos (decide_eq_true hd)]
      refine LK.rt _ _ ?_
      rw [e]
      show defK θ Q (.rt (.int (nN c : Nat))) θ2
      exact end_ext hQ (ext_kept .app (K1.trans K2) (Nat.le_refl _)) fun _ => rfl
    · rw [if_neg (by rw [decide_eq_true_eq]; exact hd)]
      exact LK.nx _ _ ⟨_, rfl, some (.int (i : Nat)), kvs2, by omega, rfl, K1.trans K2, hk2, W2⟩
  · rintro ρ θ' ⟨x3, kvs', hle, rfl, K1, hk1, W1⟩
    omega
/-! ### fewest_counts -/
def cnt0 (m k : Nat) : List Nat := m :: List.replicate k 0
theorem cnt0_sum (m k : Nat) : (cnt0 m k).sum = m := by
  unfold cnt0
  rw [List.sum_cons]
  have : (List.replicate k 0).sum = 0 := by
    induction k with
    | zero => rfl
    | succ k ih => rw [List.replicate_succ, List.sum_cons, ih]
  omega
theorem cnt0_len (m k : Nat) : (cnt0 m k).length = k + 1 := by unfold cnt0; rw [List.length_cons, List.length_replicate]
theorem phi0 (k : Nat) : phi (List.replicate k 0) = 0 := by
  induction k with
  | zero => rfl
  | succ k ih => rw [List.replicate_succ, phi, ih]; omega
theorem cnt0_phi (m k : Nat) : phi (cnt0 m k) = m * (k + 1) := by
  unfold cnt0 phi
  rw [List.length_replicate, phi0]
  omega
theorem nd_cnt0 {m k : Nat} : Dv.int (m : Nat) :: id_ (List.replicate k 0) = nd (cnt0 m k) := by
  unfold cnt0 nd id_
  rw [List.map_cons, List.map_replicate, List.map_replicate]
  rfl
/-- the counts that the law asks for -/
structure FewOk (m k : Nat) : Prop where
  h24 : m * (k + 1) ≤ 24
  hk : k ≤ 3
theorem FewOk.ck {m k : Nat} (h : FewOk m k) : CK (cnt0 m k) := by
  have h1 := h.h24
  have h2 := h.hk
  refine ⟨?_, by rw [cnt0_len]; omega⟩
  rw [cnt0_sum, cnt0_len]
  by_cases hk : k = 0
  · subst hk; omega
  · left
    have := Nat.mul_le_mul (Nat.le_refl m) (show 2 ≤ k + 1 by omega)
    omega
theorem FewOk.pow {m k : Nat} (h : FewOk m k) : (m + 2) ^ (k + 1) ≤ 100000 := by
  have h1 := h.h24
  have h2 := h.hk
  have e : k = 0 ∨ k = 1 ∨ k = 2 ∨ k = 3 := by omega
  rcases e with rfl | rfl | rfl | rfl
  · show (m + 2) ^ 1 ≤ 100000
    rw [Nat.pow_one]
    omega
  · show (m + 2) ^ 2 ≤ 100000
    have := Nat.pow_le_pow_left (show m + 2 ≤ 14 by omega) 2
    omega
  · show (m + 2) ^ 3 ≤ 100000
    have := Nat.pow_le_pow_left (show m + 2 ≤ 10 by omega) 3
    omega
  · show (m + 2) ^ 4 ≤ 100000
    have := Nat.pow_le_pow_left (show m + 2 ≤ 8 by omega) 4
    omega
theorem mul_two_t {k : Int} {c : Nat} {E : Exn → Th → Prop} {θ : Th} {Q : Dv → Th → Prop} (h2 : c ≤ 1000) (hQ : Q (.tup (id_ (List.replicate c k))) θ) : oMulT2 (.tup [.int k]) (.int (c : Nat)) E θ Q := by
  rw [x_mulT2]
  by_cases hc : c = 0
  · subst hc
    rw [if_pos (show ((0 : Nat) : Int) = 0 from rfl)]
    exact ⟨by simp, hQ⟩
  · rw [if_neg (by omega)]
    exact mul_one_t (by omega) h2 hQ
theorem s_few {m k : Nat} (h : FewOk m k) (hQ : Q (.int (nN (cnt0 m k) : Nat)) θ) : Cm28.c_fewest_counts [.int (m : Nat), .int (k : Nat)] E θ Q := by
  have h24 := h.h24
  have hk := h.hk
  have hm : m ≤ 24 := by
    have := Nat.mul_le_mul (Nat.le_refl m) (show 1 ≤ k + 1 by omega)
    omega
  have hc : ((m : Nat) : Int) * (((k : Nat) : Int) + 1) = ((m * (k + 1) : Nat) : Int) := by rw [Int.natCast_mul]; rfl
  unfold Cm28.c_fewest_counts Cm28.m_fewest_counts
  simp only [mxDN, List.map_cons, List.map_nil, List.replicate, List.cons_append, List.nil_append, List.set_cons_zero, List.set_cons_succ]
  refine ⟨.inl ⟨by omega, by omega⟩, ?_⟩
  rw [hc, if_neg (by rw [decide_eq_true_eq]; omega), x_seqN]
  simp only [mxDN, List.map_cons, List.map_nil, List.replicate, List.cons_append, List.nil_append, List.set_cons_zero, List.set_cons_succ]
  show [Dv.int (m : Nat)].length ≤ sizeLine ∧ _
  refine ⟨sz (by simp), sz (by simp), mul_two_t (by omega) ?_⟩
  have l0 : (id_ (List.replicate k 0)).length = k := by simp [id_]
  refine ⟨by rw [sizeLine_eq, l0]; simp; omega, ?_⟩
  have e0 : [Dv.int (m : Nat)] ++ id_ (List.replicate k 0) = nd (cnt0 m k) := nd_cnt0
  rw [e0]
  refine ⟨rfl, s_needed (n := k + 1) (top := m) (kk := θ.length) 26 (cnt0 m k) _ [] _ _ (by rw [cnt0_phi]; omega) h.ck (cnt0_len m k) (by rw [cnt0_sum]; exact Nat.le_refl _) h.pow th_last .nil fun θ' kvs' _ _ K => ?_⟩
  exact end_ext hQ (ext_kept .app K (Nat.le_refl _)) fun _ => rfl
theorem s_fewref {m k : Nat} (h24 : 24 < m * (k + 1)) (hm : m ≤ 1000) (hk : k ≤ 1000) (hQ : Q (.bl true) θ) : Cm28.c__law_refused [.int (m : Nat), .int (k : Nat)] E θ Q := by
  have hc : ((m : Nat) : Int) * (((k : Nat) : Int) + 1) = ((m * (k + 1) : Nat) : Int) := by rw [Int.natCast_mul]; rfl
  unfold Cm28.c__law_refused Cm28.m__law_refused
  simp only [mxDN, List.map_cons, List.map_nil, List.replicate, List.cons_append, List.nil_append, List.set_cons_zero, List.set_cons_succ]
  rw [x_try]
  simp only [mxDN, List.map_cons, List.map_nil, List.replicate, List.cons_append, List.nil_append, List.set_cons_zero, List.set_cons_succ]
  refine ⟨rfl, ?_⟩
  unfold Cm28.c_fewest_counts Cm28.m_fewest_counts
  simp only [mxDN, List.map_cons, List.map_nil, List.replicate, List.cons_append, List.nil_append, List.set_cons_zero, List.set_cons_succ]
  refine ⟨.inl ⟨by omega, by omega⟩, ?_⟩
  rw [hc, if_pos (decide_eq_true (by omega))]
  show tryK _ _ _ _ _
  refine ⟨true, lk1, fun _ => ?_, fun z => Bool.noConfusion z⟩
  exact end_same hQ
end Sp

/-! Xa7: weights of counts. -/
namespace Sp
open PySem PySem.Spec PyProof.Rows L2 Mn
variable {E : Exn → Th → Prop} {θ : Th} {Q : Dv → Th → Prop}
def wgt (q : Nat) : List Nat → Nat
  | [] => 0
  | c :: cs => c * chs q (cs.length + 1) + wgt q cs
theorem chs_0 : ∀ m, chs 0 (m + 1) = 1
  | 0 => by simp [chs, cho]
  | m + 1 => by
    have := chs_0 m
    rw [chs] at this ⊢
    rw [chs]
    simp [cho] at this ⊢
    omega
theorem wgt_0 : ∀ c : List Nat, wgt 0 c = c.sum
  | [] => rfl
  | c :: cs => by rw [wgt, chs_0, wgt_0 cs, List.sum_cons]; omega
theorem wgt_two {q : Nat} : ∀ {c t : List Nat} {m1 m2 : Nat}, LeL t c → wgt q (aft true m1 c t) + wgt q (aft false m2 c t) = wgt (q + 1) c + (m1 + m2) * chs q c.length
  | [], [], m1, m2, _ => by simp [aft, wgt, chs]
  | c :: cs, t :: ts, m1, m2, .cons h hs => by
    obtain ⟨d, rfl⟩ : ∃ d, c = t + d := ⟨c - t, by omega⟩
    have ih := wgt_two (q := q) (m1 := d) (m2 := t) hs
    have l1 := aft_len (b := true) (m := d) hs
    have l2 := aft_len (b := false) (m := t) hs
    have e1 : aft true m1 ((t + d) :: cs) (t :: ts) = (t + m1) :: aft true d cs ts := by
      show (t + m1) :: aft true (t + d - t) cs ts = _
      rw [Nat.add_sub_cancel_left]
    have e2 : aft false m2 ((t + d) :: cs) (t :: ts) = (d + m2) :: aft false t cs ts := by
      show (t + d - t + m2) :: aft false (t + d - (t + d - t)) cs ts = _
      rw [Nat.add_sub_cancel_left, show t + d - d = t by omega]
    rw [e1, e2, wgt, wgt, wgt, l1, l2, List.length_cons, chs_s]
    generalize chs q (cs.length + 1) = A at *
    generalize chs q cs.length = B at *
    simp only [Nat.add_mul, Nat.mul_add] at *
    omega
theorem wgt_sum {q : Nat} {c : List Nat} : ((List.range c.length).map fun i => c.getD i 0 * chs q (c.length - i)).sum = wgt q c := by
  induction c with
  | nil => rfl
  | cons x c ih =>
    rw [List.length_cons, List.range_succ_eq_map, List.map_cons, List.sum_cons, List.map_map, wgt, ← ih]
    simp only [List.getD_cons_zero, Nat.sub_zero]
    congr 2
    refine List.map_congr_left fun i _ => ?_
    show (x :: c).getD (i + 1) 0 * chs q (c.length + 1 - (i + 1)) = _
    rw [List.getD_cons_succ, Nat.add_sub_add_right]
theorem x_sumC {k : Nat} {l : List Nat} (hk : θ[k]? = some (.lst (nd l))) (hQ : Q (.int (l.sum : Nat)) θ) : onInts sumL (.obj k) E θ Q := by
  have e : intsD (nd l) = some (l.map fun n : Nat => (n : Int)) := by
    have := intsD_map (l.map fun n : Nat => (n : Int))
    rw [List.map_map] at this
    exact this
  rw [x_intsP hk e]
  have es : (l.map fun n : Nat => (n : Int)).sum = ((l.sum : Nat) : Int) := by
    clear e hQ hk
    induction l with
    | nil => rfl
    | cons x l ih => rw [List.map_cons, List.sum_cons, ih, List.sum_cons]; omega
  unfold sumL
  rw [es]
  exact hQ
theorem s_cweight {q : Nat} {c : List Nat} (hq : q ≤ 1000) (hl : c.length ≤ 1000) (hc : ∀ x ∈ c, x < 2 ^ 63) (hQ : Q (.int (wgt q c : Nat)) θ) : Cm28.c_counts_weight [.tup (nd c), .int (q : Nat)] E θ Q := by
  unfold Cm28.c_counts_weight Cm28.m_counts_weight
  have lc : (nd c).length = c.length := by unfold nd; rw [List.length_map]
  simp only [mxDN, List.map_cons, List.map_nil, List.replicate, List.cons_append, List.nil_append, List.set_cons_zero, List.set_cons_succ, wipeE, lc]
  rw [x_seqN]
  simp only [mxDN, List.map_cons, List.map_nil, List.replicate, List.cons_append, List.nil_append, List.set_cons_zero, List.set_cons_succ, wipeE, lc]
  have es : SrcIs (.en (.T (nd c))) θ ((List.range c.length).map fun i => Dv.tup [.int (i : Nat), .int (c.getD i 0 : Nat)]) := by
    have := srcIds (θ := θ) (st := iI c)
    rw [← nd_iI] at this
    have l2 : (iI c).length = c.length := by unfold iI; rw [List.length_map]
    rw [l2] at this
    have e : ∀ i, (iI c).getD i 0 = ((c.getD i 0 : Nat) : Int) := fun i => by
      unfold iI
      rw [List.getD_eq_getElem?_getD, List.getD_eq_getElem?_getD, List.getElem?_map]
      cases c[i]? <;> rfl
    simp only [e] at this
    exact this
  refine lc_all1 (List.range c.length) (fun i => .tup [.int (i : Nat), .int (c.getD i 0 : Nat)]) (fun i => .int (c.getD i 0 * chs q (c.length - i) : Nat)) (by rw [List.length_range]; exact lt_line hl) es ?_ ?_
  · intro i hi θ' e
    have hi := List.mem_range.mp hi
    refine ⟨_, rfl, fun K2 h2 => ?_⟩
    have hci : c.getD i 0 < 2 ^ 63 := by
      rw [List.getD_eq_getElem?_getD, List.getElem?_eq_getElem hi]
      exact hc _ (List.getElem_mem hi)
    simp only [mxDN, List.map_cons, List.map_nil, List.replicate, List.cons_append, List.nil_append, List.set_cons_zero, List.set_cons_succ]
    refine ⟨rfl, s_choices (q := q) (m := (c.length : Int) - 1 - (i : Int)) hq (by omega) (by omega) ?_⟩
    rw [show ((c.length : Int) - 1 - (i : Int) + 1).toNat = c.length - i by omega, x_mulI]
    refine ⟨.inl ⟨by omega, by omega⟩, ?_⟩
    have := h2 _ .refl
    rw [Int.natCast_mul] at this
    exact this
  · intro θ2 e h2
    have e2 : ((List.range c.length).map fun i => Dv.int (c.getD i 0 * chs q (c.length - i) : Nat)) = nd ((List.range c.length).map fun i => c.getD i 0 * chs q (c.length - i)) := by unfold nd; rw [List.map_map]; rfl
    rw [e2] at h2
    refine x_sumC h2 ?_
    rw [wgt_sum]
    exact end_ext hQ e fun _ => rfl
/-! ### the law's drawn counts -/
theorem dl_at {ds : List Int} {a : Nat} {g : Th} {o : Ob} : (bx ds a ++ (g ++ [o]))[g.length + 2]? = some o := by
  have l2 : (bx ds a).length = 2 := rfl
  rw [← List.append_assoc, List.getElem?_append_right (by rw [List.length_append]; omega), show g.length + 2 - (bx ds a ++ g).length = 0 by rw [List.length_append]; omega]
  rfl
theorem dl_set {ds : List Int} {a : Nat} {g : Th} {o o' : Ob} : (bx ds a ++ (g ++ [o])).set (g.length + 2) o' = bx ds a ++ (g ++ [o']) := by
  have l2 : (bx ds a).length = 2 := rfl
  rw [← List.append_assoc, List.set_append_right _ _ (by rw [List.length_append]; omega), show g.length + 2 - (bx ds a ++ g).length = 0 by rw [List.length_append]; omega, List.set_cons_zero, List.append_assoc]
theorem dl_len {ds : List Int} {a : Nat} {g : Th} : (bx ds a ++ g).length = g.length + 2 := by
  rw [List.length_append]
  have l2 : (bx ds a).length = 2 := rfl
  omega
/-- [draw(box, f(x)) + .. for x in xs], the numbers taken off or not: vs what came -/
theorem lc_drawsC {ds : List Int} {a : Nat} {g : Th} {src : Src} {T : Tg} {elt : ME} {ρ : DEnv} {QT : Th → Prop} (n : Nat) (hn : n ≤ 10000) (dv : Nat → Dv) (R : Nat → Nat → Prop)
    (hsrc : ∀ θ i, i < n → src.at θ i = some (some (dv i))) (hend : ∀ θ, src.at θ n = some none)
    (hel : ∀ i, i < n → ∃ ρ1, asgT T (dv i) ρ = some ρ1 ∧ ∀ a' g' (K2 : Dv → Th → Prop), (∀ v, R i v → K2 (.int (v : Nat)) (bx ds (a' + 1) ++ g')) → elt ρ1 (fun _ _ => False) (bx ds a' ++ g') K2)
    (q : ∀ a' vs, vs.length = n → (∀ i (h : i < vs.length), R i vs[i]) → QT (bx ds a' ++ (g ++ [.lst (nd vs)]))) : ∃ m, lcGo src T bYes elt (bx ds a ++ g).length ρ m 0 (bx ds a ++ g ++ [.lst []]) QT := by
  rw [dl_len, List.append_assoc]
  refine lc_rule n (fun i θ' => ∃ a' vs, θ' = bx ds a' ++ (g ++ [.lst (nd vs)]) ∧ vs.length = i ∧ ∀ i (h : i < vs.length), R i vs[i]) ⟨a, [], rfl, rfl, fun i h => by cases h⟩ ?_ ?_
  · rintro i θ' hi ⟨a', vs, rfl, hl, hr⟩
    obtain ⟨ρ1, h1, h2⟩ := hel i hi
    refine ⟨dv i, ρ1, hsrc _ _ hi, h1, fun K k0 k1 => ?_⟩
    rw [x_bYes]
    refine k1 _ fun K2 h6 => h2 _ _ _ fun v hv => ?_
    refine h6 _ _ _ dl_at (by unfold nd; rw [List.length_map, sizeLine_eq]; omega) ⟨a' + 1, vs ++ [v], ?_, by rw [List.length_append, hl]; rfl, fun t ht => ?_⟩
    · rw [dl_set, nd_snoc]
    · by_cases e : t < vs.length
      · rw [List.getElem_append_left e]
        exact hr t e
      · rw [List.length_append] at ht
        have : t = vs.length := by simp at ht; omega
        subst this
        rw [List.getElem_append_right (Nat.le_refl _)]
        simp only [Nat.sub_self, List.getElem_cons_zero]
        rw [hl]
        exact hv
  · rintro θ' ⟨a', vs, rfl, hl, hr⟩
    exact ⟨hend _, q a' vs hl hr⟩
theorem leL_of : ∀ {t c : List Nat}, t.length = c.length → (∀ i (h : i < t.length) (h2 : i < c.length), t[i] ≤ c[i]) → LeL t c
  | [], [], _, _ => .nil
  | x :: t, y :: c, hl, h => .cons (h 0 (by simp) (by simp)) (leL_of (by simpa using hl) fun i h1 h2 => h (i + 1) (by simpa using h1) (by simpa using h2))
theorem big_iI {l : List Nat} (h : ∀ x ∈ l, x ≤ 10 ^ 40) : ∀ i ∈ iI l, Big i := fun i hi => by
  obtain ⟨x, hx, rfl⟩ := List.mem_map.mp hi
  have h1 := h x hx
  unfold Big
  rw [Int.natAbs_natCast]
  have h2 : (10 : Nat) ^ 40 < 10 ^ 90 := Nat.pow_lt_pow_right (by omega) (by omega)
  omega
theorem same_2nd {i j : Nat} {a b : List Nat} (hi : θ[i]? = some (.lst [.tup (nd a), .tup (nd b)])) (hj : θ[j]? = some (.lst [.tup (nd a), .tup (nd b)])) (ha : ∀ x ∈ a, x ≤ 10 ^ 40) (hb : ∀ x ∈ b, x ≤ 10 ^ 40) (al : a.length ≤ 100) (bl_ : b.length ≤ 100) (hQ : Q (.bl true) θ) : Cm.c__law_same [.obj i, .obj j] E θ Q := by
  rw [nd_iI, nd_iI] at hi hj
  exact same_2ids hi hj (big_iI ha) (big_iI hb) (by unfold iI; rw [List.length_map]; exact al) (by unfold iI; rw [List.length_map]; exact bl_) hQ
theorem s_fits {ds : List Int} {a : Nat} {g : Th} (hQ : ∀ (a' : Nat) (g' : Th), Q (.bl true) (bx ds a' ++ (g ++ g'))) : Cm28.c__law_fits [.obj 1] E (bx ds a ++ g) Q := by
  unfold Cm28.c__law_fits Cm28.m__law_fits
  simp only [mxDN, List.map_cons, List.map_nil, List.replicate, List.cons_append, List.nil_append, List.set_cons_zero, List.set_cons_succ, wipeE]
  refine ⟨rfl, s_draw (by omega) fun v v0 v1 => ?_⟩
  obtain ⟨k, rfl⟩ : ∃ v' : Nat, v = v' := ⟨v.toNat, by omega⟩
  rw [x_seqN]
  simp only [mxDN, List.map_cons, List.map_nil, List.replicate, List.cons_append, List.nil_append, List.set_cons_zero, List.set_cons_succ, wipeE]
  refine ⟨⟨by omega, by omega⟩, ?_⟩
  rw [show (((k : Nat) : Int) + 1).toNat = k + 1 by omega]
  refine lc_drawsC (k + 1) (by omega) (fun i => .int (i : Nat)) (fun _ v => v < 5) (fun θ i hi => by rw [rng_at hi]; simp) (fun θ => rng_end) (fun i hi => ⟨_, rfl, fun a' g' K2 h2 => ?_⟩) ?_
  · simp only [mxDN, List.map_cons, List.map_nil, List.replicate, List.cons_append, List.nil_append, List.set_cons_zero, List.set_cons_succ, wipeE]
    refine ⟨rfl, s_draw (by omega) fun v v0 v1 => ?_⟩
    have := h2 v.toNat (by omega)
    rw [show ((v.toNat : Nat) : Int) = v by omega] at this
    exact this
  intro a2 c hcl hc5
  rw [dl_len, dl_at]
  have hcs : ∀ x ∈ c, x < 5 := fun x hx => by
    obtain ⟨i, hi, rfl⟩ := List.mem_iff_getElem.mp hx
    exact hc5 i hi
  have lc : (nd c).length = c.length := by unfold nd; rw [List.length_map]
  simp only [mxDN, List.map_cons, List.map_nil, List.replicate, List.cons_append, List.nil_append, List.set_cons_zero, List.set_cons_succ, wipeE]
  rw [x_seqN]
  simp only [mxDN, List.map_cons, List.map_nil, List.replicate, List.cons_append, List.nil_append, List.set_cons_zero, List.set_cons_succ, wipeE]
  generalize hg2 : g ++ [Ob.lst (nd c)] = g2
  refine lc_drawsC c.length (by omega) (fun i => .int (c.getD i 0 : Nat)) (fun i v => v ≤ c.getD i 0) (fun θ i hi => ?_) (fun θ => ?_) (fun i hi => ⟨_, rfl, fun a' g' K2 h2 => ?_⟩) ?_
  · show some (nd c)[i]? = _
    unfold nd
    rw [List.getElem?_map, List.getD_eq_getElem?_getD, List.getElem?_eq_getElem hi]
    rfl
  · show some (nd c)[c.length]? = _
    rw [List.getElem?_eq_none (by omega)]
  · simp only [mxDN, List.map_cons, List.map_nil, List.replicate, List.cons_append, List.nil_append, List.set_cons_zero, List.set_cons_succ, wipeE]
    refine ⟨rfl, s_draw (by omega) fun v v0 v1 => ?_⟩
    have := h2 v.toNat (by omega)
    rw [show ((v.toNat : Nat) : Int) = v by omega] at this
    exact this
  intro a3 t htl ht
  have hle : LeL t c := leL_of htl fun i h1 h2 => by
    have := ht i h1
    rw [List.getD_eq_getElem?_getD, List.getElem?_eq_getElem h2] at this
    exact this
  rw [dl_len, dl_at]
  simp only [mxDN, List.map_cons, List.map_nil, List.replicate, List.cons_append, List.nil_append, List.set_cons_zero, List.set_cons_succ, wipeE]
  rw [x_seqN]
  simp only [mxDN, List.map_cons, List.map_nil, List.replicate, List.cons_append, List.nil_append, List.set_cons_zero, List.set_cons_succ, wipeE]
  have hc4 : c.length ≤ 4 := by omega
  have hcsum : c.sum ≤ 16 := by
    have : ∀ l : List Nat, (∀ x ∈ l, x < 5) → l.sum ≤ l.length * 4 := by
      intro l
      induction l with
      | nil => intro _; exact Nat.zero_le _
      | cons x l ih =>
        intro h
        have h1 := ih fun y hy => h y (.tail _ hy)
        have h2 := h x (.head _)
        rw [List.sum_cons, List.length_cons]
        omega
    have := this c hcs
    omega
  refine ⟨rfl, s_cafter hle (by omega) ?_⟩
  refine ⟨rfl, s_cafter hle (by omega) ?_⟩
  refine ⟨two_line, ?_⟩
  have s1 := sum_aft (b := true) (m := 0) hle
  have s2 := sum_aft (b := false) (m := 0) hle
  have n1 := aft_len (b := true) (m := 0) hle
  have n2 := aft_len (b := false) (m := 0) hle
  have hw := fun q => wgt_two (q := q) (m1 := 0) (m2 := 0) hle
  obtain ⟨A, hA⟩ : ∃ A, A = aft true 0 c t := ⟨_, rfl⟩
  obtain ⟨B, hB⟩ : ∃ B, B = aft false 0 c t := ⟨_, rfl⟩
  rw [← hA] at s1 n1
  rw [← hB] at s2 n2
  simp only [← hA, ← hB] at hw ⊢
  have mA : ∀ x ∈ A, x ≤ 16 := fun x hx => by have := mem_sum_le hx; omega
  have mB : ∀ x ∈ B, x ≤ 16 := fun x hx => by have := mem_sum_le hx; omega
  rw [List.append_assoc, ← hg2, List.append_assoc]
  rw [List.append_assoc]
  have l2 : ∀ a, (bx ds a).length = 2 := fun _ => rfl
  rw [show (bx ds a3 ++ (g ++ ([Ob.lst (nd c)] ++ [Ob.lst (nd t)]))).length = g.length + 4 by simp [l2]; omega]
  have h6 : ∀ a X, (bx ds a ++ (g ++ ([Ob.lst (nd c)] ++ ([Ob.lst (nd t)] ++ [Ob.lst [Dv.tup (nd A), Dv.tup (nd B)]]) ++ X)))[g.length + 4]? = some (.lst [Dv.tup (nd A), Dv.tup (nd B)]) := fun a X => by
    rw [← List.append_assoc, List.getElem?_append_right (by simp [l2]; omega), show g.length + 4 - (bx ds a ++ g).length = 2 by simp [l2]; omega]
    rfl
  have eG : [Ob.lst (nd c)] ++ ([Ob.lst (nd t)] ++ [Ob.lst [Dv.tup (nd A), Dv.tup (nd B)]]) = [Ob.lst (nd c), Ob.lst (nd t), Ob.lst [Dv.tup (nd A), Dv.tup (nd B)]] := rfl
  rw [eG] at h6
  simp only [List.cons_append, List.nil_append, List.append_assoc]
  generalize hG : [Ob.lst (nd c), Ob.lst (nd t), Ob.lst [Dv.tup (nd A), Dv.tup (nd B)]] = G at h6 ⊢
  rw [x_seqN]
  simp only [mxDN, List.map_cons, List.map_nil, List.replicate, List.cons_append, List.nil_append, List.set_cons_zero, List.set_cons_succ]
  refine ⟨rfl, s_moved hle (by omega) (by omega) ?_⟩
  refine ⟨rfl, s_moved hle (by omega) (by omega) ?_⟩
  rw [← hA, ← hB]
  refine ⟨two_line, ?_⟩
  have h6' : (bx ds a3 ++ (g ++ G) ++ [Ob.lst [Dv.tup (nd A), Dv.tup (nd B)]])[g.length + 4]? = some (.lst [Dv.tup (nd A), Dv.tup (nd B)]) := by
    have := h6 a3 [Ob.lst [Dv.tup (nd A), Dv.tup (nd B)]]
    rw [← List.append_assoc, ← List.append_assoc] at this
    rw [← List.append_assoc]
    exact this
  refine ⟨rfl, same_2nd h6' th_last (fun x hx => Nat.le_trans (mA x hx) (by decide)) (fun x hx => Nat.le_trans (mB x hx) (by decide)) (by omega) (by omega) ?_⟩
  rw [x_boolK, if_neg (by decide), x_seqN]
  rw [List.append_assoc, List.append_assoc]
  simp only [mxDN, List.map_cons, List.map_nil, List.replicate, List.cons_append, List.nil_append, List.set_cons_zero, List.set_cons_succ]
  refine ⟨rfl, s_draw (by omega) fun q q0 q1 => ?_⟩
  obtain ⟨q, rfl⟩ : ∃ v' : Nat, q = v' := ⟨q.toNat, by omega⟩
  rw [x_addI, x_seqN]
  have h7 := h6 (a3 + 1) [Ob.lst [Dv.tup (nd A), Dv.tup (nd B)]]
  generalize G ++ [Ob.lst [Dv.tup (nd A), Dv.tup (nd B)]] = G2 at h7 ⊢
  have eq1 : (1 : Int) + ((q : Nat) : Int) - 1 = ((q : Nat) : Int) := by omega
  have eq2 : (1 : Int) + ((q : Nat) : Int) = ((q + 1 : Nat) : Int) := by omega
  have i0 : ∀ x y : Dv, atI [x, y] 0 = some x := fun _ _ => rfl
  have i1 : ∀ x y : Dv, atI [x, y] 1 = some y := fun _ _ => rfl
  simp only [mxDN, List.map_cons, List.map_nil, List.replicate, List.cons_append, List.nil_append, List.set_cons_zero, List.set_cons_succ, h7, i0, i1, x_optW, eq1]
  refine ⟨rfl, s_cweight (by omega) (by omega) (fun x hx => by have := mA x hx; omega) ?_⟩
  simp only [mxDN, List.map_cons, List.map_nil, List.replicate, List.cons_append, List.nil_append, List.set_cons_zero, List.set_cons_succ, h7, i0, i1, x_optW, eq1]
  refine ⟨rfl, s_cweight (by omega) (by omega) (fun x hx => by have := mB x hx; omega) ?_⟩
  rw [eq2, x_addI]
  refine ⟨rfl, s_cweight (by omega) (by omega) (fun x hx => by have := hcs x hx; omega) ?_⟩
  have ew := hw q
  rw [Nat.zero_add, Nat.zero_mul, Nat.add_zero] at ew
  rw [x_neI, x_boolK, show ((wgt q A : Nat) : Int) + ((wgt q B : Nat) : Int) = ((wgt (q + 1) c : Nat) : Int) by omega, if_neg (by simp), x_seqN]
  simp only [mxDN, List.map_cons, List.map_nil, List.replicate, List.cons_append, List.nil_append, List.set_cons_zero, List.set_cons_succ]
  refine ⟨rfl, s_cweight (q := 0) (by omega) (by omega) (fun x hx => by have := hcs x hx; omega) ?_⟩
  refine sum_ndT ?_
  rw [wgt_0, x_eqI, decide_eq_true rfl]
  exact end_same (hQ _ _)
end Sp

/-! Xa8: the law's formula; Pascal's rows; great counts. -/
namespace Sp
open PySem PySem.Spec PyProof.Rows L2 Mn
variable {E : Exn → Th → Prop} {θ : Th} {Q : Dv → Th → Prop}
theorem s_formula {a L : Nat} (hL : L < 80) (h : IsL (fp a) L) (hQ : Q (.int (L : Nat)) θ) : Cm28.c__law_formula [.int (a : Nat)] E θ Q := by
  unfold Cm28.c__law_formula Cm28.m__law_formula
  simp only [mxDN, List.map_cons, List.map_nil, List.replicate, List.cons_append, List.nil_append, List.set_cons_zero, List.set_cons_succ]
  rw [x_seqN]
  simp only [mxDN, List.map_cons, List.map_nil, List.replicate, List.cons_append, List.nil_append, List.set_cons_zero, List.set_cons_succ]
  refine ⟨⟨by decide, by decide⟩, ?_⟩
  rw [show (80 : Int).toNat = 80 from rfl]
  refine for_rule 80 (fun i ρ θ' => ∃ x2 x3, ρ = [some (.int (a : Nat)), some (.int (2 ^ i : Nat)), x2, x3] ∧ θ' = θ ∧ i ≤ L) ⟨none, none, rfl, rfl, Nat.zero_le _⟩ ?_ ?_
  · rintro i ρ θ' hi ⟨x2, x3, rfl, rfl, hle⟩
    refine ⟨.int (i : Nat), _, by rw [rng_at hi]; simp, rfl, fun K LK => ?_⟩
    simp only [mxDN, List.map_cons, List.map_nil, List.replicate, List.cons_append, List.nil_append, List.set_cons_zero, List.set_cons_succ]
    refine ⟨.inr ⟨by omega, by omega⟩, by omega, ?_⟩
    have ep : ∀ x : Int, (if decide (((a : Nat) : Int) % 2 = 1) = true then (1 : Int) else 0) = if a % 2 = 1 then 1 else 0 := fun _ => by
      by_cases c : a % 2 = 1
      · rw [if_pos c, if_pos (decide_eq_true (by omega))]
      · rw [if_neg c, if_neg (by rw [decide_eq_true_eq]; omega)]
    rw [ep 0]
    refine ⟨.inl ⟨by omega, by omega⟩, ?_⟩
    rw [x_seqN]
    simp only [mxDN, List.map_cons, List.map_nil, List.replicate, List.cons_append, List.nil_append, List.set_cons_zero, List.set_cons_succ]
    have e : decide (((a : Nat) : Int) * (((i : Nat) : Int) + 1) + (((i : Nat) : Int) - 1) * (if a % 2 = 1 then 1 else 0) ≤ ((2 ^ i : Nat) : Int)) = decide (fp a i) := by
      unfold fp
      have e : (a : Int) * ((i : Int) + 1) = ((a * (i + 1) : Nat) : Int) := by push_cast; rfl
      rw [e]
      refine decide_eq_decide.mpr ?_
      by_cases h : a % 2 = 1
      · rw [if_pos h, if_pos h, if_pos h]
        omega
      · rw [if_neg h, if_neg h, if_neg h]
        omega
    rw [e]
    by_cases hf : fp a i
    · rw [if_pos (decide_eq_true hf)]
      have : i = L := by
        by_cases c : i < L
        · exact absurd hf (h.2 i c)
        · omega
      subst this
      exact LK.rt _ _ (end_same hQ)
    · rw [if_neg (by rw [decide_eq_true_eq]; exact hf), x_seqN]
      simp only [mxDN, List.map_cons, List.map_nil, List.replicate, List.cons_append, List.nil_append, List.set_cons_zero, List.set_cons_succ]
      refine ⟨.inr ⟨by omega, by omega⟩, ?_⟩
      have e2 : ((2 ^ i : Nat) : Int) * 2 = ((2 ^ (i + 1) : Nat) : Int) := by rw [Nat.pow_succ, Int.natCast_mul]; rfl
      rw [e2]
      have hne : i ≠ L := fun e => hf (e ▸ h.1)
      exact LK.nx _ _ ⟨_, rfl, _, _, rfl, rfl, by omega⟩
  · rintro ρ θ' ⟨x2, x3, rfl, rfl, hle⟩
    omega
/-! ### Pascal's rows -/
def pas (n : Nat) : List Nat := (List.range (n + 1)).map (cho n)
theorem pas_len (n : Nat) : (pas n).length = n + 1 := by unfold pas; rw [List.length_map, List.length_range]
theorem pas_at {n j : Nat} (h : j ≤ n) : (pas n)[j]? = some (cho n j) := by
  unfold pas
  rw [List.getElem?_map, List.getElem?_range (by omega)]
  rfl
theorem pas_s (n : Nat) : 1 :: ((List.range n).map (fun j => cho n j + cho n (j + 1)) ++ [1]) = pas (n + 1) := by
  unfold pas
  rw [List.range_succ_eq_map, List.map_cons, cho_0, List.map_map, List.range_succ, List.map_append]
  congr 1
  congr 1
  show [1] = [cho (n + 1) (n + 1)]
  rw [cho_self]
theorem pas_sum {n m : Nat} (h : m ≤ n + 1) : ((pas n).take m).sum = chs n m := by
  unfold pas
  rw [← List.map_take, List.take_range, Nat.min_eq_left h, chs_sum]
theorem wgt_le {q : Nat} : ∀ c : List Nat, wgt q c ≤ c.sum * 2 ^ q
  | [] => Nat.zero_le _
  | x :: c => by
    have h1 := wgt_le (q := q) c
    have h2 := Nat.mul_le_mul (Nat.le_refl x) (chs_le q (c.length + 1))
    rw [wgt, List.sum_cons, Nat.add_mul]
    omega
theorem aft_ix {b : Bool} : ∀ {c t : List Nat} {m : Nat}, LeL t c → ((List.range c.length).map fun i => stay b (c.getD i 0) (t.getD i 0) + if i = 0 then m else c.getD (i - 1) 0 - stay b (c.getD (i - 1) 0) (t.getD (i - 1) 0)) = aft b m c t
  | [], [], m, _ => rfl
  | x :: c, y :: t, m, .cons h hs => by
    have ih := aft_ix (b := b) (m := x - stay b x y) hs
    rw [List.length_cons, List.range_succ_eq_map, List.map_cons, List.map_map]
    unfold aft
    rw [← ih]
    congr 1
    refine List.map_congr_left fun i hi => ?_
    show stay b ((x :: c).getD (i + 1) 0) ((y :: t).getD (i + 1) 0) + (if i + 1 = 0 then m else (x :: c).getD i 0 - stay b ((x :: c).getD i 0) ((y :: t).getD i 0)) = _
    rw [List.getD_cons_succ, List.getD_cons_succ, if_neg (by omega)]
    cases i with
    | zero => rfl
    | succ i => rw [if_neg (by omega)]; rfl
theorem mul10 : (10 : Int) ^ (12 : Int).toNat = 1000000000000 := by decide
theorem s_lgreat {ds : List Int} {a : Nat} {g : Th} (hQ : ∀ (a' : Nat) (g' : Th), Q (.bl true) (bx ds a' ++ (g ++ g'))) : Cm28.c__law_great [.obj 1] E (bx ds a ++ g) Q := by
  unfold Cm28.c__law_great Cm28.m__law_great
  have l2 : ∀ a, (bx ds a).length = 2 := fun _ => rfl
  simp only [mxDN, List.map_cons, List.map_nil, List.replicate, List.cons_append, List.nil_append, List.set_cons_zero, List.set_cons_succ, wipeE]
  refine ⟨sz (by simp), ?_⟩
  rw [x_seqN]
  simp only [mxDN, List.map_cons, List.map_nil, List.replicate, List.cons_append, List.nil_append, List.set_cons_zero, List.set_cons_succ, wipeE]
  rw [List.append_assoc]
  refine ⟨rfl, s_draw (by omega) fun v v0 v1 => ?_⟩
  obtain ⟨q, hq⟩ : ∃ q : Nat, (200 : Int) - v = q := ⟨(200 - v).toNat, by omega⟩
  have hq1 : q ≤ 200 := by omega
  have hq2 : 100 < q := by omega
  rw [x_subI, hq, x_seqN]
  simp only [mxDN, List.map_cons, List.map_nil, List.replicate, List.cons_append, List.nil_append, List.set_cons_zero, List.set_cons_succ, wipeE]
  refine ⟨⟨by omega, by omega⟩, ?_⟩
  rw [show ((q : Nat) : Int).toNat = q from rfl]
  have h0 : (bx ds (a + 1) ++ (g ++ [Ob.lst [Dv.int 1]]))[(bx ds a ++ g).length]? = some (.lst (nd (pas 0))) := by
    rw [dl_len, dl_at]
    simp [pas, nd, cho_0]
  generalize hj0 : (bx ds a ++ g).length = j0 at h0 ⊢
  refine for_rule q (fun i ρ θ' => ∃ j x3 g', ρ = [some (.obj 1), some (.obj j), some (.int (q : Nat)), x3, none, none, none, none, none, none, none, none, none] ∧ θ' = bx ds (a + 1) ++ (g ++ g') ∧ θ'[j]? = some (.lst (nd (pas i))) ∧ 2 ≤ j) ⟨_, none, _, rfl, rfl, h0, by rw [← hj0, dl_len]; omega⟩ ?_ ?_
  · rintro i ρ θ' hi ⟨j, x3, g', rfl, rfl, hj, _⟩
    refine ⟨.int (i : Nat), _, by rw [rng_at hi]; simp, rfl, fun K LK => ?_⟩
    simp only [mxDN, List.map_cons, List.map_nil, List.replicate, List.cons_append, List.nil_append, List.set_cons_zero, List.set_cons_succ, wipeE, List.set_cons_zero, List.set_cons_succ]
    refine ⟨sz (by simp), ?_⟩
    have hja := th_left (g := [Ob.lst [Dv.int 1]]) hj
    have lp : (nd (pas i)).length = i + 1 := by unfold nd; rw [List.length_map, pas_len]
    have h1a : (bx ds (a + 1) ++ (g ++ g') ++ [Ob.lst [Dv.int 1]])[(bx ds (a + 1) ++ (g ++ g')).length]? = some (.lst [Dv.int 1]) := th_last
    have ext : ∀ θ', Ext (bx ds (a + 1) ++ (g ++ g') ++ [Ob.lst [Dv.int 1]]) θ' → ∃ g'', θ' = bx ds (a + 1) ++ (g ++ g'') := fun θ' e => by
      obtain ⟨x, rfl⟩ := e
      exact ⟨g' ++ ([Ob.lst [Dv.int 1]] ++ x), by simp only [List.append_assoc]⟩
    have la2 : 2 ≤ (bx ds (a + 1) ++ (g ++ g') ++ [Ob.lst [Dv.int 1]]).length := by rw [List.append_assoc, dl_len]; omega
    generalize (bx ds (a + 1) ++ (g ++ g')).length = j1 at h1a ⊢
    generalize bx ds (a + 1) ++ (g ++ g') ++ [Ob.lst [Dv.int 1]] = θa at hja h1a ext la2 ⊢
    clear hj
    simp only [mxDN, List.map_cons, List.map_nil, List.replicate, List.cons_append, List.nil_append, List.set_cons_zero, List.set_cons_succ, hja, lp]
    rw [show ((i + 1 : Nat) : Int) - 1 = ((i : Nat) : Int) by omega]
    refine ⟨⟨by omega, by omega⟩, ?_⟩
    rw [show ((i : Nat) : Int).toNat = i from rfl]
    refine lc_all1 (List.range i) (fun j => .int (j : Nat)) (fun j => .int (cho i j + cho i (j + 1) : Nat)) (by rw [List.length_range]; exact lt_line (by omega)) srcR ?_ ?_
    · intro t ht θ3 e3
      have ht := List.mem_range.mp ht
      refine ⟨_, rfl, fun K2 h2 => ?_⟩
      have a1 : atI (nd (pas i)) ((t : Nat) : Int) = some (.int (cho i t : Nat)) := at_nat (by unfold nd; rw [List.getElem?_map, pas_at (by omega)]; rfl)
      have a2 : atI (nd (pas i)) (((t : Nat) : Int) + 1) = some (.int (cho i (t + 1) : Nat)) := at_nat (j := t + 1) (by unfold nd; rw [List.getElem?_map, pas_at (by omega)]; rfl)
      simp only [mxDN, List.map_cons, List.map_nil, List.replicate, List.cons_append, List.nil_append, List.set_cons_zero, List.set_cons_succ, e3.at hja, a1, a2, x_optW]
      exact h2 _ .refl
    · intro θ3 e3 h3
      rw [e3.at h1a, h3, x_addL]
      refine ⟨by rw [sizeLine_eq, List.length_map, List.length_range]; simp; omega, ?_⟩
      refine ⟨sz (by simp), ?_⟩
      simp only [mxDN, List.map_cons, List.map_nil, List.replicate, List.cons_append, List.nil_append, List.set_cons_zero, List.set_cons_succ]
      rw [th_left th_last, th_last, x_addL]
      refine ⟨by rw [sizeLine_eq]; simp; omega, ?_⟩
      have er : Dv.int 1 :: (List.range i).map (fun j => Dv.int (cho i j + cho i (j + 1) : Nat)) ++ [Dv.int 1] = nd (pas (i + 1)) := by
        rw [← pas_s]
        unfold nd
        rw [List.map_cons, List.map_append, List.map_map]
        rfl
      rw [er]
      obtain ⟨g2, e2⟩ := ext (θ3 ++ [Ob.lst (Dv.int 1 :: (List.range i).map (fun j => Dv.int (cho i j + cho i (j + 1) : Nat)))] ++ [Ob.lst [Dv.int 1]] ++ [Ob.lst (nd (pas (i + 1)))]) (((e3.trans .app).trans .app).trans .app)
      exact LK.nx _ _ ⟨_, rfl, _, _, g2, rfl, e2, th_last, by have := (Kept.ext (kk := 0) e3).len; rw [List.length_append, List.length_append]; omega⟩
  · rintro ρ θ' ⟨j, x3, g', rfl, rfl, hj, j2⟩
    refine ⟨rng_end, ?_⟩
    have hrow : ∀ a X, (bx ds a ++ (g ++ g' ++ X))[j]? = some (.lst (nd (pas q))) := fun a X => bx_move j2 hj
    clear hj
    rw [x_seqN]
    simp only [mxDN, List.map_cons, List.map_nil, List.replicate, List.cons_append, List.nil_append, List.set_cons_zero, List.set_cons_succ, wipeE]
    refine ⟨rfl, s_draw (by omega) fun w w0 w1 => ?_⟩
    obtain ⟨n, hn⟩ : ∃ n : Nat, (1 : Int) + w = n := ⟨(1 + w).toNat, by omega⟩
    have hn1 : 1 ≤ n := by omega
    have hn2 : n ≤ 21 := by omega
    rw [x_addI, hn, x_seqN]
    simp only [mxDN, List.map_cons, List.map_nil, List.replicate, List.cons_append, List.nil_append, List.set_cons_zero, List.set_cons_succ, wipeE]
    generalize hg0 : g ++ g' = g0 at hrow ⊢
    refine ⟨⟨by omega, by omega⟩, ?_⟩
    rw [show ((n : Nat) : Int).toNat = n from rfl]
    refine lc_drawsC n (by omega) (fun i => .int (i : Nat)) (fun _ v => v ≤ 10 ^ 12 ∧ 1000 ≤ v) (fun θ i hi => by rw [rng_at hi]; simp) (fun θ => rng_end) (fun i hi => ⟨_, rfl, fun a' g' K2 h2 => ?_⟩) ?_
    · simp only [mxDN, List.map_cons, List.map_nil, List.replicate, List.cons_append, List.nil_append, List.set_cons_zero, List.set_cons_succ, wipeE]
      refine ⟨⟨by decide, by decide, by decide⟩, ?_⟩
      refine ⟨rfl, s_draw (by omega) fun v v0 v1 => ?_⟩
      rw [x_subI, mul10]
      have := h2 (1000000000000 - v).toNat ⟨by omega, by omega⟩
      rw [show (((1000000000000 - v).toNat : Nat) : Int) = 1000000000000 - v by omega] at this
      exact this
    intro a2 c hcl hcv
    have hcb : ∀ x ∈ c, x ≤ 10 ^ 12 ∧ 1000 ≤ x := fun x hx => by
      obtain ⟨i, hi, rfl⟩ := List.mem_iff_getElem.mp hx
      exact hcv i hi
    rw [dl_len, dl_at]
    simp only [mxDN, List.map_cons, List.map_nil, List.replicate, List.cons_append, List.nil_append, List.set_cons_zero, List.set_cons_succ, wipeE]
    have lc : (nd c).length = c.length := by unfold nd; rw [List.length_map]
    have ac : ∀ i, i < n → atI (nd c) ((i : Nat) : Int) = some (.int (c.getD i 0 : Nat)) := fun i hi => at_nat (by unfold nd; rw [List.getElem?_map, List.getD_eq_getElem?_getD, List.getElem?_eq_getElem (by omega)]; rfl)
    generalize hg1 : g0 ++ [Ob.lst (nd c)] = g1
    have hrow1 : ∀ a X, (bx ds a ++ (g1 ++ X))[j]? = some (.lst (nd (pas q))) := fun a X => by
      rw [← hg1, List.append_assoc g0]
      exact hrow a _
    rw [x_seqN]
    simp only [mxDN, List.map_cons, List.map_nil, List.replicate, List.cons_append, List.nil_append, List.set_cons_zero, List.set_cons_succ, wipeE]
    refine ⟨⟨by omega, by omega⟩, ?_⟩
    rw [show ((n : Nat) : Int).toNat = n from rfl]
    refine lc_all1 (List.range n) (fun i => .int (i : Nat)) (fun i => .int (c.getD i 0 * chs q (c.length - i) : Nat)) (by rw [List.length_range]; exact lt_line (by omega)) srcR ?_ ?_
    · intro i hi θ3 e3
      have hi := List.mem_range.mp hi
      refine ⟨_, rfl, fun K2 h2 => ?_⟩
      have hr3 := e3.at (show (bx ds a2 ++ g1)[j]? = _ by have := hrow1 a2 []; rw [List.append_nil] at this; exact this)
      simp only [mxDN, List.map_cons, List.map_nil, List.replicate, List.cons_append, List.nil_append, List.set_cons_zero, List.set_cons_succ, wipeE, ac i hi, x_optW, hr3]
      have ek : ((n : Nat) : Int) - ((i : Nat) : Int) = ((n - i : Nat) : Int) := by omega
      have ec : Mn.cutD (nd (pas q)) none (some ((n - i : Nat) : Int)) = nd ((pas q).take (n - i)) := by
        rw [cut_tk]
        unfold nd
        rw [List.map_take]
      rw [ek, ec]
      refine x_sumC th_last ?_
      rw [pas_sum (by omega), x_mulI]
      have hci : c.getD i 0 ≤ 10 ^ 12 := by
        rw [List.getD_eq_getElem?_getD, List.getElem?_eq_getElem (by omega)]
        exact (hcb _ (List.getElem_mem (by omega))).1
      refine ⟨.inl ⟨by omega, by omega⟩, ?_⟩
      have := h2 (θ3 ++ [Ob.lst (nd ((pas q).take (n - i)))]) .app
      rw [Int.natCast_mul, hcl] at this
      exact this
    · intro θ3 e3 h3
      have e4 : ((List.range n).map fun i => Dv.int (c.getD i 0 * chs q (c.length - i) : Nat)) = nd ((List.range c.length).map fun i => c.getD i 0 * chs q (c.length - i)) := by unfold nd; rw [List.map_map, hcl]; rfl
      rw [e4] at h3
      refine x_sumC h3 ?_
      rw [wgt_sum]
      obtain ⟨X, rfl⟩ := e3
      rw [List.append_assoc]
      clear h3
      generalize hg2 : g1 ++ X = g2
      have hend : ∀ a' Y, ∃ g', bx ds a' ++ (g2 ++ Y) = bx ds a' ++ (g ++ g') := fun a' Y => by
        rw [← hg2, ← hg1, ← hg0]
        exact ⟨g' ++ ([Ob.lst (nd c)] ++ (X ++ Y)), by simp only [List.append_assoc]⟩
      rw [x_seqN]
      simp only [mxDN, List.map_cons, List.map_nil, List.replicate, List.cons_append, List.nil_append, List.set_cons_zero, List.set_cons_succ, wipeE]
      refine ⟨⟨by omega, by omega⟩, ?_⟩
      rw [show ((n : Nat) : Int).toNat = n from rfl]
      refine lc_drawsC n (by omega) (fun i => .int (i : Nat)) (fun i v => v ≤ c.getD i 0) (fun θ i hi => by rw [rng_at hi]; simp) (fun θ => rng_end) (fun i hi => ⟨_, rfl, fun a' g' K2 h2 => ?_⟩) ?_
      · simp only [mxDN, List.map_cons, List.map_nil, List.replicate, List.cons_append, List.nil_append, List.set_cons_zero, List.set_cons_succ, wipeE, ac i hi, x_optW]
        have hci : 1000 ≤ c.getD i 0 := by
          rw [List.getD_eq_getElem?_getD, List.getElem?_eq_getElem (by omega)]
          exact (hcb _ (List.getElem_mem (by omega))).2
        refine ⟨rfl, s_draw (by omega) fun v v0 v1 => ?_⟩
        rw [x_subI]
        have := h2 (c.getD i 0 - v.toNat) (by omega)
        rw [show (((c.getD i 0 - v.toNat : Nat) : Nat) : Int) = ((c.getD i 0 : Nat) : Int) - v by omega] at this
        exact this
      intro a3 t htl ht
      have hle : LeL t c := leL_of (by omega) fun i h1 h2 => by
        have := ht i h1
        rw [List.getD_eq_getElem?_getD, List.getElem?_eq_getElem h2] at this
        exact this
      have at1 : ∀ i, i < n → atI (nd t) ((i : Nat) : Int) = some (.int (t.getD i 0 : Nat)) := fun i hi => at_nat (by unfold nd; rw [List.getElem?_map, List.getD_eq_getElem?_getD, List.getElem?_eq_getElem (by omega)]; rfl)
      have hti : ∀ i, i < n → t.getD i 0 ≤ c.getD i 0 := fun i hi => by
        have := ht i (by omega)
        rw [List.getD_eq_getElem?_getD, List.getElem?_eq_getElem (by omega)]
        exact this
      rw [dl_len, dl_at]
      simp only [mxDN, List.map_cons, List.map_nil, List.replicate, List.cons_append, List.nil_append, List.set_cons_zero, List.set_cons_succ, wipeE]
      rw [x_seqN]
      simp only [mxDN, List.map_cons, List.map_nil, List.replicate, List.cons_append, List.nil_append, List.set_cons_zero, List.set_cons_succ, wipeE]
      refine ⟨⟨by omega, by omega⟩, ?_⟩
      rw [show ((n : Nat) : Int).toNat = n from rfl]
      have hend2 : ∀ θ', Ext (bx ds a3 ++ (g2 ++ [Ob.lst (nd t)])) θ' → ∃ g', θ' = bx ds a3 ++ (g ++ g') := fun θ' e => by
        obtain ⟨Y, rfl⟩ := e
        rw [List.append_assoc, List.append_assoc]
        exact hend a3 _
      generalize bx ds a3 ++ (g2 ++ [Ob.lst (nd t)]) = θb at hend2 ⊢
      refine lc_all1 (List.range n) (fun i => .int (i : Nat)) (fun i => .int (c.getD i 0 - t.getD i 0 : Nat)) (by rw [List.length_range]; exact lt_line (by omega)) srcR ?_ ?_
      · intro i hi θ4 e4
        have hi := List.mem_range.mp hi
        have := hti i hi
        refine ⟨_, rfl, fun K2 h2 => ?_⟩
        simp only [mxDN, List.map_cons, List.map_nil, List.replicate, List.cons_append, List.nil_append, List.set_cons_zero, List.set_cons_succ, wipeE, ac i hi, at1 i hi, x_optW]
        have := h2 θ4 .refl
        rw [show (((c.getD i 0 - t.getD i 0 : Nat) : Nat) : Int) = ((c.getD i 0 : Nat) : Int) - ((t.getD i 0 : Nat) : Int) by omega] at this
        exact this
      intro θ4 e4 h4
      rw [x_seqN]
      simp only [mxDN, List.map_cons, List.map_nil, List.replicate, List.cons_append, List.nil_append, List.set_cons_zero, List.set_cons_succ, wipeE]
      refine ⟨⟨by omega, by omega⟩, ?_⟩
      rw [show ((n : Nat) : Int).toNat = n from rfl]
      have ar : ∀ i, i < n → atI ((List.range n).map fun i => Dv.int (c.getD i 0 - t.getD i 0 : Nat)) ((i : Nat) : Int) = some (.int (c.getD i 0 - t.getD i 0 : Nat)) := fun i hi => at_nat (by rw [List.getElem?_map, List.getElem?_range hi]; rfl)
      generalize ((List.range n).map fun i => Dv.int (c.getD i 0 - t.getD i 0 : Nat)) = rest at h4 ar
      have eB : ∀ b : Bool, ((List.range n).map fun i => Dv.int (stay b (c.getD i 0) (t.getD i 0) + if i = 0 then 0 else c.getD (i - 1) 0 - stay b (c.getD (i - 1) 0) (t.getD (i - 1) 0) : Nat)) = nd (aft b 0 c t) := fun b => by
        rw [← aft_ix hle, hcl]
        unfold nd
        rw [List.map_map]
        rfl
      refine lc_all1 (List.range n) (fun i => .int (i : Nat)) (fun i => .int (stay true (c.getD i 0) (t.getD i 0) + if i = 0 then 0 else c.getD (i - 1) 0 - stay true (c.getD (i - 1) 0) (t.getD (i - 1) 0) : Nat)) (by rw [List.length_range]; exact lt_line (by omega)) srcR ?_ ?_
      · intro i hi θ5 e5
        have hi := List.mem_range.mp hi
        refine ⟨_, rfl, fun K2 h2 => ?_⟩
        simp only [mxDN, List.map_cons, List.map_nil, List.replicate, List.cons_append, List.nil_append, List.set_cons_zero, List.set_cons_succ, wipeE, at1 i hi, x_optW, x_if]
        have h3 := h2 θ5 .refl
        have es : ∀ i, stay true (c.getD i 0) (t.getD i 0) = t.getD i 0 := fun _ => rfl
        rw [es, es] at h3
        by_cases i0 : i = 0
        · rw [if_neg (by rw [decide_eq_true_eq]; omega)]
          rw [if_pos i0] at h3
          exact h3
        · rw [if_pos (decide_eq_true (by omega))]
          rw [if_neg i0] at h3
          have a1 := ar (i - 1) (by omega)
          rw [show ((i - 1 : Nat) : Int) = ((i : Nat) : Int) - 1 by omega] at a1
          simp only [mxDN, List.map_cons, List.map_nil, List.replicate, List.cons_append, List.nil_append, List.set_cons_zero, List.set_cons_succ, e5.at h4, a1, x_optW]
          exact h3
      intro θ5 e5 h5
      rw [eB] at h5
      simp only [mxDN, List.map_cons, List.map_nil, List.replicate, List.cons_append, List.nil_append, List.set_cons_zero, List.set_cons_succ, h5]
      rw [x_seqN]
      simp only [mxDN, List.map_cons, List.map_nil, List.replicate, List.cons_append, List.nil_append, List.set_cons_zero, List.set_cons_succ, wipeE]
      refine ⟨⟨by omega, by omega⟩, ?_⟩
      rw [show ((n : Nat) : Int).toNat = n from rfl]
      refine lc_all1 (List.range n) (fun i => .int (i : Nat)) (fun i => .int (stay false (c.getD i 0) (t.getD i 0) + if i = 0 then 0 else c.getD (i - 1) 0 - stay false (c.getD (i - 1) 0) (t.getD (i - 1) 0) : Nat)) (by rw [List.length_range]; exact lt_line (by omega)) srcR ?_ ?_
      · intro i hi θ6 e6
        have hi := List.mem_range.mp hi
        refine ⟨_, rfl, fun K2 h2 => ?_⟩
        have hr6 := e6.at (e5.at h4)
        simp only [mxDN, List.map_cons, List.map_nil, List.replicate, List.cons_append, List.nil_append, List.set_cons_zero, List.set_cons_succ, wipeE, hr6, ar i hi, x_optW, x_if]
        have h3 := h2 θ6 .refl
        have es : ∀ i, stay false (c.getD i 0) (t.getD i 0) = c.getD i 0 - t.getD i 0 := fun _ => rfl
        rw [es, es] at h3
        by_cases i0 : i = 0
        · rw [if_neg (by rw [decide_eq_true_eq]; omega)]
          rw [if_pos i0] at h3
          exact h3
        · rw [if_pos (decide_eq_true (by omega))]
          rw [if_neg i0] at h3
          have a1 := at1 (i - 1) (by omega)
          have hl1 := hti (i - 1) (by omega)
          rw [show c.getD (i - 1) 0 - (c.getD (i - 1) 0 - t.getD (i - 1) 0) = t.getD (i - 1) 0 by omega] at h3
          rw [show ((i - 1 : Nat) : Int) = ((i : Nat) : Int) - 1 by omega] at a1
          simp only [mxDN, List.map_cons, List.map_nil, List.replicate, List.cons_append, List.nil_append, List.set_cons_zero, List.set_cons_succ, a1, x_optW]
          exact h3
      intro θ6 e6 h6
      rw [eB] at h6
      simp only [mxDN, List.map_cons, List.map_nil, List.replicate, List.cons_append, List.nil_append, List.set_cons_zero, List.set_cons_succ, h6]
      rw [x_seqN]
      simp only [mxDN, List.map_cons, List.map_nil, List.replicate, List.cons_append, List.nil_append, List.set_cons_zero, List.set_cons_succ, wipeE]
      refine ⟨rfl, s_cafter hle (by omega) ?_⟩
      refine ⟨rfl, s_cafter hle (by omega) ?_⟩
      refine ⟨two_line, two_line, ?_⟩
      have hcs : c.sum ≤ c.length * 10 ^ 12 := by
        have : ∀ l : List Nat, (∀ x ∈ l, x ≤ 10 ^ 12) → l.sum ≤ l.length * 10 ^ 12 := by
          intro l
          induction l with
          | nil => intro _; exact Nat.zero_le _
          | cons x l ih =>
            intro h
            have h1 := ih fun y hy => h y (.tail _ hy)
            have h2 := h x (.head _)
            rw [List.sum_cons, List.length_cons, Nat.succ_mul]
            omega
        exact this c fun x hx => (hcb x hx).1
      have hcs2 : c.sum ≤ 10 ^ 14 := Nat.le_trans hcs (by rw [hcl]; have := Nat.mul_le_mul hn2 (Nat.le_refl (10 ^ 12)); omega)
      have sb : ∀ b, ∀ x ∈ aft b 0 c t, x ≤ 10 ^ 40 := fun b x hx => by
        have h1 := sum_aft (b := b) (m := 0) hle
        have h2 := mem_sum_le hx
        have h3 : (10 : Nat) ^ 14 ≤ 10 ^ 40 := Nat.pow_le_pow_right (by omega) (by omega)
        omega
      have nb : ∀ b, (aft b 0 c t).length ≤ 100 := fun b => by rw [aft_len hle]; omega
      refine ⟨rfl, same_2nd (th_left th_last) th_last (sb _) (sb _) (nb _) (nb _) ?_⟩
      rw [x_boolK, if_neg (by decide), x_seqN]
      simp only [mxDN, List.map_cons, List.map_nil, List.replicate, List.cons_append, List.nil_append, List.set_cons_zero, List.set_cons_succ]
      refine ⟨rfl, s_cweight (by omega) (by omega) (fun x hx => by have := (hcb x hx).1; omega) ?_⟩
      have hbig : Big ((wgt q c : Nat) : Int) := by
        unfold Big
        rw [Int.natAbs_natCast]
        have h1 := wgt_le (q := q) c
        have h2 : 2 ^ q ≤ 2 ^ 200 := Nat.pow_le_pow_right (by omega) hq1
        have h3 := Nat.mul_le_mul hcs2 h2
        have h4 : (10 : Nat) ^ 14 * 2 ^ 200 < 10 ^ 90 := by decide
        exact Nat.lt_of_le_of_lt (Nat.le_trans h1 h3) h4
      refine ⟨rfl, same_int hbig ?_⟩
      obtain ⟨G, eG⟩ := hend2 _ (((e4.trans (e5.trans e6)).trans .app).trans .app)
      rw [eG]
      exact end_same (hQ _ _)
end Sp

/-! Xa9: the fewest tests of small counts. -/
namespace Sp
open PySem PySem.Spec PyProof.Rows L2 Mn
def tb1 : List (List Nat) := [[0, 0, 1, 2, 2, 3, 3, 3, 3, 4, 4, 4, 4, 4, 4, 4, 4, 5, 5, 5, 5], [0, 2, 3, 3, 3, 4, 4, 4, 4, 4, 4, 4, 5, 5, 5, 5, 5, 5, 5], [3, 4, 4, 4, 4, 4, 4, 5, 5, 5, 5, 5, 5, 5, 5, 5, 5], [5, 5, 5, 5, 5, 5, 5, 5, 5, 5, 5, 5, 5, 5, 5], [5, 5, 5, 5, 5, 5, 5, 5, 5, 6, 6, 6, 6], [6, 6, 6, 6, 6, 6, 6, 6, 6, 6, 6], [6, 6, 6, 6, 6, 6, 6, 6, 6], [6, 6, 6, 6, 6, 6, 6], [6, 6, 6, 6, 6], [7, 7, 7], [7]]
def tb0 : List Nat := [0, 0, 1, 2, 2, 3, 3, 3, 3, 4, 4, 4, 4, 4, 4, 4, 4, 5, 5, 5, 5, 5, 5, 5, 5]
def g1 (c : List Nat) : Nat := (tb1.getD (c.getD 0 0) []).getD (c.getD 1 0) 0
def g0 (c : List Nat) : Nat := tb0.getD (c.getD 0 0) 0
def stp (g : List Nat → Nat) (c : List Nat) : Nat := if c.sum ≤ 1 then 0 else 1 + minN ((tells c).map fun t => max (g (aft true 0 c t)) (g (aft false 0 c t)))
theorem chk1 : ((List.range 11).all fun a => (List.range (21 - 2 * a)).all fun b => g1 [a, b] == stp g1 [a, b]) = true := by decide +kernel
theorem chk0 : ((List.range 25).all fun a => g0 [a] == stp g0 [a]) = true := by decide +kernel
theorem nN_tab {g : List Nat → Nat} {m K : Nat} (hg : ∀ c : List Nat, c.length = m → phi c ≤ K → g c = stp g c) : ∀ (k : Nat) {c : List Nat}, c.length = m → phi c ≤ k → k ≤ K → nN c = g c := by
  intro k
  induction k with
  | zero =>
    intro c hl hp hk
    rw [hg c hl (by omega)]
    unfold stp
    by_cases h : c.sum ≤ 1
    · rw [if_pos h, nN_0 h]
    · have := phi_lt (b := true) (tells_ne (c := c) (by omega))
      omega
  | succ k ih =>
    intro c hl hp hk
    rw [hg c hl (by omega)]
    unfold stp
    by_cases h : c.sum ≤ 1
    · rw [if_pos h, nN_0 h]
    · rw [if_neg h, nN_s (by omega)]
      congr 2
      refine List.map_congr_left fun t ht => ?_
      have hle := (mem_tells.mp ht).1
      have h1 := phi_lt (b := true) ht
      have h2 := phi_lt (b := false) ht
      rw [ih (by rw [aft_len hle, hl]) (by omega) (by omega), ih (c := aft false 0 c t) (by rw [aft_len hle, hl]) (by omega) (by omega)]
theorem nN_1 {c : List Nat} (hl : c.length = 2) (hp : phi c ≤ 20) : nN c = g1 c := by
  refine nN_tab (m := 2) (K := 20) (fun c hl hp => ?_) 20 hl hp (Nat.le_refl _)
  match c, hl with
  | [a, b], _ =>
    have hp : a * 2 + (b * 1 + 0) ≤ 20 := hp
    have h := List.all_eq_true.mp chk1 a (List.mem_range.mpr (by omega))
    have h := List.all_eq_true.mp h b (List.mem_range.mpr (by omega))
    exact beq_iff_eq.mp h
theorem nN_z {c : List Nat} (hl : c.length = 1) (hp : phi c ≤ 24) : nN c = g0 c := by
  refine nN_tab (m := 1) (K := 24) (fun c hl hp => ?_) 24 hl hp (Nat.le_refl _)
  match c, hl with
  | [a], _ =>
    have hp : a * 1 + 0 ≤ 24 := hp
    have h := List.all_eq_true.mp chk0 a (List.mem_range.mpr (by omega))
    exact beq_iff_eq.mp h
theorem n24 : nN (cnt0 24 0) = 5 := by
  rw [nN_z (cnt0_len _ _) (by rw [cnt0_phi]; omega)]
  decide
theorem n13 : nN (cnt0 1 3) = 0 := nN_0 (by rw [cnt0_sum]; omega)
/-- one false answer: the formula tells it -/
theorem n_fp {n : Nat} (h1 : 1 ≤ n) (h2 : n ≤ 10) : IsL (fp n) (nN (cnt0 n 1)) ∧ nN (cnt0 n 1) ≤ 20 := by
  rw [nN_1 (cnt0_len _ _) (by rw [cnt0_phi]; omega)]
  have key : ∀ n ∈ List.range 11, 1 ≤ n → (fp n (g1 (cnt0 n 1)) ∧ ∀ p ∈ List.range (g1 (cnt0 n 1)), ¬ fp n p) ∧ g1 (cnt0 n 1) ≤ 20 := by decide +kernel
  obtain ⟨⟨k1, k2⟩, k3⟩ := key n (List.mem_range.mpr (by omega)) h1
  exact ⟨⟨k1, fun p hp => k2 p (List.mem_range.mpr hp)⟩, k3⟩
end Sp

set_option maxHeartbeats 1000000
namespace K18
open PySem PySem.Spec PyProof.Rows L2 Mn
def topS (i : Nat) : Stmt := PySem.Challenge.pw_firstbreak_k18_fewest_by_counts.main.body.getD i (.Pass ⟨0, 0, 0, 0⟩)
abbrev stm__law_same : Stmt := topS 21
abbrev N__law_same : List Str := ["actual", "due"]
theorem sc__law_same : FnScope N__law_same ["actual", "due"] (defScope stm__law_same) := ⟨rfl, rfl, rfl, by decide +kernel, rfl, by decide +kernel, by decide +kernel⟩
abbrev stm__law_formula : Stmt := topS 29
abbrev N__law_formula : List Str := ["n", "power", "q", "need"]
theorem sc__law_formula : FnScope N__law_formula ["n"] (defScope stm__law_formula) := ⟨rfl, rfl, rfl, by decide +kernel, rfl, by decide +kernel, by decide +kernel⟩
abbrev stm_odd_surplus : Stmt := topS 6
abbrev N_odd_surplus : List Str := ["n", "q"]
theorem sc_odd_surplus : FnScope N_odd_surplus ["n", "q"] (defScope stm_odd_surplus) := ⟨rfl, rfl, rfl, by decide +kernel, rfl, by decide +kernel, by decide +kernel⟩
abbrev stm_fewest_patches : Stmt := topS 5
abbrev N_fewest_patches : List Str := ["n", "q"]
theorem sc_fewest_patches : FnScope N_fewest_patches ["n"] (defScope stm_fewest_patches) := ⟨rfl, rfl, rfl, by decide +kernel, rfl, by decide +kernel, by decide +kernel⟩
abbrev stm_telling_tests : Stmt := topS 15
abbrev N_telling_tests : List Str := ["counts", "rows", "many", "row", "some"]
theorem sc_telling_tests : FnScope N_telling_tests ["counts"] (defScope stm_telling_tests) := ⟨rfl, rfl, rfl, by decide +kernel, rfl, by decide +kernel, by decide +kernel⟩
abbrev stm_counts_after : Stmt := topS 11
abbrev N_counts_after : List Str := ["counts", "taken", "broken", "stays", "many", "some", "moves", "moved"]
theorem sc_counts_after : FnScope N_counts_after ["counts", "taken", "broken"] (defScope stm_counts_after) := ⟨rfl, rfl, rfl, by decide +kernel, rfl, by decide +kernel, by decide +kernel⟩
abbrev stm_needed : Stmt := topS 14
abbrev N_needed : List Str := ["known", "counts", "taken"]
theorem sc_needed : FnScope N_needed ["known", "counts"] (defScope stm_needed) := ⟨rfl, rfl, rfl, by decide +kernel, rfl, by decide +kernel, by decide +kernel⟩
abbrev stm_fewest_counts : Stmt := topS 13
abbrev N_fewest_counts : List Str := ["n", "k"]
theorem sc_fewest_counts : FnScope N_fewest_counts ["n", "k"] (defScope stm_fewest_counts) := ⟨rfl, rfl, rfl, by decide +kernel, rfl, by decide +kernel, by decide +kernel⟩
abbrev stm__law_refused : Stmt := topS 32
abbrev N__law_refused : List Str := ["n", "k"]
theorem sc__law_refused : FnScope N__law_refused ["n", "k"] (defScope stm__law_refused) := ⟨rfl, rfl, rfl, by decide +kernel, rfl, by decide +kernel, by decide +kernel⟩
abbrev stm__law_draw : Stmt := topS 19
abbrev N__law_draw : List Str := ["box", "many", "at"]
theorem sc__law_draw : FnScope N__law_draw ["box", "many"] (defScope stm__law_draw) := ⟨rfl, rfl, rfl, by decide +kernel, rfl, by decide +kernel, by decide +kernel⟩
abbrev stm__law_pick : Stmt := topS 20
abbrev N__law_pick : List Str := ["box", "things"]
theorem sc__law_pick : FnScope N__law_pick ["box", "things"] (defScope stm__law_pick) := ⟨rfl, rfl, rfl, by decide +kernel, rfl, by decide +kernel, by decide +kernel⟩
abbrev stm_choices : Stmt := topS 8
abbrev N_choices : List Str := ["q", "most", "many"]
theorem sc_choices : FnScope N_choices ["q", "most"] (defScope stm_choices) := ⟨rfl, rfl, rfl, by decide +kernel, rfl, by decide +kernel, by decide +kernel⟩
abbrev stm_counts_weight : Stmt := topS 12
abbrev N_counts_weight : List Str := ["counts", "q", "k", "often", "many"]
theorem sc_counts_weight : FnScope N_counts_weight ["counts", "q"] (defScope stm_counts_weight) := ⟨rfl, rfl, rfl, by decide +kernel, rfl, by decide +kernel, by decide +kernel⟩
abbrev stm__law_great : Stmt := topS 31
abbrev N__law_great : List Str := ["box", "row", "q", "turn", "j", "many", "counts", "i", "due", "taken", "rest", "broken", "works"]
theorem sc__law_great : FnScope N__law_great ["box"] (defScope stm__law_great) := ⟨rfl, rfl, rfl, by decide +kernel, rfl, by decide +kernel, by decide +kernel⟩
abbrev stm__law_moved : Stmt := topS 26
abbrev N__law_moved : List Str := ["counts", "taken", "broken", "patches", "i", "j", "inside"]
theorem sc__law_moved : FnScope N__law_moved ["counts", "taken", "broken"] (defScope stm__law_moved) := ⟨rfl, rfl, rfl, by decide +kernel, rfl, by decide +kernel, by decide +kernel⟩
abbrev stm__law_fits : Stmt := topS 30
abbrev N__law_fits : List Str := ["box", "k", "counts", "i", "taken", "many", "both", "q"]
theorem sc__law_fits : FnScope N__law_fits ["box"] (defScope stm__law_fits) := ⟨rfl, rfl, rfl, by decide +kernel, rfl, by decide +kernel, by decide +kernel⟩
abbrev stm__law_tests : Stmt := topS 25
abbrev N__law_tests : List Str := ["counts", "rows", "many", "longer", "row", "taken"]
theorem sc__law_tests : FnScope N__law_tests ["counts"] (defScope stm__law_tests) := ⟨rfl, rfl, rfl, by decide +kernel, rfl, by decide +kernel, by decide +kernel⟩
abbrev stm__law_settled : Stmt := topS 27
abbrev N__law_settled : List Str := ["counts", "q", "known", "good", "taken"]
theorem sc__law_settled : FnScope N__law_settled ["counts", "q", "known"] (defScope stm__law_settled) := ⟨rfl, rfl, rfl, by decide +kernel, rfl, by decide +kernel, by decide +kernel⟩
abbrev stm__law_least : Stmt := topS 28
abbrev N__law_least : List Str := ["counts", "known", "q"]
theorem sc__law_least : FnScope N__law_least ["counts"] (defScope stm__law_least) := ⟨rfl, rfl, rfl, by decide +kernel, rfl, by decide +kernel, by decide +kernel⟩
abbrev stm__law_cell : Stmt := topS 17
abbrev N__law_cell : List Str := ["script", "k"]
theorem sc__law_cell : FnScope N__law_cell ["script", "k"] (defScope stm__law_cell) := ⟨rfl, rfl, rfl, by decide +kernel, rfl, by decide +kernel, by decide +kernel⟩
abbrev stm__law_digits : Stmt := topS 18
abbrev N__law_digits : List Str := ["script", "first", "last", "digits", "k", "cell", "turn", "seed"]
theorem sc__law_digits : FnScope N__law_digits ["script", "first", "last"] (defScope stm__law_digits) := ⟨rfl, rfl, rfl, by decide +kernel, rfl, by decide +kernel, by decide +kernel⟩
abbrev stm_law : Stmt := topS 33
abbrev N_law : List Str := ["script", "box", "few", "n", "k", "due", "turn", "great"]
theorem sc_law : FnScope N_law ["script"] (defScope stm_law) := ⟨rfl, rfl, rfl, by decide +kernel, rfl, by decide +kernel, by decide +kernel⟩
def m_law : MS := (sSeq (sSet 1 (mLst (msCons (mCallU 3 Cm.c__law_digits (msCons (mVar 0) (msCons (mC (.int 0)) (msCons (mC (.int 60)) msNil)))) (msCons (mC (.int 0)) msNil)))) (sSeq (sSet 2 (mBin oAdd (mBin oAdd (mLc (rng2 (msCons (mC (.int 1)) (msCons (mC (.int 13)) msNil))) (.nm 3) bYes (mTup (msCons (mVar 3) (msCons (mC (.int 0)) msNil))) [3]) (mLc (rng2 (msCons (mC (.int 1)) (msCons (mC (.int 7)) msNil))) (.nm 3) bYes (mTup (msCons (mVar 3) (msCons (mC (.int 2)) msNil))) [3])) (mLc (rng2 (msCons (mC (.int 1)) (msCons (mC (.int 5)) msNil))) (.nm 3) bYes (mTup (msCons (mVar 3) (msCons (mC (.int 3)) msNil))) [3]))) (sSeq (sAsg (.tp [(.nm 3), (.nm 4)]) (mCallU 2 Cm.c__law_pick (msCons (mVar 1) (msCons (mBin oAdd (mVar 2) (mLc (rng2 (msCons (mC (.int 1)) (msCons (mC (.int 11)) msNil))) (.nm 3) bYes (mTup (msCons (mVar 3) (msCons (mC (.int 1)) msNil))) [3])) msNil)))) (sSeq (sSet 5 (mCallU 1 Cm28.c__law_least (msCons (mBin oAdd (mTup (msCons (mVar 3) msNil)) (mBin oMulT2 (mTup (msCons (mC (.int 0)) msNil)) (mVar 4))) msNil))) (sSeq (sIf (bOr (bNot (bB (mCallU 2 Cm.c__law_same (msCons (mCallU 2 Cm28.c_fewest_counts (msCons (mVar 3) (msCons (mVar 4) msNil))) (msCons (mVar 5) msNil))))) (bAnd (bB (mBin oEq (mVar 4) (mC (.int 1)))) (bNot (bB (mCallU 2 Cm.c__law_same (msCons (mCallU 1 Cm8.c_fewest_patches (msCons (mVar 3) msNil)) (msCons (mVar 5) msNil))))))) (sRet (mC (.bl false))) sNil) (sSeq (sFor (rng1 (msCons (mC (.int 4)) msNil)) (.nm 6) (sCut (sIf (bNot (bB (mCallU 1 Cm28.c__law_fits (msCons (mVar 1) msNil)))) (sRet (mC (.bl false))) sNil))) (sSeq (sIf (bNot (bB (mCallU 1 Cm28.c__law_great (msCons (mVar 1) msNil)))) (sRet (mC (.bl false))) sNil) (sSeq (sSet 7 (mBin oAdd (mBin oAdd (mC (.int 1)) (mBin oMul (mCallU 2 Cm.c__law_draw (msCons (mVar 1) (msCons (mC (.int 1000)) msNil))) (mCallU 2 Cm.c__law_pick (msCons (mVar 1) (msCons (mLst (msCons (mC (.int 1)) (msCons (mC (.int 1000)) (msCons (mBin oPow (mC (.int 10)) (mC (.int 6))) (msCons (mBin oPow (mC (.int 10)) (mC (.int 8))) msNil))))) msNil))))) (mCallU 2 Cm.c__law_draw (msCons (mVar 1) (msCons (mC (.int 1000)) msNil))))) (sSeq (sIf (bNot (bB (mCallU 2 Cm.c__law_same (msCons (mLst (msCons (mCallU 1 Cm8.c_fewest_patches (msCons (mVar 7) msNil)) (msCons (mCallU 1 Cm8.c_fewest_patches (msCons (mBin oAdd (mVar 7) (mC (.int 1))) msNil)) msNil))) (msCons (mLst (msCons (mCallU 1 Cm28.c__law_formula (msCons (mVar 7) msNil)) (msCons (mCallU 1 Cm28.c__law_formula (msCons (mBin oAdd (mVar 7) (mC (.int 1))) msNil)) msNil))) msNil))))) (sRet (mC (.bl false))) sNil) (sSeq (sFor (srcV (mLst (msCons (mTup (msCons (mC (.int 25)) (msCons (mC (.int 0)) msNil))) (msCons (mTup (msCons (mC (.int 13)) (msCons (mC (.int 1)) msNil))) (msCons (mTup (msCons (mC (.int 9)) (msCons (mC (.int 2)) msNil))) (msCons (mTup (msCons (mC (.int 7)) (msCons (mC (.int 3)) msNil))) msNil)))))) (.tp [(.nm 3), (.nm 4)]) (sCut (sIf (bNot (bB (mCallU 2 Cm28.c__law_refused (msCons (mVar 3) (msCons (mVar 4) msNil))))) (sRet (mC (.bl false))) sNil))) (sRet (mCallU 2 Cm.c__law_same (msCons (mLst (msCons (mCallU 2 Cm28.c_fewest_counts (msCons (mC (.int 24)) (msCons (mC (.int 0)) msNil))) (msCons (mCallU 2 Cm28.c_fewest_counts (msCons (mC (.int 1)) (msCons (mC (.int 3)) msNil))) (msCons (mCallU 1 Cm8.c_fewest_patches (msCons (mBin oPow (mC (.int 10)) (mC (.int 12))) msNil)) msNil)))) (msCons (mLst (msCons (mC (.int 5)) (msCons (mC (.int 0)) (msCons (mCallU 1 Cm28.c__law_formula (msCons (mBin oPow (mC (.int 10)) (mC (.int 12))) msNil)) msNil)))) msNil))))))))))))))
def c_law : List Dv → MX Dv := defM 7 m_law
section
variable {P : Program} {w : World} {K : PySem.W.Frag} {mg : Str → Option Value} {base : Heap}
theorem ok__law_same {f : Addr} {fd : FuncData} (F : Fun K "_law_same" "_law_same" stm__law_same f fd) (z_repr : mg "repr" = none) : FnG P w K mg base CX0 1 f fd ["actual", "due"] (spM K mg 2 Cm.c__law_same) :=
  fnM0 (k := 0) (m := Cm.m__law_same) F sc__law_same rfl rfl fun cdv A outer s H E W hr c => (
    (sm_one (sm_ret (pm_cmp (om_eq c) (pm_bf (cm_repr c) z_repr b_repr (am_cons (pm_v 0) am_nil)) (pm_bf (cm_repr c) z_repr b_repr (am_cons (pm_v 1) am_nil)) (nomark _)))))
theorem ok__law_formula {f : Addr} {fd : FuncData} (F : Fun K "_law_formula" "_law_formula" stm__law_formula f fd) (z_int : mg "int" = none) (z_range : mg "range" = none) : FnG P w K mg base CX0 1 f fd ["n"] (spM K mg 1 Cm28.c__law_formula) :=
  fnM0 (k := 0) (m := Cm28.m__law_formula) F sc__law_formula rfl rfl fun cdv A outer s H E W hr c => (
    (sm_cons (sm_st 1 c pm_int)
    (sm_cons (sm_for PassesOwn.never c (pim_rng1 (by rfl) z_range (am_cons pm_int am_nil)) (gm_v 2 c) (sm_cons (sm_st 3 c (pm_bin om_add (pm_bin om_mul (pm_v 0) (pm_bin om_add (pm_v 2) pm_int)) (pm_bin om_mul (pm_bin om_sub (pm_v 2) pm_int) (pm_bt cm_int z_int b_int (am_cons (pm_cmp (om_eq c) (pm_bin om_mod (pm_bt cm_int z_int b_int (am_cons (pm_v 0) am_nil)) pm_int) pm_int (nomark _)) am_nil)))))
    (sm_cons (sm_if (bm_cmp om_le (pm_v 3) (pm_v 1) (nomark _)) (sm_one (sm_ret (pm_v 2))) sm_nil)
    (sm_one (sm_st 1 c (pm_bin om_mul (pm_v 1) pm_int))))))
    (sm_one (sm_ret (pm_un um_neg pm_int))))))
theorem ok_odd_surplus {f : Addr} {fd : FuncData} (F : Fun K "odd_surplus" "odd_surplus" stm_odd_surplus f fd)  : FnG P w K mg base CX0 1 f fd ["n", "q"] (spM K mg 2 Cm8.c_odd_surplus) :=
  fnM0 (k := 0) (m := Cm8.m_odd_surplus) F sc_odd_surplus rfl rfl fun cdv A outer s H E W hr c => (
    (sm_one (sm_ret (pm_if (bm_tru (pm_bin om_and (pm_v 0) pm_int)) (pm_bin om_sub (pm_v 1) pm_int) pm_int))))
theorem ok_fewest_patches {f : Addr} {fd : FuncData} (F : Fun K "fewest_patches" "fewest_patches" stm_fewest_patches f fd) {f_odd_surplus : Addr} {fd_odd_surplus : FuncData} (F_odd_surplus : Fun K "odd_surplus" "odd_surplus" stm_odd_surplus f_odd_surplus fd_odd_surplus) (G_odd_surplus : FnG P w K mg base CX0 1 f_odd_surplus fd_odd_surplus ["n", "q"] (spM K mg 2 Cm8.c_odd_surplus)) (g_odd_surplus : mg "odd_surplus" = some (.ref f_odd_surplus)) (b_odd_surplus : L2.Binds K fd_odd_surplus ["n", "q"] []) : FnG P w K mg base CX0 2 f fd ["n"] (spM K mg 1 Cm8.c_fewest_patches) :=
  fnM0 (k := 1) (m := Cm8.m_fewest_patches) F sc_fewest_patches rfl rfl fun cdv A outer s H E W hr c => (
    (sm_cons (sm_st 1 c pm_int)
    (sm_cons (sm_while PassesOwn.never (bm_cmp om_gt (pm_bin om_add (pm_bin om_mul (pm_v 0) (pm_bin om_add (pm_v 1) pm_int)) (pm_call G_odd_surplus c (hr.mono (by decide)) (by rfl) g_odd_surplus F_odd_surplus.kp b_odd_surplus pass (am_cons (pm_v 0) (am_cons (pm_v 1) am_nil)))) (pm_bin om_shl pm_int (pm_v 1)) (nomark _)) (sm_one (sm_auga c (i := 1) pm_int)))
    (sm_one (sm_ret (pm_v 1))))))
theorem ok_telling_tests {f : Addr} {fd : FuncData} (F : Fun K "telling_tests" "telling_tests" stm_telling_tests f fd) (z_range : mg "range" = none) (z_sum : mg "sum" = none) : FnG P w K mg base CX0 1 f fd ["counts"] (spM K mg 1 Cm28.c_telling_tests) :=
  fnM0 (k := 0) (m := Cm28.m_telling_tests) F sc_telling_tests rfl rfl fun cdv A outer s H E W hr c => (
    (sm_cons (sm_st 1 c (pm_lst (am_cons (pm_tup am_nil) am_nil)))
    (sm_cons (sm_for PassesOwn.never c (pim_seq (pm_v 0)) (gm_v 2 c) (sm_one (sm_lc2 (i := 1) [("row", 3), ("some", 4)] c rfl rfl (sw_true rfl rfl rfl (by decide +kernel)) (pim_seq (pm_v 1)) (blkOk_by (own := [("row", 3), ("some", 4)]) (N := N_telling_tests) (sc := (defScope stm_telling_tests)) (by decide +kernel)) (fun _ _ _ _ _ => (gm_v 3 (Cf.blk c))) (fun _ _ _ _ _ => btm_nil) (fun _ _ _ _ _ => (pim_rng1 (by rfl) z_range (am_cons (pm_bin om_add (pm_v 2) pm_int) am_nil))) (fun _ _ _ _ _ => (gm_v 4 (Cf.blk c))) (fun _ _ _ _ _ => btm_nil) (fun _ _ _ _ _ => (pm_bin om_add (pm_v 3) (pm_tup (am_cons (pm_v 4) am_nil)))))))
    (sm_one (sm_ret (pm_lc1 [("row", 3)] c (pim_seq (pm_v 1)) (blkOk_by (own := [("row", 3)]) (N := N_telling_tests) (sc := (defScope stm_telling_tests)) (by decide +kernel)) (fun _ _ _ _ _ => (gm_v 3 (Cf.blk c))) (fun _ _ _ _ _ => (btm_one (bm_chain om_lt om_lt pm_int (pm_bf (cm_sumT (Cf.blk c)) z_sum b_sum (am_cons (pm_v 3) am_nil)) (pm_bf (cm_sumT (Cf.blk c)) z_sum b_sum (am_cons (pm_v 0) am_nil))))) (fun _ _ _ _ _ => (pm_v 3))))))))
theorem ok_counts_after {f : Addr} {fd : FuncData} (F : Fun K "counts_after" "counts_after" stm_counts_after f fd) (z_tuple : mg "tuple" = none) (z_zip : mg "zip" = none) : FnG P w K mg base CX0 1 f fd ["counts", "taken", "broken"] (spM K mg 3 Cm28.c_counts_after) :=
  fnM0 (k := 0) (m := Cm28.m_counts_after) F sc_counts_after rfl rfl fun cdv A outer s H E W hr c => (
    (sm_cons (sm_lc1 (i := 3) [("many", 4), ("some", 5)] c rfl rfl (sw_true rfl rfl rfl (by decide +kernel)) (pim_zp (by rfl) z_zip (am_cons (pm_v 0) (am_cons (pm_v 1) am_nil))) (blkOk_by (own := [("many", 4), ("some", 5)]) (N := N_counts_after) (sc := (defScope stm_counts_after)) (by decide +kernel)) (fun _ _ _ _ _ => (gm_t (Cf.blk c) (gms_cons (gm_v 4 (Cf.blk c)) (gms_cons (gm_v 5 (Cf.blk c)) gms_nil)))) (fun _ _ _ _ _ => btm_nil) (fun _ _ _ _ _ => (pm_if (bm_tru (pm_v 2)) (pm_v 5) (pm_bin om_sub (pm_v 4) (pm_v 5)))))
    (sm_cons (sm_lc1 (i := 6) [("many", 4), ("some", 5)] c rfl rfl (sw_true rfl rfl rfl (by decide +kernel)) (pim_zp (by rfl) z_zip (am_cons (pm_v 0) (am_cons (pm_v 3) am_nil))) (blkOk_by (own := [("many", 4), ("some", 5)]) (N := N_counts_after) (sc := (defScope stm_counts_after)) (by decide +kernel)) (fun _ _ _ _ _ => (gm_t (Cf.blk c) (gms_cons (gm_v 4 (Cf.blk c)) (gms_cons (gm_v 5 (Cf.blk c)) gms_nil)))) (fun _ _ _ _ _ => btm_nil) (fun _ _ _ _ _ => (pm_bin om_sub (pm_v 4) (pm_v 5))))
    (sm_one (sm_ret (pm_bt (cm_tup c) z_tuple b_tuple (am_cons (pm_lc1 [("some", 5), ("moved", 7)] c (pim_zp (by rfl) z_zip (am_cons (pm_v 3) (am_cons (pm_lst (am_cons pm_int (am_starL (pm_v 6) am_nil))) am_nil))) (blkOk_by (own := [("some", 5), ("moved", 7)]) (N := N_counts_after) (sc := (defScope stm_counts_after)) (by decide +kernel)) (fun _ _ _ _ _ => (gm_t (Cf.blk c) (gms_cons (gm_v 5 (Cf.blk c)) (gms_cons (gm_v 7 (Cf.blk c)) gms_nil)))) (fun _ _ _ _ _ => btm_nil) (fun _ _ _ _ _ => (pm_bin om_add (pm_v 5) (pm_v 7)))) am_nil)))))))
theorem ok_needed {f_needed : Addr} {fd_needed : FuncData} (F_needed : Fun K "needed" "needed" stm_needed f_needed fd_needed) {f_telling_tests : Addr} {fd_telling_tests : FuncData} (F_telling_tests : Fun K "telling_tests" "telling_tests" stm_telling_tests f_telling_tests fd_telling_tests) (G_telling_tests : FnG P w K mg base CX0 1 f_telling_tests fd_telling_tests ["counts"] (spM K mg 1 Cm28.c_telling_tests)) (g_telling_tests : mg "telling_tests" = some (.ref f_telling_tests)) (b_telling_tests : L2.Binds K fd_telling_tests ["counts"] []) {f_counts_after : Addr} {fd_counts_after : FuncData} (F_counts_after : Fun K "counts_after" "counts_after" stm_counts_after f_counts_after fd_counts_after) (G_counts_after : FnG P w K mg base CX0 1 f_counts_after fd_counts_after ["counts", "taken", "broken"] (spM K mg 3 Cm28.c_counts_after)) (g_counts_after : mg "counts_after" = some (.ref f_counts_after)) (b_counts_after : L2.Binds K fd_counts_after ["counts", "taken", "broken"] []) (z_max : mg "max" = none) (z_min : mg "min" = none) (z_sum : mg "sum" = none) (g_needed : mg "needed" = some (.ref f_needed)) (b_needed : L2.Binds K fd_needed ["known", "counts"] []) (n : Nat) : FnG P w K mg base CX0 (1 + 1 + n) f_needed fd_needed ["known", "counts"] (spM K mg 2 (Cm28.c_needed n)) := by
  induction n with
  | zero => exact fnM_stuck F_needed sc_needed rfl
  | succ n G_needed =>
    show FnG P w K mg base CX0 (1 + 1 + n + 1) f_needed fd_needed ["known", "counts"] (spM K mg 2 (defM 1 (Cm28.m_needed (Cm28.c_needed n))))
    exact fnM0 (k := 1 + 1 + n) (m := Cm28.m_needed (Cm28.c_needed n)) F_needed sc_needed rfl rfl fun cdv A outer s H E W hr c => (
    (sm_cons (sm_if (bm_cmp om_le (pm_bf (cm_sumT c) z_sum b_sum (am_cons (pm_v 1) am_nil)) pm_int (nomark _)) (sm_one (sm_ret pm_int)) sm_nil)
    (sm_cons (sm_if (bm_cmp (om_notin c) (pm_v 1) (pm_v 0) (by with_unfolding_all rfl)) (sm_one (sm_pt c (pm_bin om_add pm_int (pm_bf (cm_min c) z_min b_min (am_cons (pm_lc1 [("taken", 2)] c (pim_seq (pm_call G_telling_tests c (hr.mono (by omega)) (by rfl) g_telling_tests F_telling_tests.kp b_telling_tests pass (am_cons (pm_v 1) am_nil))) (blkOk_by (own := [("taken", 2)]) (N := N_needed) (sc := (defScope stm_needed)) (by decide +kernel)) (fun _ _ _ _ _ => (gm_v 2 (Cf.blk c))) (fun _ _ _ _ _ => btm_nil) (fun _ _ _ _ _ => (pm_bf (cm_max2 (Cf.blk c)) z_max b_max (am_cons (pm_call G_needed (Cf.blk c) (hr.mono (by omega)) (by rfl) g_needed F_needed.kp b_needed pass (am_cons (pm_v 0) (am_cons (pm_call G_counts_after (Cf.blk c) (hr.mono (by omega)) (by rfl) g_counts_after F_counts_after.kp b_counts_after pass (am_cons (pm_v 1) (am_cons (pm_v 2) (am_cons pm_bl am_nil)))) am_nil))) (am_cons (pm_call G_needed (Cf.blk c) (hr.mono (by omega)) (by rfl) g_needed F_needed.kp b_needed pass (am_cons (pm_v 0) (am_cons (pm_call G_counts_after (Cf.blk c) (hr.mono (by omega)) (by rfl) g_counts_after F_counts_after.kp b_counts_after pass (am_cons (pm_v 1) (am_cons (pm_v 2) (am_cons pm_bl am_nil)))) am_nil))) am_nil))))) am_nil))) (pm_v 0) (pm_v 1))) sm_nil)
    (sm_one (sm_ret (pm_ix c (pm_v 0) (pm_v 1)))))))
theorem ok_fewest_counts {f : Addr} {fd : FuncData} (F : Fun K "fewest_counts" "fewest_counts" stm_fewest_counts f fd) {f_needed : Addr} {fd_needed : FuncData} (F_needed : Fun K "needed" "needed" stm_needed f_needed fd_needed) (G_needed : FnG P w K mg base CX0 28 f_needed fd_needed ["known", "counts"] (spM K mg 2 (Cm28.c_needed 26))) (g_needed : mg "needed" = some (.ref f_needed)) (b_needed : L2.Binds K fd_needed ["known", "counts"] []) {t_MOST_CHANCES : Tok} (w_MOST_CHANCES : mg "MOST_CHANCES" = some (.int 24 t_MOST_CHANCES)) {C_TooGreat : Addr} (cl_TooGreat : ExCl K mg "TooGreat" C_TooGreat) (xp_TooGreat : PySem.W.excIn K C_TooGreat [.type "ValueError", .type "Exception", .type "BaseException", .type "object"] "ValueError.__new__" = true) (kp_TooGreat : PySem.W.keepIn K (.ref C_TooGreat) = true) : FnG P w K mg base (L2.CX P w) 29 f fd ["n", "k"] (spM K mg 2 Cm28.c_fewest_counts) :=
  fnMX (k := 28) (m := Cm28.m_fewest_counts) F sc_fewest_counts rfl rfl fun cdv A outer s H E W hr c tk po => (
    (sm_cons (sm_if (bm_cmp om_gt (pm_bin om_mul (pm_v 0) (pm_bin om_add (pm_v 1) pm_int)) (pm_glob (by rfl) w_MOST_CHANCES (v := .int 24) ⟨_, rfl⟩ (fun _ _ => rp_int)) (nomark _)) (sm_one (sm_raiseV c tk cl_TooGreat.g xp_TooGreat kp_TooGreat cl_TooGreat.sb cl_TooGreat.tC)) sm_nil)
    (sm_one (sm_ret (pm_call G_needed c (hr.mono (by decide)) (by rfl) g_needed F_needed.kp b_needed pass (am_cons pm_dT (am_cons (pm_bin om_add (pm_tup (am_cons (pm_v 0) am_nil)) (pm_bin om_mulT2 (pm_tup (am_cons pm_int am_nil)) (pm_v 1))) am_nil)))))))
theorem ok__law_refused {f : Addr} {fd : FuncData} (F : Fun K "_law_refused" "_law_refused" stm__law_refused f fd) {f_fewest_counts : Addr} {fd_fewest_counts : FuncData} (F_fewest_counts : Fun K "fewest_counts" "fewest_counts" stm_fewest_counts f_fewest_counts fd_fewest_counts) (G_fewest_counts : FnG P w K mg base (L2.CX P w) 29 f_fewest_counts fd_fewest_counts ["n", "k"] (spM K mg 2 Cm28.c_fewest_counts)) (g_fewest_counts : mg "fewest_counts" = some (.ref f_fewest_counts)) (b_fewest_counts : L2.Binds K fd_fewest_counts ["n", "k"] []) {C_TooGreat : Addr} (cl_TooGreat : ExCl K mg "TooGreat" C_TooGreat) (s_TooGreat_TooGreat : PySem.W.subIn K (.ref C_TooGreat) (.ref C_TooGreat) = some true) : FnG P w K mg base (L2.CX P w) 30 f fd ["n", "k"] (spM K mg 2 Cm28.c__law_refused) :=
  fnMX (k := 29) (m := Cm28.m__law_refused) F sc__law_refused rfl rfl fun cdv A outer s H E W hr c tk po => (
    (sm_cons (sm_try rfl rfl ⟨rfl, by decide, .inl cl_TooGreat.g⟩ tk (kn_cons cl_TooGreat.g (exm_cl cl_TooGreat s_TooGreat_TooGreat) kn_nil) (fun Wx pn xe tk1 => (sx_one (sx_ex (px_call G_fewest_counts c.gd (hr.mono (by decide)) g_fewest_counts F_fewest_counts.kp b_fewest_counts tk1 (fun W => (am_cons (pm_v 0) (am_cons (pm_v 1) am_nil))))))) (fun _ _ _ _ => (sm_one (sm_ret pm_bl))))
    (sm_one (sm_ret pm_bl))))
theorem ok__law_draw {f : Addr} {fd : FuncData} (F : Fun K "_law_draw" "_law_draw" stm__law_draw f fd) (z_int : mg "int" = none) (z_len : mg "len" = none) : FnG P w K mg base CX0 1 f fd ["box", "many"] (spM K mg 2 Cm.c__law_draw) :=
  fnM0 (k := 0) (m := Cm.m__law_draw) F sc__law_draw rfl rfl fun cdv A outer s H E W hr c => (
    (sm_cons (sm_st 2 c (pm_ix c (pm_v 0) pm_int))
    (sm_cons (sm_pt c (pm_bin om_add (pm_v 2) pm_int) (pm_v 0) pm_int)
    (sm_cons (sm_if (bm_cmp om_lt (pm_v 2) (pm_bf cm_len z_len b_len (am_cons (pm_ix c (pm_v 0) pm_int) am_nil)) (nomark _)) (sm_one (sm_ret (pm_bin om_mod (pm_bt cm_int z_int b_int (am_cons (pm_ix c (pm_ix c (pm_v 0) pm_int) (pm_v 2)) am_nil)) (pm_v 1)))) sm_nil)
    (sm_one (sm_ret pm_int))))))
theorem ok__law_pick {f : Addr} {fd : FuncData} (F : Fun K "_law_pick" "_law_pick" stm__law_pick f fd) {f__law_draw : Addr} {fd__law_draw : FuncData} (F__law_draw : Fun K "_law_draw" "_law_draw" stm__law_draw f__law_draw fd__law_draw) (G__law_draw : FnG P w K mg base CX0 1 f__law_draw fd__law_draw ["box", "many"] (spM K mg 2 Cm.c__law_draw)) (g__law_draw : mg "_law_draw" = some (.ref f__law_draw)) (b__law_draw : L2.Binds K fd__law_draw ["box", "many"] []) (z_int : mg "int" = none) (z_len : mg "len" = none) : FnG P w K mg base CX0 2 f fd ["box", "things"] (spM K mg 2 Cm.c__law_pick) :=
  fnM0 (k := 1) (m := Cm.m__law_pick) F sc__law_pick rfl rfl fun cdv A outer s H E W hr c => (
    (sm_one (sm_ret (pm_ix c (pm_v 1) (pm_bin om_mod (pm_bt cm_int z_int b_int (am_cons (pm_call G__law_draw c (hr.mono (by decide)) (by rfl) g__law_draw F__law_draw.kp b__law_draw pass (am_cons (pm_v 0) (am_cons pm_int am_nil))) am_nil)) (pm_bf cm_len z_len b_len (am_cons (pm_v 1) am_nil)))))))
theorem ok_choices {f : Addr} {fd : FuncData} (F : Fun K "choices" "choices" stm_choices f fd) (z_range : mg "range" = none) (z_sum : mg "sum" = none) (h_comb : mg "comb" = some (.builtin "math.comb")) : FnG P w K mg base CX0 1 f fd ["q", "most"] (spM K mg 2 Cm7.c_choices) :=
  fnM0 (k := 0) (m := Cm7.m_choices) F sc_choices rfl rfl fun cdv A outer s H E W hr c => (
    (sm_one (sm_ret (pm_bf (cm_sum c) z_sum b_sum (am_cons (pm_lc1 [("many", 2)] c (pim_rng1 (by rfl) z_range (am_cons (pm_bin om_add (pm_v 1) pm_int) am_nil)) (blkOk_by (own := [("many", 2)]) (N := N_choices) (sc := (defScope stm_choices)) (by decide +kernel)) (fun _ _ _ _ _ => (gm_v 2 (Cf.blk c))) (fun _ _ _ _ _ => btm_nil) (fun _ _ _ _ _ => (pm_gf cm_comb h_comb (am_cons (pm_v 0) (am_cons (pm_v 2) am_nil))))) am_nil)))))
theorem ok_counts_weight {f : Addr} {fd : FuncData} (F : Fun K "counts_weight" "counts_weight" stm_counts_weight f fd) {f_choices : Addr} {fd_choices : FuncData} (F_choices : Fun K "choices" "choices" stm_choices f_choices fd_choices) (G_choices : FnG P w K mg base CX0 1 f_choices fd_choices ["q", "most"] (spM K mg 2 Cm7.c_choices)) (g_choices : mg "choices" = some (.ref f_choices)) (b_choices : L2.Binds K fd_choices ["q", "most"] []) (z_enumerate : mg "enumerate" = none) (z_len : mg "len" = none) (z_sum : mg "sum" = none) : FnG P w K mg base CX0 2 f fd ["counts", "q"] (spM K mg 2 Cm28.c_counts_weight) :=
  fnM0 (k := 1) (m := Cm28.m_counts_weight) F sc_counts_weight rfl rfl fun cdv A outer s H E W hr c => (
    (sm_cons (sm_st 2 c (pm_bin om_sub (pm_bf cm_len z_len b_len (am_cons (pm_v 0) am_nil)) pm_int))
    (sm_one (sm_ret (pm_bf (cm_sum c) z_sum b_sum (am_cons (pm_lc1 [("often", 3), ("many", 4)] c (pim_en (by rfl) z_enumerate (am_cons (pm_v 0) am_nil)) (blkOk_by (own := [("often", 3), ("many", 4)]) (N := N_counts_weight) (sc := (defScope stm_counts_weight)) (by decide +kernel)) (fun _ _ _ _ _ => (gm_t (Cf.blk c) (gms_cons (gm_v 3 (Cf.blk c)) (gms_cons (gm_v 4 (Cf.blk c)) gms_nil)))) (fun _ _ _ _ _ => btm_nil) (fun _ _ _ _ _ => (pm_bin om_mul (pm_v 4) (pm_call G_choices (Cf.blk c) (hr.mono (by decide)) (by rfl) g_choices F_choices.kp b_choices pass (am_cons (pm_v 1) (am_cons (pm_bin om_sub (pm_v 2) (pm_v 3)) am_nil)))))) am_nil))))))
theorem ok__law_great {f : Addr} {fd : FuncData} (F : Fun K "_law_great" "_law_great" stm__law_great f fd) {f__law_same : Addr} {fd__law_same : FuncData} (F__law_same : Fun K "_law_same" "_law_same" stm__law_same f__law_same fd__law_same) (G__law_same : FnG P w K mg base CX0 1 f__law_same fd__law_same ["actual", "due"] (spM K mg 2 Cm.c__law_same)) (g__law_same : mg "_law_same" = some (.ref f__law_same)) (b__law_same : L2.Binds K fd__law_same ["actual", "due"] []) {f_counts_weight : Addr} {fd_counts_weight : FuncData} (F_counts_weight : Fun K "counts_weight" "counts_weight" stm_counts_weight f_counts_weight fd_counts_weight) (G_counts_weight : FnG P w K mg base CX0 2 f_counts_weight fd_counts_weight ["counts", "q"] (spM K mg 2 Cm28.c_counts_weight)) (g_counts_weight : mg "counts_weight" = some (.ref f_counts_weight)) (b_counts_weight : L2.Binds K fd_counts_weight ["counts", "q"] []) {f_counts_after : Addr} {fd_counts_after : FuncData} (F_counts_after : Fun K "counts_after" "counts_after" stm_counts_after f_counts_after fd_counts_after) (G_counts_after : FnG P w K mg base CX0 1 f_counts_after fd_counts_after ["counts", "taken", "broken"] (spM K mg 3 Cm28.c_counts_after)) (g_counts_after : mg "counts_after" = some (.ref f_counts_after)) (b_counts_after : L2.Binds K fd_counts_after ["counts", "taken", "broken"] []) {f__law_draw : Addr} {fd__law_draw : FuncData} (F__law_draw : Fun K "_law_draw" "_law_draw" stm__law_draw f__law_draw fd__law_draw) (G__law_draw : FnG P w K mg base CX0 1 f__law_draw fd__law_draw ["box", "many"] (spM K mg 2 Cm.c__law_draw)) (g__law_draw : mg "_law_draw" = some (.ref f__law_draw)) (b__law_draw : L2.Binds K fd__law_draw ["box", "many"] []) (z_len : mg "len" = none) (z_range : mg "range" = none) (z_sum : mg "sum" = none) (z_tuple : mg "tuple" = none) : FnG P w K mg base CX0 3 f fd ["box"] (spM K mg 1 Cm28.c__law_great) :=
  fnM0 (k := 2) (m := Cm28.m__law_great) F sc__law_great rfl rfl fun cdv A outer s H E W hr c => (
    (sm_cons (sm_st 1 c (pm_lst (am_cons pm_int am_nil)))
    (sm_cons (sm_st 2 c (pm_bin om_sub pm_int (pm_call G__law_draw c (hr.mono (by decide)) (by rfl) g__law_draw F__law_draw.kp b__law_draw pass (am_cons (pm_v 0) (am_cons pm_int am_nil)))))
    (sm_cons (sm_for PassesOwn.never c (pim_rng1 (by rfl) z_range (am_cons (pm_v 2) am_nil)) (gm_v 3 c) (sm_one (sm_st 1 c (pm_bin om_add (pm_bin om_add (pm_lst (am_cons pm_int am_nil)) (pm_lc1 [("j", 4)] c (pim_rng1 (by rfl) z_range (am_cons (pm_bin om_sub (pm_bf cm_len z_len b_len (am_cons (pm_v 1) am_nil)) pm_int) am_nil)) (blkOk_by (own := [("j", 4)]) (N := N__law_great) (sc := (defScope stm__law_great)) (by decide +kernel)) (fun _ _ _ _ _ => (gm_v 4 (Cf.blk c))) (fun _ _ _ _ _ => btm_nil) (fun _ _ _ _ _ => (pm_bin om_add (pm_ix (Cf.blk c) (pm_v 1) (pm_v 4)) (pm_ix (Cf.blk c) (pm_v 1) (pm_bin om_add (pm_v 4) pm_int)))))) (pm_lst (am_cons pm_int am_nil))))))
    (sm_cons (sm_st 5 c (pm_bin om_add pm_int (pm_call G__law_draw c (hr.mono (by decide)) (by rfl) g__law_draw F__law_draw.kp b__law_draw pass (am_cons (pm_v 0) (am_cons pm_int am_nil)))))
    (sm_cons (sm_st 6 c (pm_bt (cm_tup c) z_tuple b_tuple (am_cons (pm_lc1 [("i", 7)] c (pim_rng1 (by rfl) z_range (am_cons (pm_v 5) am_nil)) (blkOk_by (own := [("i", 7)]) (N := N__law_great) (sc := (defScope stm__law_great)) (by decide +kernel)) (fun _ _ _ _ _ => (gm_v 7 (Cf.blk c))) (fun _ _ _ _ _ => btm_nil) (fun _ _ _ _ _ => (pm_bin om_sub (pm_bin om_pow pm_int pm_int) (pm_call G__law_draw (Cf.blk c) (hr.mono (by decide)) (by rfl) g__law_draw F__law_draw.kp b__law_draw pass (am_cons (pm_v 0) (am_cons pm_int am_nil)))))) am_nil)))
    (sm_cons (sm_st 8 c (pm_bf (cm_sum c) z_sum b_sum (am_cons (pm_lc1 [("i", 7)] c (pim_rng1 (by rfl) z_range (am_cons (pm_v 5) am_nil)) (blkOk_by (own := [("i", 7)]) (N := N__law_great) (sc := (defScope stm__law_great)) (by decide +kernel)) (fun _ _ _ _ _ => (gm_v 7 (Cf.blk c))) (fun _ _ _ _ _ => btm_nil) (fun _ _ _ _ _ => (pm_bin om_mul (pm_ix (Cf.blk c) (pm_v 6) (pm_v 7)) (pm_bf (cm_sum (Cf.blk c)) z_sum b_sum (am_cons (pm_sl (pm_v 1) pom_none (pom_some (pm_bin om_sub (pm_v 5) (pm_v 7)))) am_nil))))) am_nil)))
    (sm_cons (sm_st 9 c (pm_bt (cm_tup c) z_tuple b_tuple (am_cons (pm_lc1 [("i", 7)] c (pim_rng1 (by rfl) z_range (am_cons (pm_v 5) am_nil)) (blkOk_by (own := [("i", 7)]) (N := N__law_great) (sc := (defScope stm__law_great)) (by decide +kernel)) (fun _ _ _ _ _ => (gm_v 7 (Cf.blk c))) (fun _ _ _ _ _ => btm_nil) (fun _ _ _ _ _ => (pm_bin om_sub (pm_ix (Cf.blk c) (pm_v 6) (pm_v 7)) (pm_call G__law_draw (Cf.blk c) (hr.mono (by decide)) (by rfl) g__law_draw F__law_draw.kp b__law_draw pass (am_cons (pm_v 0) (am_cons pm_int am_nil)))))) am_nil)))
    (sm_cons (sm_st 10 c (pm_lc1 [("i", 7)] c (pim_rng1 (by rfl) z_range (am_cons (pm_v 5) am_nil)) (blkOk_by (own := [("i", 7)]) (N := N__law_great) (sc := (defScope stm__law_great)) (by decide +kernel)) (fun _ _ _ _ _ => (gm_v 7 (Cf.blk c))) (fun _ _ _ _ _ => btm_nil) (fun _ _ _ _ _ => (pm_bin om_sub (pm_ix (Cf.blk c) (pm_v 6) (pm_v 7)) (pm_ix (Cf.blk c) (pm_v 9) (pm_v 7))))))
    (sm_cons (sm_st 11 c (pm_bt (cm_tup c) z_tuple b_tuple (am_cons (pm_lc1 [("i", 7)] c (pim_rng1 (by rfl) z_range (am_cons (pm_v 5) am_nil)) (blkOk_by (own := [("i", 7)]) (N := N__law_great) (sc := (defScope stm__law_great)) (by decide +kernel)) (fun _ _ _ _ _ => (gm_v 7 (Cf.blk c))) (fun _ _ _ _ _ => btm_nil) (fun _ _ _ _ _ => (pm_bin om_add (pm_ix (Cf.blk c) (pm_v 9) (pm_v 7)) (pm_if (bm_cmp om_gt (pm_v 7) pm_int (nomark _)) (pm_ix (Cf.blk c) (pm_v 10) (pm_bin om_sub (pm_v 7) pm_int)) pm_int)))) am_nil)))
    (sm_cons (sm_st 12 c (pm_bt (cm_tup c) z_tuple b_tuple (am_cons (pm_lc1 [("i", 7)] c (pim_rng1 (by rfl) z_range (am_cons (pm_v 5) am_nil)) (blkOk_by (own := [("i", 7)]) (N := N__law_great) (sc := (defScope stm__law_great)) (by decide +kernel)) (fun _ _ _ _ _ => (gm_v 7 (Cf.blk c))) (fun _ _ _ _ _ => btm_nil) (fun _ _ _ _ _ => (pm_bin om_add (pm_ix (Cf.blk c) (pm_v 10) (pm_v 7)) (pm_if (bm_cmp om_gt (pm_v 7) pm_int (nomark _)) (pm_ix (Cf.blk c) (pm_v 9) (pm_bin om_sub (pm_v 7) pm_int)) pm_int)))) am_nil)))
    (sm_cons (sm_if (bm_not (bm_val (pm_call G__law_same c (hr.mono (by decide)) (by rfl) g__law_same F__law_same.kp b__law_same pass (am_cons (pm_lst (am_cons (pm_call G_counts_after c (hr.mono (by decide)) (by rfl) g_counts_after F_counts_after.kp b_counts_after pass (am_cons (pm_v 6) (am_cons (pm_v 9) (am_cons pm_bl am_nil)))) (am_cons (pm_call G_counts_after c (hr.mono (by decide)) (by rfl) g_counts_after F_counts_after.kp b_counts_after pass (am_cons (pm_v 6) (am_cons (pm_v 9) (am_cons pm_bl am_nil)))) am_nil))) (am_cons (pm_lst (am_cons (pm_v 11) (am_cons (pm_v 12) am_nil))) am_nil))))) (sm_one (sm_ret pm_bl)) sm_nil)
    (sm_one (sm_ret (pm_call G__law_same c (hr.mono (by decide)) (by rfl) g__law_same F__law_same.kp b__law_same pass (am_cons (pm_call G_counts_weight c (hr.mono (by decide)) (by rfl) g_counts_weight F_counts_weight.kp b_counts_weight pass (am_cons (pm_v 6) (am_cons (pm_v 2) am_nil))) (am_cons (pm_v 8) am_nil)))))))))))))))))
theorem ok__law_moved {f : Addr} {fd : FuncData} (F : Fun K "_law_moved" "_law_moved" stm__law_moved f fd) (z_int : mg "int" = none) (z_len : mg "len" = none) (z_range : mg "range" = none) (z_tuple : mg "tuple" = none) : FnG P w K mg base CX0 1 f fd ["counts", "taken", "broken"] (spM K mg 3 Cm28.c__law_moved) :=
  fnM0 (k := 0) (m := Cm28.m__law_moved) F sc__law_moved rfl rfl fun cdv A outer s H E W hr c => (
    (sm_cons (sm_st 3 c (pm_lst am_nil))
    (sm_cons (sm_for PassesOwn.never c (pim_rng1 (by rfl) z_range (am_cons (pm_bf cm_len z_len b_len (am_cons (pm_v 0) am_nil)) am_nil)) (gm_v 4 c) (sm_one (sm_for PassesOwn.never c (pim_rng1 (by rfl) z_range (am_cons (pm_ix c (pm_v 0) (pm_v 4)) am_nil)) (gm_v 5 c) (sm_cons (sm_st 6 c (pm_cmp om_lt (pm_v 5) (pm_ix c (pm_v 1) (pm_v 4)) (nomark _)))
    (sm_one (sm_ex (pm_mth (.inl rfl) (pe_bm PySem.F.plainAttrs_list PySem.F.slot_list_append PySem.F.type_list_append mm_append (pm_v 3) (am_cons (pm_bin om_add (pm_v 4) (pm_bt cm_int z_int b_int (am_cons (pm_cmp (om_ne c) (pm_v 6) (pm_v 2) (nomark _)) am_nil))) am_nil)))))))))
    (sm_one (sm_ret (pm_bt (cm_tup c) z_tuple b_tuple (am_cons (pm_lc1 [("i", 4)] c (pim_rng1 (by rfl) z_range (am_cons (pm_bf cm_len z_len b_len (am_cons (pm_v 0) am_nil)) am_nil)) (blkOk_by (own := [("i", 4)]) (N := N__law_moved) (sc := (defScope stm__law_moved)) (by decide +kernel)) (fun _ _ _ _ _ => (gm_v 4 (Cf.blk c))) (fun _ _ _ _ _ => btm_nil) (fun _ _ _ _ _ => (pm_mth (.inl rfl) (pe_bm PySem.F.plainAttrs_list PySem.F.slot_list_count PySem.F.type_list_count (mm_countL (Cf.blk c)) (pm_v 3) (am_cons (pm_v 4) am_nil))))) am_nil)))))))
theorem ok__law_fits {f : Addr} {fd : FuncData} (F : Fun K "_law_fits" "_law_fits" stm__law_fits f fd) {f_counts_weight : Addr} {fd_counts_weight : FuncData} (F_counts_weight : Fun K "counts_weight" "counts_weight" stm_counts_weight f_counts_weight fd_counts_weight) (G_counts_weight : FnG P w K mg base CX0 2 f_counts_weight fd_counts_weight ["counts", "q"] (spM K mg 2 Cm28.c_counts_weight)) (g_counts_weight : mg "counts_weight" = some (.ref f_counts_weight)) (b_counts_weight : L2.Binds K fd_counts_weight ["counts", "q"] []) {f__law_draw : Addr} {fd__law_draw : FuncData} (F__law_draw : Fun K "_law_draw" "_law_draw" stm__law_draw f__law_draw fd__law_draw) (G__law_draw : FnG P w K mg base CX0 1 f__law_draw fd__law_draw ["box", "many"] (spM K mg 2 Cm.c__law_draw)) (g__law_draw : mg "_law_draw" = some (.ref f__law_draw)) (b__law_draw : L2.Binds K fd__law_draw ["box", "many"] []) {f__law_same : Addr} {fd__law_same : FuncData} (F__law_same : Fun K "_law_same" "_law_same" stm__law_same f__law_same fd__law_same) (G__law_same : FnG P w K mg base CX0 1 f__law_same fd__law_same ["actual", "due"] (spM K mg 2 Cm.c__law_same)) (g__law_same : mg "_law_same" = some (.ref f__law_same)) (b__law_same : L2.Binds K fd__law_same ["actual", "due"] []) {f__law_moved : Addr} {fd__law_moved : FuncData} (F__law_moved : Fun K "_law_moved" "_law_moved" stm__law_moved f__law_moved fd__law_moved) (G__law_moved : FnG P w K mg base CX0 1 f__law_moved fd__law_moved ["counts", "taken", "broken"] (spM K mg 3 Cm28.c__law_moved)) (g__law_moved : mg "_law_moved" = some (.ref f__law_moved)) (b__law_moved : L2.Binds K fd__law_moved ["counts", "taken", "broken"] []) {f_counts_after : Addr} {fd_counts_after : FuncData} (F_counts_after : Fun K "counts_after" "counts_after" stm_counts_after f_counts_after fd_counts_after) (G_counts_after : FnG P w K mg base CX0 1 f_counts_after fd_counts_after ["counts", "taken", "broken"] (spM K mg 3 Cm28.c_counts_after)) (g_counts_after : mg "counts_after" = some (.ref f_counts_after)) (b_counts_after : L2.Binds K fd_counts_after ["counts", "taken", "broken"] []) (z_range : mg "range" = none) (z_sum : mg "sum" = none) (z_tuple : mg "tuple" = none) : FnG P w K mg base CX0 3 f fd ["box"] (spM K mg 1 Cm28.c__law_fits) :=
  fnM0 (k := 2) (m := Cm28.m__law_fits) F sc__law_fits rfl rfl fun cdv A outer s H E W hr c => (
    (sm_cons (sm_st 1 c (pm_call G__law_draw c (hr.mono (by decide)) (by rfl) g__law_draw F__law_draw.kp b__law_draw pass (am_cons (pm_v 0) (am_cons pm_int am_nil))))
    (sm_cons (sm_st 2 c (pm_bt (cm_tup c) z_tuple b_tuple (am_cons (pm_lc1 [("i", 3)] c (pim_rng1 (by rfl) z_range (am_cons (pm_bin om_add (pm_v 1) pm_int) am_nil)) (blkOk_by (own := [("i", 3)]) (N := N__law_fits) (sc := (defScope stm__law_fits)) (by decide +kernel)) (fun _ _ _ _ _ => (gm_v 3 (Cf.blk c))) (fun _ _ _ _ _ => btm_nil) (fun _ _ _ _ _ => (pm_call G__law_draw (Cf.blk c) (hr.mono (by decide)) (by rfl) g__law_draw F__law_draw.kp b__law_draw pass (am_cons (pm_v 0) (am_cons pm_int am_nil))))) am_nil)))
    (sm_cons (sm_st 4 c (pm_bt (cm_tup c) z_tuple b_tuple (am_cons (pm_lc1 [("many", 5)] c (pim_seq (pm_v 2)) (blkOk_by (own := [("many", 5)]) (N := N__law_fits) (sc := (defScope stm__law_fits)) (by decide +kernel)) (fun _ _ _ _ _ => (gm_v 5 (Cf.blk c))) (fun _ _ _ _ _ => btm_nil) (fun _ _ _ _ _ => (pm_call G__law_draw (Cf.blk c) (hr.mono (by decide)) (by rfl) g__law_draw F__law_draw.kp b__law_draw pass (am_cons (pm_v 0) (am_cons (pm_bin om_add (pm_v 5) pm_int) am_nil))))) am_nil)))
    (sm_cons (sm_st 6 c (pm_lst (am_cons (pm_call G_counts_after c (hr.mono (by decide)) (by rfl) g_counts_after F_counts_after.kp b_counts_after pass (am_cons (pm_v 2) (am_cons (pm_v 4) (am_cons pm_bl am_nil)))) (am_cons (pm_call G_counts_after c (hr.mono (by decide)) (by rfl) g_counts_after F_counts_after.kp b_counts_after pass (am_cons (pm_v 2) (am_cons (pm_v 4) (am_cons pm_bl am_nil)))) am_nil))))
    (sm_cons (sm_if (bm_not (bm_val (pm_call G__law_same c (hr.mono (by decide)) (by rfl) g__law_same F__law_same.kp b__law_same pass (am_cons (pm_v 6) (am_cons (pm_lst (am_cons (pm_call G__law_moved c (hr.mono (by decide)) (by rfl) g__law_moved F__law_moved.kp b__law_moved pass (am_cons (pm_v 2) (am_cons (pm_v 4) (am_cons pm_bl am_nil)))) (am_cons (pm_call G__law_moved c (hr.mono (by decide)) (by rfl) g__law_moved F__law_moved.kp b__law_moved pass (am_cons (pm_v 2) (am_cons (pm_v 4) (am_cons pm_bl am_nil)))) am_nil))) am_nil))))) (sm_one (sm_ret pm_bl)) sm_nil)
    (sm_cons (sm_st 7 c (pm_bin om_add pm_int (pm_call G__law_draw c (hr.mono (by decide)) (by rfl) g__law_draw F__law_draw.kp b__law_draw pass (am_cons (pm_v 0) (am_cons pm_int am_nil)))))
    (sm_cons (sm_if (bm_cmp (om_ne c) (pm_bin om_add (pm_call G_counts_weight c (hr.mono (by decide)) (by rfl) g_counts_weight F_counts_weight.kp b_counts_weight pass (am_cons (pm_ix c (pm_v 6) pm_int) (am_cons (pm_bin om_sub (pm_v 7) pm_int) am_nil))) (pm_call G_counts_weight c (hr.mono (by decide)) (by rfl) g_counts_weight F_counts_weight.kp b_counts_weight pass (am_cons (pm_ix c (pm_v 6) pm_int) (am_cons (pm_bin om_sub (pm_v 7) pm_int) am_nil)))) (pm_call G_counts_weight c (hr.mono (by decide)) (by rfl) g_counts_weight F_counts_weight.kp b_counts_weight pass (am_cons (pm_v 2) (am_cons (pm_v 7) am_nil))) (nomark _)) (sm_one (sm_ret pm_bl)) sm_nil)
    (sm_one (sm_ret (pm_cmp (om_eq c) (pm_call G_counts_weight c (hr.mono (by decide)) (by rfl) g_counts_weight F_counts_weight.kp b_counts_weight pass (am_cons (pm_v 2) (am_cons pm_int am_nil))) (pm_bf (cm_sumT c) z_sum b_sum (am_cons (pm_v 2) am_nil)) (nomark _))))))))))))
theorem ok__law_tests {f : Addr} {fd : FuncData} (F : Fun K "_law_tests" "_law_tests" stm__law_tests f fd) (z_range : mg "range" = none) : FnG P w K mg base CX0 1 f fd ["counts"] (spM K mg 1 Cm28.c__law_tests) :=
  fnM0 (k := 0) (m := Cm28.m__law_tests) F sc__law_tests rfl rfl fun cdv A outer s H E W hr c => (
    (sm_cons (sm_st 1 c (pm_lst (am_cons (pm_tup am_nil) am_nil)))
    (sm_cons (sm_for PassesOwn.never c (pim_seq (pm_v 0)) (gm_v 2 c) (sm_cons (sm_st 3 c (pm_lst am_nil))
    (sm_cons (sm_for PassesOwn.never c (pim_seq (pm_v 1)) (gm_v 4 c) (sm_one (sm_st 3 c (pm_bin om_add (pm_v 3) (pm_lc1 [("taken", 5)] c (pim_rng1 (by rfl) z_range (am_cons (pm_bin om_add (pm_v 2) pm_int) am_nil)) (blkOk_by (own := [("taken", 5)]) (N := N__law_tests) (sc := (defScope stm__law_tests)) (by decide +kernel)) (fun _ _ _ _ _ => (gm_v 5 (Cf.blk c))) (fun _ _ _ _ _ => btm_nil) (fun _ _ _ _ _ => (pm_bin om_add (pm_v 4) (pm_tup (am_cons (pm_v 5) am_nil)))))))))
    (sm_one (sm_st 1 c (pm_v 3))))))
    (sm_one (sm_ret (pm_v 1))))))
theorem ok__law_settled {f__law_settled : Addr} {fd__law_settled : FuncData} (F__law_settled : Fun K "_law_settled" "_law_settled" stm__law_settled f__law_settled fd__law_settled) {f__law_tests : Addr} {fd__law_tests : FuncData} (F__law_tests : Fun K "_law_tests" "_law_tests" stm__law_tests f__law_tests fd__law_tests) (G__law_tests : FnG P w K mg base CX0 1 f__law_tests fd__law_tests ["counts"] (spM K mg 1 Cm28.c__law_tests)) (g__law_tests : mg "_law_tests" = some (.ref f__law_tests)) (b__law_tests : L2.Binds K fd__law_tests ["counts"] []) {f__law_moved : Addr} {fd__law_moved : FuncData} (F__law_moved : Fun K "_law_moved" "_law_moved" stm__law_moved f__law_moved fd__law_moved) (G__law_moved : FnG P w K mg base CX0 1 f__law_moved fd__law_moved ["counts", "taken", "broken"] (spM K mg 3 Cm28.c__law_moved)) (g__law_moved : mg "_law_moved" = some (.ref f__law_moved)) (b__law_moved : L2.Binds K fd__law_moved ["counts", "taken", "broken"] []) (z_sum : mg "sum" = none) (g__law_settled : mg "_law_settled" = some (.ref f__law_settled)) (b__law_settled : L2.Binds K fd__law_settled ["counts", "q", "known"] []) (n : Nat) : FnG P w K mg base CX0 (1 + 1 + n) f__law_settled fd__law_settled ["counts", "q", "known"] (spM K mg 3 (Cm28.c__law_settled n)) := by
  induction n with
  | zero => exact fnM_stuck F__law_settled sc__law_settled rfl
  | succ n G__law_settled =>
    show FnG P w K mg base CX0 (1 + 1 + n + 1) f__law_settled fd__law_settled ["counts", "q", "known"] (spM K mg 3 (defM 2 (Cm28.m__law_settled (Cm28.c__law_settled n))))
    exact fnM0 (k := 1 + 1 + n) (m := Cm28.m__law_settled (Cm28.c__law_settled n)) F__law_settled sc__law_settled rfl rfl fun cdv A outer s H E W hr c => (
    (sm_cons (sm_if (bm_cmp om_le (pm_bf (cm_sumT c) z_sum b_sum (am_cons (pm_v 0) am_nil)) pm_int (nomark _)) (sm_one (sm_ret pm_bl)) sm_nil)
    (sm_cons (sm_if (bm_cmp (om_eq c) (pm_v 1) pm_int (nomark _)) (sm_one (sm_ret pm_bl)) sm_nil)
    (sm_cons (sm_if (bm_cmp (om_notinN c) (pm_tup (am_cons (pm_v 0) (am_cons (pm_v 1) am_nil))) (pm_v 2) (by with_unfolding_all rfl)) (sm_cons (sm_st 3 c pm_bl)
    (sm_cons (sm_for PassesOwn.never c (pim_seq (pm_call G__law_tests c (hr.mono (by omega)) (by rfl) g__law_tests F__law_tests.kp b__law_tests pass (am_cons (pm_v 0) am_nil))) (gm_v 4 c) (sm_one (sm_if (PW.pt (bm_and (bm_not (bm_tru (pm_v 3))) (bm_and1 (bm_chain om_lt om_lt pm_int (pm_bf (cm_sumT c) z_sum b_sum (am_cons (pm_v 4) am_nil)) (pm_bf (cm_sumT c) z_sum b_sum (am_cons (pm_v 0) am_nil)))))) (sm_one (sm_st 3 c (pm_and (pm_call G__law_settled c (hr.mono (by omega)) (by rfl) g__law_settled F__law_settled.kp b__law_settled pass (am_cons (pm_call G__law_moved c (hr.mono (by omega)) (by rfl) g__law_moved F__law_moved.kp b__law_moved pass (am_cons (pm_v 0) (am_cons (pm_v 4) (am_cons pm_bl am_nil)))) (am_cons (pm_bin om_sub (pm_v 1) pm_int) (am_cons (pm_v 2) am_nil)))) (pm_one (pm_call G__law_settled c (hr.mono (by omega)) (by rfl) g__law_settled F__law_settled.kp b__law_settled pass (am_cons (pm_call G__law_moved c (hr.mono (by omega)) (by rfl) g__law_moved F__law_moved.kp b__law_moved pass (am_cons (pm_v 0) (am_cons (pm_v 4) (am_cons pm_bl am_nil)))) (am_cons (pm_bin om_sub (pm_v 1) pm_int) (am_cons (pm_v 2) am_nil)))))))) sm_nil)))
    (sm_one (sm_ptN c (pm_v 3) (pm_v 2) (pm_tup (am_cons (pm_v 0) (am_cons (pm_v 1) am_nil))))))) sm_nil)
    (sm_one (sm_ret (pm_ixN c (pm_v 2) (pm_tup (am_cons (pm_v 0) (am_cons (pm_v 1) am_nil))))))))))
theorem ok__law_least {f : Addr} {fd : FuncData} (F : Fun K "_law_least" "_law_least" stm__law_least f fd) {f__law_settled : Addr} {fd__law_settled : FuncData} (F__law_settled : Fun K "_law_settled" "_law_settled" stm__law_settled f__law_settled fd__law_settled) (G__law_settled : FnG P w K mg base CX0 28 f__law_settled fd__law_settled ["counts", "q", "known"] (spM K mg 3 (Cm28.c__law_settled 26))) (g__law_settled : mg "_law_settled" = some (.ref f__law_settled)) (b__law_settled : L2.Binds K fd__law_settled ["counts", "q", "known"] []) (z_range : mg "range" = none) : FnG P w K mg base CX0 29 f fd ["counts"] (spM K mg 1 Cm28.c__law_least) :=
  fnM0 (k := 28) (m := Cm28.m__law_least) F sc__law_least rfl rfl fun cdv A outer s H E W hr c => (
    (sm_cons (sm_st 1 c pm_dN)
    (sm_cons (sm_for PassesOwn.never c (pim_rng1 (by rfl) z_range (am_cons pm_int am_nil)) (gm_v 2 c) (sm_one (sm_if (bm_val (pm_call G__law_settled c (hr.mono (by decide)) (by rfl) g__law_settled F__law_settled.kp b__law_settled pass (am_cons (pm_v 0) (am_cons (pm_v 2) (am_cons (pm_v 1) am_nil))))) (sm_one (sm_ret (pm_v 2))) sm_nil)))
    (sm_one (sm_ret (pm_un um_neg pm_int))))))
theorem ok__law_cell {f : Addr} {fd : FuncData} (F : Fun K "_law_cell" "_law_cell" stm__law_cell f fd) (z_len : mg "len" = none) : FnG P w K mg base CX0 1 f fd ["script", "k"] (spM K mg 2 Cm.c__law_cell) :=
  fnM0 (k := 0) (m := Cm.m__law_cell) F sc__law_cell rfl rfl fun cdv A outer s H E W hr c => (
    (sm_cons (sm_if (bm_cmp om_lt (pm_v 1) (pm_bf cm_len z_len b_len (am_cons (pm_v 0) am_nil)) (nomark _)) (sm_one (sm_ret (pm_ix c (pm_v 0) (pm_v 1)))) sm_nil)
    (sm_one (sm_ret pm_int))))
theorem ok__law_digits {f : Addr} {fd : FuncData} (F : Fun K "_law_digits" "_law_digits" stm__law_digits f fd) {f__law_cell : Addr} {fd__law_cell : FuncData} (F__law_cell : Fun K "_law_cell" "_law_cell" stm__law_cell f__law_cell fd__law_cell) (G__law_cell : FnG P w K mg base CX0 1 f__law_cell fd__law_cell ["script", "k"] (spM K mg 2 Cm.c__law_cell)) (g__law_cell : mg "_law_cell" = some (.ref f__law_cell)) (b__law_cell : L2.Binds K fd__law_cell ["script", "k"] []) (z_int : mg "int" = none) (z_range : mg "range" = none) : FnG P w K mg base CX0 2 f fd ["script", "first", "last"] (spM K mg 3 Cm.c__law_digits) :=
  fnM0 (k := 1) (m := Cm.m__law_digits) F sc__law_digits rfl rfl fun cdv A outer s H E W hr c => (
    (sm_cons (sm_st 3 c (pm_lst am_nil))
    (sm_cons (sm_for PassesOwn.never c (pim_rng2 (by rfl) z_range (am_cons (pm_v 1) (am_cons (pm_v 2) am_nil))) (gm_v 4 c) (sm_cons (sm_st 5 c (pm_call G__law_cell c (hr.mono (by decide)) (by rfl) g__law_cell F__law_cell.kp b__law_cell pass (am_cons (pm_v 0) (am_cons (pm_v 4) am_nil))))
    (sm_cons (sm_if (bm_cmp om_lt (pm_v 5) pm_int (nomark _)) (sm_one (sm_st 5 c (pm_bin om_sub pm_int (pm_bin om_mul pm_int (pm_v 5))))) sm_nil)
    (sm_one (sm_if (bm_cmp om_ge (pm_v 5) (pm_bin om_pow pm_int pm_int) (nomark _)) (sm_one (sm_for PassesOwn.never c (pim_rng1 (by rfl) z_range (am_cons pm_int am_nil)) (gm_v 6 c) (sm_one (sm_if (bm_cmp om_gt (pm_v 5) pm_int (nomark _)) (sm_cons (sm_ex (pm_mth (.inl rfl) (pe_bm PySem.F.plainAttrs_list PySem.F.slot_list_append PySem.F.type_list_append mm_append (pm_v 3) (am_cons (pm_bin om_mod (pm_bt cm_int z_int b_int (am_cons (pm_v 5) am_nil)) pm_int) am_nil))))
    (sm_one (sm_st 5 c (pm_bin om_fdiv (pm_v 5) pm_int)))) sm_nil)))) (sm_cons (sm_st 7 c (pm_bin om_mod (pm_bt cm_int z_int b_int (am_cons (pm_bin om_add (pm_bin om_add (pm_bin om_mul (pm_v 5) pm_int) (pm_bin om_mul (pm_v 4) pm_int)) pm_int) am_nil)) pm_int))
    (sm_one (sm_for PassesOwn.never c (pim_rng1 (by rfl) z_range (am_cons pm_int am_nil)) (gm_v 6 c) (sm_cons (sm_st 7 c (pm_bin om_mod (pm_bt cm_int z_int b_int (am_cons (pm_bin om_add (pm_bin om_add (pm_bin om_mul (pm_v 7) pm_int) (pm_bin om_mul pm_int (pm_v 6))) pm_int) am_nil)) pm_int))
    (sm_one (sm_ex (pm_mth (.inl rfl) (pe_bm PySem.F.plainAttrs_list PySem.F.slot_list_append PySem.F.type_list_append mm_append (pm_v 3) (am_cons (pm_bin om_mod (pm_bt cm_int z_int b_int (am_cons (pm_bin om_fdiv (pm_v 7) pm_int) am_nil)) pm_int) am_nil))))))))))))))
    (sm_one (sm_ret (pm_v 3))))))
theorem ok_law {f : Addr} {fd : FuncData} (F : Fun K "law" "law" stm_law f fd) {f__law_same : Addr} {fd__law_same : FuncData} (F__law_same : Fun K "_law_same" "_law_same" stm__law_same f__law_same fd__law_same) (G__law_same : FnG P w K mg base CX0 1 f__law_same fd__law_same ["actual", "due"] (spM K mg 2 Cm.c__law_same)) (g__law_same : mg "_law_same" = some (.ref f__law_same)) (b__law_same : L2.Binds K fd__law_same ["actual", "due"] []) {f__law_formula : Addr} {fd__law_formula : FuncData} (F__law_formula : Fun K "_law_formula" "_law_formula" stm__law_formula f__law_formula fd__law_formula) (G__law_formula : FnG P w K mg base CX0 1 f__law_formula fd__law_formula ["n"] (spM K mg 1 Cm28.c__law_formula)) (g__law_formula : mg "_law_formula" = some (.ref f__law_formula)) (b__law_formula : L2.Binds K fd__law_formula ["n"] []) {f_fewest_patches : Addr} {fd_fewest_patches : FuncData} (F_fewest_patches : Fun K "fewest_patches" "fewest_patches" stm_fewest_patches f_fewest_patches fd_fewest_patches) (G_fewest_patches : FnG P w K mg base CX0 2 f_fewest_patches fd_fewest_patches ["n"] (spM K mg 1 Cm8.c_fewest_patches)) (g_fewest_patches : mg "fewest_patches" = some (.ref f_fewest_patches)) (b_fewest_patches : L2.Binds K fd_fewest_patches ["n"] []) {f_fewest_counts : Addr} {fd_fewest_counts : FuncData} (F_fewest_counts : Fun K "fewest_counts" "fewest_counts" stm_fewest_counts f_fewest_counts fd_fewest_counts) (G_fewest_counts : FnG P w K mg base (L2.CX P w) 29 f_fewest_counts fd_fewest_counts ["n", "k"] (spM K mg 2 Cm28.c_fewest_counts)) (g_fewest_counts : mg "fewest_counts" = some (.ref f_fewest_counts)) (b_fewest_counts : L2.Binds K fd_fewest_counts ["n", "k"] []) {f__law_refused : Addr} {fd__law_refused : FuncData} (F__law_refused : Fun K "_law_refused" "_law_refused" stm__law_refused f__law_refused fd__law_refused) (G__law_refused : FnG P w K mg base (L2.CX P w) 30 f__law_refused fd__law_refused ["n", "k"] (spM K mg 2 Cm28.c__law_refused)) (g__law_refused : mg "_law_refused" = some (.ref f__law_refused)) (b__law_refused : L2.Binds K fd__law_refused ["n", "k"] []) {f__law_draw : Addr} {fd__law_draw : FuncData} (F__law_draw : Fun K "_law_draw" "_law_draw" stm__law_draw f__law_draw fd__law_draw) (G__law_draw : FnG P w K mg base CX0 1 f__law_draw fd__law_draw ["box", "many"] (spM K mg 2 Cm.c__law_draw)) (g__law_draw : mg "_law_draw" = some (.ref f__law_draw)) (b__law_draw : L2.Binds K fd__law_draw ["box", "many"] []) {f__law_pick : Addr} {fd__law_pick : FuncData} (F__law_pick : Fun K "_law_pick" "_law_pick" stm__law_pick f__law_pick fd__law_pick) (G__law_pick : FnG P w K mg base CX0 2 f__law_pick fd__law_pick ["box", "things"] (spM K mg 2 Cm.c__law_pick)) (g__law_pick : mg "_law_pick" = some (.ref f__law_pick)) (b__law_pick : L2.Binds K fd__law_pick ["box", "things"] []) {f__law_great : Addr} {fd__law_great : FuncData} (F__law_great : Fun K "_law_great" "_law_great" stm__law_great f__law_great fd__law_great) (G__law_great : FnG P w K mg base CX0 3 f__law_great fd__law_great ["box"] (spM K mg 1 Cm28.c__law_great)) (g__law_great : mg "_law_great" = some (.ref f__law_great)) (b__law_great : L2.Binds K fd__law_great ["box"] []) {f__law_fits : Addr} {fd__law_fits : FuncData} (F__law_fits : Fun K "_law_fits" "_law_fits" stm__law_fits f__law_fits fd__law_fits) (G__law_fits : FnG P w K mg base CX0 3 f__law_fits fd__law_fits ["box"] (spM K mg 1 Cm28.c__law_fits)) (g__law_fits : mg "_law_fits" = some (.ref f__law_fits)) (b__law_fits : L2.Binds K fd__law_fits ["box"] []) {f__law_least : Addr} {fd__law_least : FuncData} (F__law_least : Fun K "_law_least" "_law_least" stm__law_least f__law_least fd__law_least) (G__law_least : FnG P w K mg base CX0 29 f__law_least fd__law_least ["counts"] (spM K mg 1 Cm28.c__law_least)) (g__law_least : mg "_law_least" = some (.ref f__law_least)) (b__law_least : L2.Binds K fd__law_least ["counts"] []) {f__law_digits : Addr} {fd__law_digits : FuncData} (F__law_digits : Fun K "_law_digits" "_law_digits" stm__law_digits f__law_digits fd__law_digits) (G__law_digits : FnG P w K mg base CX0 2 f__law_digits fd__law_digits ["script", "first", "last"] (spM K mg 3 Cm.c__law_digits)) (g__law_digits : mg "_law_digits" = some (.ref f__law_digits)) (b__law_digits : L2.Binds K fd__law_digits ["script", "first", "last"] []) (z_range : mg "range" = none) : FnG P w K mg base (L2.CX P w) 31 f fd ["script"] (spM K mg 1 c_law) :=
  fnMX (k := 30) (m := m_law) F sc_law rfl rfl fun cdv A outer s H E W hr c tk po => (
    (sm_cons (sm_st 1 c (pm_lst (am_cons (pm_call G__law_digits c (hr.mono (by decide)) (by rfl) g__law_digits F__law_digits.kp b__law_digits pass (am_cons (pm_v 0) (am_cons pm_int (am_cons pm_int am_nil)))) (am_cons pm_int am_nil))))
    (sm_cons (sm_st 2 c (pm_bin om_add (pm_bin om_add (pm_lc1 [("n", 3)] c (pim_rng2 (by rfl) z_range (am_cons pm_int (am_cons pm_int am_nil))) (blkOk_by (own := [("n", 3)]) (N := N_law) (sc := (defScope stm_law)) (by decide +kernel)) (fun _ _ _ _ _ => (gm_v 3 (Cf.blk c))) (fun _ _ _ _ _ => btm_nil) (fun _ _ _ _ _ => (pm_tup (am_cons (pm_v 3) (am_cons pm_int am_nil))))) (pm_lc1 [("n", 3)] c (pim_rng2 (by rfl) z_range (am_cons pm_int (am_cons pm_int am_nil))) (blkOk_by (own := [("n", 3)]) (N := N_law) (sc := (defScope stm_law)) (by decide +kernel)) (fun _ _ _ _ _ => (gm_v 3 (Cf.blk c))) (fun _ _ _ _ _ => btm_nil) (fun _ _ _ _ _ => (pm_tup (am_cons (pm_v 3) (am_cons pm_int am_nil)))))) (pm_lc1 [("n", 3)] c (pim_rng2 (by rfl) z_range (am_cons pm_int (am_cons pm_int am_nil))) (blkOk_by (own := [("n", 3)]) (N := N_law) (sc := (defScope stm_law)) (by decide +kernel)) (fun _ _ _ _ _ => (gm_v 3 (Cf.blk c))) (fun _ _ _ _ _ => btm_nil) (fun _ _ _ _ _ => (pm_tup (am_cons (pm_v 3) (am_cons pm_int am_nil)))))))
    (sm_cons (sm_tg (pm_call G__law_pick c (hr.mono (by decide)) (by rfl) g__law_pick F__law_pick.kp b__law_pick pass (am_cons (pm_v 1) (am_cons (pm_bin om_add (pm_v 2) (pm_lc1 [("n", 3)] c (pim_rng2 (by rfl) z_range (am_cons pm_int (am_cons pm_int am_nil))) (blkOk_by (own := [("n", 3)]) (N := N_law) (sc := (defScope stm_law)) (by decide +kernel)) (fun _ _ _ _ _ => (gm_v 3 (Cf.blk c))) (fun _ _ _ _ _ => btm_nil) (fun _ _ _ _ _ => (pm_tup (am_cons (pm_v 3) (am_cons pm_int am_nil)))))) am_nil))) (gm_t c (gms_cons (gm_v 3 c) (gms_cons (gm_v 4 c) gms_nil))))
    (sm_cons (sm_st 5 c (pm_call G__law_least c (hr.mono (by decide)) (by rfl) g__law_least F__law_least.kp b__law_least pass (am_cons (pm_bin om_add (pm_tup (am_cons (pm_v 3) am_nil)) (pm_bin om_mulT2 (pm_tup (am_cons pm_int am_nil)) (pm_v 4))) am_nil)))
    (sm_cons (sm_if (PW.pt (bm_or (bm_not (bm_val (pm_call G__law_same c (hr.mono (by decide)) (by rfl) g__law_same F__law_same.kp b__law_same pass (am_cons (pm_call G_fewest_counts c (hr.mono (by decide)) (by rfl) g_fewest_counts F_fewest_counts.kp b_fewest_counts (passTk tk) (am_cons (pm_v 3) (am_cons (pm_v 4) am_nil))) (am_cons (pm_v 5) am_nil))))) (bm_or1 (PW.pt (bm_and (bm_cmp (om_eq c) (pm_v 4) pm_int (nomark _)) (bm_and1 (bm_not (bm_val (pm_call G__law_same c (hr.mono (by decide)) (by rfl) g__law_same F__law_same.kp b__law_same pass (am_cons (pm_call G_fewest_patches c (hr.mono (by decide)) (by rfl) g_fewest_patches F_fewest_patches.kp b_fewest_patches pass (am_cons (pm_v 3) am_nil)) (am_cons (pm_v 5) am_nil))))))))))) (sm_one (sm_ret pm_bl)) sm_nil)
    (sm_cons (sm_for po c (pim_rng1 (by rfl) z_range (am_cons pm_int am_nil)) (gm_v 6 c) (sm_cut (sm_one (sm_if (bm_not (bm_val (pm_call G__law_fits c (hr.mono (by decide)) (by rfl) g__law_fits F__law_fits.kp b__law_fits pass (am_cons (pm_v 1) am_nil)))) (sm_one (sm_ret pm_bl)) sm_nil))))
    (sm_cons (sm_if (bm_not (bm_val (pm_call G__law_great c (hr.mono (by decide)) (by rfl) g__law_great F__law_great.kp b__law_great pass (am_cons (pm_v 1) am_nil)))) (sm_one (sm_ret pm_bl)) sm_nil)
    (sm_cons (sm_st 7 c (pm_bin om_add (pm_bin om_add pm_int (pm_bin om_mul (pm_call G__law_draw c (hr.mono (by decide)) (by rfl) g__law_draw F__law_draw.kp b__law_draw pass (am_cons (pm_v 1) (am_cons pm_int am_nil))) (pm_call G__law_pick c (hr.mono (by decide)) (by rfl) g__law_pick F__law_pick.kp b__law_pick pass (am_cons (pm_v 1) (am_cons (pm_lst (am_cons pm_int (am_cons pm_int (am_cons (pm_bin om_pow pm_int pm_int) (am_cons (pm_bin om_pow pm_int pm_int) am_nil))))) am_nil))))) (pm_call G__law_draw c (hr.mono (by decide)) (by rfl) g__law_draw F__law_draw.kp b__law_draw pass (am_cons (pm_v 1) (am_cons pm_int am_nil)))))
    (sm_cons (sm_if (bm_not (bm_val (pm_call G__law_same c (hr.mono (by decide)) (by rfl) g__law_same F__law_same.kp b__law_same pass (am_cons (pm_lst (am_cons (pm_call G_fewest_patches c (hr.mono (by decide)) (by rfl) g_fewest_patches F_fewest_patches.kp b_fewest_patches pass (am_cons (pm_v 7) am_nil)) (am_cons (pm_call G_fewest_patches c (hr.mono (by decide)) (by rfl) g_fewest_patches F_fewest_patches.kp b_fewest_patches pass (am_cons (pm_bin om_add (pm_v 7) pm_int) am_nil)) am_nil))) (am_cons (pm_lst (am_cons (pm_call G__law_formula c (hr.mono (by decide)) (by rfl) g__law_formula F__law_formula.kp b__law_formula pass (am_cons (pm_v 7) am_nil)) (am_cons (pm_call G__law_formula c (hr.mono (by decide)) (by rfl) g__law_formula F__law_formula.kp b__law_formula pass (am_cons (pm_bin om_add (pm_v 7) pm_int) am_nil)) am_nil))) am_nil))))) (sm_one (sm_ret pm_bl)) sm_nil)
    (sm_cons (sm_for po c (pim_seq (pm_lst (am_cons (pm_tup (am_cons pm_int (am_cons pm_int am_nil))) (am_cons (pm_tup (am_cons pm_int (am_cons pm_int am_nil))) (am_cons (pm_tup (am_cons pm_int (am_cons pm_int am_nil))) (am_cons (pm_tup (am_cons pm_int (am_cons pm_int am_nil))) am_nil)))))) (gm_t c (gms_cons (gm_v 3 c) (gms_cons (gm_v 4 c) gms_nil))) (sm_cut (sm_one (sm_if (bm_not (bm_val (pm_call G__law_refused c (hr.mono (by decide)) (by rfl) g__law_refused F__law_refused.kp b__law_refused (passTk tk) (am_cons (pm_v 3) (am_cons (pm_v 4) am_nil))))) (sm_one (sm_ret pm_bl)) sm_nil))))
    (sm_one (sm_ret (pm_call G__law_same c (hr.mono (by decide)) (by rfl) g__law_same F__law_same.kp b__law_same pass (am_cons (pm_lst (am_cons (pm_call G_fewest_counts c (hr.mono (by decide)) (by rfl) g_fewest_counts F_fewest_counts.kp b_fewest_counts (passTk tk) (am_cons pm_int (am_cons pm_int am_nil))) (am_cons (pm_call G_fewest_counts c (hr.mono (by decide)) (by rfl) g_fewest_counts F_fewest_counts.kp b_fewest_counts (passTk tk) (am_cons pm_int (am_cons pm_int am_nil))) (am_cons (pm_call G_fewest_patches c (hr.mono (by decide)) (by rfl) g_fewest_patches F_fewest_patches.kp b_fewest_patches pass (am_cons (pm_bin om_pow pm_int pm_int) am_nil)) am_nil)))) (am_cons (pm_lst (am_cons pm_int (am_cons pm_int (am_cons (pm_call G__law_formula c (hr.mono (by decide)) (by rfl) g__law_formula F__law_formula.kp b__law_formula pass (am_cons (pm_bin om_pow pm_int pm_int) am_nil)) am_nil)))) am_nil))))))))))))))))
end
/-- what is left to show -/
def Goal : Prop := ∀ ns : List Int, ns.length ≤ 63 → c_law [.scr ns] (fun _ _ => False) [] (fun d _ => d = .bl true)
theorem all_mk {l : PySem.W.OpenLaw} {w : World} {K : PySem.W.Frag} {h : Heap} {mg : Str → Option Value} {fa f__law_same f__law_formula f_odd_surplus f_fewest_patches f_telling_tests f_counts_after f_needed f_fewest_counts f__law_refused f__law_draw f__law_pick f_choices f_counts_weight f__law_great f__law_moved f__law_fits f__law_tests f__law_settled f__law_least f__law_cell f__law_digits f_law : Addr} (X : K.In h) (G : h.Ns mainGlobals mg) (hfa : mg "law" = some (.ref fa))
    {od__law_same an__law_same : Option Addr} {sl__law_same : Array (Option Value)} {oc__law_same kV__law_same dc__law_same pm__law_same cd__law_same ct__law_same : Value}
    {od__law_formula an__law_formula : Option Addr} {sl__law_formula : Array (Option Value)} {oc__law_formula kV__law_formula dc__law_formula pm__law_formula cd__law_formula ct__law_formula : Value}
    {od_odd_surplus an_odd_surplus : Option Addr} {sl_odd_surplus : Array (Option Value)} {oc_odd_surplus kV_odd_surplus dc_odd_surplus pm_odd_surplus cd_odd_surplus ct_odd_surplus : Value}
    {od_fewest_patches an_fewest_patches : Option Addr} {sl_fewest_patches : Array (Option Value)} {oc_fewest_patches kV_fewest_patches dc_fewest_patches pm_fewest_patches cd_fewest_patches ct_fewest_patches : Value}
    {od_telling_tests an_telling_tests : Option Addr} {sl_telling_tests : Array (Option Value)} {oc_telling_tests kV_telling_tests dc_telling_tests pm_telling_tests cd_telling_tests ct_telling_tests : Value}
    {od_counts_after an_counts_after : Option Addr} {sl_counts_after : Array (Option Value)} {oc_counts_after kV_counts_after dc_counts_after pm_counts_after cd_counts_after ct_counts_after : Value}
    {od_needed an_needed : Option Addr} {sl_needed : Array (Option Value)} {oc_needed kV_needed dc_needed pm_needed cd_needed ct_needed : Value}
    {od_fewest_counts an_fewest_counts : Option Addr} {sl_fewest_counts : Array (Option Value)} {oc_fewest_counts kV_fewest_counts dc_fewest_counts pm_fewest_counts cd_fewest_counts ct_fewest_counts : Value}
    {od__law_refused an__law_refused : Option Addr} {sl__law_refused : Array (Option Value)} {oc__law_refused kV__law_refused dc__law_refused pm__law_refused cd__law_refused ct__law_refused : Value}
    {od__law_draw an__law_draw : Option Addr} {sl__law_draw : Array (Option Value)} {oc__law_draw kV__law_draw dc__law_draw pm__law_draw cd__law_draw ct__law_draw : Value}
    {od__law_pick an__law_pick : Option Addr} {sl__law_pick : Array (Option Value)} {oc__law_pick kV__law_pick dc__law_pick pm__law_pick cd__law_pick ct__law_pick : Value}
    {od_choices an_choices : Option Addr} {sl_choices : Array (Option Value)} {oc_choices kV_choices dc_choices pm_choices cd_choices ct_choices : Value}
    {od_counts_weight an_counts_weight : Option Addr} {sl_counts_weight : Array (Option Value)} {oc_counts_weight kV_counts_weight dc_counts_weight pm_counts_weight cd_counts_weight ct_counts_weight : Value}
    {od__law_great an__law_great : Option Addr} {sl__law_great : Array (Option Value)} {oc__law_great kV__law_great dc__law_great pm__law_great cd__law_great ct__law_great : Value}
    {od__law_moved an__law_moved : Option Addr} {sl__law_moved : Array (Option Value)} {oc__law_moved kV__law_moved dc__law_moved pm__law_moved cd__law_moved ct__law_moved : Value}
    {od__law_fits an__law_fits : Option Addr} {sl__law_fits : Array (Option Value)} {oc__law_fits kV__law_fits dc__law_fits pm__law_fits cd__law_fits ct__law_fits : Value}
    {od__law_tests an__law_tests : Option Addr} {sl__law_tests : Array (Option Value)} {oc__law_tests kV__law_tests dc__law_tests pm__law_tests cd__law_tests ct__law_tests : Value}
    {od__law_settled an__law_settled : Option Addr} {sl__law_settled : Array (Option Value)} {oc__law_settled kV__law_settled dc__law_settled pm__law_settled cd__law_settled ct__law_settled : Value}
    {od__law_least an__law_least : Option Addr} {sl__law_least : Array (Option Value)} {oc__law_least kV__law_least dc__law_least pm__law_least cd__law_least ct__law_least : Value}
    {od__law_cell an__law_cell : Option Addr} {sl__law_cell : Array (Option Value)} {oc__law_cell kV__law_cell dc__law_cell pm__law_cell cd__law_cell ct__law_cell : Value}
    {od__law_digits an__law_digits : Option Addr} {sl__law_digits : Array (Option Value)} {oc__law_digits kV__law_digits dc__law_digits pm__law_digits cd__law_digits ct__law_digits : Value}
    {od_law an_law : Option Addr} {sl_law : Array (Option Value)} {oc_law kV_law dc_law pm_law cd_law ct_law : Value}
    (a__law_same : PySem.W.nsIn K mainGlobals "_law_same" = some (some (.ref f__law_same))) (l__law_same : K.lookup f__law_same = some ⟨oc__law_same, od__law_same, .func (PySem.W.fnOf "_law_same" "_law_same" (defArgs stm__law_same) (defBody stm__law_same) (defScope stm__law_same) .none kV__law_same dc__law_same pm__law_same an__law_same cd__law_same ct__law_same), sl__law_same⟩) (c__law_same : PySem.W.codeIn K cd__law_same "_law_same" = true) (k__law_same : PySem.W.keepIn K (.ref f__law_same) = true)
    (a__law_formula : PySem.W.nsIn K mainGlobals "_law_formula" = some (some (.ref f__law_formula))) (l__law_formula : K.lookup f__law_formula = some ⟨oc__law_formula, od__law_formula, .func (PySem.W.fnOf "_law_formula" "_law_formula" (defArgs stm__law_formula) (defBody stm__law_formula) (defScope stm__law_formula) .none kV__law_formula dc__law_formula pm__law_formula an__law_formula cd__law_formula ct__law_formula), sl__law_formula⟩) (c__law_formula : PySem.W.codeIn K cd__law_formula "_law_formula" = true) (k__law_formula : PySem.W.keepIn K (.ref f__law_formula) = true)
    (a_odd_surplus : PySem.W.nsIn K mainGlobals "odd_surplus" = some (some (.ref f_odd_surplus))) (l_odd_surplus : K.lookup f_odd_surplus = some ⟨oc_odd_surplus, od_odd_surplus, .func (PySem.W.fnOf "odd_surplus" "odd_surplus" (defArgs stm_odd_surplus) (defBody stm_odd_surplus) (defScope stm_odd_surplus) .none kV_odd_surplus dc_odd_surplus pm_odd_surplus an_odd_surplus cd_odd_surplus ct_odd_surplus), sl_odd_surplus⟩) (c_odd_surplus : PySem.W.codeIn K cd_odd_surplus "odd_surplus" = true) (k_odd_surplus : PySem.W.keepIn K (.ref f_odd_surplus) = true)
    (a_fewest_patches : PySem.W.nsIn K mainGlobals "fewest_patches" = some (some (.ref f_fewest_patches))) (l_fewest_patches : K.lookup f_fewest_patches = some ⟨oc_fewest_patches, od_fewest_patches, .func (PySem.W.fnOf "fewest_patches" "fewest_patches" (defArgs stm_fewest_patches) (defBody stm_fewest_patches) (defScope stm_fewest_patches) .none kV_fewest_patches dc_fewest_patches pm_fewest_patches an_fewest_patches cd_fewest_patches ct_fewest_patches), sl_fewest_patches⟩) (c_fewest_patches : PySem.W.codeIn K cd_fewest_patches "fewest_patches" = true) (k_fewest_patches : PySem.W.keepIn K (.ref f_fewest_patches) = true)
    (a_telling_tests : PySem.W.nsIn K mainGlobals "telling_tests" = some (some (.ref f_telling_tests))) (l_telling_tests : K.lookup f_telling_tests = some ⟨oc_telling_tests, od_telling_tests, .func (PySem.W.fnOf "telling_tests" "telling_tests" (defArgs stm_telling_tests) (defBody stm_telling_tests) (defScope stm_telling_tests) .none kV_telling_tests dc_telling_tests pm_telling_tests an_telling_tests cd_telling_tests ct_telling_tests), sl_telling_tests⟩) (c_telling_tests : PySem.W.codeIn K cd_telling_tests "telling_tests" = true) (k_telling_tests : PySem.W.keepIn K (.ref f_telling_tests) = true)
    (a_counts_after : PySem.W.nsIn K mainGlobals "counts_after" = some (some (.ref f_counts_after))) (l_counts_after : K.lookup f_counts_after = some ⟨oc_counts_after, od_counts_after, .func (PySem.W.fnOf "counts_after" "counts_after" (defArgs stm_counts_after) (defBody stm_counts_after) (defScope stm_counts_after) .none kV_counts_after dc_counts_after pm_counts_after an_counts_after cd_counts_after ct_counts_after), sl_counts_after⟩) (c_counts_after : PySem.W.codeIn K cd_counts_after "counts_after" = true) (k_counts_after : PySem.W.keepIn K (.ref f_counts_after) = true)
    (a_needed : PySem.W.nsIn K mainGlobals "needed" = some (some (.ref f_needed))) (l_needed : K.lookup f_needed = some ⟨oc_needed, od_needed, .func (PySem.W.fnOf "needed" "needed" (defArgs stm_needed) (defBody stm_needed) (defScope stm_needed) .none kV_needed dc_needed pm_needed an_needed cd_needed ct_needed), sl_needed⟩) (c_needed : PySem.W.codeIn K cd_needed "needed" = true) (k_needed : PySem.W.keepIn K (.ref f_needed) = true)
    (a_fewest_counts : PySem.W.nsIn K mainGlobals "fewest_counts" = some (some (.ref f_fewest_counts))) (l_fewest_counts : K.lookup f_fewest_counts = some ⟨oc_fewest_counts, od_fewest_counts, .func (PySem.W.fnOf "fewest_counts" "fewest_counts" (defArgs stm_fewest_counts) (defBody stm_fewest_counts) (defScope stm_fewest_counts) .none kV_fewest_counts dc_fewest_counts pm_fewest_counts an_fewest_counts cd_fewest_counts ct_fewest_counts), sl_fewest_counts⟩) (c_fewest_counts : PySem.W.codeIn K cd_fewest_counts "fewest_counts" = true) (k_fewest_counts : PySem.W.keepIn K (.ref f_fewest_counts) = true)
    (a__law_refused : PySem.W.nsIn K mainGlobals "_law_refused" = some (some (.ref f__law_refused))) (l__law_refused : K.lookup f__law_refused = some ⟨oc__law_refused, od__law_refused, .func (PySem.W.fnOf "_law_refused" "_law_refused" (defArgs stm__law_refused) (defBody stm__law_refused) (defScope stm__law_refused) .none kV__law_refused dc__law_refused pm__law_refused an__law_refused cd__law_refused ct__law_refused), sl__law_refused⟩) (c__law_refused : PySem.W.codeIn K cd__law_refused "_law_refused" = true) (k__law_refused : PySem.W.keepIn K (.ref f__law_refused) = true)
    (a__law_draw : PySem.W.nsIn K mainGlobals "_law_draw" = some (some (.ref f__law_draw))) (l__law_draw : K.lookup f__law_draw = some ⟨oc__law_draw, od__law_draw, .func (PySem.W.fnOf "_law_draw" "_law_draw" (defArgs stm__law_draw) (defBody stm__law_draw) (defScope stm__law_draw) .none kV__law_draw dc__law_draw pm__law_draw an__law_draw cd__law_draw ct__law_draw), sl__law_draw⟩) (c__law_draw : PySem.W.codeIn K cd__law_draw "_law_draw" = true) (k__law_draw : PySem.W.keepIn K (.ref f__law_draw) = true)
    (a__law_pick : PySem.W.nsIn K mainGlobals "_law_pick" = some (some (.ref f__law_pick))) (l__law_pick : K.lookup f__law_pick = some ⟨oc__law_pick, od__law_pick, .func (PySem.W.fnOf "_law_pick" "_law_pick" (defArgs stm__law_pick) (defBody stm__law_pick) (defScope stm__law_pick) .none kV__law_pick dc__law_pick pm__law_pick an__law_pick cd__law_pick ct__law_pick), sl__law_pick⟩) (c__law_pick : PySem.W.codeIn K cd__law_pick "_law_pick" = true) (k__law_pick : PySem.W.keepIn K (.ref f__law_pick) = true)
    (a_choices : PySem.W.nsIn K mainGlobals "choices" = some (some (.ref f_choices))) (l_choices : K.lookup f_choices = some ⟨oc_choices, od_choices, .func (PySem.W.fnOf "choices" "choices" (defArgs stm_choices) (defBody stm_choices) (defScope stm_choices) .none kV_choices dc_choices pm_choices an_choices cd_choices ct_choices), sl_choices⟩) (c_choices : PySem.W.codeIn K cd_choices "choices" = true) (k_choices : PySem.W.keepIn K (.ref f_choices) = true)
    (a_counts_weight : PySem.W.nsIn K mainGlobals "counts_weight" = some (some (.ref f_counts_weight))) (l_counts_weight : K.lookup f_counts_weight = some ⟨oc_counts_weight, od_counts_weight, .func (PySem.W.fnOf "counts_weight" "counts_weight" (defArgs stm_counts_weight) (defBody stm_counts_weight) (defScope stm_counts_weight) .none kV_counts_weight dc_counts_weight pm_counts_weight an_counts_weight cd_counts_weight ct_counts_weight), sl_counts_weight⟩) (c_counts_weight : PySem.W.codeIn K cd_counts_weight "counts_weight" = true) (k_counts_weight : PySem.W.keepIn K (.ref f_counts_weight) = true)
    (a__law_great : PySem.W.nsIn K mainGlobals "_law_great" = some (some (.ref f__law_great))) (l__law_great : K.lookup f__law_great = some ⟨oc__law_great, od__law_great, .func (PySem.W.fnOf "_law_great" "_law_great" (defArgs stm__law_great) (defBody stm__law_great) (defScope stm__law_great) .none kV__law_great dc__law_great pm__law_great an__law_great cd__law_great ct__law_great), sl__law_great⟩) (c__law_great : PySem.W.codeIn K cd__law_great "_law_great" = true) (k__law_great : PySem.W.keepIn K (.ref f__law_great) = true)
    (a__law_moved : PySem.W.nsIn K mainGlobals "_law_moved" = some (some (.ref f__law_moved))) (l__law_moved : K.lookup f__law_moved = some ⟨oc__law_moved, od__law_moved, .func (PySem.W.fnOf "_law_moved" "_law_moved" (defArgs stm__law_moved) (defBody stm__law_moved) (defScope stm__law_moved) .none kV__law_moved dc__law_moved pm__law_moved an__law_moved cd__law_moved ct__law_moved), sl__law_moved⟩) (c__law_moved : PySem.W.codeIn K cd__law_moved "_law_moved" = true) (k__law_moved : PySem.W.keepIn K (.ref f__law_moved) = true)
    (a__law_fits : PySem.W.nsIn K mainGlobals "_law_fits" = some (some (.ref f__law_fits))) (l__law_fits : K.lookup f__law_fits = some ⟨oc__law_fits, od__law_fits, .func (PySem.W.fnOf "_law_fits" "_law_fits" (defArgs stm__law_fits) (defBody stm__law_fits) (defScope stm__law_fits) .none kV__law_fits dc__law_fits pm__law_fits an__law_fits cd__law_fits ct__law_fits), sl__law_fits⟩) (c__law_fits : PySem.W.codeIn K cd__law_fits "_law_fits" = true) (k__law_fits : PySem.W.keepIn K (.ref f__law_fits) = true)
    (a__law_tests : PySem.W.nsIn K mainGlobals "_law_tests" = some (some (.ref f__law_tests))) (l__law_tests : K.lookup f__law_tests = some ⟨oc__law_tests, od__law_tests, .func (PySem.W.fnOf "_law_tests" "_law_tests" (defArgs stm__law_tests) (defBody stm__law_tests) (defScope stm__law_tests) .none kV__law_tests dc__law_tests pm__law_tests an__law_tests cd__law_tests ct__law_tests), sl__law_tests⟩) (c__law_tests : PySem.W.codeIn K cd__law_tests "_law_tests" = true) (k__law_tests : PySem.W.keepIn K (.ref f__law_tests) = true)
    (a__law_settled : PySem.W.nsIn K mainGlobals "_law_settled" = some (some (.ref f__law_settled))) (l__law_settled : K.lookup f__law_settled = some ⟨oc__law_settled, od__law_settled, .func (PySem.W.fnOf "_law_settled" "_law_settled" (defArgs stm__law_settled) (defBody stm__law_settled) (defScope stm__law_settled) .none kV__law_settled dc__law_settled pm__law_settled an__law_settled cd__law_settled ct__law_settled), sl__law_settled⟩) (c__law_settled : PySem.W.codeIn K cd__law_settled "_law_settled" = true) (k__law_settled : PySem.W.keepIn K (.ref f__law_settled) = true)
    (a__law_least : PySem.W.nsIn K mainGlobals "_law_least" = some (some (.ref f__law_least))) (l__law_least : K.lookup f__law_least = some ⟨oc__law_least, od__law_least, .func (PySem.W.fnOf "_law_least" "_law_least" (defArgs stm__law_least) (defBody stm__law_least) (defScope stm__law_least) .none kV__law_least dc__law_least pm__law_least an__law_least cd__law_least ct__law_least), sl__law_least⟩) (c__law_least : PySem.W.codeIn K cd__law_least "_law_least" = true) (k__law_least : PySem.W.keepIn K (.ref f__law_least) = true)
    (a__law_cell : PySem.W.nsIn K mainGlobals "_law_cell" = some (some (.ref f__law_cell))) (l__law_cell : K.lookup f__law_cell = some ⟨oc__law_cell, od__law_cell, .func (PySem.W.fnOf "_law_cell" "_law_cell" (defArgs stm__law_cell) (defBody stm__law_cell) (defScope stm__law_cell) .none kV__law_cell dc__law_cell pm__law_cell an__law_cell cd__law_cell ct__law_cell), sl__law_cell⟩) (c__law_cell : PySem.W.codeIn K cd__law_cell "_law_cell" = true) (k__law_cell : PySem.W.keepIn K (.ref f__law_cell) = true)
    (a__law_digits : PySem.W.nsIn K mainGlobals "_law_digits" = some (some (.ref f__law_digits))) (l__law_digits : K.lookup f__law_digits = some ⟨oc__law_digits, od__law_digits, .func (PySem.W.fnOf "_law_digits" "_law_digits" (defArgs stm__law_digits) (defBody stm__law_digits) (defScope stm__law_digits) .none kV__law_digits dc__law_digits pm__law_digits an__law_digits cd__law_digits ct__law_digits), sl__law_digits⟩) (c__law_digits : PySem.W.codeIn K cd__law_digits "_law_digits" = true) (k__law_digits : PySem.W.keepIn K (.ref f__law_digits) = true)
    (a_law : PySem.W.nsIn K mainGlobals "law" = some (some (.ref f_law))) (l_law : K.lookup f_law = some ⟨oc_law, od_law, .func (PySem.W.fnOf "law" "law" (defArgs stm_law) (defBody stm_law) (defScope stm_law) .none kV_law dc_law pm_law an_law cd_law ct_law), sl_law⟩) (c_law : PySem.W.codeIn K cd_law "law" = true) (k_law : PySem.W.keepIn K (.ref f_law) = true)
    {C_TooGreat : Addr} (o_gn : PySem.W.specialIn K (.builtin "object.__class__") "__get__" = some (some (.builtin "getset_descriptor.__get__"))) (o_tk : PySem.W.takesIn K (.builtin "object.__class__") = some true)
    (aC_TooGreat : PySem.W.nsIn K mainGlobals "TooGreat" = some (some (.ref C_TooGreat))) (iC_TooGreat : PySem.W.isClsIn K C_TooGreat = true) (uC_TooGreat : PySem.W.findIn K (.ref C_TooGreat) "__getattribute__" = some (some (.builtin "BaseException.__getattribute__"))) (vC_TooGreat : PySem.W.findIn K (.ref C_TooGreat) "__getattr__" = some none) (sC_TooGreat : PySem.W.subIn K (.ref C_TooGreat) (.type "BaseException") = some true) (dC_TooGreat : PySem.W.findIn K (.ref C_TooGreat) "__class__" = some (some (.builtin "object.__class__"))) (mC_TooGreat : PySem.W.mroIn K C_TooGreat (.type "object") = some true) (tC_TooGreat : PySem.W.typeIn K (.ref C_TooGreat) = some (.type "type"))
    (xp_TooGreat : PySem.W.excIn K C_TooGreat [.type "ValueError", .type "Exception", .type "BaseException", .type "object"] "ValueError.__new__" = true) (kp_TooGreat : PySem.W.keepIn K (.ref C_TooGreat) = true)
    (s_TooGreat_TooGreat : PySem.W.subIn K (.ref C_TooGreat) (.ref C_TooGreat) = some true)
    {t_MOST_CHANCES : Tok} (h_MOST_CHANCES : PySem.W.nsIn K mainGlobals "MOST_CHANCES" = some (some (.int 24 t_MOST_CHANCES)))
    (z_enumerate : PySem.W.nsIn K mainGlobals "enumerate" = some none) (z_int : PySem.W.nsIn K mainGlobals "int" = some none) (z_len : PySem.W.nsIn K mainGlobals "len" = some none) (z_max : PySem.W.nsIn K mainGlobals "max" = some none) (z_min : PySem.W.nsIn K mainGlobals "min" = some none) (z_range : PySem.W.nsIn K mainGlobals "range" = some none) (z_repr : PySem.W.nsIn K mainGlobals "repr" = some none) (z_sum : PySem.W.nsIn K mainGlobals "sum" = some none) (z_tuple : PySem.W.nsIn K mainGlobals "tuple" = some none) (z_zip : PySem.W.nsIn K mainGlobals "zip" = some none) (h_comb : PySem.W.nsIn K mainGlobals "comb" = some (some (.builtin "math.comb"))) :
    ∃ fd : FuncData, (∀ (s : Shared) (v : Value), BindsTo s fd ⟨[v], []⟩ [("script", v)]) ∧ ∀ base : Heap, K.In base → base.Ns mainGlobals mg → FnG l.prog w K mg base (L2.CX l.prog w) 31 fa fd ["script"] (spTop K K18.c_law) := by
  have e := hfa.symm.trans (PySem.W.mg_of X G a_law)
  cases e
  have F__law_same := fun_mk (st := stm__law_same) l__law_same c__law_same k__law_same
  have b__law_same := F__law_same.binds (ps := ["actual", "due"]) fun _ _ _ _ _ _ us hl => match us, hl with | [_, _], _ => rfl
  have g__law_same := PySem.W.mg_of X G a__law_same
  have F__law_formula := fun_mk (st := stm__law_formula) l__law_formula c__law_formula k__law_formula
  have b__law_formula := F__law_formula.binds (ps := ["n"]) fun _ _ _ _ _ _ us hl => match us, hl with | [_], _ => rfl
  have g__law_formula := PySem.W.mg_of X G a__law_formula
  have F_odd_surplus := fun_mk (st := stm_odd_surplus) l_odd_surplus c_odd_surplus k_odd_surplus
  have b_odd_surplus := F_odd_surplus.binds (ps := ["n", "q"]) fun _ _ _ _ _ _ us hl => match us, hl with | [_, _], _ => rfl
  have g_odd_surplus := PySem.W.mg_of X G a_odd_surplus
  have F_fewest_patches := fun_mk (st := stm_fewest_patches) l_fewest_patches c_fewest_patches k_fewest_patches
  have b_fewest_patches := F_fewest_patches.binds (ps := ["n"]) fun _ _ _ _ _ _ us hl => match us, hl with | [_], _ => rfl
  have g_fewest_patches := PySem.W.mg_of X G a_fewest_patches
  have F_telling_tests := fun_mk (st := stm_telling_tests) l_telling_tests c_telling_tests k_telling_tests
  have b_telling_tests := F_telling_tests.binds (ps := ["counts"]) fun _ _ _ _ _ _ us hl => match us, hl with | [_], _ => rfl
  have g_telling_tests := PySem.W.mg_of X G a_telling_tests
  have F_counts_after := fun_mk (st := stm_counts_after) l_counts_after c_counts_after k_counts_after
  have b_counts_after := F_counts_after.binds (ps := ["counts", "taken", "broken"]) fun _ _ _ _ _ _ us hl => match us, hl with | [_, _, _], _ => rfl
  have g_counts_after := PySem.W.mg_of X G a_counts_after
  have F_needed := fun_mk (st := stm_needed) l_needed c_needed k_needed
  have b_needed := F_needed.binds (ps := ["known", "counts"]) fun _ _ _ _ _ _ us hl => match us, hl with | [_, _], _ => rfl
  have g_needed := PySem.W.mg_of X G a_needed
  have F_fewest_counts := fun_mk (st := stm_fewest_counts) l_fewest_counts c_fewest_counts k_fewest_counts
  have b_fewest_counts := F_fewest_counts.binds (ps := ["n", "k"]) fun _ _ _ _ _ _ us hl => match us, hl with | [_, _], _ => rfl
  have g_fewest_counts := PySem.W.mg_of X G a_fewest_counts
  have F__law_refused := fun_mk (st := stm__law_refused) l__law_refused c__law_refused k__law_refused
  have b__law_refused := F__law_refused.binds (ps := ["n", "k"]) fun _ _ _ _ _ _ us hl => match us, hl with | [_, _], _ => rfl
  have g__law_refused := PySem.W.mg_of X G a__law_refused
  have F__law_draw := fun_mk (st := stm__law_draw) l__law_draw c__law_draw k__law_draw
  have b__law_draw := F__law_draw.binds (ps := ["box", "many"]) fun _ _ _ _ _ _ us hl => match us, hl with | [_, _], _ => rfl
  have g__law_draw := PySem.W.mg_of X G a__law_draw
  have F__law_pick := fun_mk (st := stm__law_pick) l__law_pick c__law_pick k__law_pick
  have b__law_pick := F__law_pick.binds (ps := ["box", "things"]) fun _ _ _ _ _ _ us hl => match us, hl with | [_, _], _ => rfl
  have g__law_pick := PySem.W.mg_of X G a__law_pick
  have F_choices := fun_mk (st := stm_choices) l_choices c_choices k_choices
  have b_choices := F_choices.binds (ps := ["q", "most"]) fun _ _ _ _ _ _ us hl => match us, hl with | [_, _], _ => rfl
  have g_choices := PySem.W.mg_of X G a_choices
  have F_counts_weight := fun_mk (st := stm_counts_weight) l_counts_weight c_counts_weight k_counts_weight
  have b_counts_weight := F_counts_weight.binds (ps := ["counts", "q"]) fun _ _ _ _ _ _ us hl => match us, hl with | [_, _], _ => rfl
  have g_counts_weight := PySem.W.mg_of X G a_counts_weight
  have F__law_great := fun_mk (st := stm__law_great) l__law_great c__law_great k__law_great
  have b__law_great := F__law_great.binds (ps := ["box"]) fun _ _ _ _ _ _ us hl => match us, hl with | [_], _ => rfl
  have g__law_great := PySem.W.mg_of X G a__law_great
  have F__law_moved := fun_mk (st := stm__law_moved) l__law_moved c__law_moved k__law_moved
  have b__law_moved := F__law_moved.binds (ps := ["counts", "taken", "broken"]) fun _ _ _ _ _ _ us hl => match us, hl with | [_, _, _], _ => rfl
  have g__law_moved := PySem.W.mg_of X G a__law_moved
  have F__law_fits := fun_mk (st := stm__law_fits) l__law_fits c__law_fits k__law_fits
  have b__law_fits := F__law_fits.binds (ps := ["box"]) fun _ _ _ _ _ _ us hl => match us, hl with | [_], _ => rfl
  have g__law_fits := PySem.W.mg_of X G a__law_fits
  have F__law_tests := fun_mk (st := stm__law_tests) l__law_tests c__law_tests k__law_tests
  have b__law_tests := F__law_tests.binds (ps := ["counts"]) fun _ _ _ _ _ _ us hl => match us, hl with | [_], _ => rfl
  have g__law_tests := PySem.W.mg_of X G a__law_tests
  have F__law_settled := fun_mk (st := stm__law_settled) l__law_settled c__law_settled k__law_settled
  have b__law_settled := F__law_settled.binds (ps := ["counts", "q", "known"]) fun _ _ _ _ _ _ us hl => match us, hl with | [_, _, _], _ => rfl
  have g__law_settled := PySem.W.mg_of X G a__law_settled
  have F__law_least := fun_mk (st := stm__law_least) l__law_least c__law_least k__law_least
  have b__law_least := F__law_least.binds (ps := ["counts"]) fun _ _ _ _ _ _ us hl => match us, hl with | [_], _ => rfl
  have g__law_least := PySem.W.mg_of X G a__law_least
  have F__law_cell := fun_mk (st := stm__law_cell) l__law_cell c__law_cell k__law_cell
  have b__law_cell := F__law_cell.binds (ps := ["script", "k"]) fun _ _ _ _ _ _ us hl => match us, hl with | [_, _], _ => rfl
  have g__law_cell := PySem.W.mg_of X G a__law_cell
  have F__law_digits := fun_mk (st := stm__law_digits) l__law_digits c__law_digits k__law_digits
  have b__law_digits := F__law_digits.binds (ps := ["script", "first", "last"]) fun _ _ _ _ _ _ us hl => match us, hl with | [_, _, _], _ => rfl
  have g__law_digits := PySem.W.mg_of X G a__law_digits
  have F_law := fun_mk (st := stm_law) l_law c_law k_law
  have b_law := F_law.binds (ps := ["script"]) fun _ _ _ _ _ _ us hl => match us, hl with | [_], _ => rfl
  have y_enumerate := PySem.W.mg_none_of X G z_enumerate
  have y_int := PySem.W.mg_none_of X G z_int
  have y_len := PySem.W.mg_none_of X G z_len
  have y_max := PySem.W.mg_none_of X G z_max
  have y_min := PySem.W.mg_none_of X G z_min
  have y_range := PySem.W.mg_none_of X G z_range
  have y_repr := PySem.W.mg_none_of X G z_repr
  have y_sum := PySem.W.mg_none_of X G z_sum
  have y_tuple := PySem.W.mg_none_of X G z_tuple
  have y_zip := PySem.W.mg_none_of X G z_zip
  have w_comb := PySem.W.mg_of X G h_comb
  have w_MOST_CHANCES := PySem.W.mg_of X G h_MOST_CHANCES
  have cl_TooGreat : ExCl K mg "TooGreat" C_TooGreat := ⟨PySem.W.mg_of X G aC_TooGreat, ⟨iC_TooGreat, uC_TooGreat, vC_TooGreat, sC_TooGreat, dC_TooGreat, o_gn, o_tk, mC_TooGreat⟩, sC_TooGreat, tC_TooGreat, iC_TooGreat⟩
  refine ⟨PySem.W.fnOf "law" "law" (defArgs stm_law) (defBody stm_law) (defScope stm_law) .none kV_law dc_law pm_law an_law cd_law ct_law, fun s v => .of_eq rfl, fun base _ _ => ?_⟩
  have G__law_same := ok__law_same (P := l.prog) (w := w) (K := K) (mg := mg) (base := base) F__law_same y_repr
  have G__law_formula := ok__law_formula (P := l.prog) (w := w) (K := K) (mg := mg) (base := base) F__law_formula y_int y_range
  have G_odd_surplus := ok_odd_surplus (P := l.prog) (w := w) (K := K) (mg := mg) (base := base) F_odd_surplus 
  have G_fewest_patches := ok_fewest_patches (P := l.prog) (w := w) (K := K) (mg := mg) (base := base) F_fewest_patches F_odd_surplus G_odd_surplus g_odd_surplus b_odd_surplus
  have G_telling_tests := ok_telling_tests (P := l.prog) (w := w) (K := K) (mg := mg) (base := base) F_telling_tests y_range y_sum
  have G_counts_after := ok_counts_after (P := l.prog) (w := w) (K := K) (mg := mg) (base := base) F_counts_after y_tuple y_zip
  have G_needed := ok_needed (P := l.prog) (w := w) (K := K) (mg := mg) (base := base) F_needed F_telling_tests G_telling_tests g_telling_tests b_telling_tests F_counts_after G_counts_after g_counts_after b_counts_after y_max y_min y_sum g_needed b_needed 26
  have G_fewest_counts := ok_fewest_counts (P := l.prog) (w := w) (K := K) (mg := mg) (base := base) F_fewest_counts F_needed G_needed g_needed b_needed w_MOST_CHANCES cl_TooGreat xp_TooGreat kp_TooGreat
  have G__law_refused := ok__law_refused (P := l.prog) (w := w) (K := K) (mg := mg) (base := base) F__law_refused F_fewest_counts G_fewest_counts g_fewest_counts b_fewest_counts cl_TooGreat s_TooGreat_TooGreat
  have G__law_draw := ok__law_draw (P := l.prog) (w := w) (K := K) (mg := mg) (base := base) F__law_draw y_int y_len
  have G__law_pick := ok__law_pick (P := l.prog) (w := w) (K := K) (mg := mg) (base := base) F__law_pick F__law_draw G__law_draw g__law_draw b__law_draw y_int y_len
  have G_choices := ok_choices (P := l.prog) (w := w) (K := K) (mg := mg) (base := base) F_choices y_range y_sum w_comb
  have G_counts_weight := ok_counts_weight (P := l.prog) (w := w) (K := K) (mg := mg) (base := base) F_counts_weight F_choices G_choices g_choices b_choices y_enumerate y_len y_sum
  have G__law_great := ok__law_great (P := l.prog) (w := w) (K := K) (mg := mg) (base := base) F__law_great F__law_same G__law_same g__law_same b__law_same F_counts_weight G_counts_weight g_counts_weight b_counts_weight F_counts_after G_counts_after g_counts_after b_counts_after F__law_draw G__law_draw g__law_draw b__law_draw y_len y_range y_sum y_tuple
  have G__law_moved := ok__law_moved (P := l.prog) (w := w) (K := K) (mg := mg) (base := base) F__law_moved y_int y_len y_range y_tuple
  have G__law_fits := ok__law_fits (P := l.prog) (w := w) (K := K) (mg := mg) (base := base) F__law_fits F_counts_weight G_counts_weight g_counts_weight b_counts_weight F__law_draw G__law_draw g__law_draw b__law_draw F__law_same G__law_same g__law_same b__law_same F__law_moved G__law_moved g__law_moved b__law_moved F_counts_after G_counts_after g_counts_after b_counts_after y_range y_sum y_tuple
  have G__law_tests := ok__law_tests (P := l.prog) (w := w) (K := K) (mg := mg) (base := base) F__law_tests y_range
  have G__law_settled := ok__law_settled (P := l.prog) (w := w) (K := K) (mg := mg) (base := base) F__law_settled F__law_tests G__law_tests g__law_tests b__law_tests F__law_moved G__law_moved g__law_moved b__law_moved y_sum g__law_settled b__law_settled 26
  have G__law_least := ok__law_least (P := l.prog) (w := w) (K := K) (mg := mg) (base := base) F__law_least F__law_settled G__law_settled g__law_settled b__law_settled y_range
  have G__law_cell := ok__law_cell (P := l.prog) (w := w) (K := K) (mg := mg) (base := base) F__law_cell y_len
  have G__law_digits := ok__law_digits (P := l.prog) (w := w) (K := K) (mg := mg) (base := base) F__law_digits F__law_cell G__law_cell g__law_cell b__law_cell y_int y_range
  have G_law := ok_law (P := l.prog) (w := w) (K := K) (mg := mg) (base := base) F_law F__law_same G__law_same g__law_same b__law_same F__law_formula G__law_formula g__law_formula b__law_formula F_fewest_patches G_fewest_patches g_fewest_patches b_fewest_patches F_fewest_counts G_fewest_counts g_fewest_counts b_fewest_counts F__law_refused G__law_refused g__law_refused b__law_refused F__law_draw G__law_draw g__law_draw b__law_draw F__law_pick G__law_pick g__law_pick b__law_pick F__law_great G__law_great g__law_great b__law_great F__law_fits G__law_fits g__law_fits b__law_fits F__law_least G__law_least g__law_least b__law_least F__law_digits G__law_digits g__law_digits b__law_digits y_range
  exact fnG_top G_law
section
open Sp

def tlR : MS := (sSeq (sFor (rng1 (msCons (mC (.int 4)) msNil)) (.nm 6) (sCut (sIf (bNot (bB (mCallU 1 Cm28.c__law_fits (msCons (mVar 1) msNil)))) (sRet (mC (.bl false))) sNil))) (sSeq (sIf (bNot (bB (mCallU 1 Cm28.c__law_great (msCons (mVar 1) msNil)))) (sRet (mC (.bl false))) sNil) (sSeq (sSet 7 (mBin oAdd (mBin oAdd (mC (.int 1)) (mBin oMul (mCallU 2 Cm.c__law_draw (msCons (mVar 1) (msCons (mC (.int 1000)) msNil))) (mCallU 2 Cm.c__law_pick (msCons (mVar 1) (msCons (mLst (msCons (mC (.int 1)) (msCons (mC (.int 1000)) (msCons (mBin oPow (mC (.int 10)) (mC (.int 6))) (msCons (mBin oPow (mC (.int 10)) (mC (.int 8))) msNil))))) msNil))))) (mCallU 2 Cm.c__law_draw (msCons (mVar 1) (msCons (mC (.int 1000)) msNil))))) (sSeq (sIf (bNot (bB (mCallU 2 Cm.c__law_same (msCons (mLst (msCons (mCallU 1 Cm8.c_fewest_patches (msCons (mVar 7) msNil)) (msCons (mCallU 1 Cm8.c_fewest_patches (msCons (mBin oAdd (mVar 7) (mC (.int 1))) msNil)) msNil))) (msCons (mLst (msCons (mCallU 1 Cm28.c__law_formula (msCons (mVar 7) msNil)) (msCons (mCallU 1 Cm28.c__law_formula (msCons (mBin oAdd (mVar 7) (mC (.int 1))) msNil)) msNil))) msNil))))) (sRet (mC (.bl false))) sNil) (sSeq (sFor (srcV (mLst (msCons (mTup (msCons (mC (.int 25)) (msCons (mC (.int 0)) msNil))) (msCons (mTup (msCons (mC (.int 13)) (msCons (mC (.int 1)) msNil))) (msCons (mTup (msCons (mC (.int 9)) (msCons (mC (.int 2)) msNil))) (msCons (mTup (msCons (mC (.int 7)) (msCons (mC (.int 3)) msNil))) msNil)))))) (.tp [(.nm 3), (.nm 4)]) (sCut (sIf (bNot (bB (mCallU 2 Cm28.c__law_refused (msCons (mVar 3) (msCons (mVar 4) msNil))))) (sRet (mC (.bl false))) sNil))) (sRet (mCallU 2 Cm.c__law_same (msCons (mLst (msCons (mCallU 2 Cm28.c_fewest_counts (msCons (mC (.int 24)) (msCons (mC (.int 0)) msNil))) (msCons (mCallU 2 Cm28.c_fewest_counts (msCons (mC (.int 1)) (msCons (mC (.int 3)) msNil))) (msCons (mCallU 1 Cm8.c_fewest_patches (msCons (mBin oPow (mC (.int 10)) (mC (.int 12))) msNil)) msNil)))) (msCons (mLst (msCons (mC (.int 5)) (msCons (mC (.int 0)) (msCons (mCallU 1 Cm28.c__law_formula (msCons (mBin oPow (mC (.int 10)) (mC (.int 12))) msNil)) msNil)))) msNil)))))))))
theorem srcRg {θ : Th} {lo : Int} {n : Nat} : SrcIs (.rng lo 1 n) θ ((List.range n).map fun i => .int (lo + (i : Nat))) := fun θ' _ i hi => by
  rw [List.length_map, List.length_range] at hi
  by_cases c : i < n
  · rw [rng_at c, List.getElem?_map, List.getElem?_range c]
    simp
  · rw [show i = n by omega, rng_end, List.getElem?_eq_none (by rw [List.length_map, List.length_range]; omega)]
def PrOk (d : Dv) : Prop := ∃ n k : Nat, d = .tup [.int (n : Nat), .int (k : Nat)] ∧ FewOk n k ∧ 1 ≤ n ∧ (k = 1 → n ≤ 10)
theorem prs_ok {m k : Nat} (h : m * (k + 1) ≤ 24) (hk : k ≤ 3) (h1 : k = 1 → m ≤ 10) : ∀ d ∈ (List.range m).map (fun i => Dv.tup [.int (1 + (i : Nat)), .int (k : Nat)]), PrOk d := fun d hd => by
  obtain ⟨i, hi, rfl⟩ := List.mem_map.mp hd
  have hi := List.mem_range.mp hi
  have hm := Nat.mul_le_mul (show i + 1 ≤ m by omega) (Nat.le_refl (k + 1))
  exact ⟨i + 1, k, by rw [show ((i + 1 : Nat) : Int) = 1 + (i : Int) by omega], ⟨by omega, hk⟩, by omega, fun e => by have := h1 e; omega⟩
theorem big_nat {n : Nat} (h : n ≤ 10 ^ 40) : Big (n : Nat) := by
  unfold Big
  rw [Int.natAbs_natCast]
  have h2 : (10 : Nat) ^ 40 < 10 ^ 90 := Nat.pow_lt_pow_right (by omega) (by omega)
  omega
theorem tail_ok {ns ds : List Int} {G : Th} {a : Nat} {x2 x3 x4 x5 : Option Dv} : seqK tlR (fun _ _ => False) (defK [] fun d _ => d = .bl true) (.nx [some (.scr ns), some (.obj 1), x2, x3, x4, x5, none, none]) (bx ds a ++ G) := by
  unfold tlR
  rw [x_seqN]
  simp only [mxDN, List.map_cons, List.map_nil, List.replicate, List.cons_append, List.nil_append, List.set_cons_zero, List.set_cons_succ, wipeE]
  refine ⟨⟨by omega, by omega⟩, ?_⟩
  rw [show (4 : Int).toNat = 4 from rfl]
  refine for_rule 4 (fun i ρ θ => ∃ x6 a g, ρ = [some (.scr ns), some (.obj 1), x2, x3, x4, x5, x6, none] ∧ θ = bx ds a ++ g) ⟨none, a, G, rfl, rfl⟩ ?_ ?_
  · rintro i ρ θ hi ⟨x6, a, g, rfl, rfl⟩
    refine ⟨.int (i : Nat), _, by rw [rng_at hi]; simp, rfl, fun K LK => ?_⟩
    rw [x_cut]
    simp only [mxDN, List.map_cons, List.map_nil, List.replicate, List.cons_append, List.nil_append, List.set_cons_zero, List.set_cons_succ, wipeE, List.set_cons_zero, List.set_cons_succ]
    refine ⟨rfl, s_fits fun a' g' => ?_⟩
    rw [x_boolK, if_neg (by decide)]
    exact cut_same (LK.nx _ _ ⟨_, rfl, _, _, _, rfl, rfl⟩)
  rintro ρ θ ⟨x6, a, g, rfl, rfl⟩
  refine ⟨rng_end, ?_⟩
  rw [x_seqN]
  simp only [mxDN, List.map_cons, List.map_nil, List.replicate, List.cons_append, List.nil_append, List.set_cons_zero, List.set_cons_succ, wipeE]
  refine ⟨rfl, s_lgreat fun a2 g2 => ?_⟩
  rw [x_boolK, if_neg (by decide), x_seqN]
  simp only [mxDN, List.map_cons, List.map_nil, List.replicate, List.cons_append, List.nil_append, List.set_cons_zero, List.set_cons_succ, wipeE]
  refine ⟨rfl, s_draw (by omega) fun u u0 u1 => ?_⟩
  refine ⟨⟨by decide, by decide, by decide⟩, ⟨by decide, by decide, by decide⟩, sz (by simp), rfl, ?_⟩
  rw [List.append_assoc]
  refine s_pick (xs := [Dv.int 1, .int 1000, .int (10 ^ Int.toNat 6), .int (10 ^ Int.toNat 8)]) ?_ ?_ (by simp) fun d hd => ?_
  · rw [dl_len, dl_at]
  · rw [dl_len]
    omega
  obtain ⟨p, rfl, hp⟩ : ∃ p : Nat, d = .int (p : Nat) ∧ p ≤ 10 ^ 8 := by
    simp only [List.mem_cons, List.not_mem_nil, or_false] at hd
    rcases hd with rfl | rfl | rfl | rfl
    · exact ⟨1, rfl, by decide⟩
    · exact ⟨1000, rfl, by decide⟩
    · exact ⟨10 ^ 6, rfl, by decide⟩
    · exact ⟨10 ^ 8, rfl, by decide⟩
  obtain ⟨u, rfl⟩ : ∃ v' : Nat, u = v' := ⟨u.toNat, by omega⟩
  rw [x_mulI]
  refine ⟨.inl ⟨by omega, by omega⟩, ?_⟩
  rw [x_addI]
  refine ⟨rfl, s_draw (by omega) fun w w0 w1 => ?_⟩
  obtain ⟨w, rfl⟩ : ∃ v' : Nat, w = v' := ⟨w.toNat, by omega⟩
  have hup : u * p ≤ 999 * 10 ^ 8 := Nat.mul_le_mul (show u ≤ 999 by omega) hp
  rw [x_addI, show (1 : Int) + ((u : Nat) : Int) * ((p : Nat) : Int) + ((w : Nat) : Int) = ((1 + u * p + w : Nat) : Int) by rw [Int.natCast_add, Int.natCast_add, Int.natCast_mul]; rfl]
  obtain ⟨gr, hgr⟩ : ∃ gr, gr = 1 + u * p + w := ⟨_, rfl⟩
  rw [← hgr]
  have gb : gr + 1 ≤ 2 ^ 40 := by
    rw [hgr]
    have : 1 + 999 * 10 ^ 8 + 999 + 1 ≤ 2 ^ 40 := by decide
    omega
  obtain ⟨L, hL, iL⟩ := least_ex (P := fp gr) (fp_big (by omega))
  obtain ⟨M, hM, iM⟩ := least_ex (P := fp (gr + 1)) (fp_big gb)
  obtain ⟨R, hR, iR⟩ := least_ex (P := fp (10 ^ 12)) (fp_big (by decide))
  have e1 : ((gr : Nat) : Int) + 1 = ((gr + 1 : Nat) : Int) := rfl
  rw [x_seqN]
  simp only [mxDN, List.map_cons, List.map_nil, List.replicate, List.cons_append, List.nil_append, List.set_cons_zero, List.set_cons_succ, wipeE, e1]
  refine ⟨rfl, s_fewp (by omega) iL ?_⟩
  refine ⟨rfl, s_fewp (by omega) iM ?_⟩
  refine ⟨two_line, rfl, s_formula (by omega) iL ?_⟩
  refine ⟨rfl, s_formula (by omega) iM ?_⟩
  have bL : ∀ i ∈ [((L : Nat) : Int), ((M : Nat) : Int)], Big i := fun i hi => by
    simp only [List.mem_cons, List.not_mem_nil, or_false] at hi
    rcases hi with rfl | rfl
    · exact big_nat (Nat.le_trans hL (by decide))
    · exact big_nat (Nat.le_trans hM (by decide))
  refine ⟨two_line, rfl, same_lids (ns := [((L : Nat) : Int), ((M : Nat) : Int)]) (th_left th_last) th_last bL (by simp) ?_⟩
  rw [x_boolK, if_neg (by decide), x_seqN]
  simp only [mxDN, List.map_cons, List.map_nil, List.replicate, List.cons_append, List.nil_append, List.set_cons_zero, List.set_cons_succ, wipeE]
  refine ⟨two_line, two_line, two_line, two_line, sz (by simp), ?_⟩
  rw [th_last, x_srcL]
  generalize hθ : bx ds (a2 + 1 + 1 + 1) ++ (g ++ g2 ++ [Ob.lst [Dv.int 1, Dv.int 1000, Dv.int (10 ^ Int.toNat 6), Dv.int (10 ^ Int.toNat 8)]]) ++ [Ob.lst [Dv.int (L : Nat), Dv.int (M : Nat)]] ++ [Ob.lst [Dv.int (L : Nat), Dv.int (M : Nat)]] = θ6
  have h4 : (θ6 ++ [Ob.lst [Dv.tup [Dv.int 25, Dv.int 0], Dv.tup [Dv.int 13, Dv.int 1], Dv.tup [Dv.int 9, Dv.int 2], Dv.tup [Dv.int 7, Dv.int 3]]])[θ6.length]? = some (.lst [Dv.tup [Dv.int 25, Dv.int 0], Dv.tup [Dv.int 13, Dv.int 1], Dv.tup [Dv.int 9, Dv.int 2], Dv.tup [Dv.int 7, Dv.int 3]]) := th_last
  generalize θ6 ++ [Ob.lst [Dv.tup [Dv.int 25, Dv.int 0], Dv.tup [Dv.int 13, Dv.int 1], Dv.tup [Dv.int 9, Dv.int 2], Dv.tup [Dv.int 7, Dv.int 3]]] = θ7 at h4 ⊢
  generalize θ6.length = j6 at h4 ⊢
  refine for_rule 4 (fun i ρ θ' => ∃ y3 y4, ρ = [some (.scr ns), some (.obj 1), x2, y3, y4, x5, x6, some (.int (gr : Nat))] ∧ θ' = θ7) ⟨x3, x4, rfl, rfl⟩ ?_ ?_
  · rintro i ρ θ' hi ⟨y3, y4, rfl, rfl⟩
    obtain ⟨m, k, hmk, h24, hm, hk⟩ : ∃ m k : Nat, [Dv.tup [Dv.int 25, Dv.int 0], Dv.tup [Dv.int 13, Dv.int 1], Dv.tup [Dv.int 9, Dv.int 2], Dv.tup [Dv.int 7, Dv.int 3]][i]? = some (.tup [.int (m : Nat), .int (k : Nat)]) ∧ 24 < m * (k + 1) ∧ m ≤ 1000 ∧ k ≤ 1000 := by
      match i, hi with
      | 0, _ => exact ⟨25, 0, rfl, by decide, by decide, by decide⟩
      | 1, _ => exact ⟨13, 1, rfl, by decide, by decide, by decide⟩
      | 2, _ => exact ⟨9, 2, rfl, by decide, by decide, by decide⟩
      | 3, _ => exact ⟨7, 3, rfl, by decide, by decide, by decide⟩
    refine ⟨.tup [.int (m : Nat), .int (k : Nat)], _, by rw [src_L h4, hmk], rfl, fun K LK => ?_⟩
    rw [x_cut]
    simp only [mxDN, List.map_cons, List.map_nil, List.replicate, List.cons_append, List.nil_append, List.set_cons_zero, List.set_cons_succ, wipeE, List.set_cons_zero, List.set_cons_succ]
    refine ⟨rfl, s_fewref h24 hm hk ?_⟩
    rw [x_boolK, if_neg (by decide)]
    exact cut_same (LK.nx _ _ ⟨_, rfl, _, _, rfl, rfl⟩)
  rintro ρ θ' ⟨y3, y4, rfl, rfl⟩
  refine ⟨by rw [src_L h4]; rfl, ?_⟩
  rw [x_seqN]
  simp only [mxDN, List.map_cons, List.map_nil, List.replicate, List.cons_append, List.nil_append, List.set_cons_zero, List.set_cons_succ, wipeE]
  refine ⟨rfl, s_few (m := 24) (k := 0) ⟨by decide, by decide⟩ ?_⟩
  refine ⟨rfl, s_few (m := 1) (k := 3) ⟨by decide, by decide⟩ ?_⟩
  rw [n24, n13]
  have ep : (10 : Int) ^ Int.toNat 12 = ((10 ^ 12 : Nat) : Int) := by decide
  rw [ep]
  refine ⟨⟨by decide, by decide, by decide⟩, rfl, s_fewp (by omega) iR ?_⟩
  refine ⟨sz (by simp), ?_⟩
  refine ⟨⟨by decide, by decide, by decide⟩, rfl, s_formula (by omega) iR ?_⟩
  have bR : ∀ i ∈ [(5 : Int), 0, ((R : Nat) : Int)], Big i := fun i hi => by
    simp only [List.mem_cons, List.not_mem_nil, or_false] at hi
    rcases hi with rfl | rfl | rfl
    · exact big_nat (n := 5) (by decide)
    · exact big_nat (n := 0) (by decide)
    · exact big_nat (Nat.le_trans hR (by decide))
  refine ⟨sz (by simp), rfl, same_lids (ns := [(5 : Int), 0, ((R : Nat) : Int)]) (th_left th_last) th_last bR (by simp) ?_⟩
  exact end_same rfl
theorem goal : ∀ ns : List Int, ns.length ≤ 63 → c_law [.scr ns] (fun _ _ => False) [] (fun d _ => d = .bl true) := by
  intro ns _
  unfold c_law m_law
  simp only [mxDN, List.map_cons, List.map_nil, List.replicate, List.cons_append, List.nil_append, List.set_cons_zero, List.set_cons_succ, wipeE]
  refine ⟨rfl, s_digits (a := 0) (b := 60) (by omega) (by omega) fun ds => ?_⟩
  refine ⟨two_line, ?_⟩
  rw [x_seqN]
  simp only [mxDN, List.map_cons, List.map_nil, List.replicate, List.cons_append, List.nil_append, List.set_cons_zero, List.set_cons_succ, wipeE]
  refine ⟨⟨by omega, by omega, by omega, by omega⟩, ?_⟩
  have elt : ∀ (m k : Nat) (θ0 : Th) (vs : List (Option Dv)) (QT : Th → Prop), vs.length = 4 → m ≤ 100 → (∀ θ2, Ext θ0 θ2 → θ2[θ0.length]? = some (.lst ((List.range m).map fun i => Dv.tup [.int (1 + (i : Nat)), .int (k : Nat)])) → QT θ2) →
      ∃ t, lcGo (Src.rng 1 1 m) (Tg.nm 3) bYes (mTup (msCons (mVar 3) (msCons (mC (.int (k : Nat))) msNil))) θ0.length (some (.scr ns) :: some (.obj 1) :: none :: none :: vs) t 0 (θ0 ++ [.lst []]) QT := by
    intro m k θ0 vs QT hvs hm hq
    refine lc_all1 (List.range m) (fun i => .int (1 + (i : Nat))) (fun i => Dv.tup [.int (1 + (i : Nat)), .int (k : Nat)]) (by rw [List.length_range]; exact lt_line (by omega)) srcRg ?_ hq
    intro i hi θ' e
    refine ⟨_, rfl, fun K2 h2 => ?_⟩
    simp only [mxDN, List.map_cons, List.map_nil, List.replicate, List.cons_append, List.nil_append, List.set_cons_zero, List.set_cons_succ, wipeE, List.set_cons_zero, List.set_cons_succ]
    exact ⟨two_line, h2 _ .refl⟩
  refine elt 12 0 (bx ds 0) _ _ rfl (by omega) fun θ1 e1 h1 => ?_
  refine ⟨⟨by omega, by omega, by omega, by omega⟩, ?_⟩
  refine elt 6 2 θ1 _ _ rfl (by omega) fun θ2 e2 h2 => ?_
  have ll : ∀ (m : Nat) (k : Nat), ((List.range m).map fun i => Dv.tup [.int (1 + (i : Nat)), .int (k : Nat)]).length = m := fun m k => by rw [List.length_map, List.length_range]
  have p1 := prs_ok (m := 12) (k := 0) (by omega) (by omega) (by omega)
  have p2 := prs_ok (m := 6) (k := 2) (by omega) (by omega) (by omega)
  have p3 := prs_ok (m := 4) (k := 3) (by omega) (by omega) (by omega)
  have p4 := prs_ok (m := 10) (k := 1) (by omega) (by omega) (by omega)
  have l1 := ll 12 0
  have l2 := ll 6 2
  have l3 := ll 4 3
  have l4 := ll 10 1
  generalize (List.range 12).map (fun i => Dv.tup [.int (1 + (i : Nat)), .int ((0 : Nat) : Int)]) = L1 at h1 p1 l1
  generalize (List.range 6).map (fun i => Dv.tup [.int (1 + (i : Nat)), .int ((2 : Nat) : Int)]) = L2 at h2 p2 l2
  have h12 : θ2[[Ob.lst (List.map Dv.int ds), Ob.lst [Dv.obj 0, Dv.int 0]].length]? = some (.lst L1) := e2.at h1
  rw [show ([] : Th).length = 0 from rfl, h12, h2, x_addL]
  refine ⟨by rw [sizeLine_eq, l1, l2]; omega, ?_⟩
  refine ⟨⟨by omega, by omega, by omega, by omega⟩, ?_⟩
  refine elt 4 3 _ _ _ rfl (by omega) fun θ3 e3 h3 => ?_
  generalize (List.range 4).map (fun i => Dv.tup [.int (1 + (i : Nat)), .int ((3 : Nat) : Int)]) = L3 at h3 p3 l3
  have h23 := e3.at (th_last (θ := θ2) (o := .lst (L1 ++ L2)))
  simp only [mxDN, List.map_cons, List.map_nil, List.replicate, List.cons_append, List.nil_append, List.set_cons_zero, List.set_cons_succ]
  rw [h23, h3, x_addL]
  refine ⟨by rw [sizeLine_eq, List.length_append, l1, l2, l3]; omega, ?_⟩
  have e03 : Ext (bx ds 0) (θ3 ++ [.lst (L1 ++ L2 ++ L3)]) := ((e1.trans e2).trans ((Ext.app.trans e3).trans .app))
  have h33 : (θ3 ++ [Ob.lst (L1 ++ L2 ++ L3)])[θ3.length]? = some (.lst (L1 ++ L2 ++ L3)) := th_last
  generalize θ3 ++ [Ob.lst (L1 ++ L2 ++ L3)] = θ4 at e03 h33 ⊢
  generalize θ3.length = j4 at h33 ⊢
  rw [x_seqN]
  simp only [mxDN, List.map_cons, List.map_nil, List.replicate, List.cons_append, List.nil_append, List.set_cons_zero, List.set_cons_succ, wipeE]
  refine ⟨⟨by omega, by omega, by omega, by omega⟩, ?_⟩
  refine lc_all1 (θ0 := θ4) (List.range 10) (fun i => .int (1 + (i : Nat))) (fun i => Dv.tup [.int (1 + (i : Nat)), .int ((1 : Nat) : Int)]) (by rw [List.length_range]; exact lt_line (by omega)) srcRg ?_ ?_
  · intro i hi θ' e
    refine ⟨_, rfl, fun K2 h2 => ?_⟩
    simp only [mxDN, List.map_cons, List.map_nil, List.replicate, List.cons_append, List.nil_append, List.set_cons_zero, List.set_cons_succ, wipeE, List.set_cons_zero, List.set_cons_succ]
    exact ⟨two_line, h2 _ .refl⟩
  intro θ5 e5 h5
  generalize (List.range 10).map (fun i => Dv.tup [.int (1 + (i : Nat)), .int ((1 : Nat) : Int)]) = L4 at h5 p4 l4
  rw [e5.at h33, h5, x_addL]
  refine ⟨by rw [sizeLine_eq, List.length_append, List.length_append]; omega, ?_⟩
  have pall : ∀ d ∈ L1 ++ L2 ++ L3 ++ L4, PrOk d := fun d hd => by
    simp only [List.mem_append] at hd
    rcases hd with ((hd | hd) | hd) | hd
    · exact p1 d hd
    · exact p2 d hd
    · exact p3 d hd
    · exact p4 d hd
  have lall : 0 < (L1 ++ L2 ++ L3 ++ L4).length := by simp only [List.length_append]; omega
  obtain ⟨G, eG⟩ : Ext (bx ds 0) (θ5 ++ [.lst (L1 ++ L2 ++ L3 ++ L4)]) := e03.trans (e5.trans .app)
  have h6 : (θ5 ++ [Ob.lst (L1 ++ L2 ++ L3 ++ L4)])[θ5.length]? = some (.lst (L1 ++ L2 ++ L3 ++ L4)) := th_last
  have l6 : 2 ≤ θ5.length := (Kept.ext (kk := 0) (e03.trans e5)).len
  generalize L1 ++ L2 ++ L3 ++ L4 = LL at pall lall h6 eG ⊢
  rw [eG] at h6 ⊢
  refine ⟨rfl, s_pick h6 l6 lall fun d hd => ?_⟩
  obtain ⟨n, k, rfl, ok, n1, hk1⟩ := pall d hd
  simp only [mxDN, List.map_cons, List.map_nil, List.replicate, List.cons_append, List.nil_append, List.set_cons_zero, List.set_cons_succ, wipeE]
  have hk3 := ok.hk
  have h24 := ok.h24
  have hn24 : n ≤ 24 := by
    have := Nat.mul_le_mul (Nat.le_refl n) (show 1 ≤ k + 1 by omega)
    omega
  have hN : nN (cnt0 n k) ≤ 24 := by
    have := nN_phi _ (Nat.le_refl (phi (cnt0 n k)))
    rw [cnt0_phi] at this
    omega
  have b24 : ∀ x : Nat, x ≤ 100 → Big (x : Nat) := fun x hx => big_nat (Nat.le_trans hx (by decide))
  rw [x_seqN]
  simp only [mxDN, List.map_cons, List.map_nil, List.replicate, List.cons_append, List.nil_append, List.set_cons_zero, List.set_cons_succ, wipeE]
  refine ⟨sz (by simp), sz (by simp), mul_two_t (by omega) ?_⟩
  have l0 : (id_ (List.replicate k 0)).length = k := by simp [id_]
  refine ⟨by rw [sizeLine_eq, l0]; simp; omega, ?_⟩
  have e0 : [Dv.int (n : Nat)] ++ id_ (List.replicate k 0) = nd (cnt0 n k) := nd_cnt0
  rw [e0]
  refine ⟨rfl, s_lleastC (n := k + 1) (top := n) ok.ck (cnt0_len n k) (by rw [cnt0_sum]; exact Nat.le_refl _) ok.pow (by rw [cnt0_phi]; exact h24) ?_⟩
  rw [x_seqN]
  simp only [mxDN, List.map_cons, List.map_nil, List.replicate, List.cons_append, List.nil_append, List.set_cons_zero, List.set_cons_succ, wipeE]
  refine ⟨rfl, s_few ok ?_⟩
  refine ⟨rfl, same_int (b24 _ (by omega)) ?_⟩
  rw [x_boolK, if_neg (by decide)]
  by_cases k1 : k = 1
  · subst k1
    obtain ⟨f1, f2⟩ := n_fp n1 (hk1 rfl)
    rw [if_pos (decide_eq_true (show ((1 : Nat) : Int) = 1 from rfl))]
    refine ⟨rfl, s_fewp (by omega) f1 ?_⟩
    refine ⟨rfl, same_int (b24 _ (by omega)) ?_⟩
    rw [x_boolK, if_neg (by decide)]
    exact tail_ok
  · rw [if_neg (by rw [decide_eq_true_eq]; omega)]
    exact tail_ok

end
end K18
open PySem PySem.W PyProof.Rows
set_option maxHeartbeats 0 in
theorem PySem.Challenge.cw_firstbreak_k18_fewest_by_counts_holds : PySem.Challenge.rw_firstbreak_k18_fewest_by_counts.Holds := by
  w_on; o_law; k_head; (case hw => w_witness2)
  k_fill
  refine Mn.walk_ofG (l := PySem.Challenge.rw_firstbreak_k18_fewest_by_counts) (n := 63) (k := 31) (x := "script") (CX := fun w => L2.CX (PySem.Challenge.rw_firstbreak_k18_fewest_by_counts).prog w) (sp := fun w => Mn.spTop _ K18.c_law) rfl (by decide) rfl ⟨rfl, by decide, by decide⟩ (fun w h Y => PySem.W.kIn_of Y) ?F (fun w H a ns hl hS => Mn.top_hS K18.goal hl hS) (fun w H a ns hl h1 hS => Mn.top_hK K18.goal hl h1 hS) (fun _ _ _ _ _ h => Mn.noCX h)
  case F =>
    intro w mg fa h KX G hmg
    refine' K18.all_mk KX G hmg ?a__law_same ?l__law_same ?c__law_same ?k__law_same ?a__law_formula ?l__law_formula ?c__law_formula ?k__law_formula ?a_odd_surplus ?l_odd_surplus ?c_odd_surplus ?k_odd_surplus ?a_fewest_patches ?l_fewest_patches ?c_fewest_patches ?k_fewest_patches ?a_telling_tests ?l_telling_tests ?c_telling_tests ?k_telling_tests ?a_counts_after ?l_counts_after ?c_counts_after ?k_counts_after ?a_needed ?l_needed ?c_needed ?k_needed ?a_fewest_counts ?l_fewest_counts ?c_fewest_counts ?k_fewest_counts ?a__law_refused ?l__law_refused ?c__law_refused ?k__law_refused ?a__law_draw ?l__law_draw ?c__law_draw ?k__law_draw ?a__law_pick ?l__law_pick ?c__law_pick ?k__law_pick ?a_choices ?l_choices ?c_choices ?k_choices ?a_counts_weight ?l_counts_weight ?c_counts_weight ?k_counts_weight ?a__law_great ?l__law_great ?c__law_great ?k__law_great ?a__law_moved ?l__law_moved ?c__law_moved ?k__law_moved ?a__law_fits ?l__law_fits ?c__law_fits ?k__law_fits ?a__law_tests ?l__law_tests ?c__law_tests ?k__law_tests ?a__law_settled ?l__law_settled ?c__law_settled ?k__law_settled ?a__law_least ?l__law_least ?c__law_least ?k__law_least ?a__law_cell ?l__law_cell ?c__law_cell ?k__law_cell ?a__law_digits ?l__law_digits ?c__law_digits ?k__law_digits ?a_law ?l_law ?c_law ?k_law ?o_gn ?o_tk ?aC_TooGreat ?iC_TooGreat ?uC_TooGreat ?vC_TooGreat ?sC_TooGreat ?dC_TooGreat ?mC_TooGreat ?tC_TooGreat ?xp_TooGreat ?kp_TooGreat ?s_TooGreat_TooGreat ?h_MOST_CHANCES ?z_enumerate ?z_int ?z_len ?z_max ?z_min ?z_range ?z_repr ?z_sum ?z_tuple ?z_zip ?h_comb
    (case a__law_same => k_is); (case l__law_same => k_is); (case c__law_same => k_is); (case k__law_same => k_is); (case a__law_formula => k_is); (case l__law_formula => k_is); (case c__law_formula => k_is); (case k__law_formula => k_is); (case a_odd_surplus => k_is); (case l_odd_surplus => k_is); (case c_odd_surplus => k_is); (case k_odd_surplus => k_is); (case a_fewest_patches => k_is); (case l_fewest_patches => k_is); (case c_fewest_patches => k_is); (case k_fewest_patches => k_is); (case a_telling_tests => k_is); (case l_telling_tests => k_is); (case c_telling_tests => k_is); (case k_telling_tests => k_is); (case a_counts_after => k_is); (case l_counts_after => k_is); (case c_counts_after => k_is); (case k_counts_after => k_is); (case a_needed => k_is); (case l_needed => k_is); (case c_needed => k_is); (case k_needed => k_is); (case a_fewest_counts => k_is); (case l_fewest_counts => k_is); (case c_fewest_counts => k_is); (case k_fewest_counts => k_is); (case a__law_refused => k_is); (case l__law_refused => k_is); (case c__law_refused => k_is); (case k__law_refused => k_is); (case a__law_draw => k_is); (case l__law_draw => k_is); (case c__law_draw => k_is); (case k__law_draw => k_is); (case a__law_pick => k_is); (case l__law_pick => k_is); (case c__law_pick => k_is); (case k__law_pick => k_is); (case a_choices => k_is); (case l_choices => k_is); (case c_choices => k_is); (case k_choices => k_is); (case a_counts_weight => k_is); (case l_counts_weight => k_is); (case c_counts_weight => k_is); (case k_counts_weight => k_is); (case a__law_great => k_is); (case l__law_great => k_is); (case c__law_great => k_is); (case k__law_great => k_is); (case a__law_moved => k_is); (case l__law_moved => k_is); (case c__law_moved => k_is); (case k__law_moved => k_is); (case a__law_fits => k_is); (case l__law_fits => k_is); (case c__law_fits => k_is); (case k__law_fits => k_is); (case a__law_tests => k_is); (case l__law_tests => k_is); (case c__law_tests => k_is); (case k__law_tests => k_is); (case a__law_settled => k_is); (case l__law_settled => k_is); (case c__law_settled => k_is); (case k__law_settled => k_is); (case a__law_least => k_is); (case l__law_least => k_is); (case c__law_least => k_is); (case k__law_least => k_is); (case a__law_cell => k_is); (case l__law_cell => k_is); (case c__law_cell => k_is); (case k__law_cell => k_is); (case a__law_digits => k_is); (case l__law_digits => k_is); (case c__law_digits => k_is); (case k__law_digits => k_is); (case a_law => k_is); (case l_law => k_is); (case c_law => k_is); (case k_law => k_is); (case o_gn => k_is); (case o_tk => k_is); (case aC_TooGreat => k_is); (case iC_TooGreat => k_is); (case uC_TooGreat => k_is); (case vC_TooGreat => k_is); (case sC_TooGreat => k_is); (case dC_TooGreat => k_is); (case mC_TooGreat => k_is); (case tC_TooGreat => k_is); (case xp_TooGreat => k_exc); (case kp_TooGreat => k_is); (case s_TooGreat_TooGreat => k_is); (case h_MOST_CHANCES => k_is); (case z_enumerate => k_is); (case z_int => k_is); (case z_len => k_is); (case z_max => k_is); (case z_min => k_is); (case z_range => k_is); (case z_repr => k_is); (case z_sum => k_is); (case z_tuple => k_is); (case z_zip => k_is); (case h_comb => k_is)

