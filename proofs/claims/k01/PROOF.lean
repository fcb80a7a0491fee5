import PyProof.Rows.All
import Wide.All
import OpenK.AllK
import Wide.FinOn
import HandS.ForMost
import HandS.Zip
import HandS.IsInst
import HandS.SetKeys
import HandS.TupAny
import HandS.SortInts
import HandS.TupMul
import HandS.Deep
import HandS.Style
import KE.GoesEnum
import KE.KDictWalk
import PyProof.ReprRoads
import HandS.Conv
import PyProof.DictMoreH
import HandS.Words
import HandS.SetFor
import HandS.Strs
import HandS.WideBits
import HandS.SortOrd
import PyProof.ReprLen
import PySem.Challenge.RW_firstbreak_k01_classes_and_tests
set_option Elab.async false
set_option linter.all false
set_option maxRecDepth 100000
set_option autoImplicit false
/-! Mn: programs by a store of mutable objects and pure data: the relation to the hand layer. -/
namespace Mn
open PySem PySem.Spec PyProof.Rows L2

/-- data: what a value is, tuples all through; obj k: the k-th mutable object; scr: the law's script, never written; pt: a tuple known to be a bare object; fn: a def or a class of the program, by its name -/
inductive Dv where
  | non | bl (b : Bool) | int (i : Int) | str (x : Str) | tup (ds : List Dv) | obj (k : Nat) | rf (a : Addr) | scr (ns : List Int) | pt (ds : List Dv) | fn (x : Str)

/-- a mutable object: a list; dicts by flat keys, by tuples of flat keys; an instance -/
inductive Ob where
  | lst (xs : List Dv) | dK (kvs : List (Key × Dv)) | dT (kvs : List (List Key × Dv)) | dKf (kvs : List (Key × Dv)) | dTf (kvs : List (List Key × Dv)) | ins (C : Str) (fs : List (Str × Dv))

abbrev Th := List Ob
abbrev DEnv := List (Option Dv)

/-- where a def or a class stands -/
def clsAt (K : PySem.W.Frag) (x : Str) : Addr := match PySem.W.nsIn K mainGlobals x with
  | some (some (.ref a)) => a
  | _ => 0
/-- a list that is never written: locked, or of the written part -/
def Scr (K : PySem.W.Frag) (H : Hp) (p : Addr) (xs : List V) : Prop := (∃ o, H p = some (.frz o (.lst xs))) ∨ SqL K (fun _ => none) p xs
mutual
def Rp (K : PySem.W.Frag) (H : Hp) (α : List Addr) : Dv → V → Prop
  | .non, v => v = .non
  | .bl b, v => v = .bl b
  | .int i, v => v = .int i
  | .str x, v => v = .str x
  | .tup ds, v => ∃ p vs, v = .ref p ∧ H p = some (.tup vs) ∧ Rps K H α ds vs
  | .obj k, v => ∃ p, α[k]? = some p ∧ v = .ref p
  | .rf a, v => v = .ref a
  | .scr ns, v => ∃ p, v = .ref p ∧ Scr K H p (ns.map V.int)
  | .fn x, v => v = .ref (clsAt K x)
  | .pt ds, v => ∃ p vs o, v = .ref p ∧ H p = some (.frz o (.tup vs)) ∧ (o.cls = .type "tuple" ∧ o.dict = none) ∧ Rps K H α ds vs
def Rps (K : PySem.W.Frag) (H : Hp) (α : List Addr) : List Dv → List V → Prop
  | [], vs => vs = []
  | d :: ds, vs => ∃ v r, vs = v :: r ∧ Rp K H α d v ∧ Rps K H α ds r
end
/-- pairs of a key and a datum -/
def RpK {κ : Type} (K : PySem.W.Frag) (H : Hp) (α : List Addr) : List (κ × Dv) → List (κ × V) → Prop
  | [], vs => vs = []
  | (k, d) :: ds, vs => ∃ v r, vs = (k, v) :: r ∧ Rp K H α d v ∧ RpK K H α ds r
/-- not locked -/
def Ob.live : Ob → Bool
  | .dKf _ => false
  | .dTf _ => false
  | _ => true
def ObR (K : PySem.W.Frag) (H : Hp) (α : List Addr) (p : Addr) : Ob → Prop
  | .lst ds => ∃ vs, H p = some (.lst vs) ∧ Rps K H α ds vs
  | .dK kvs => ∃ vs, H p = some (.dK vs) ∧ RpK K H α kvs vs
  | .dT kvs => ∃ vs, H p = some (.dT vs) ∧ RpK K H α kvs vs
  | .dKf kvs => ∃ vs o, H p = some (.frz o (.dK vs)) ∧ RpK K H α kvs vs
  | .dTf kvs => ∃ vs o, H p = some (.frz o (.dT vs)) ∧ RpK K H α kvs vs
  | .ins C fs => ∃ dx vs, H p = some (.ins (clsAt K C) dx vs) ∧ RpK K H α fs vs
structure Okk (K : PySem.W.Frag) (H : Hp) (α : List Addr) (θ : Th) : Prop where
  len : α.length = θ.length
  nd : α.Nodup
  ob : ∀ (k : Nat) (p : Addr) (o : Ob), α[k]? = some p → θ[k]? = some o → ObR K H α p o

/-- from (H, α) to (H', α'): tuples stay, objects come -/
structure Nx (K : PySem.W.Frag) (H : Hp) (α : List Addr) (H' : Hp) (α' : List Addr) : Prop where
  ext : ∃ β, α' = α ++ β
  tup : ∀ p vs, H p = some (.tup vs) → H' p = some (.tup vs)
  xd : ∀ p fs, H p = some (.xd fs) → H' p = some (.xd fs)
  fz : ∀ p o u, H p = some (.frz o u) → H' p = some (.frz o u)

/-- as far as data lean on it -/
structure Nw (H : Hp) (α : List Addr) (H' : Hp) (α' : List Addr) : Prop where
  ext : ∃ β, α' = α ++ β
  tup : ∀ p vs, H p = some (.tup vs) → H' p = some (.tup vs)
  fl : ∀ p o xs, H p = some (.frz o (.lst xs)) → H' p = some (.frz o (.lst xs))
  ft : ∀ p o xs, H p = some (.frz o (.tup xs)) → H' p = some (.frz o (.tup xs))
theorem Nx.w {K : PySem.W.Frag} {H H' : Hp} {α α' : List Addr} (n : Nx K H α H' α') : Nw H α H' α' := ⟨n.ext, n.tup, fun p o xs => n.fz p o _, fun p o xs => n.fz p o _⟩
section
variable {K : PySem.W.Frag} {H H' H2 : Hp} {α α' α2 : List Addr} {θ θ' : Th}
theorem Nx.refl : Nx K H α H α := ⟨⟨[], by simp⟩, fun _ _ h => h, fun _ _ h => h, fun _ _ _ h => h⟩
theorem Nx.trans (a : Nx K H α H' α') (b : Nx K H' α' H2 α2) : Nx K H α H2 α2 := by
  obtain ⟨β, e⟩ := a.ext
  obtain ⟨γ, e2⟩ := b.ext
  exact ⟨⟨β ++ γ, by rw [e2, e, List.append_assoc]⟩, fun p vs h => b.tup p vs (a.tup p vs h), fun p fs h => b.xd p fs (a.xd p fs h), fun p o xs h => b.fz p o xs (a.fz p o xs h)⟩
theorem Nx.at (a : Nx K H α H' α') {k : Nat} {p : Addr} (h : α[k]? = some p) : α'[k]? = some p := by
  obtain ⟨β, e⟩ := a.ext
  rw [e, List.getElem?_append_left (by have := (List.getElem?_eq_some_iff.mp h).1; exact this)]
  exact h
theorem Nw.at (a : Nw H α H' α') {k : Nat} {p : Addr} (h : α[k]? = some p) : α'[k]? = some p := by
  obtain ⟨β, e⟩ := a.ext
  rw [e, List.getElem?_append_left (by have := (List.getElem?_eq_some_iff.mp h).1; exact this)]
  exact h
mutual
theorem Rp.monoW (a : Nw H α H' α') : ∀ {d : Dv} {v : V}, Rp K H α d v → Rp K H' α' d v
  | .non, _, h => by simpa [Rp] using h
  | .bl _, _, h => by simpa [Rp] using h
  | .int _, _, h => by simpa [Rp] using h
  | .str _, _, h => by simpa [Rp] using h
  | .rf _, _, h => by simpa [Rp] using h
  | .fn _, _, h => by simpa [Rp] using h
  | .scr ns, v, h => by
    unfold Rp at h ⊢
    obtain ⟨p, e, q⟩ := h
    exact ⟨p, e, q.imp (fun ⟨o, z⟩ => ⟨o, a.fl p o _ z⟩) id⟩
  | .tup ds, v, h => by
    unfold Rp at h ⊢
    obtain ⟨p, vs, e, t, r⟩ := h
    exact ⟨p, vs, e, a.tup p vs t, Rps.monoW a r⟩
  | .pt ds, v, h => by
    unfold Rp at h ⊢
    obtain ⟨p, vs, o, e, t, d, r⟩ := h
    exact ⟨p, vs, o, e, a.ft p o vs t, d, Rps.monoW a r⟩
  | .obj k, v, h => by
    unfold Rp at h ⊢
    obtain ⟨p, e, r⟩ := h
    exact ⟨p, a.at e, r⟩
theorem Rps.monoW (a : Nw H α H' α') : ∀ {ds : List Dv} {vs : List V}, Rps K H α ds vs → Rps K H' α' ds vs
  | [], _, h => by unfold Rps at h ⊢; exact h
  | d :: ds, _, h => by
    unfold Rps at h ⊢
    obtain ⟨v, r, e, h1, h2⟩ := h
    exact ⟨v, r, e, Rp.monoW a h1, Rps.monoW a h2⟩
end
theorem RpK.monoW {κ : Type} (a : Nw H α H' α') : ∀ {ds : List (κ × Dv)} {vs : List (κ × V)}, RpK K H α ds vs → RpK K H' α' ds vs
  | [], _, h => by unfold RpK at h ⊢; exact h
  | (k, d) :: ds, _, h => by
    unfold RpK at h ⊢
    obtain ⟨v, r, e, h1, h2⟩ := h
    exact ⟨v, r, e, Rp.monoW a h1, RpK.monoW a h2⟩
theorem Rp.mono (a : Nx K H α H' α') {d : Dv} {v : V} (h : Rp K H α d v) : Rp K H' α' d v := h.monoW a.w
theorem Rps.mono (a : Nx K H α H' α') {ds : List Dv} {vs : List V} (h : Rps K H α ds vs) : Rps K H' α' ds vs := h.monoW a.w
theorem RpK.mono {κ : Type} (a : Nx K H α H' α') {ds : List (κ × Dv)} {vs : List (κ × V)} (h : RpK K H α ds vs) : RpK K H' α' ds vs := h.monoW a.w
theorem Rps.length : ∀ {ds : List Dv} {vs : List V}, Rps K H α ds vs → vs.length = ds.length
  | [], _, h => by unfold Rps at h; subst h; rfl
  | d :: ds, _, h => by
    unfold Rps at h
    obtain ⟨v, r, rfl, _, h2⟩ := h
    simp [Rps.length h2]
theorem Rps.get : ∀ {ds : List Dv} {vs : List V} {i : Nat} {d : Dv}, Rps K H α ds vs → ds[i]? = some d → ∃ v, vs[i]? = some v ∧ Rp K H α d v
  | [], _, _, _, _, e => by simp at e
  | d :: ds, _, 0, d', h, e => by
    unfold Rps at h
    obtain ⟨v, r, rfl, h1, h2⟩ := h
    simp at e
    subst e
    exact ⟨v, by simp, h1⟩
  | d :: ds, _, i + 1, d', h, e => by
    unfold Rps at h
    obtain ⟨v, r, rfl, h1, h2⟩ := h
    obtain ⟨v', e', h'⟩ := Rps.get (i := i) h2 (by simpa using e)
    exact ⟨v', by simpa using e', h'⟩
theorem Rps.get' : ∀ {ds : List Dv} {vs : List V} {i : Nat} {v : V}, Rps K H α ds vs → vs[i]? = some v → ∃ d, ds[i]? = some d ∧ Rp K H α d v
  | [], _, _, _, h, e => by unfold Rps at h; subst h; simp at e
  | d :: ds, _, 0, v', h, e => by
    unfold Rps at h
    obtain ⟨v, r, rfl, h1, h2⟩ := h
    simp at e
    subst e
    exact ⟨d, by simp, h1⟩
  | d :: ds, _, i + 1, v', h, e => by
    unfold Rps at h
    obtain ⟨v, r, rfl, h1, h2⟩ := h
    obtain ⟨v', e', h'⟩ := Rps.get' (i := i) h2 (by simpa using e)
    exact ⟨v', by simpa using e', h'⟩
theorem Rps.nil : Rps K H α [] [] := by unfold Rps; rfl
theorem Rps.cons {d : Dv} {v : V} {ds : List Dv} {vs : List V} (h : Rp K H α d v) (r : Rps K H α ds vs) : Rps K H α (d :: ds) (v :: vs) := by unfold Rps; exact ⟨v, vs, rfl, h, r⟩
theorem Rps.append : ∀ {ds es : List Dv} {vs us : List V}, Rps K H α ds vs → Rps K H α es us → Rps K H α (ds ++ es) (vs ++ us)
  | [], _, _, _, h, r => by unfold Rps at h; subst h; exact r
  | d :: ds, _, _, _, h, r => by
    unfold Rps at h
    obtain ⟨v, q, rfl, h1, h2⟩ := h
    exact Rps.cons h1 (Rps.append h2 r)
theorem Rps.set {d : Dv} {v : V} (q : Rp K H α d v) : ∀ {ds : List Dv} {vs : List V} {i : Nat}, Rps K H α ds vs → Rps K H α (ds.set i d) (vs.set i v)
  | [], _, _, h => by unfold Rps at h; subst h; exact Rps.nil
  | e :: ds, _, 0, h => by
    unfold Rps at h
    obtain ⟨u, r, rfl, h1, h2⟩ := h
    exact Rps.cons q h2
  | e :: ds, _, i + 1, h => by
    unfold Rps at h
    obtain ⟨u, r, rfl, h1, h2⟩ := h
    exact Rps.cons h1 (Rps.set q h2)
theorem Rps.drop : ∀ {ds : List Dv} {vs : List V} (i : Nat), Rps K H α ds vs → Rps K H α (ds.drop i) (vs.drop i)
  | _, _, 0, h => by simpa using h
  | [], _, _ + 1, h => by unfold Rps at h; subst h; exact Rps.nil
  | e :: ds, _, i + 1, h => by
    unfold Rps at h
    obtain ⟨u, r, rfl, h1, h2⟩ := h
    simpa using Rps.drop i h2
theorem Rps.take : ∀ {ds : List Dv} {vs : List V} (i : Nat), Rps K H α ds vs → Rps K H α (ds.take i) (vs.take i)
  | _, _, 0, h => by simpa using Rps.nil
  | [], _, _ + 1, h => by unfold Rps at h; subst h; exact Rps.nil
  | e :: ds, _, i + 1, h => by
    unfold Rps at h
    obtain ⟨u, r, rfl, h1, h2⟩ := h
    exact Rps.cons h1 (Rps.take i h2)
theorem Rps.split : ∀ {ds es : List Dv} {vs : List V}, Rps K H α (ds ++ es) vs → ∃ us ws, vs = us ++ ws ∧ Rps K H α ds us ∧ Rps K H α es ws
  | [], _, vs, h => ⟨[], vs, rfl, Rps.nil, h⟩
  | d :: ds, _, _, h => by
    rw [List.cons_append] at h
    unfold Rps at h
    obtain ⟨v, r, rfl, h1, h2⟩ := h
    obtain ⟨us, ws, rfl, h3, h4⟩ := Rps.split h2
    exact ⟨v :: us, ws, rfl, Rps.cons h1 h3, h4⟩
theorem Rps.reverse : ∀ {ds : List Dv} {vs : List V}, Rps K H α ds vs → Rps K H α ds.reverse vs.reverse
  | [], _, h => by unfold Rps at h; subst h; exact Rps.nil
  | d :: ds, _, h => by
    unfold Rps at h
    obtain ⟨v, r, rfl, h1, h2⟩ := h
    rw [List.reverse_cons, List.reverse_cons]
    exact (Rps.reverse h2).append (.cons h1 .nil)
/-! what is stored is of kinds that no tuple is -/
theorem tup_upd {p q : Addr} {o : HO} {vs : List V} (h : H p = some (.tup vs)) (hq : ∀ us, H q ≠ some (.tup us)) : upd H q o p = some (.tup vs) := by
  rw [upd_ne (fun e => by subst e; exact hq vs h)]
  exact h
theorem notup_none {q : Addr} (h : H q = none) : ∀ us, H q ≠ some (.tup us) := fun us r => by rw [h] at r; cases r
theorem notup_of {q : Addr} {o : HO} (h : H q = some o) (n : ∀ us, o ≠ .tup us) : ∀ us, H q ≠ some (.tup us) := fun us r => by
  rw [h] at r
  exact n us (Option.some.inj r)
/-- an object that comes, or one that changes -/
theorem Nx.new {q : Addr} {o : HO} (h : H q = none) (β : List Addr) : Nx K H α (upd H q o) (α ++ β) :=
  ⟨⟨β, rfl⟩, fun _ _ t => tup_upd t (notup_none h), fun p fs e => by rw [upd_ne (ne_of_none e h)]; exact e, fun p o xs e => by rw [upd_ne (ne_of_none e h)]; exact e⟩
theorem Nx.new0 {q : Addr} {o : HO} (h : H q = none) : Nx K H α (upd H q o) α := by
  have := Nx.new (K := K) (α := α) (o := o) h []
  simpa using this
theorem ObR.notup {p : Addr} {o : Ob} (h : ObR K H α p o) : ∀ us, H p ≠ some (.tup us) := by
  cases o with
  | lst ds => obtain ⟨vs, e, _⟩ := h; exact notup_of e (fun _ z => nomatch z)
  | dK ds => obtain ⟨vs, e, _⟩ := h; exact notup_of e (fun _ z => nomatch z)
  | dT ds => obtain ⟨vs, e, _⟩ := h; exact notup_of e (fun _ z => nomatch z)
  | dKf ds => obtain ⟨vs, b, e, _⟩ := h; exact notup_of e (fun _ z => nomatch z)
  | dTf ds => obtain ⟨vs, b, e, _⟩ := h; exact notup_of e (fun _ z => nomatch z)
  | ins C fs => obtain ⟨dx, vs, e, _⟩ := h; exact notup_of e (fun _ z => nomatch z)
theorem ObR.noxd {p : Addr} {o : Ob} (h : ObR K H α p o) : ∀ fs, H p ≠ some (.xd fs) := by
  intro fs x
  cases o with
  | lst ds => obtain ⟨vs, e, _⟩ := h; rw [x] at e; cases e
  | dK ds => obtain ⟨vs, e, _⟩ := h; rw [x] at e; cases e
  | dT ds => obtain ⟨vs, e, _⟩ := h; rw [x] at e; cases e
  | dKf ds => obtain ⟨vs, b, e, _⟩ := h; rw [x] at e; cases e
  | dTf ds => obtain ⟨vs, b, e, _⟩ := h; rw [x] at e; cases e
  | ins C fs => obtain ⟨dx, vs, e, _⟩ := h; rw [x] at e; cases e
theorem ObR.nofz {p : Addr} {o : Ob} (h : ObR K H α p o) (lv : o.live = true) : ∀ b u, H p ≠ some (.frz b u) := by
  intro b₀ u₀ x
  cases o with
  | lst ds => obtain ⟨vs, e, _⟩ := h; rw [x] at e; cases e
  | dK ds => obtain ⟨vs, e, _⟩ := h; rw [x] at e; cases e
  | dT ds => obtain ⟨vs, e, _⟩ := h; rw [x] at e; cases e
  | dKf ds => cases lv
  | dTf ds => cases lv
  | ins C fs => obtain ⟨dx, vs, e, _⟩ := h; rw [x] at e; cases e
theorem ObR.some {p : Addr} {o : Ob} (h : ObR K H α p o) : ∃ u, H p = some u := by
  cases o with
  | lst ds => obtain ⟨vs, e, _⟩ := h; exact ⟨_, e⟩
  | dK ds => obtain ⟨vs, e, _⟩ := h; exact ⟨_, e⟩
  | dT ds => obtain ⟨vs, e, _⟩ := h; exact ⟨_, e⟩
  | dKf ds => obtain ⟨vs, b, e, _⟩ := h; exact ⟨_, e⟩
  | dTf ds => obtain ⟨vs, b, e, _⟩ := h; exact ⟨_, e⟩
  | ins C fs => obtain ⟨dx, vs, e, _⟩ := h; exact ⟨_, e⟩
theorem Nx.chg {q : Addr} {o : HO} {u : Ob} (h : ObR K H α q u) (lv : u.live = true := by rfl) : Nx K H α (upd H q o) α :=
  ⟨⟨[], by simp⟩, fun _ _ t => tup_upd t h.notup, fun p fs e => by rw [upd_ne (fun z => by subst z; exact h.noxd fs e)]; exact e, fun p o xs e => by rw [upd_ne (fun z => by subst z; exact h.nofz lv o xs e)]; exact e⟩
/-- an object's word leans on its own address alone -/
theorem ObR.monoW {p : Addr} {o : Ob} (a : Nw H α H' α') (e : H' p = H p) (h : ObR K H α p o) : ObR K H' α' p o := by
  cases o with
  | lst ds => obtain ⟨vs, h1, h2⟩ := h; exact ⟨vs, e.trans h1, h2.monoW a⟩
  | dK ds => obtain ⟨vs, h1, h2⟩ := h; exact ⟨vs, e.trans h1, h2.monoW a⟩
  | dT ds => obtain ⟨vs, h1, h2⟩ := h; exact ⟨vs, e.trans h1, h2.monoW a⟩
  | dKf ds => obtain ⟨vs, b, h1, h2⟩ := h; exact ⟨vs, b, e.trans h1, h2.monoW a⟩
  | dTf ds => obtain ⟨vs, b, h1, h2⟩ := h; exact ⟨vs, b, e.trans h1, h2.monoW a⟩
  | ins C fs => obtain ⟨dx, vs, h1, h2⟩ := h; exact ⟨dx, vs, e.trans h1, h2.monoW a⟩
theorem ObR.mono {p : Addr} {o : Ob} (a : Nx K H α H' α') (e : H' p = H p) (h : ObR K H α p o) : ObR K H' α' p o := h.monoW a.w e
theorem Okk.fresh (h : Okk K H α θ) {q : Addr} (n : H q = none) : q ∉ α := fun m => by
  obtain ⟨k, hk, e⟩ := List.mem_iff_getElem.mp m
  have e1 : α[k]? = some q := by rw [List.getElem?_eq_getElem hk, e]
  obtain ⟨u, hu⟩ := (h.ob k q (θ[k]'(by rw [← h.len]; exact hk)) e1 (by rw [List.getElem?_eq_getElem])).some
  rw [n] at hu; cases hu
/-- an untracked thing comes (a tuple): the store stays -/
theorem Okk.new0 (h : Okk K H α θ) {q : Addr} {o : HO} (n : H q = none) : Okk K (upd H q o) α θ :=
  ⟨h.len, h.nd, fun k p ob e1 e2 => (h.ob k p ob e1 e2).mono (Nx.new0 n) (upd_ne fun z => h.fresh n (z ▸ List.mem_of_getElem? e1))⟩
/-- a mutable object comes -/
theorem Okk.new (h : Okk K H α θ) {q : Addr} {o : HO} {ob : Ob} (n : H q = none) (r : ObR K (upd H q o) (α ++ [q]) q ob) : Okk K (upd H q o) (α ++ [q]) (θ ++ [ob]) := by
  refine ⟨by simp [h.len], ?_, fun k p u e1 e2 => ?_⟩
  · rw [List.nodup_append]
    exact ⟨h.nd, by simp, fun a ha b hb e => by simp at hb; subst hb; subst e; exact h.fresh n ha⟩
  · by_cases hk : k < α.length
    · rw [List.getElem?_append_left hk] at e1
      rw [List.getElem?_append_left (by rw [← h.len]; exact hk)] at e2
      exact (h.ob k p u e1 e2).mono (Nx.new n _) (upd_ne fun z => h.fresh n (z ▸ List.mem_of_getElem? e1))
    · have hk2 : k = α.length := by
        have := (List.getElem?_eq_some_iff.mp e1).1
        simp at this
        omega
      subst hk2
      simp at e1
      rw [h.len] at e2
      simp at e2
      subst e1 e2
      exact r
/-- a mutable object changes -/
theorem Okk.chg (h : Okk K H α θ) {k : Nat} {q : Addr} {o : HO} {ob u : Ob} (e1 : α[k]? = some q) (e2 : θ[k]? = some u) (r : ObR K (upd H q o) α q ob) (lv : u.live = true := by rfl) : Okk K (upd H q o) α (θ.set k ob) := by
  refine ⟨by simp [h.len], h.nd, fun j p w f1 f2 => ?_⟩
  by_cases hj : k = j
  · subst hj
    rw [List.getElem?_set_self (List.getElem?_eq_some_iff.mp e2).1] at f2
    rw [e1] at f1
    cases f1
    cases f2
    exact r
  · rw [List.getElem?_set_ne hj] at f2
    refine (h.ob j p w f1 f2).mono (Nx.chg (h.ob k q u e1 e2) lv) (upd_ne fun z => ?_)
    subst z
    obtain ⟨a1, b1⟩ := List.getElem?_eq_some_iff.mp e1
    obtain ⟨a2, b2⟩ := List.getElem?_eq_some_iff.mp f1
    exact hj ((List.getElem_inj h.nd).mp (b1.trans b2.symm))
theorem Okk.addr (h : Okk K H α θ) {k : Nat} {o : Ob} (e : θ[k]? = some o) : ∃ p, α[k]? = some p := by
  have := (List.getElem?_eq_some_iff.mp e).1
  exact ⟨α[k]'(by rw [h.len]; exact this), List.getElem?_eq_getElem _⟩
end

/-- slots -/
def RS (K : PySem.W.Frag) (H : Hp) (α : List Addr) (σ : L2.St) (ρ : DEnv) : Prop :=
  σ.length = ρ.length ∧ ∀ (i : Nat) (d : Dv), ρ[i]? = some (some d) → ∃ v, σ[i]? = some (some v) ∧ Rp K H α d v
section
variable {K : PySem.W.Frag} {H H' : Hp} {α α' : List Addr} {θ θ' : Th} {σ : L2.St} {ρ : DEnv}
theorem RS.mono (h : RS K H α σ ρ) (a : Nx K H α H' α') : RS K H' α' σ ρ := ⟨h.1, fun i d e => let ⟨v, e1, r⟩ := h.2 i d e; ⟨v, e1, r.mono a⟩⟩
theorem RS.set (h : RS K H α σ ρ) {d : Dv} {v : V} (r : Rp K H α d v) (i : Nat) : RS K H α (σ.set i (some v)) (ρ.set i (some d)) := by
  refine ⟨by simp [h.1], fun j d' e => ?_⟩
  by_cases hj : i = j
  · subst hj
    by_cases hi : i < ρ.length
    · rw [List.getElem?_set_self hi] at e
      cases e
      exact ⟨v, List.getElem?_set_self (by rw [h.1]; exact hi), r⟩
    · rw [List.getElem?_eq_none (by simpa using hi)] at e
      cases e
  · rw [List.getElem?_set_ne hj] at e
    obtain ⟨u, e1, r1⟩ := h.2 j d' e
    exact ⟨u, by rw [List.getElem?_set_ne hj]; exact e1, r1⟩
theorem RS.set_none (h : RS K H α σ ρ) (x : Option V) (i : Nat) : RS K H α (σ.set i x) (ρ.set i none) := by
  refine ⟨by simp [h.1], fun j d' e => ?_⟩
  by_cases hj : i = j
  · subst hj
    by_cases hi : i < ρ.length
    · rw [List.getElem?_set_self hi] at e
      cases e
    · rw [List.getElem?_eq_none (by simpa using hi)] at e
      cases e
  · rw [List.getElem?_set_ne hj] at e
    obtain ⟨u, e1, r1⟩ := h.2 j d' e
    exact ⟨u, by rw [List.getElem?_set_ne hj]; exact e1, r1⟩
def wipeE (ρ : DEnv) : List Nat → DEnv
  | [] => ρ
  | v :: vs => (wipeE ρ vs).set v none
theorem RS.wipe (h : RS K H α σ ρ) : ∀ vs : List Nat, RS K H α (wipe σ vs) (wipeE ρ vs)
  | [] => h
  | v :: vs => (RS.wipe h vs).set_none none v
end

/-! ### programs by two wishes: of an exception, of a value -/
/-- an exception: its class, its fields -/
structure Exn where
  cls : Str
  fs : List (Str × Dv)
def MX (β : Type) : Type := (Exn → Th → Prop) → Th → (β → Th → Prop) → Prop
instance : Monad MX where
  pure a := fun _ θ Q => Q a θ
  bind m f := fun E θ Q => m E θ fun a θ' => f a E θ' Q
theorem MX.pure_def {β : Type} (a : β) (E : Exn → Th → Prop) (θ : Th) (Q : β → Th → Prop) : (pure a : MX β) E θ Q = Q a θ := rfl
theorem MX.bind_def {β γ : Type} (m : MX β) (f : β → MX γ) (E : Exn → Th → Prop) (θ : Th) (Q : γ → Th → Prop) : (m >>= f) E θ Q = m E θ fun a θ' => f a E θ' Q := rfl
def MX.stuck {β : Type} : MX β := fun _ _ _ => False
def MX.get : MX Th := fun _ θ Q => Q θ θ
def MX.put (θ' : Th) : MX Unit := fun _ _ Q => Q () θ'
def MX.need (p : Prop) : MX Unit := fun _ θ Q => p ∧ Q () θ
def MX.opt {β : Type} : Option β → MX β
  | some a => pure a
  | none => MX.stuck
abbrev ME := DEnv → MX Dv

/-- where a body stands: the entry's heap and objects, what is wished of an exception on both sides -/
structure Wd (K : PySem.W.Frag) (mg : Str → Option Value) where
  H0 : Hp
  α0 : List Addr
  En : Exn → Th → Prop
  E : XK
/-- an exception's object: its class's address, its dict -/
def ExR (K : PySem.W.Frag) (mg : Str → Option Value) (H : Hp) (α : List Addr) (x : Exn) (cls : Value) (d : Option Addr) : Prop :=
  ∃ C, mg x.cls = some (.ref C) ∧ cls = .ref C ∧ match d with
    | none => x.fs = []
    | some p => ∃ vs, H p = some (.xd vs) ∧ RpK K H α x.fs vs
structure Wd.Ok {K : PySem.W.Frag} {mg : Str → Option Value} (W : Wd K mg) : Prop where
  link : ∀ x θ α H cls d, W.En x θ → Okk K H α θ → Nx K W.H0 W.α0 H α → ExR K mg H α x cls d → W.E cls d H
/-- nothing is raised -/
def Wd.calm {K : PySem.W.Frag} {mg : Str → Option Value} (W : Wd K mg) : Wd K mg := { W with En := fun _ _ => False, E := fun _ _ _ => False }
theorem Wd.calm_ok {K : PySem.W.Frag} {mg : Str → Option Value} (W : Wd K mg) : W.calm.Ok := ⟨fun _ _ _ _ _ _ h => h.elim⟩

section
variable {K : PySem.W.Frag} {mg : Str → Option Value}
/-- the state: the store is told, it came from the entry -/
structure At (W : Wd K mg) (H : Hp) (α : List Addr) (θ : Th) : Prop where
  ok : Okk K H α θ
  nx : Nx K W.H0 W.α0 H α
/-- what is wanted of data is enough for what is wanted of values -/
def Up (K : PySem.W.Frag) (H : Hp) (α : List Addr) (Qm : Dv → Th → Prop) (Q : VK) : Prop :=
  ∀ d θ' α' H' v, Qm d θ' → Okk K H' α' θ' → Nx K H α H' α' → Rp K H' α' d v → Q v H'
theorem Up.mono {H H' : Hp} {α α' : List Addr} {Qm : Dv → Th → Prop} {Q : VK} (u : Up K H α Qm Q) (a : Nx K H α H' α') : Up K H' α' Qm Q :=
  fun d θ2 α2 H2 v q o n r => u d θ2 α2 H2 v q o (a.trans n) r
/-- an expression's reading by data -/
def tM (W : Wd K mg) (m : ME) : TE := fun σ H Q => ∃ ρ α θ Qm, At W H α θ ∧ RS K H α σ ρ ∧ m ρ W.En θ Qm ∧ Up K H α Qm Q
def tMs (W : Wd K mg) (m : DEnv → MX (List Dv)) : TA := fun σ H Q => ∃ ρ α θ Qm, At W H α θ ∧ RS K H α σ ρ ∧ m ρ W.En θ Qm ∧
  ∀ ds θ' α' H' vs, Qm ds θ' → Okk K H' α' θ' → Nx K H α H' α' → Rps K H' α' ds vs → Q vs H'
def tMb (W : Wd K mg) (m : DEnv → MX Bool) : TT := fun σ H Q => ∃ ρ α θ Qm, At W H α θ ∧ RS K H α σ ρ ∧ m ρ W.En θ Qm ∧
  ∀ b θ' α' H', Qm b θ' → Okk K H' α' θ' → Nx K H α H' α' → Q b H'
inductive Out where
  | nx (ρ : DEnv) | rt (d : Dv) | bk (ρ : DEnv) | ct (ρ : DEnv)
abbrev MS := DEnv → MX Out
def UpS (K : PySem.W.Frag) (H : Hp) (α : List Addr) (Qm : Out → Th → Prop) (D : Ends) : Prop :=
  ∀ o θ' α' H', Qm o θ' → Okk K H' α' θ' → Nx K H α H' α' → match o with
    | .nx ρ' => ∀ σ', RS K H' α' σ' ρ' → D.nx σ' H'
    | .bk ρ' => ∀ σ', RS K H' α' σ' ρ' → D.bk σ' H'
    | .ct ρ' => ∀ σ', RS K H' α' σ' ρ' → D.ct σ' H'
    | .rt d => ∀ v, Rp K H' α' d v → D.rt v H'
theorem UpS.mono {H H' : Hp} {α α' : List Addr} {Qm : Out → Th → Prop} {D : Ends} (u : UpS K H α Qm D) (a : Nx K H α H' α') : UpS K H' α' Qm D :=
  fun o θ2 α2 H2 q ok n => u o θ2 α2 H2 q ok (a.trans n)
def tS (W : Wd K mg) (m : MS) : TS := fun D σ H => ∃ ρ α θ Qm, At W H α θ ∧ RS K H α σ ρ ∧ m ρ W.En θ Qm ∧ UpS K H α Qm D
end
/-! weakening of the hand layer's judgements -/
section
variable {X : Cx}
theorem pe_w {e : Expr} {t t' : TE} (h : PE X e t) (w : ∀ σ H Q, t' σ H Q → t σ H Q) : PE X e t' := ⟨fun pins s σ H Q I q => h.run pins s σ H Q I (w σ H Q q)⟩
theorem pt_w {e : Expr} {t t' : TT} (h : PT X e t) (w : ∀ σ H Q, t' σ H Q → t σ H Q) : PT X e t' := ⟨fun pins s σ H Q I q => h.run pins s σ H Q I (w σ H Q q)⟩
theorem pw_w {e : Expr} {t t' : TT} (h : PW X e t) (w : ∀ σ H Q, t' σ H Q → t σ H Q) : PW X e t' := ⟨fun wh pins s σ H Q I q => h.run wh pins s σ H Q I (w σ H Q q)⟩
theorem pa_w {e : List Expr} {t t' : TA} (h : PA X e t) (w : ∀ σ H Q, t' σ H Q → t σ H Q) : PA X e t' := ⟨fun p pins s σ H Q I q => h.run p pins s σ H Q I (w σ H Q q)⟩
theorem ps_w {e : Stmt} {t t' : TS} (h : PS X e t) (w : ∀ D σ H, t' D σ H → t D σ H) : PS X e t' := ⟨fun pins s σ H D I q => h.run pins s σ H D I (w D σ H q)⟩
theorem pss_w {e : List Stmt} {t t' : TS} (h : PSs X e t) (w : ∀ D σ H, t' D σ H → t D σ H) : PSs X e t' := ⟨fun pins s σ H D I q => h.run pins s σ H D I (w D σ H q)⟩
end
end Mn

/-! Mn2: what a def promises where no repr is under way; its call; its body; the law's end. -/
namespace Mn
open PySem PySem.Spec PyProof.Rows L2

structure FnG (P : Program) (w : World) (K : PySem.W.Frag) (mg : Str → Option Value) (base : Heap) (CX : CXT) (k : Nat) (f : Addr) (fd : FuncData) (ps : List Str) (sp : Sp) : Prop where
  arity : ∀ vs H Q E, sp vs H Q E → vs.length = ps.length
  go : ∀ (A : Around) (outer : List Env) (s : Shared) (H : Hp) (args : Args) (us : List Value) (vs : List V) (Q : VK) (E : XK),
    A.guards = some [] → Room k A → Env0 P w K mg base A outer s H → BindsTo s fd args (ps.zip us) → Vals vs us → sp vs H Q E →
    codeAny (model P w) A (.call (.ref f) args) (CR CX outer P w H s Q E) s
section
variable {P : Program} {w : World} {K : PySem.W.Frag} {mg : Str → Option Value} {base : Heap} {CX : CXT} {j k : Nat} {f : Addr} {fd : FuncData} {ps : List Str} {sp sp' : Sp}
theorem FnG.mono (F : FnG P w K mg base CX j f fd ps sp) (h : j ≤ k) : FnG P w K mg base CX k f fd ps sp :=
  ⟨F.arity, fun A outer s H args us vs Q E hg hr => F.go A outer s H args us vs Q E hg (hr.mono h)⟩
theorem FnG.imp (F : FnG P w K mg base CX k f fd ps sp) (h : ∀ vs H Q E, sp' vs H Q E → sp vs H Q E) : FnG P w K mg base CX k f fd ps sp' :=
  ⟨fun vs H Q E q => F.arity vs H Q E (h _ _ _ _ q), fun A outer s H args us vs Q E hg hr he hb hv hs => F.go A outer s H args us vs Q E hg hr he hb hv (h _ _ _ _ hs)⟩
end

section
variable {X : Cx} {CX : CXT} {k : Nat} {f : Addr} {fd : FuncData} {ps : List Str} {sp : Sp} {dvs : List V} {ds : List Value} {E : XK} {x : Str} {p pos : Pos} {e : Expr} {es : List Expr} {t : TA}
theorem runG {pins : List (Addr × Obj)} {σ : L2.St} {H : Hp} {s : Shared} {Q : VK} {us : List Value} {vs : List V} (F : FnG X.prog X.w X.K X.mg X.base CX k f fd ps sp)
    (gd : X.A.guards = some []) (hr : Room k X.A) (hb : Binds X.K fd ps ds) (hd : Vals dvs ds) (hx : Passes CX X E)
    (I : Inv X pins σ H s) (r : Vals vs us) (h : sp (vs ++ dvs) H Q E) : wpAny (model X.prog X.w) X.A (call (.ref f) us) (EP X pins σ Q) X.xe s := by
  have r2 := Vals.append r hd
  have hl : (us ++ ds).length = ps.length := by
    rw [← r2.length]
    exact F.arity _ _ _ _ h
  have main := F.go X.A X.stack s H ⟨us, []⟩ (us ++ ds) (vs ++ dvs) Q E gd hr I.env0 (hb s us I.kIn hl) r2 h
  refine wpAny_call (codeAny_mono main ?_)
  intro r s' hq
  cases r with
  | error z => exact hx pins σ H s z s' I hq
  | ok fl =>
    cases fl <;> first
      | exact I.after hq
      | exact False.elim hq
theorem pe_callG (F : FnG X.prog X.w X.K X.mg X.base CX k f fd ps sp) (gd : X.A.guards = some []) (hr : Room k X.A) (hg : Gl X x) (hm : X.mg x = some (.ref f)) (hk : PySem.W.keepIn X.K (.ref f) = true)
    (hb : Binds X.K fd ps ds) (hd : Vals dvs ds) (hx : Passes CX X E) (ha : PA X (e :: es) t)
    (hdb : (x == ("__debug__" : Str)) = false := by decide) (he : starEach (e :: es) X.env = (false, eval e X.env) :: starEach es X.env := by rfl)
    (hpl : (backTo pos (starEach es X.env)).any (·.1) = false := by rfl) :
    PE X (.Call (.Name x p) (e :: es) [] pos) (tCall sp dvs E t) := by
  constructor
  intro pins s σ H Q I h
  apply wpAny_Call_Name_kw (ld_glob I hg hm ?_ hdb)
  have step := fun us s1 (z : AP X pins σ (fun vs H1 => sp (vs ++ dvs) H1 Q E) us s1) => (show X.K.In s1.heap ∧ wpAny (model X.prog X.w) X.A (call (.ref f) us) (EP X pins σ Q) X.xe s1 from by
    obtain ⟨vs, H1, I1, r, q⟩ := z
    exact ⟨I1.kIn, runG F gd hr hb hd hx I1 r q⟩)
  exact PySem.W.callWith_K (h₀ := X.base) I.ok.mod.kin hk (thn (ha.run pos pins s σ H _ I h) step) he hpl
theorem pe_callG0 (F : FnG X.prog X.w X.K X.mg X.base CX k f fd ps sp) (gd : X.A.guards = some []) (hr : Room k X.A) (hg : Gl X x) (hm : X.mg x = some (.ref f)) (hk : PySem.W.keepIn X.K (.ref f) = true)
    (hb : Binds X.K fd ps ds) (hd : Vals dvs ds) (hx : Passes CX X E) (hdb : (x == ("__debug__" : Str)) = false := by decide) :
    PE X (.Call (.Name x p) [] [] pos) (tCall sp dvs E tNil) := by
  constructor
  intro pins s σ H Q I h
  apply wpAny_Call_Name_kw (ld_glob I hg hm ?_ hdb)
  apply PySem.W.callWith_K0 I.kIn hk
  exact runG (us := []) F gd hr hb hd hx I .nil h
end

/-- a def by its body -/
theorem fnG_of {CX : CXT} {P : Program} {w : World} {K : PySem.W.Frag} {mg : Str → Option Value} {base : Heap} {k : Nat} {f : Addr} {name qual : Str} {params : Arguments} {body : List Stmt} {scope : Scope} {dV kV doc pm cdv ct oc : Value} {an od : Option Addr}
    {osl : Array (Option Value)} {N ps : List Str} {sp : Sp} (lk : K.lookup f = some ⟨oc, od, .func (PySem.W.fnOf name qual params body scope dV kV doc pm an cdv ct), osl⟩)
    (hcd : PySem.W.codeIn K cdv qual = true) (S : FnScope N ps scope) (arity : ∀ vs H Q E, sp vs H Q E → vs.length = ps.length)
    (hbody : ∀ (A : Around) (outer : List Env) (s : Shared) (H : Hp) (vs : List V) (Q : VK) (E : XK), A.guards = some [] → Room k (A.deeper (envOfC qual scope s.heap.objs.size f cdv)) → sp vs H Q E →
      ∃ t, PSs (cxOf CX P w K mg base N qual scope f cdv A outer s H E) body t ∧ t { nx := fun _ H' => Q .non H', rt := Q } (start N vs) H) :
    FnG P w K mg base CX (k + 1) f (PySem.W.fnOf name qual params body scope dV kV doc pm an cdv ct) ps sp := by
  constructor
  · exact arity
  intro A outer s H args us vs Q E gd hr e0 hb r hsp
  have hl := arity _ _ _ _ hsp
  have old : ∀ (b : Addr) (o : Obj), base.get? b = some o → s.heap.get? b = some o := fun b o e => (e0.bs b o e).1
  have KX : K.In s.heap := e0.mod.kin.keeps old
  have lim : s.heap.NoLimit := e0.mod.nolimit.keeps old
  have hkind : ∀ y ∈ ps.zip us, scope.names.lookup y.1 = some .local ∨
      (scope.names.lookup y.1 = some .cell ∧ ((cellsFrom (s.heap.objs.size + 1) scope.names []).lookup y.1).isSome = true) := by
    rintro ⟨n, v⟩ hy
    have q := S.par n (List.of_mem_zip hy).1
    cases q with
    | inl q => exact Or.inl q
    | inr q => exact Or.inr ⟨q, PySem.W.cellsFrom_some _ _ _ (Or.inl q)⟩
  apply codeAny_call_function hr.depth (KX _ _ lk) rfl S.co S.gen rfl (PySem.W.codeRec_of KX hcd)
  apply hb
  refine wpAny_newFunctionEnv_cells S.kind hkind ?_
  intro env he s1 x
  subst he
  constructor
  · exact lim.keeps x.toInCall.keep
  apply codeAny_func
  obtain ⟨t, ht, hq⟩ := hbody A outer s H vs Q E gd (hr.deeper _) hsp
  have I := inv_start (CX := CX) (P := P) (w := w) (K := K) (mg := mg) (base := base) (qual := qual) (f := f) (cd := cdv) (outer := outer) (E := E) S hr.hd e0 hl r x
  refine wpAny_mono (ht.run [] s1 (start N vs) H _ I hq) ?_ (fun _ _ hs => hs)
  intro fl s' hs
  cases fl with
  | ret u =>
    obtain ⟨v, σ', H', J, rv, q⟩ := hs
    exact ⟨v, H', J.os, J.bare, J.base, J.hok, rv, q⟩
  | next =>
    obtain ⟨σ', H', J, q⟩ := hs
    exact ⟨V.non, H', J.os, J.bare, J.base, J.hok, rfl, q⟩
  | brk => exact hs.elim fun _ h => h.elim fun _ h => False.elim h.2
  | cont => exact hs.elim fun _ h => h.elim fun _ h => False.elim h.2

/-- the law's call at the heap behind the top -/
theorem law_callG {P : Program} {w : World} {K : PySem.W.Frag} {mg mb : Str → Option Value} {CX : CXT} {k : Nat} {fa a : Addr} {fd : FuncData} {x : Str} {sp : Sp} {s₁ : Shared} {vs : List Value} {ns : List Int}
    (KX : K.In s₁.heap) (hns : s₁.heap.Ns mainGlobals mg) (hb : s₁.heap.Ns builtinsNs mb) (hbb : ∀ x : Str, x ≠ "__name__" → mb x = bootBuiltins x) (hlim : s₁.heap.NoLimit) (hg : s₁.gens = #[])
    (ha : s₁.heap.get? a = some { cls := .type "list", data := .seq vs.toArray }) (hi : IntsAre vs ns) (hl : ns.length ≤ sizeLine) (hr : Room k callerA)
    (F : ∀ base : Heap, K.In base → base.Ns mainGlobals mg → FnG P w K mg base CX k fa fd [x] sp) (hbind : ∀ (s : Shared) (u : Value), BindsTo s fd ⟨[u], []⟩ [(x, u)])
    (hsp : ∀ H : Hp, (∃ o, H a = some (.frz o (.lst (ns.map V.int)))) → sp [.ref a] H (fun v _ => v = .bl true) fun _ _ _ => False)
    (hspK : ∀ H : Hp, (∀ b, H b = none) → SqL K H a (ns.map V.int) → sp [.ref a] H (fun v _ => v = .bl true) fun _ _ _ => False)
    (hCX : ∀ H e s', CX [] H s₁ (fun _ _ _ => False) e s' → False) :
    codeAny (model P w) callerA (.call (.ref fa) ⟨[.ref a], []⟩) (fun r s' => r = .ok (.ret (.bool true)) ∧ OldK s₁.heap s'.heap ∧ s'.os = s₁.os ∧ AllBare s'.gens) s₁ := by
  have rv := vals_ints hi
  have lenV := hi.length
  have core : ∀ H : Hp, (∀ b, H b = none ∨ ∃ o xs, H b = some (.frz o (.lst xs))) → sp [.ref a] H (fun v _ => v = .bl true) (fun _ _ _ => False) → HOk P w H s₁.heap →
      (∀ b, H b ≠ none → b = a) → (H a ≠ none → K.lookup a = none) →
      codeAny (model P w) callerA (.call (.ref fa) ⟨[.ref a], []⟩) (fun r s' => r = .ok (.ret (.bool true)) ∧ OldK s₁.heap s'.heap ∧ s'.os = s₁.os ∧ AllBare s'.gens) s₁ := by
    intro H hO hS hok hA hK
    have noA : ∀ {b : Addr} {o : Obj} {es : Array DictEntry} {ep : Nat}, s₁.heap.get? b = some o → o.data = .dict es ep → H b = none := by
      intro b o es ep e d
      refine Option.eq_none_iff_forall_ne_some.mpr fun u q => ?_
      have e' : b = a := hA b (by rw [q]; exact fun z => nomatch z)
      subst e'
      rw [ha] at e
      cases e
      cases (show Data.seq vs.toArray _ = Data.dict es ep from d)
    have nsK : ∀ {b : Addr} {m : Str → Option Value}, s₁.heap.Ns b m → (hidT s₁.heap H).Ns b m := by
      intro b m z
      obtain ⟨o, es, ep, e, d, r⟩ := z
      exact ⟨o, es, ep, hidT_get e (noA e d), d, r⟩
    have hKb : K.In (hidT s₁.heap H) := by
      intro b o e
      refine hidT_get (KX b o e) (Option.eq_none_iff_forall_ne_some.mpr fun u q => ?_)
      have ne : H b ≠ none := by rw [q]; exact fun z => nomatch z
      have e' := hA b ne
      subst e'
      rw [hK ne] at e
      cases e
    have hM : Mod K mg (hidT s₁.heap H) := by
      obtain ⟨mc, h1, h2⟩ := hlim
      exact ⟨hKb, nsK hns, ⟨mb, nsK hb, hbb⟩, ⟨mc, nsK h1, h2⟩⟩
    have e0 : Env0 P w K mg (hidT s₁.heap H) callerA [] s₁ H :=
      ⟨rfl, hM, fun b o e => of_hidT e, Nat.le_of_eq (hidT_size _ _), trivial, fun b hb => (List.not_mem_nil (show b ∈ ([] : List Addr) from hb)).elim, hok, .of_eq hg⟩
    have run := (F _ hKb (nsK hns)).go callerA [] s₁ H ⟨[.ref a], []⟩ [.ref a] [.ref a] _ _ rfl hr e0 (hbind s₁ (.ref a)) (.cons rfl .nil) hS
    refine codeAny_mono run ?_
    intro r s' h
    cases r with
    | error e => exact (hCX H e s' h).elim
    | ok fl =>
      cases fl with
      | ret u =>
        obtain ⟨v, H', os, bare, un, hok', r', q⟩ := h
        have q' : v = .bl true := q
        subst q'
        obtain rfl : u = Value.bool true := r'
        refine ⟨rfl, OldK.of_keep ?_, os, bare⟩
        intro b o e
        have nf : b ∉ frs ([] : List Env) := fun z => (List.not_mem_nil (show b ∈ ([] : List Addr) from z)).elim
        rcases hO b with q | ⟨ob, xs, q⟩
        · exact un.keep b o e q nf (fun z => nomatch z)
        · have z2 := un.frzs b ob _ q
          have e1 := (hok b _ q).1
          have e2 := (hok' b _ z2).1
          rw [e] at e1
          cases e1
          exact e2
      | next => exact False.elim h
      | brk => exact False.elim h
      | cont => exact False.elim h
  cases hk : K.lookup a with
  | some o =>
    have e := KX a o hk
    rw [ha] at e
    cases e
    have sq : SqL K (fun _ => none) a (ns.map V.int) := Or.inr ⟨_, vs.toArray, _, hk, rfl, rfl, rfl, by rw [List.size_toArray, lenV]; exact hl, by simpa using rv⟩
    exact core (fun _ => none) (fun _ => Or.inl rfl) (hspK _ (fun _ => rfl) sq) (fun b u z => nomatch z) (fun b z => absurd rfl z) (fun z => absurd rfl z)
  | none =>
    let o₀ : Obj := { cls := .type "list", data := .seq vs.toArray }
    refine core (upd (fun _ => none) a (.frz o₀ (.lst (ns.map V.int)))) (fun b => ?_) (hsp _ ⟨o₀, upd_same⟩) (fun b u z => ?_) (fun b z => ?_) (fun _ => hk)
    · by_cases hb : b = a
      · subst hb
        exact Or.inr ⟨_, _, upd_same⟩
      · exact Or.inl (upd_ne hb)
    · by_cases hb : b = a
      · subst hb
        rw [upd_same] at z
        cases z
        exact ⟨ha, by rw [List.length_map]; exact hl, vs, _, rv, ha⟩
      · rw [upd_ne hb] at z
        cases z
    · by_cases hb : b = a
      · exact hb
      · exact absurd (upd_ne hb) z
theorem walk_ofG {l : PySem.W.OpenLaw} {n k : Nat} {q : Program} {loose : List Str} {XP : (Str → Option Value) → Heap → Prop} {YP : World → Heap → Prop} {d : DefRec} {K : Params → PySem.W.Frag} {CX : World → CXT} {sp : World → Sp} {x : Str}
    (hn : l.most = some n) (hn2 : n ≤ sizeLine) (hdf : d.params.defaults = []) (hr : Room k callerA) (hY : ∀ (w : World) (h : Heap), YP w h → (K w.params).In h)
    (F : ∀ (w : World) (mg : Str → Option Value) (fa : Addr) (h : Heap), (K w.params).In h → h.Ns mainGlobals mg → mg d.name = some (.ref fa) →
      ∃ fd : FuncData, (∀ (s : Shared) (u : Value), BindsTo s fd ⟨[u], []⟩ [(x, u)]) ∧ ∀ base : Heap, (K w.params).In base → base.Ns mainGlobals mg → FnG l.prog w (K w.params) mg base (CX w) k fa fd [x] (sp w))
    (hsp : ∀ (w : World) (H : Hp) (a : Addr) (ns : List Int), ns.length ≤ n → (∃ o, H a = some (.frz o (.lst (ns.map V.int)))) → sp w [.ref a] H (fun v _ => v = .bl true) fun _ _ _ => False)
    (hspK : ∀ (w : World) (H : Hp) (a : Addr) (ns : List Int), ns.length ≤ n → (∀ b, H b = none) → SqL (K w.params) H a (ns.map V.int) → sp w [.ref a] H (fun v _ => v = .bl true) fun _ _ _ => False)
    (hCX : ∀ (w : World) (H : Hp) (s : Shared) (e : Value) (s' : Shared), CX w [] H s (fun _ _ _ => False) e s' → False) :
    PySem.W.WalkO q loose XP YP l.row.toRowW d [] (fun f vs => PySem.call f vs) := by
  refine Att.attach_call hn hdf ?_
  intro w s₀ s₁ mg mb fa o pm cd doc a vs ns G Y ho hd hcd hmg hobj hints hlen hg
  have KX := hY w _ Y
  obtain ⟨fd, hb, hF⟩ := F w mg fa _ KX G.T.g hmg
  exact law_callG KX G.T.g G.T.b G.T.builtins G.T.nolimit hg hobj hints (Nat.le_trans hlen hn2) hr hF hb (fun H h => hsp w H a ns hlen h) (fun H h1 h2 => hspK w H a ns hlen h1 h2) (fun H e s' => hCX w H s₁ e s')
end Mn

/-! Mn3: expressions. -/
namespace Mn
open PySem PySem.Spec PyProof.Rows L2

/-- what a body's context always has -/
structure Cf (X : Cx) : Prop where
  calm : X.calm = true
  gd : X.A.guards = some []
  un : X.A.units + 100 < cLine
  nd : X.N.Nodup

/-! ### the ops by data -/
def mVar (i : Nat) : ME := fun ρ => MX.opt (ρ.getD i none)
def mC (d : Dv) : ME := fun _ => pure d
def mBin (o : Dv → Dv → MX Dv) (a b : ME) : ME := fun ρ => do
  let x ← a ρ
  let y ← b ρ
  o x y
def mUn (o : Dv → MX Dv) (a : ME) : ME := fun ρ => do
  let x ← a ρ
  o x
def mAnd (a b : ME) : ME := fun ρ => do
  let x ← a ρ
  match x with
  | .bl true => b ρ
  | .bl false => pure (.bl false)
  | _ => MX.stuck
def mOr (a b : ME) : ME := fun ρ => do
  let x ← a ρ
  match x with
  | .bl false => b ρ
  | .bl true => pure (.bl true)
  | _ => MX.stuck
def oNot : Dv → MX Dv
  | .bl b => pure (.bl !b)
  | _ => MX.stuck
def mIf (c : DEnv → MX Bool) (a b : ME) : ME := fun ρ => do
  let k ← c ρ
  if k then a ρ else b ρ
def msNil : DEnv → MX (List Dv) := fun _ => pure []
def msCons (a : ME) (r : DEnv → MX (List Dv)) : DEnv → MX (List Dv) := fun ρ => do
  let x ← a ρ
  let xs ← r ρ
  pure (x :: xs)
def mkTup (ds : List Dv) : MX Dv := fun _ θ Q => ds.length ≤ sizeLine ∧ Q (.tup ds) θ
def mkLst (ds : List Dv) : MX Dv := fun _ θ Q => ds.length ≤ sizeLine ∧ Q (.obj θ.length) (θ ++ [.lst ds])
def mTup (r : DEnv → MX (List Dv)) : ME := fun ρ => do mkTup (← r ρ)
def mLst (r : DEnv → MX (List Dv)) : ME := fun ρ => do mkLst (← r ρ)
/-- tests -/
def asBool : Dv → MX Bool
  | .bl b => pure b
  | _ => MX.stuck
def bB (a : ME) : DEnv → MX Bool := fun ρ => do asBool (← a ρ)
def bAnd (a b : DEnv → MX Bool) : DEnv → MX Bool := fun ρ => do
  let x ← a ρ
  if x then b ρ else pure false
def bOr (a b : DEnv → MX Bool) : DEnv → MX Bool := fun ρ => do
  let x ← a ρ
  if x then pure true else b ρ
def bNot (a : DEnv → MX Bool) : DEnv → MX Bool := fun ρ => do
  let x ← a ρ
  pure !x
/-- a value's truth -/
def truth : Dv → MX Bool
  | .bl b => pure b
  | .non => pure false
  | .int i => pure (i != 0)
  | .str z => fun _ θ Q => z.length ≤ sizeLine ∧ Q ((z.length : Int) != 0) θ
  | .tup ds => pure (!ds.isEmpty)
  | .obj k => fun _ θ Q => match θ[k]? with
    | some (.lst ds) => Q (!ds.isEmpty) θ
    | some (.dK kvs) => Q (!kvs.isEmpty) θ
    | _ => False
  | _ => MX.stuck
def bTru (a : ME) : DEnv → MX Bool := fun ρ => do truth (← a ρ)

/-! ### going up -/
section
variable {K : PySem.W.Frag} {mg : Str → Option Value} {W : Wd K mg} {H : Hp} {α : List Addr} {θ : Th} {Qm : Dv → Th → Prop} {Q : VK}
theorem up_same {d : Dv} {v : V} (u : Up K H α Qm Q) (a : At W H α θ) (q : Qm d θ) (r : Rp K H α d v) : Q v H := u d θ α H v q a.ok Nx.refl r
theorem up_tup {ds : List Dv} {vs : List V} (u : Up K H α Qm Q) (a : At W H α θ) (q : Qm (.tup ds) θ) (r : Rps K H α ds vs) : ∀ p, H p = none → Q (.ref p) (upd H p (.tup vs)) := fun p hp =>
  u (.tup ds) θ α _ (.ref p) q (a.ok.new0 hp) (Nx.new0 hp) (by
    unfold Rp
    exact ⟨p, vs, rfl, upd_same, r.mono (Nx.new0 hp)⟩)
theorem up_lst {ds : List Dv} {vs : List V} (u : Up K H α Qm Q) (a : At W H α θ) (q : Qm (.obj θ.length) (θ ++ [.lst ds])) (r : Rps K H α ds vs) : ∀ p, H p = none → Q (.ref p) (upd H p (.lst vs)) := fun p hp =>
  u (.obj θ.length) _ (α ++ [p]) _ (.ref p) q (a.ok.new hp ⟨vs, upd_same, r.mono (Nx.new hp _)⟩) (Nx.new hp _) (by
    unfold Rp
    refine ⟨p, ?_, rfl⟩
    rw [← a.ok.len]
    simp)
theorem At.lst (a : At W H α θ) {k : Nat} {ds : List Dv} {x : V} (e : θ[k]? = some (.lst ds)) (r : Rp K H α (.obj k) x) : ∃ p vs, x = .ref p ∧ α[k]? = some p ∧ H p = some (.lst vs) ∧ Rps K H α ds vs := by
  unfold Rp at r
  obtain ⟨p, e1, rfl⟩ := r
  obtain ⟨vs, h1, h2⟩ := a.ok.ob k p _ e1 e
  exact ⟨p, vs, rfl, e1, h1, h2⟩
theorem up_chg {k : Nat} {p : Addr} {o : HO} {ob u₀ : Ob} {d : Dv} {v : V} (u : Up K H α Qm Q) (a : At W H α θ) (e1 : α[k]? = some p) (e2 : θ[k]? = some u₀) (ro : ObR K (upd H p o) α p ob) (q : Qm d (θ.set k ob)) (r : Rp K (upd H p o) α d v) (lv : u₀.live = true := by rfl) : Q v (upd H p o) :=
  u d _ α _ v q (a.ok.chg e1 e2 ro lv) (Nx.chg (a.ok.ob k p u₀ e1 e2) lv) r
theorem rp_tup {ds : List Dv} {x : V} (r : Rp K H α (.tup ds) x) : ∃ p vs, x = .ref p ∧ H p = some (.tup vs) ∧ Rps K H α ds vs := by
  unfold Rp at r
  exact r
theorem rp_int {i : Int} : Rp K H α (.int i) (.int i) := by unfold Rp; rfl
theorem rp_bl {i : Bool} : Rp K H α (.bl i) (.bl i) := by unfold Rp; rfl
theorem rp_str {i : Str} : Rp K H α (.str i) (.str i) := by unfold Rp; rfl
theorem rp_non : Rp K H α .non .non := by unfold Rp; rfl
theorem rp_obj {k : Nat} {p : Addr} (e : α[k]? = some p) : Rp K H α (.obj k) (.ref p) := by unfold Rp; exact ⟨p, e, rfl⟩
theorem of_int {i : Int} {x : V} (r : Rp K H α (.int i) x) : x = .int i := by unfold Rp at r; exact r
theorem of_bl {i : Bool} {x : V} (r : Rp K H α (.bl i) x) : x = .bl i := by unfold Rp at r; exact r
theorem of_str {i : Str} {x : V} (r : Rp K H α (.str i) x) : x = .str i := by unfold Rp at r; exact r
theorem of_non {x : V} (r : Rp K H α .non x) : x = .non := by unfold Rp at r; exact r
end

section
variable {X : Cx} {W : Wd X.K X.mg} {a b c : Expr} {ma mb mc : ME} {ba bb : DEnv → MX Bool} {pos : Pos}
theorem tm_in {m : ME} {σ : L2.St} {H : Hp} {Q : VK} {ρ : DEnv} {α : List Addr} {θ : Th} {Qm : Dv → Th → Prop} (at' : At W H α θ) (rs : RS X.K H α σ ρ) (q : m ρ W.En θ Qm) (u : Up X.K H α Qm Q) : tM W m σ H Q := ⟨ρ, α, θ, Qm, at', rs, q, u⟩
theorem pm_var {i : Nat} {x : Str} (h : PE X (.Name x pos) (tVar i)) : PE X (.Name x pos) (tM W (mVar i)) := pe_w h fun σ H Q ⟨ρ, α, θ, Qm, at', rs, q, u⟩ => by
  have q' : (MX.opt (ρ.getD i none) : MX Dv) W.En θ Qm := q
  cases e : ρ.getD i none with
  | none => rw [e] at q'; exact False.elim q'
  | some d =>
    rw [e] at q'
    have e' : ρ[i]? = some (some d) := by
      rw [List.getD_eq_getElem?_getD] at e
      cases z : ρ[i]? with
      | none => rw [z] at e; cases e
      | some o => rw [z] at e; rw [show o = some d from e]
    obtain ⟨v, h1, h2⟩ := rs.2 i d e'
    exact ⟨v, h1, up_same u at' q' h2⟩
theorem pm_const {e : Expr} {d : Dv} {v : V} (h : PE X e (tC v)) (r : ∀ H α, Rp X.K H α d v) : PE X e (tM W (mC d)) := pe_w h fun σ H Q ⟨ρ, α, θ, Qm, at', rs, q, u⟩ => up_same (Q := Q) u at' q (r H α)
theorem pm_int {i : Int} {j : Nat} : PE X (.Constant (.int i) j pos) (tM W (mC (.int i))) := pm_const pe_int fun _ _ => rp_int
theorem pm_bl {i : Bool} {j : Nat} : PE X (.Constant (.bool i) j pos) (tM W (mC (.bl i))) := pm_const pe_bl fun _ _ => rp_bl
theorem pm_str {i : Str} {j : Nat} : PE X (.Constant (.str i) j pos) (tM W (mC (.str i))) := pm_const pe_str fun _ _ => rp_str
theorem pm_non {j : Nat} : PE X (.Constant .none j pos) (tM W (mC .non)) := pm_const pe_non fun _ _ => rp_non
/-- a constant of the module -/
theorem pm_glob {x : Str} {d : Dv} {v : V} {u : Value} (hg : Gl X x) (hm : X.mg x = some u) (r : RelV v u) (r2 : ∀ H α, Rp X.K H α d v) (hd : (x == ("__debug__" : Str)) = false := by decide) : PE X (.Name x pos) (tM W (mC d)) := pm_const (pe_glob hg hm r hd) r2

def rM2 (W : Wd X.K X.mg) (o : Dv → Dv → MX Dv) : R2 := fun x y H Q => ∃ α θ dx dy Qm, At W H α θ ∧ Rp X.K H α dx x ∧ Rp X.K H α dy y ∧ o dx dy W.En θ Qm ∧ Up X.K H α Qm Q
def OpM (W : Wd X.K X.mg) (f : Value → Value → Sem Value) (o : Dv → Dv → MX Dv) : Prop := OpR X f (rM2 W o)
theorem OpR.w {f : Value → Value → Sem Value} {r r' : R2} (h : OpR X f r) (w : ∀ x y H Q, r' x y H Q → r x y H Q) : OpR X f r' := fun pins s σ H x y v u Q I rx ry q => h pins s σ H x y v u Q I rx ry (w x y H Q q)
theorem OpR.or {f : Value → Value → Sem Value} {r r' : R2} (h : OpR X f r) (h' : OpR X f r') : OpR X f (fun x y H Q => r x y H Q ∨ r' x y H Q) := fun pins s σ H x y v u Q I rx ry q => q.elim (fun q => h pins s σ H x y v u Q I rx ry q) (fun q => h' pins s σ H x y v u Q I rx ry q)
theorem opm_of {f : Value → Value → Sem Value} {r : R2} {o : Dv → Dv → MX Dv} (h : OpR X f r) (w : ∀ {H : Hp} {α : List Addr} {θ : Th} {dx dy : Dv} {x y : V} {Qm : Dv → Th → Prop} {Q : VK}, At W H α θ → Rp X.K H α dx x → Rp X.K H α dy y → o dx dy W.En θ Qm → Up X.K H α Qm Q → r x y H Q) : OpM W f o :=
  OpR.w h fun x y H Q ⟨_, _, _, _, _, h1, h2, h3, h4, h5⟩ => w h1 h2 h3 h4 h5
theorem tm_bin {o : Dv → Dv → MX Dv} (σ : L2.St) (H : Hp) (Q : VK) : tM W (mBin o ma mb) σ H Q → tOp (rM2 W o) (tM W ma) (tM W mb) σ H Q := fun ⟨ρ, α, θ, Qm, at', rs, q, u⟩ =>
  ⟨ρ, α, θ, _, at', rs, q, fun d θ1 α1 H1 v q1 ok1 nx1 r1 => ⟨ρ, α1, θ1, _, ⟨ok1, at'.nx.trans nx1⟩, rs.mono nx1, q1, fun d2 θ2 α2 H2 v2 q2 ok2 nx2 r2 =>
    ⟨α2, θ2, d, d2, Qm, ⟨ok2, (at'.nx.trans nx1).trans nx2⟩, r1.mono nx2, r2, q2, u.mono (nx1.trans nx2)⟩⟩⟩
theorem pm_bin {op : Operator} {o : Dv → Dv → MX Dv} (ho : OpM W (binaryOp op) o) (ha : PE X a (tM W ma)) (hb : PE X b (tM W mb)) : PE X (.BinOp a op b pos) (tM W (mBin o ma mb)) := pe_w (pe_op ho ha hb) tm_bin
theorem pm_cmp {op : CmpOp} {o : Dv → Dv → MX Dv} (ho : OpM W (compareOp op) o) (ha : PE X a (tM W ma)) (hb : PE X b (tM W mb)) (hm : behindInMarks op b = false) : PE X (.Compare a [op] [b] pos) (tM W (mBin o ma mb)) := pe_w (pe_cmpR ho ha hb hm) tm_bin
/-- a < b < c -/
def mChain (o o' : Dv → Dv → MX Dv) (a b c : ME) : ME := fun ρ => do
  let x ← a ρ
  let y ← b ρ
  let k ← o x y
  match k with
  | .bl true => do
    let z ← c ρ
    o' y z
  | .bl false => pure (.bl false)
  | _ => MX.stuck
/-! one place -/
def rM1 (W : Wd X.K X.mg) (o : Dv → MX Dv) : V → Hp → VK → Prop := fun x H Q => ∃ α θ dx Qm, At W H α θ ∧ Rp X.K H α dx x ∧ o dx W.En θ Qm ∧ Up X.K H α Qm Q
def UnM (W : Wd X.K X.mg) (f : Value → Sem Value) (o : Dv → MX Dv) : Prop := UnR X f (rM1 W o)
theorem unm_of {f : Value → Sem Value} {r : V → Hp → VK → Prop} {o : Dv → MX Dv} (h : UnR X f r) (w : ∀ {H : Hp} {α : List Addr} {θ : Th} {dx : Dv} {x : V} {Qm : Dv → Th → Prop} {Q : VK}, At W H α θ → Rp X.K H α dx x → o dx W.En θ Qm → Up X.K H α Qm Q → r x H Q) : UnM W f o :=
  fun pins s σ H x v Q I rx ⟨_, _, _, _, h1, h2, h3, h4⟩ => h pins s σ H x v Q I rx (w h1 h2 h3 h4)
theorem tm_un {o : Dv → MX Dv} (σ : L2.St) (H : Hp) (Q : VK) : tM W (mUn o ma) σ H Q → tUn (rM1 W o) (tM W ma) σ H Q := fun ⟨ρ, α, θ, Qm, at', rs, q, u⟩ =>
  ⟨ρ, α, θ, _, at', rs, q, fun d θ1 α1 H1 v q1 ok1 nx1 r1 => ⟨α1, θ1, d, Qm, ⟨ok1, at'.nx.trans nx1⟩, r1, q1, u.mono nx1⟩⟩
theorem pm_un {op : UnaryOp} {o : Dv → MX Dv} (ho : UnM W (unaryOp op) o) (ha : PE X a (tM W ma)) : PE X (.UnaryOp op a pos) (tM W (mUn o ma)) := pe_w (pe_un ho ha) tm_un
/-! and, or, not -/
theorem pm_one {op : BoolOp} (h : PE X a (tM W ma)) : PE X (.BoolOp op [a] pos) (tM W ma) := pe_one h
theorem pm_and {rest : List Expr} (ha : PE X a (tM W ma)) (hb : PE X (.BoolOp .And (b :: rest) pos) (tM W mb)) : PE X (.BoolOp .And (a :: b :: rest) pos) (tM W (mAnd ma mb)) :=
  pe_w (pe_and ha hb) fun σ H Q ⟨ρ, α, θ, Qm, at', rs, q, u⟩ => ⟨ρ, α, θ, _, at', rs, q, fun d θ1 α1 H1 v q1 ok1 nx1 r1 => by
    have a1 : At W H1 α1 θ1 := ⟨ok1, at'.nx.trans nx1⟩
    cases d with
    | bl k =>
      cases of_bl r1
      cases k with
      | true => exact ⟨true, rfl, iteT ⟨ρ, α1, θ1, _, a1, rs.mono nx1, q1, u.mono nx1⟩⟩
      | false => exact ⟨false, rfl, iteF (up_same (u.mono nx1) a1 q1 rp_bl)⟩
    | _ => exact False.elim q1⟩
theorem pm_or {rest : List Expr} (ha : PE X a (tM W ma)) (hb : PE X (.BoolOp .Or (b :: rest) pos) (tM W mb)) : PE X (.BoolOp .Or (a :: b :: rest) pos) (tM W (mOr ma mb)) :=
  pe_w (pe_or ha hb) fun σ H Q ⟨ρ, α, θ, Qm, at', rs, q, u⟩ => ⟨ρ, α, θ, _, at', rs, q, fun d θ1 α1 H1 v q1 ok1 nx1 r1 => by
    have a1 : At W H1 α1 θ1 := ⟨ok1, at'.nx.trans nx1⟩
    cases d with
    | bl k =>
      cases of_bl r1
      cases k with
      | false => exact ⟨false, rfl, iteF ⟨ρ, α1, θ1, _, a1, rs.mono nx1, q1, u.mono nx1⟩⟩
      | true => exact ⟨true, rfl, iteT (up_same (u.mono nx1) a1 q1 rp_bl)⟩
    | _ => exact False.elim q1⟩
theorem pm_not (ha : PE X a (tM W ma)) : PE X (.UnaryOp .Not a pos) (tM W (mUn oNot ma)) :=
  pe_w (pe_not ha) fun σ H Q ⟨ρ, α, θ, Qm, at', rs, q, u⟩ => ⟨ρ, α, θ, _, at', rs, q, fun d θ1 α1 H1 v q1 ok1 nx1 r1 => by
    cases d with
    | bl k =>
      cases of_bl r1
      exact ⟨k, rfl, up_same (W := W) (u.mono nx1) ⟨ok1, at'.nx.trans nx1⟩ q1 rp_bl⟩
    | _ => exact False.elim q1⟩
/-! tests -/
theorem tb_of (σ : L2.St) (H : Hp) (Q : Bool → Hp → Prop) : tMb W (bB ma) σ H Q → tB (tM W ma) σ H Q := fun ⟨ρ, α, θ, Qm, at', rs, q, u⟩ =>
  ⟨ρ, α, θ, _, at', rs, q, fun d θ1 α1 H1 v q1 ok1 nx1 r1 => by
    cases d with
    | bl k =>
      cases of_bl r1
      exact ⟨k, rfl, u k θ1 α1 H1 q1 ok1 nx1⟩
    | _ => exact False.elim q1⟩
theorem bm_val (h : PE X a (tM W ma)) (he : ∀ whole, isTrue a X.env whole = (do let v ← whole; standAt a.pos; holding [v] (truthy v)) := by intro _; rfl) : PT X a (tMb W (bB ma)) := pt_w (pt_val h he) tb_of
theorem bm_cmp {op : CmpOp} {o : Dv → Dv → MX Dv} (ho : OpM W (compareOp op) o) (ha : PE X a (tM W ma)) (hb : PE X b (tM W mb)) (hm : behindInMarks op b = false) : PT X (.Compare a [op] [b] pos) (tMb W (bB (mBin o ma mb))) :=
  pt_w (pt_cmpR ho ha hb hm) fun σ H Q ⟨ρ, α, θ, Qm, at', rs, q, u⟩ => tm_bin σ H _ ⟨ρ, α, θ, _, at', rs, q, fun d θ1 α1 H1 v q1 ok1 nx1 r1 => by
    cases d with
    | bl k =>
      cases of_bl r1
      exact ⟨k, rfl, u k θ1 α1 H1 q1 ok1 nx1⟩
    | _ => exact False.elim q1⟩
theorem bm_tru (h : PE X a (tM W ma)) (he : ∀ whole, isTrue a X.env whole = (do let v ← whole; standAt a.pos; holding [v] (truthy v)) := by intro _; rfl) : PT X a (tMb W (bTru ma)) :=
  pt_w (pt_truth h he) fun σ H Q ⟨ρ, α, θ, Qm, at', rs, q, u⟩ => ⟨ρ, α, θ, _, at', rs, q, fun d θ1 α1 H1 v q1 ok1 nx1 r1 => by
    cases d with
    | bl k => cases of_bl r1; exact ⟨k, rfl, u _ θ1 α1 H1 q1 ok1 nx1⟩
    | non => cases of_non r1; exact ⟨false, rfl, u _ θ1 α1 H1 q1 ok1 nx1⟩
    | int i => cases of_int r1; exact ⟨_, rfl, u _ θ1 α1 H1 q1 ok1 nx1⟩
    | str z => cases of_str r1; exact ⟨_, ⟨q1.1, rfl⟩, u _ θ1 α1 H1 q1.2 ok1 nx1⟩
    | tup ds =>
      obtain ⟨p, vs, rfl, h1, h2⟩ := rp_tup r1
      refine ⟨!vs.isEmpty, Or.inr (Or.inl ⟨vs, Or.inl (Or.inl h1), rfl⟩), u _ θ1 α1 H1 ?_ ok1 nx1⟩
      have e : vs.isEmpty = ds.isEmpty := by
        have := h2.length
        cases vs <;> cases ds <;> simp_all
      rw [e]
      exact q1
    | obj k =>
      have q2 : (match θ1[k]? with
        | some (.lst ds) => Qm (!ds.isEmpty) θ1
        | some (.dK kvs) => Qm (!kvs.isEmpty) θ1
        | _ => False) := q1
      split at q2
      · rename_i ds e
        obtain ⟨p, vs, rfl, _, h1, h2⟩ := At.lst (W := W) ⟨ok1, at'.nx.trans nx1⟩ e r1
        refine ⟨!vs.isEmpty, Or.inl ⟨vs, Or.inl (Or.inl h1), rfl⟩, u _ θ1 α1 H1 ?_ ok1 nx1⟩
        have e : vs.isEmpty = ds.isEmpty := by
          have := h2.length
          cases vs <;> cases ds <;> simp_all
        rw [e]
        exact q2
      · rename_i kvs e
        unfold Rp at r1
        obtain ⟨p, e1, rfl⟩ := r1
        obtain ⟨vs, h1, h2⟩ := ok1.ob k p _ e1 e
        refine ⟨!vs.isEmpty, Or.inr (Or.inr ⟨vs, h1, rfl⟩), u _ θ1 α1 H1 ?_ ok1 nx1⟩
        have e : vs.isEmpty = kvs.isEmpty := by
          cases kvs with
          | nil => unfold RpK at h2; subst h2; rfl
          | cons kv r => obtain ⟨k, d⟩ := kv; unfold RpK at h2; obtain ⟨v, r, rfl, _⟩ := h2; rfl
        rw [e]
        exact q2
      · exact q2.elim
    | _ => exact False.elim q1⟩
theorem bm_and1 (h : PT X a (tMb W ba)) : PW X (.BoolOp .And [a] pos) (tMb W ba) := pw_and1 h
theorem bm_or1 (h : PT X a (tMb W ba)) : PW X (.BoolOp .Or [a] pos) (tMb W ba) := pw_or1 h
theorem bm_and {rest : List Expr} (ha : PT X a (tMb W ba)) (hb : PW X (.BoolOp .And (b :: rest) pos) (tMb W bb)) : PW X (.BoolOp .And (a :: b :: rest) pos) (tMb W (bAnd ba bb)) :=
  pw_w (pw_and ha hb) fun σ H Q ⟨ρ, α, θ, Qm, at', rs, q, u⟩ => ⟨ρ, α, θ, _, at', rs, q, fun k θ1 α1 H1 q1 ok1 nx1 => by
    cases k with
    | true => exact iteT ⟨ρ, α1, θ1, Qm, ⟨ok1, at'.nx.trans nx1⟩, rs.mono nx1, q1, fun b2 θ2 α2 H2 q2 ok2 nx2 => u b2 θ2 α2 H2 q2 ok2 (nx1.trans nx2)⟩
    | false => exact iteF (u false θ1 α1 H1 q1 ok1 nx1)⟩
theorem bm_or {rest : List Expr} (ha : PT X a (tMb W ba)) (hb : PW X (.BoolOp .Or (b :: rest) pos) (tMb W bb)) : PW X (.BoolOp .Or (a :: b :: rest) pos) (tMb W (bOr ba bb)) :=
  pw_w (pw_or ha hb) fun σ H Q ⟨ρ, α, θ, Qm, at', rs, q, u⟩ => ⟨ρ, α, θ, _, at', rs, q, fun k θ1 α1 H1 q1 ok1 nx1 => by
    cases k with
    | false => exact iteF ⟨ρ, α1, θ1, Qm, ⟨ok1, at'.nx.trans nx1⟩, rs.mono nx1, q1, fun b2 θ2 α2 H2 q2 ok2 nx2 => u b2 θ2 α2 H2 q2 ok2 (nx1.trans nx2)⟩
    | true => exact iteT (u true θ1 α1 H1 q1 ok1 nx1)⟩
theorem bm_not (ha : PT X a (tMb W ba)) : PT X (.UnaryOp .Not a pos) (tMb W (bNot ba)) := pt_w (pt_not ha) fun σ H Q ⟨ρ, α, θ, Qm, at', rs, q, u⟩ => ⟨ρ, α, θ, _, at', rs, q, fun k θ1 α1 H1 q1 ok1 nx1 => u (!k) θ1 α1 H1 q1 ok1 nx1⟩
theorem pm_if (hc : PT X c (tMb W ba)) (ha : PE X a (tM W ma)) (hb : PE X b (tM W mb)) : PE X (.IfExp c a b pos) (tM W (mIf ba ma mb)) :=
  pe_w (pe_ifExp hc ha hb) fun σ H Q ⟨ρ, α, θ, Qm, at', rs, q, u⟩ => ⟨ρ, α, θ, _, at', rs, q, fun k θ1 α1 H1 q1 ok1 nx1 => by
    cases k with
    | true => exact iteT ⟨ρ, α1, θ1, Qm, ⟨ok1, at'.nx.trans nx1⟩, rs.mono nx1, q1, u.mono nx1⟩
    | false => exact iteF ⟨ρ, α1, θ1, Qm, ⟨ok1, at'.nx.trans nx1⟩, rs.mono nx1, q1, u.mono nx1⟩⟩
/-! arguments, displays -/
theorem am_nil : PA X [] (tMs W msNil) := pa_w pa_nil fun σ H Q ⟨ρ, α, θ, Qm, at', rs, q, u⟩ => u [] θ α H [] q at'.ok Nx.refl Rps.nil
theorem am_cons {es : List Expr} {ms : DEnv → MX (List Dv)} (ha : PE X a (tM W ma)) (hr : PA X es (tMs W ms)) (hs : starEach (a :: es) X.env = (false, eval a X.env) :: starEach es X.env := by rfl) : PA X (a :: es) (tMs W (msCons ma ms)) :=
  pa_w (pa_cons ha hr hs) fun σ H Q ⟨ρ, α, θ, Qm, at', rs, q, u⟩ => ⟨ρ, α, θ, _, at', rs, q, fun d θ1 α1 H1 v q1 ok1 nx1 r1 => ⟨ρ, α1, θ1, _, ⟨ok1, at'.nx.trans nx1⟩, rs.mono nx1, q1, fun ds θ2 α2 H2 vs q2 ok2 nx2 r2 =>
    u _ θ2 α2 H2 _ q2 ok2 (nx1.trans nx2) (Rps.cons (r1.mono nx2) r2)⟩⟩
theorem pm_tup {es : List Expr} {ms : DEnv → MX (List Dv)} {k : Nat} (h : PA X es (tMs W ms)) : PE X (.Tuple es k pos) (tM W (mTup ms)) :=
  pe_w (pe_tup h) fun σ H Q ⟨ρ, α, θ, Qm, at', rs, q, u⟩ => ⟨ρ, α, θ, _, at', rs, q, fun ds θ1 α1 H1 vs q1 ok1 nx1 r1 =>
    ⟨by rw [r1.length]; exact q1.1, up_tup (W := W) (u.mono nx1) ⟨ok1, at'.nx.trans nx1⟩ q1.2 r1⟩⟩
theorem pm_lst {es : List Expr} {ms : DEnv → MX (List Dv)} (h : PA X es (tMs W ms)) : PE X (.List es pos) (tM W (mLst ms)) :=
  pe_w (pe_lst h) fun σ H Q ⟨ρ, α, θ, Qm, at', rs, q, u⟩ => ⟨ρ, α, θ, _, at', rs, q, fun ds θ1 α1 H1 vs q1 ok1 nx1 r1 =>
    ⟨by rw [r1.length]; exact q1.1, up_lst (W := W) (u.mono nx1) ⟨ok1, at'.nx.trans nx1⟩ q1.2 r1⟩⟩
end
end Mn

/-! Mn4: operations on data. -/
namespace Mn
open PySem PySem.Spec PyProof.Rows L2

def allSome {β γ : Type} (f : β → Option γ) : List β → Option (List γ)
  | [] => some []
  | d :: r => match f d, allSome f r with
    | some x, some xs => some (x :: xs)
    | _, _ => none
/-- a datum as data all through, lists read in the store -/
def toPy (θ : Th) : Nat → Dv → Option PyData
  | _, .non => some .none
  | _, .bl b => some (.bool b)
  | _, .int i => some (.int i)
  | _, .str s => some (.str s)
  | n + 1, .tup ds => (allSome (toPy θ n) ds).map .tuple
  | n + 1, .obj k => match θ[k]? with
    | some (.lst ds) => (allSome (toPy θ n) ds).map .list
    | _ => none
  | _, _ => none
section
variable {K : PySem.W.Frag} {H : Hp} {α : List Addr} {θ : Th}
theorem dpAll_of {f : Dv → Option PyData} (h : ∀ d v e, f d = some e → Rp K H α d v → Dp K H v e) : ∀ {ds : List Dv} {vs : List V} {es : List PyData}, allSome f ds = some es → Rps K H α ds vs → DpAll K H vs es
  | [], _, _, e, r => by
    unfold Rps at r
    subst r
    cases e
    exact .nil
  | d :: ds, _, es, e, r => by
    unfold Rps at r
    obtain ⟨v, us, rfl, h1, h2⟩ := r
    unfold allSome at e
    split at e
    · rename_i x xs e1 e2
      cases e
      exact .cons (h d v x e1 h1) (dpAll_of h e2 h2)
    · cases e
theorem toPy_dp (ok : Okk K H α θ) : ∀ (n : Nat) (d : Dv) (v : V) (e : PyData), toPy θ n d = some e → Rp K H α d v → Dp K H v e := by
  intro n
  induction n with
  | zero =>
    intro d v e h r
    cases d with
    | non => cases of_non r; simp [toPy] at h; subst h; exact .non
    | bl b => cases of_bl r; simp [toPy] at h; subst h; exact .bl b
    | int b => cases of_int r; simp [toPy] at h; subst h; exact .int b
    | str b => cases of_str r; simp [toPy] at h; subst h; exact .str b
    | _ => simp [toPy] at h
  | succ n ih =>
    intro d v e h r
    cases d with
    | non => cases of_non r; simp [toPy] at h; subst h; exact .non
    | bl b => cases of_bl r; simp [toPy] at h; subst h; exact .bl b
    | int b => cases of_int r; simp [toPy] at h; subst h; exact .int b
    | str b => cases of_str r; simp [toPy] at h; subst h; exact .str b
    | tup ds =>
      obtain ⟨p, vs, rfl, h1, h2⟩ := rp_tup r
      unfold toPy at h
      obtain ⟨es, h3, rfl⟩ := Option.map_eq_some_iff.mp h
      exact .tup (SqT.of h1) (dpAll_of (fun d v e => ih d v e) h3 h2)
    | obj k =>
      unfold toPy at h
      unfold Rp at r
      obtain ⟨p, e1, rfl⟩ := r
      split at h
      · rename_i ds e2
        obtain ⟨es, h3, rfl⟩ := Option.map_eq_some_iff.mp h
        obtain ⟨vs, h1, h2⟩ := ok.ob k p _ e1 e2
        exact .lst (SqL.of h1) (dpAll_of (fun d v e => ih d v e) h3 h2)
      · cases h
    | _ => simp [toPy] at h
end

def isFlat : Dv → Bool
  | .non | .bl _ | .int _ | .str _ => true
  | _ => false
/-- keys -/
def fKey : Dv → Option Key
  | .int i => some (.inl i)
  | .str s => some (.inr s)
  | _ => none
def tKey : Dv → Option (List Key)
  | .tup ds => allSome fKey ds
  | _ => none
section
variable {κ : Type} [DecidableEq κ]
def lookD (kvs : List (κ × Dv)) (k : κ) : Option Dv := (kvs.find? fun kv => decide (kv.1 = k)).map (·.2)
def putD (kvs : List (κ × Dv)) (k : κ) (v : Dv) : List (κ × Dv) :=
  if (kvs.any fun kv => decide (kv.1 = k)) = true then kvs.map (fun kv => if kv.1 = k then (kv.1, v) else kv) else kvs ++ [(k, v)]
variable {K : PySem.W.Frag} {H : Hp} {α : List Addr} {θ : Th}
theorem RpK.look : ∀ {ds : List (κ × Dv)} {vs : List (κ × V)} (k : κ), RpK K H α ds vs →
    match lookD ds k with
    | none => valV vs k = none
    | some d => ∃ v, valV vs k = some v ∧ Rp K H α d v
  | [], _, k, h => by unfold RpK at h; subst h; rfl
  | (j, d) :: ds, _, k, h => by
    unfold RpK at h
    obtain ⟨v, r, rfl, h1, h2⟩ := h
    by_cases e : j = k
    · have e1 : lookD ((j, d) :: ds) k = some d := by simp [lookD, List.find?_cons, e]
      rw [e1]
      exact ⟨v, by simp [valV, List.find?_cons, e], h1⟩
    · have e1 : lookD ((j, d) :: ds) k = lookD ds k := by simp [lookD, List.find?_cons, e]
      have e2 : valV ((j, v) :: r) k = valV r k := by simp [valV, List.find?_cons, e]
      rw [e1, e2]
      exact RpK.look k h2
theorem RpK.any : ∀ {ds : List (κ × Dv)} {vs : List (κ × V)} (k : κ), RpK K H α ds vs → (vs.any fun kv => decide (kv.1 = k)) = (ds.any fun kv => decide (kv.1 = k))
  | [], _, k, h => by unfold RpK at h; subst h; rfl
  | (j, d) :: ds, _, k, h => by
    unfold RpK at h
    obtain ⟨v, r, rfl, h1, h2⟩ := h
    simp only [List.any_cons, RpK.any k h2]
theorem RpK.repl {d : Dv} {v : V} (q : Rp K H α d v) (k : κ) : ∀ {ds : List (κ × Dv)} {vs : List (κ × V)}, RpK K H α ds vs → RpK K H α (ds.map fun kv => if kv.1 = k then (kv.1, d) else kv) (vs.map fun kv => if kv.1 = k then (kv.1, v) else kv)
  | [], _, h => by unfold RpK at h; subst h; unfold RpK; rfl
  | (j, e) :: ds, _, h => by
    unfold RpK at h
    obtain ⟨u, r, rfl, h1, h2⟩ := h
    simp only [List.map_cons]
    by_cases z : j = k
    · rw [if_pos z, if_pos z]
      unfold RpK
      exact ⟨v, _, rfl, q, RpK.repl q k h2⟩
    · rw [if_neg z, if_neg z]
      unfold RpK
      exact ⟨u, _, rfl, h1, RpK.repl q k h2⟩
theorem RpK.app : ∀ {ds es : List (κ × Dv)} {vs us : List (κ × V)}, RpK K H α ds vs → RpK K H α es us → RpK K H α (ds ++ es) (vs ++ us)
  | [], _, _, _, h, r => by unfold RpK at h; subst h; exact r
  | (j, e) :: ds, _, _, _, h, r => by
    unfold RpK at h
    obtain ⟨u, q, rfl, h1, h2⟩ := h
    rw [List.cons_append, List.cons_append]
    unfold RpK
    exact ⟨u, _, rfl, h1, RpK.app h2 r⟩
theorem RpK.put {ds : List (κ × Dv)} {vs : List (κ × V)} {d : Dv} {v : V} (k : κ) (q : Rp K H α d v) (h : RpK K H α ds vs) : RpK K H α (putD ds k d) (putK vs k v) := by
  unfold putD putK
  rw [RpK.any k h]
  split
  · exact RpK.repl q k h
  · refine RpK.app h ?_
    unfold RpK
    exact ⟨v, [], rfl, q, by unfold RpK; rfl⟩
theorem RpK.length : ∀ {ds : List (κ × Dv)} {vs : List (κ × V)}, RpK K H α ds vs → vs.length = ds.length
  | [], _, h => by unfold RpK at h; subst h; rfl
  | (j, e) :: ds, _, h => by
    unfold RpK at h
    obtain ⟨u, q, rfl, h1, h2⟩ := h
    simp [RpK.length h2]
end
theorem fKey_v {K : PySem.W.Frag} {H : Hp} {α : List Addr} {d : Dv} {k : Key} {v : V} (e : fKey d = some k) (r : Rp K H α d v) : v = kV k := by
  cases d with
  | int i => cases of_int r; cases e; rfl
  | str i => cases of_str r; cases e; rfl
  | _ => cases e
theorem fKeys_v {K : PySem.W.Frag} {H : Hp} {α : List Addr} : ∀ {ds : List Dv} {ks : List Key} {vs : List V}, allSome fKey ds = some ks → Rps K H α ds vs → vs = ks.map kV
  | [], _, _, e, r => by unfold Rps at r; subst r; cases e; rfl
  | d :: ds, ks, vs, e, r => by
    unfold Rps at r
    obtain ⟨v, us, rfl, h1, h2⟩ := r
    unfold allSome at e
    split at e
    · rename_i x xs e1 e2
      cases e
      rw [List.map_cons, fKey_v e1 h1, fKeys_v e2 h2]
    · cases e
theorem tKey_v {K : PySem.W.Frag} {H : Hp} {α : List Addr} {d : Dv} {k : List Key} {v : V} (e : tKey d = some k) (r : Rp K H α d v) : ∃ b, v = .ref b ∧ H b = some (.tup (k.map kV)) := by
  cases d with
  | tup ds =>
    obtain ⟨p, vs, rfl, h1, h2⟩ := rp_tup r
    have e2 := fKeys_v (show allSome fKey ds = some k from e) h2
    subst e2
    exact ⟨p, rfl, h1⟩
  | _ => cases e

/-! ### arithmetic -/
def ret (d : Dv) : MX Dv := fun _ θ Q => Q d θ
def when' (p : Prop) (d : Dv) : MX Dv := fun _ θ Q => p ∧ Q d θ
def newL (ds : List Dv) : MX Dv := fun _ θ Q => Q (.obj θ.length) (θ ++ [.lst ds])
def oAdd : Dv → Dv → MX Dv
  | .int i, .int j => ret (.int (i + j))
  | .str a, .str b => when' (a.length + b.length ≤ sizeLine) (.str (a ++ b))
  | .tup a, .tup b => when' (a.length + b.length ≤ sizeLine) (.tup (a ++ b))
  | .obj j, .obj k => fun _ θ Q => match θ[j]?, θ[k]? with
    | some (.lst a), some (.lst b) => a.length + b.length ≤ sizeLine ∧ Q (.obj θ.length) (θ ++ [.lst (a ++ b)])
    | _, _ => False
  | _, _ => MX.stuck
def oAddI : Dv → Dv → MX Dv
  | .int i, .int j => ret (.int (i + j))
  | _, _ => MX.stuck
def oMulI : Dv → Dv → MX Dv
  | .int i, .int j => when' (CMul i j) (.int (i * j))
  | _, _ => MX.stuck
def oSub : Dv → Dv → MX Dv
  | .int i, .int j => ret (.int (i - j))
  | _, _ => MX.stuck
def oMul : Dv → Dv → MX Dv
  | .int i, .int j => when' (CMul i j) (.int (i * j))
  | .obj j, .int k => fun _ θ Q => match θ[j]? with
    | some (.lst a) => -(2 ^ 63) ≤ k ∧ k < 2 ^ 63 ∧ a.length * k.toNat ≤ sizeLine ∧ Q (.obj θ.length) (θ ++ [.lst (List.replicate k.toNat a).flatten])
    | _ => False
  | _, _ => MX.stuck
def oFdiv : Dv → Dv → MX Dv
  | .int i, .int j => when' (CDiv i j) (.int (i / j))
  | _, _ => MX.stuck
def oMod : Dv → Dv → MX Dv
  | .int i, .int j => when' (0 < j) (.int (i % j))
  | _, _ => MX.stuck
def oPow : Dv → Dv → MX Dv
  | .int i, .int j => when' (CPow i j) (.int (i ^ j.toNat))
  | _, _ => MX.stuck
def oShl : Dv → Dv → MX Dv
  | .int i, .int j => when' (CPow i j) (.int (i * 2 ^ j.toNat))
  | _, _ => MX.stuck
def oLt : Dv → Dv → MX Dv
  | .int i, .int j => ret (.bl (decide (i < j)))
  | _, _ => MX.stuck
def oLe : Dv → Dv → MX Dv
  | .int i, .int j => ret (.bl (decide (i ≤ j)))
  | _, _ => MX.stuck
def oGt : Dv → Dv → MX Dv
  | .int i, .int j => ret (.bl (decide (j < i)))
  | _, _ => MX.stuck
def oGe : Dv → Dv → MX Dv
  | .int i, .int j => ret (.bl (decide (j ≤ i)))
  | _, _ => MX.stuck
def eqPy (x y : Dv) (f : Bool → Bool) : MX Dv := fun _ θ Q => match toPy θ 66 x, toPy θ 66 y with
  | some d, some e => SeqAt.shaped d = true ∧ SeqAt.shaped e = true ∧ Q (.bl (f (PyData.eqv d e))) θ
  | _, _ => False
def oEq : Dv → Dv → MX Dv
  | .int i, .int j => ret (.bl (decide (i = j)))
  | .bl i, .bl j => ret (.bl (decide (i = j)))
  | .str i, .str j => ret (.bl (decide (i = j)))
  | x, y => eqPy x y id
def oNe : Dv → Dv → MX Dv
  | .int i, .int j => ret (.bl (!decide (i = j)))
  | .bl i, .bl j => ret (.bl (!decide (i = j)))
  | .str i, .str j => ret (.bl (!decide (i = j)))
  | x, y => eqPy x y not
def isNn : Dv → Bool
  | .non => true
  | _ => false
def oIs : Dv → Dv → MX Dv
  | .bl a, .bl b => ret (.bl (decide (a = b)))
  | x, .non => ret (.bl (isNn x))
  | _, _ => MX.stuck
def oIsNot : Dv → Dv → MX Dv
  | .bl a, .bl b => ret (.bl (!decide (a = b)))
  | x, .non => ret (.bl (!(isNn x)))
  | _, _ => MX.stuck
def oNeg : Dv → MX Dv
  | .int i => ret (.int (-i))
  | _ => MX.stuck
/-- == of flat data -/
def eqF : Dv → Dv → Bool
  | .non, .non => true
  | .bl a, .bl b => a == b
  | .bl a, .int b => (if a then 1 else 0) == b
  | .int a, .bl b => a == (if b then 1 else 0)
  | .int a, .int b => a == b
  | .str a, .str b => a == b
  | _, _ => false
def inF (x : Dv) (ds : List Dv) : Bool := ds.any fun y => eqF y x
def inO (f : Bool → Bool) (x y : Dv) : MX Dv := fun _ θ Q => match y with
  | .tup ds => (isFlat x = true ∧ ds.all isFlat = true) ∧ Q (.bl (f (inF x ds))) θ
  | .obj k => (match θ[k]? with
    | some (.lst ds) => (ds.all isFlat = true ∧ isFlat x = true ∧ Q (.bl (f (inF x ds))) θ) ∨ (match toPy θ 66 x, toPy θ 66 (.obj k) with
      | some d, some (.list es) => SeqAt.shaped d = true ∧ SeqAt.shaped (.list es) = true ∧ Q (.bl (f (es.any fun z => PyData.eqv z d))) θ
      | _, _ => False)
    | some (.dK kvs) => (match fKey x with
      | some q => Q (.bl (f (lookD kvs q).isSome)) θ
      | none => False)
    | some (.dT kvs) => (match tKey x with
      | some q => Q (.bl (f (lookD kvs q).isSome)) θ
      | none => False)
    | _ => False)
  | .str z => (match x with
    | .str w => ∃ c, w = ⟨#[c]⟩ ∧ Q (.bl (f (decide (c ∈ z.cps.toList)))) θ
    | _ => False)
  | _ => False
def oIn := inO id
def oNotIn := inO not
/-- a subscript -/
def optW (o : Option Dv) (θ : Th) (Q : Dv → Th → Prop) : Prop := match o with
  | some d => Q d θ
  | none => False
def oIx (x y : Dv) : MX Dv := fun _ θ Q => match x with
  | .tup ds => (match y with
    | .int i => optW (atI ds i) θ Q
    | _ => False)
  | .scr ns => (match y with
    | .int i => optW ((atI ns i).map Dv.int) θ Q
    | _ => False)
  | .str z => (match y with
    | .int i => z.length ≤ sizeLine ∧ ∃ c, atI z.cps.toList i = some c ∧ Q (.str ⟨#[c]⟩) θ
    | _ => False)
  | .obj k => (match θ[k]? with
    | some (.lst ds) => (match y with
      | .int i => optW (atI ds i) θ Q
      | _ => False)
    | some (.dK kvs) => (match fKey y with
      | some q => optW (lookD kvs q) θ Q
      | none => False)
    | some (.dT kvs) => (match tKey y with
      | some q => optW (lookD kvs q) θ Q
      | none => False)
    | _ => False)
  | _ => False
theorem atI_rps {K : PySem.W.Frag} {H : Hp} {α : List Addr} {ds : List Dv} {vs : List V} {i : Int} {d : Dv} (r : Rps K H α ds vs) (h : atI ds i = some d) : ∃ v, atI vs i = some v ∧ Rp K H α d v := by
  unfold atI at h ⊢
  rw [r.length]
  cases e : ixN ds.length i with
  | none => rw [e] at h; cases h
  | some j =>
    rw [e] at h
    exact r.get h

section
variable {X : Cx} {W : Wd X.K X.mg}
theorem om_add : OpM W (binaryOp .Add) oAdd := opm_of (OpR.or op_add (OpR.or op_add_str (OpR.or op_catA op_cat))) fun {H α θ dx dy x y Qm Q} a r1 r2 q u => by
  cases dx with
  | int i =>
    cases dy with
    | int j => cases of_int r1; cases of_int r2; exact .inl ⟨i, j, rfl, rfl, up_same u a q rp_int⟩
    | _ => exact False.elim q
  | str i =>
    cases dy with
    | str j => cases of_str r1; cases of_str r2; exact .inr (.inl ⟨i, j, rfl, rfl, q.1, up_same u a q.2 rp_str⟩)
    | _ => exact False.elim q
  | tup i =>
    cases dy with
    | tup j =>
      obtain ⟨p, vs, rfl, h1, h2⟩ := rp_tup r1
      obtain ⟨p2, vs2, rfl, h3, h4⟩ := rp_tup r2
      obtain ⟨q1, q2⟩ := q
      refine .inr (.inr (.inl ⟨p, p2, vs, vs2, rfl, rfl, SqT.of h1, SqT.of h3, by rw [h2.length, h4.length]; exact q1, ?_, ?_, ?_⟩))
      · intro e
        subst e
        have : i = [] := by have := h2.length; cases i <;> simp_all
        subst this
        exact up_same u a q2 r2
      · intro _ e
        subst e
        have : j = [] := by have := h4.length; cases j <;> simp_all
        subst this
        rw [List.append_nil] at q2
        exact up_same u a q2 r1
      · intro _ _
        exact up_tup u a q2 (h2.append h4)
    | _ => exact False.elim q
  | obj i =>
    cases dy with
    | obj j =>
      have q' : (match θ[i]?, θ[j]? with
        | some (.lst a), some (.lst b) => a.length + b.length ≤ sizeLine ∧ Qm (.obj θ.length) (θ ++ [.lst (a ++ b)])
        | _, _ => False) := q
      split at q'
      · rename_i l1 l2 e1 e2
        obtain ⟨p, vs, rfl, _, h1, h2⟩ := a.lst e1 r1
        obtain ⟨p2, vs2, rfl, _, h3, h4⟩ := a.lst e2 r2
        exact .inr (.inr (.inr ⟨p, p2, vs, vs2, rfl, rfl, h1, h3, by rw [h2.length, h4.length]; exact q'.1, up_lst u a q'.2 (h2.append h4)⟩))
      · exact q'.elim
    | _ => exact False.elim q
  | _ => cases dy <;> exact False.elim q
theorem om_sub : OpM W (binaryOp .Sub) oSub := opm_of op_sub fun {H α θ dx dy x y Qm Q} a r1 r2 q u => by
  cases dx <;> cases dy <;> first | exact False.elim q | skip
  cases of_int r1; cases of_int r2; exact ⟨_, _, rfl, rfl, up_same u a q rp_int⟩
theorem rep_rps {K : PySem.W.Frag} {H : Hp} {α : List Addr} {ds : List Dv} {vs : List V} (r : Rps K H α ds vs) : ∀ n, Rps K H α (List.replicate n ds).flatten (List.replicate n vs).flatten
  | 0 => by simpa using Rps.nil
  | n + 1 => by
    rw [List.replicate_succ, List.replicate_succ, List.flatten_cons, List.flatten_cons]
    exact r.append (rep_rps r n)
theorem om_mul : OpM W (binaryOp .Mult) oMul := opm_of (OpR.or op_mul op_rep) fun {H α θ dx dy x y Qm Q} a r1 r2 q u => by
  cases dx with
  | int i =>
    cases dy with
    | int j => cases of_int r1; cases of_int r2; exact .inl ⟨i, j, rfl, rfl, q.1, up_same u a q.2 rp_int⟩
    | _ => exact False.elim q
  | obj i =>
    cases dy with
    | int j =>
      cases of_int r2
      have q' : (match θ[i]? with
        | some (.lst a) => -(2 ^ 63) ≤ j ∧ j < 2 ^ 63 ∧ a.length * j.toNat ≤ sizeLine ∧ Qm (.obj θ.length) (θ ++ [.lst (List.replicate j.toNat a).flatten])
        | _ => False) := q
      split at q'
      · rename_i l1 e1
        obtain ⟨p, vs, rfl, _, h1, h2⟩ := a.lst e1 r1
        obtain ⟨q1, q2, q3, q4⟩ := q'
        exact .inr ⟨p, j, vs, rfl, rfl, h1, q1, q2, by rw [h2.length]; exact q3, up_lst u a q4 (rep_rps h2 _)⟩
      · exact q'.elim
    | _ => exact False.elim q
  | _ => cases dy <;> exact False.elim q
theorem om_fdiv : OpM W (binaryOp .FloorDiv) oFdiv := opm_of op_fdiv fun {H α θ dx dy x y Qm Q} a r1 r2 q u => by
  cases dx <;> cases dy <;> first | exact False.elim q | skip
  cases of_int r1; cases of_int r2; exact ⟨_, _, rfl, rfl, q.1, up_same u a q.2 rp_int⟩
theorem om_mod : OpM W (binaryOp .Mod) oMod := opm_of op_mod fun {H α θ dx dy x y Qm Q} a r1 r2 q u => by
  cases dx <;> cases dy <;> first | exact False.elim q | skip
  cases of_int r1; cases of_int r2; exact ⟨_, _, rfl, rfl, q.1, up_same u a q.2 rp_int⟩
theorem om_pow : OpM W (binaryOp .Pow) oPow := opm_of op_pow fun {H α θ dx dy x y Qm Q} a r1 r2 q u => by
  cases dx <;> cases dy <;> first | exact False.elim q | skip
  cases of_int r1; cases of_int r2; exact ⟨_, _, rfl, rfl, q.1, up_same u a q.2 rp_int⟩
theorem om_shl : OpM W (binaryOp .LShift) oShl := opm_of op_shl fun {H α θ dx dy x y Qm Q} a r1 r2 q u => by
  cases dx <;> cases dy <;> first | exact False.elim q | skip
  cases of_int r1; cases of_int r2; exact ⟨_, _, rfl, rfl, q.1, up_same u a q.2 rp_int⟩
theorem om_lt : OpM W (compareOp .Lt) oLt := opm_of op_lt fun {H α θ dx dy x y Qm Q} a r1 r2 q u => by
  cases dx <;> cases dy <;> first | exact False.elim q | skip
  cases of_int r1; cases of_int r2; exact ⟨_, _, rfl, rfl, up_same u a q rp_bl⟩
theorem om_le : OpM W (compareOp .LtE) oLe := opm_of op_le fun {H α θ dx dy x y Qm Q} a r1 r2 q u => by
  cases dx <;> cases dy <;> first | exact False.elim q | skip
  cases of_int r1; cases of_int r2; exact ⟨_, _, rfl, rfl, up_same u a q rp_bl⟩
theorem om_gt : OpM W (compareOp .Gt) oGt := opm_of op_gt fun {H α θ dx dy x y Qm Q} a r1 r2 q u => by
  cases dx <;> cases dy <;> first | exact False.elim q | skip
  cases of_int r1; cases of_int r2; exact ⟨_, _, rfl, rfl, up_same u a q rp_bl⟩
theorem om_ge : OpM W (compareOp .GtE) oGe := opm_of op_ge fun {H α θ dx dy x y Qm Q} a r1 r2 q u => by
  cases dx <;> cases dy <;> first | exact False.elim q | skip
  cases of_int r1; cases of_int r2; exact ⟨_, _, rfl, rfl, up_same u a q rp_bl⟩
theorem um_neg : UnM W (unaryOp .USub) oNeg := unm_of un_neg fun {H α θ dx x Qm Q} a r1 q u => by
  cases dx <;> first | exact False.elim q | skip
  cases of_int r1; exact ⟨_, rfl, up_same u a q rp_int⟩
theorem eqPy_up {H : Hp} {α : List Addr} {θ : Th} {dx dy : Dv} {x y : V} {Qm : Dv → Th → Prop} {Q : VK} {f : Bool → Bool} (a : At W H α θ) (r1 : Rp X.K H α dx x) (r2 : Rp X.K H α dy y) (q : eqPy dx dy f W.En θ Qm) (u : Up X.K H α Qm Q) :
    ∃ d e, Dp X.K H x d ∧ Dp X.K H y e ∧ SeqAt.shaped d = true ∧ SeqAt.shaped e = true ∧ Q (.bl (f (PyData.eqv d e))) H := by
  unfold eqPy at q
  split at q
  · rename_i d e h1 h2
    exact ⟨d, e, toPy_dp a.ok _ _ _ _ h1 r1, toPy_dp a.ok _ _ _ _ h2 r2, q.1, q.2.1, up_same u a q.2.2 rp_bl⟩
  · exact q.elim
theorem om_eq (c : Cf X) : OpM W (compareOp .Eq) oEq := opm_of (OpR.or op_eq (op_eqD (by have := c.un; omega))) fun {H α θ dx dy x y Qm Q} a r1 r2 q u => by
  unfold oEq at q
  split at q
  · cases of_int r1; cases of_int r2; exact .inl ⟨rfl, up_same u a q (by simpa using rp_bl)⟩
  · cases of_bl r1; cases of_bl r2; exact .inl ⟨rfl, up_same u a q (by simpa using rp_bl)⟩
  · cases of_str r1; cases of_str r2; exact .inl ⟨rfl, up_same u a q (by simpa using rp_bl)⟩
  · exact .inr (eqPy_up a r1 r2 q u)
theorem om_ne (c : Cf X) : OpM W (compareOp .NotEq) oNe := opm_of (OpR.or op_ne (op_neD (by have := c.un; omega))) fun {H α θ dx dy x y Qm Q} a r1 r2 q u => by
  unfold oNe at q
  split at q
  · cases of_int r1; cases of_int r2; exact .inl ⟨rfl, up_same u a q (by simpa using rp_bl)⟩
  · cases of_bl r1; cases of_bl r2; exact .inl ⟨rfl, up_same u a q (by simpa using rp_bl)⟩
  · cases of_str r1; cases of_str r2; exact .inl ⟨rfl, up_same u a q (by simpa using rp_bl)⟩
  · exact .inr (eqPy_up a r1 r2 q u)
theorem rp_nonD {H : Hp} {α : List Addr} {d : Dv} {x : V} (r : Rp X.K H α d x) : decide (x = .non) = isNn d := by
  cases d with
  | non => cases of_non r; rfl
  | bl _ => cases of_bl r; rfl
  | int _ => cases of_int r; rfl
  | str _ => cases of_str r; rfl
  | tup _ => obtain ⟨p, vs, rfl, _⟩ := rp_tup r; rfl
  | obj _ => unfold Rp at r; obtain ⟨p, _, rfl⟩ := r; rfl
  | rf _ => unfold Rp at r; subst r; rfl
  | fn _ => unfold Rp at r; subst r; rfl
  | scr _ => unfold Rp at r; obtain ⟨p, rfl, _⟩ := r; rfl
  | pt _ => unfold Rp at r; obtain ⟨p, _, _, rfl, _⟩ := r; rfl
theorem om_is : OpM W (compareOp .Is) oIs := opm_of (OpR.or op_isN op_isBl) fun {H α θ dx dy x y Qm Q} a r1 r2 q u => by
  unfold oIs at q
  split at q
  · cases of_bl r1; cases of_bl r2; exact .inr ⟨_, _, rfl, rfl, up_same u a q rp_bl⟩
  · cases of_non r2
    refine .inl ⟨rfl, ?_⟩
    rw [rp_nonD r1]
    exact up_same u a q rp_bl
  · exact False.elim q
theorem om_isnot : OpM W (compareOp .IsNot) oIsNot := opm_of (OpR.or op_notN op_notBl) fun {H α θ dx dy x y Qm Q} a r1 r2 q u => by
  unfold oIsNot at q
  split at q
  · cases of_bl r1; cases of_bl r2; exact .inr ⟨_, _, rfl, rfl, up_same u a q rp_bl⟩
  · cases of_non r2
    refine .inl ⟨rfl, ?_⟩
    rw [rp_nonD r1]
    exact up_same u a q rp_bl
  · exact False.elim q
/-! ### in -/
def rDIn (f : Bool → Bool) : R2 := fun y x H Q => ∃ a o, x = .ref a ∧ DGet H a y o ∧ Q (.bl (f o.isSome)) H
theorem op_dIn (c : Cf X) : OpR X (compareOp .In) (rDIn id) := fun pins s σ H x y v u Q I rx ry ⟨a, o, e, g, q⟩ => by
  subst e
  cases (show u = Value.ref a from ry)
  exact d_in (by have := c.un; omega) I g rx fun s' I' => ⟨.bl o.isSome, H, I', rfl, q⟩
theorem op_dNotIn (c : Cf X) : OpR X (compareOp .NotIn) (rDIn not) := fun pins s σ H x y v u Q I rx ry ⟨a, o, e, g, q⟩ => by
  subst e
  cases (show u = Value.ref a from ry)
  exact d_notIn (by have := c.un; omega) I g rx fun s' I' => ⟨.bl !o.isSome, H, I', rfl, q⟩
theorem flat_v {H : Hp} {α : List Addr} {d : Dv} {x : V} (r : Rp X.K H α d x) (h : isFlat d = true) : flatV x = true := by
  cases d with
  | non => cases of_non r; rfl
  | bl _ => cases of_bl r; rfl
  | int _ => cases of_int r; rfl
  | str _ => cases of_str r; rfl
  | _ => cases h
theorem flats_v {H : Hp} {α : List Addr} : ∀ {ds : List Dv} {vs : List V}, Rps X.K H α ds vs → ds.all isFlat = true → vs.all flatV = true
  | [], _, r, _ => by unfold Rps at r; subst r; rfl
  | d :: ds, _, r, h => by
    unfold Rps at r
    obtain ⟨v, us, rfl, h1, h2⟩ := r
    simp only [List.all_cons, Bool.and_eq_true] at h ⊢
    exact ⟨flat_v h1 h.1, flats_v h2 h.2⟩
theorem eqF_v {H : Hp} {α : List Addr} {d e : Dv} {x y : V} (r : Rp X.K H α d x) (r2 : Rp X.K H α e y) (h : isFlat d = true) (h2 : isFlat e = true) : eqV x y = eqF d e := by
  cases d with
  | non => cases of_non r; cases e with
    | non => cases of_non r2; rfl
    | bl _ => cases of_bl r2; rfl
    | int _ => cases of_int r2; rfl
    | str _ => cases of_str r2; rfl
    | _ => cases h2
  | bl _ => cases of_bl r; cases e with
    | non => cases of_non r2; rfl
    | bl _ => cases of_bl r2; rfl
    | int _ => cases of_int r2; rfl
    | str _ => cases of_str r2; rfl
    | _ => cases h2
  | int _ => cases of_int r; cases e with
    | non => cases of_non r2; rfl
    | bl _ => cases of_bl r2; rfl
    | int _ => cases of_int r2; rfl
    | str _ => cases of_str r2; rfl
    | _ => cases h2
  | str _ => cases of_str r; cases e with
    | non => cases of_non r2; rfl
    | bl _ => cases of_bl r2; rfl
    | int _ => cases of_int r2; rfl
    | str _ => cases of_str r2; rfl
    | _ => cases h2
  | _ => cases h
theorem inF_v {H : Hp} {α : List Addr} {d : Dv} {x : V} (r : Rp X.K H α d x) (h : isFlat d = true) : ∀ {ds : List Dv} {vs : List V}, Rps X.K H α ds vs → ds.all isFlat = true → inV x vs = inF d ds
  | [], _, q, _ => by unfold Rps at q; subst q; rfl
  | e :: ds, _, q, g => by
    unfold Rps at q
    obtain ⟨v, us, rfl, h1, h2⟩ := q
    simp only [List.all_cons, Bool.and_eq_true] at g
    have ih := inF_v r h h2 g.2
    unfold inV inF at ih ⊢
    simp only [List.any_cons, eqF_v h1 r g.1 h, ih]
/-- «in» by any of its roads -/
def rInA (K : PySem.W.Frag) (neg : Bool) : R2 := fun x y H Q => rIn K neg x y H Q ∨ (∃ d ds, Dp K H x d ∧ Dp K H y (.list ds) ∧ SeqAt.shaped d = true ∧ SeqAt.shaped (.list ds) = true ∧ Q (.bl (if neg then !(ds.any fun z => PyData.eqv z d) else ds.any fun z => PyData.eqv z d)) H) ∨
  (∃ a o, y = .ref a ∧ DGet H a x o ∧ Q (.bl (if neg then !o.isSome else o.isSome)) H) ∨ ∃ (c : Nat) (z : Str), x = .str ⟨#[c]⟩ ∧ y = .str z ∧ Q (.bl (if neg then !decide (c ∈ z.cps.toList) else decide (c ∈ z.cps.toList))) H
theorem op_inA (c : Cf X) : OpR X (compareOp .In) (rInA X.K false) :=
  OpR.w (OpR.or op_in_seq (OpR.or (op_inD (by have := c.un; omega)) (OpR.or (op_dIn c) op_in_sign))) fun x y H Q h => h
theorem op_ninA (c : Cf X) : OpR X (compareOp .NotIn) (rInA X.K true) :=
  OpR.w (OpR.or op_notIn_seq (OpR.or (op_notInD (by have := c.un; omega)) (OpR.or (op_dNotIn c) op_notIn_sign))) fun x y H Q h => h
theorem inO_up {neg : Bool} {f : Bool → Bool} (hf : ∀ b, f b = if neg then !b else b) {H : Hp} {α : List Addr} {θ : Th} {dx dy : Dv} {x y : V} {Qm : Dv → Th → Prop} {Q : VK} (a : At W H α θ) (r1 : Rp X.K H α dx x) (r2 : Rp X.K H α dy y) (q : inO f dx dy W.En θ Qm) (u : Up X.K H α Qm Q) : rInA X.K neg x y H Q := by
  unfold inO at q
  split at q
  · rename_i ds
    obtain ⟨p, vs, rfl, h1, h2⟩ := rp_tup r2
    obtain ⟨⟨q1, q2⟩, q3⟩ := q
    refine .inl ⟨p, vs, rfl, .inr (SqT.of h1), flat_v r1 q1, flats_v h2 q2, ?_⟩
    rw [inF_v r1 q1 h2 q2]
    refine up_same u a q3 ?_
    rw [hf]
    cases neg <;> exact rp_bl
  · rename_i k
    have r2' := r2
    unfold Rp at r2
    obtain ⟨p, e1, rfl⟩ := r2
    split at q
    · rename_i ds e2
      rcases q with ⟨q1, q2, q3⟩ | q
      · obtain ⟨vs, h1, h2⟩ := a.ok.ob k p _ e1 e2
        refine .inl ⟨p, vs, rfl, .inl (SqL.of h1), flat_v r1 q2, flats_v h2 q1, ?_⟩
        rw [inF_v r1 q2 h2 q1]
        refine up_same u a q3 ?_
        rw [hf]
        cases neg <;> exact rp_bl
      · split at q
        · rename_i d es h1 h2
          refine .inr (.inl ⟨d, es, toPy_dp a.ok _ _ _ _ h1 r1, toPy_dp a.ok _ _ _ _ h2 r2', q.1, q.2.1, up_same u a q.2.2 ?_⟩)
          rw [hf]
          cases neg <;> exact rp_bl
        · exact q.elim
    · rename_i kvs e2
      split at q
      · rename_i k' hk
        obtain ⟨vs, h1, h2⟩ := a.ok.ob k p _ e1 e2
        have ex := fKey_v hk r1
        subst ex
        have g : DGet H p (kV k') (valV vs k') := DGet.k h1
        have lk := h2.look k'
        refine .inr (.inr (.inl ⟨p, _, rfl, g, up_same u a q ?_⟩))
        have : (valV vs k').isSome = (lookD kvs k').isSome := by
          cases e : lookD kvs k' with
          | none => rw [e] at lk; rw [lk]; rfl
          | some d => rw [e] at lk; obtain ⟨v, lk, _⟩ := lk; rw [lk]; rfl
        rw [hf, this]
        cases neg <;> exact rp_bl
      · exact q.elim
    · rename_i kvs e2
      split at q
      · rename_i k' hk
        obtain ⟨vs, h1, h2⟩ := a.ok.ob k p _ e1 e2
        obtain ⟨b, rfl, hb⟩ := tKey_v hk r1
        have g : DGet H p (.ref b) (valV vs k') := DGet.t h1 hb
        have lk := h2.look k'
        refine .inr (.inr (.inl ⟨p, _, rfl, g, up_same u a q ?_⟩))
        have : (valV vs k').isSome = (lookD kvs k').isSome := by
          cases e : lookD kvs k' with
          | none => rw [e] at lk; rw [lk]; rfl
          | some d => rw [e] at lk; obtain ⟨v, lk, _⟩ := lk; rw [lk]; rfl
        rw [hf, this]
        cases neg <;> exact rp_bl
      · exact q.elim
    · exact q.elim
  · rename_i w
    cases of_str r2
    split at q
    · rename_i z
      cases of_str r1
      obtain ⟨c, q1, q2⟩ := q
      refine .inr (.inr (.inr ⟨c, w, by rw [q1], rfl, up_same u a q2 ?_⟩))
      rw [hf]
      cases neg <;> exact rp_bl
    · exact False.elim q
  · exact False.elim q
theorem om_in (c : Cf X) : OpM W (compareOp .In) oIn := opm_of (op_inA c) fun {H α θ dx dy x y Qm Q} a r1 r2 q u => inO_up (neg := false) (f := id) (fun b => rfl) a r1 r2 q u
theorem om_notin (c : Cf X) : OpM W (compareOp .NotIn) oNotIn := opm_of (op_ninA c) fun {H α θ dx dy x y Qm Q} a r1 r2 q u => inO_up (neg := true) (f := not) (fun b => rfl) a r1 r2 q u
/-! ### subscripts -/
theorem IxR.w {r r' : R2} (h : IxR X r) (w : ∀ x y H Q, r' x y H Q → r x y H Q) : IxR X r' := fun va sl pins s σ H x y v u Q I rx ry q hs => h va sl pins s σ H x y v u Q I rx ry (w x y H Q q) hs
def rIxDc : R2 := fun x y H Q => ∃ a v, x = .ref a ∧ DGet H a y (some v) ∧ Q v H
theorem ix_dct (c : Cf X) : IxR X rIxDc := fun va sl pins s σ H x y v u Q I rx ry ⟨a, w, e, g, q⟩ hs => by
  subst e
  cases (show v = Value.ref a from rx)
  exact tail_any (dict_typeIs I g) PySem.F.slot_dict_getitem.lookup (d_getItem (by have := c.un; omega) I g ry fun w' s' I' rw' => ⟨w, H, I', rw', q⟩) hs
theorem pm_ix {a b : Expr} {ma mb : ME} {pos : Pos} (c : Cf X) (ha : PE X a (tM W ma)) (hb : PE X b (tM W mb)) (hs : PlainIx b := by exact fun _ _ => rfl) : PE X (.Subscript a b pos) (tM W (mBin oIx ma mb)) := by
  refine pe_w (pe_ix (IxR.w (IxR.or ix_seq (ix_dct c)) ?_) ha hb hs) tm_bin
  rintro x y H Q ⟨α, θ, dx, dy, Qm, a, r1, r2, q, u⟩
  unfold oIx at q
  split at q
  · rename_i ds
    split at q
    · rename_i i
      cases of_int r2
      obtain ⟨p, vs, rfl, h1, h2⟩ := rp_tup r1
      cases e : atI ds i with
      | none => rw [e] at q; exact False.elim q
      | some d =>
        rw [e] at q
        obtain ⟨v, hv, rv⟩ := atI_rps h2 e
        exact .inl (.inr (.inl ⟨p, vs, i, v, rfl, rfl, SqT.of h1, hv, up_same u a q rv⟩))
    · exact q.elim
  · rename_i ns
    split at q
    · rename_i i
      cases of_int r2
      unfold Rp at r1
      obtain ⟨p, rfl, hq⟩ := r1
      cases e : atI ns i with
      | none => rw [e] at q; exact False.elim q
      | some d =>
        rw [e] at q
        have hv : atI (ns.map V.int) i = some (V.int d) := by
          unfold atI at e ⊢
          rw [List.length_map]
          cases z : ixN ns.length i with
          | none => rw [z] at e; cases e
          | some j =>
            rw [z] at e
            show (ns.map V.int)[j]? = _
            rw [List.getElem?_map, show ns[j]? = some d from e]
            rfl
        have sq : SqL X.K H p (ns.map V.int) := by
          rcases hq with ⟨o, hq⟩ | hq
          · exact .inl (.inr ⟨o, hq⟩)
          · rcases hq with (hq | ⟨o, hq⟩) | hq
            · cases hq
            · cases hq
            · exact .inr hq
        exact .inl (.inl ⟨p, _, i, _, rfl, rfl, sq, hv, up_same u a q rp_int⟩)
    · exact q.elim
  · rename_i z
    split at q
    · rename_i i
      cases of_str r1
      cases of_int r2
      obtain ⟨q1, d, q2, q3⟩ := q
      exact .inl (.inr (.inr ⟨z, i, d, rfl, rfl, q1, q2, up_same u a q3 rp_str⟩))
    · exact q.elim
  · rename_i k
    unfold Rp at r1
    obtain ⟨p, e1, rfl⟩ := r1
    split at q
    · rename_i ds e2
      split at q
      · rename_i i
        cases of_int r2
        obtain ⟨vs, h1, h2⟩ := a.ok.ob k p _ e1 e2
        cases e : atI ds i with
        | none => rw [e] at q; exact False.elim q
        | some d =>
          rw [e] at q
          obtain ⟨v, hv, rv⟩ := atI_rps h2 e
          exact .inl (.inl ⟨p, vs, i, v, rfl, rfl, SqL.of h1, hv, up_same u a q rv⟩)
      · exact q.elim
    · rename_i kvs e2
      split at q
      · rename_i k' hk
        obtain ⟨vs, h1, h2⟩ := a.ok.ob k p _ e1 e2
        have ex := fKey_v hk r2
        subst ex
        have lk := h2.look k'
        cases e : lookD kvs k' with
        | none => rw [e] at q; exact False.elim q
        | some d =>
          rw [e] at q lk
          obtain ⟨v, lk, rv⟩ := lk
          exact .inr ⟨p, v, rfl, by rw [← lk]; exact DGet.k h1, up_same u a q rv⟩
      · exact q.elim
    · rename_i kvs e2
      split at q
      · rename_i k' hk
        obtain ⟨vs, h1, h2⟩ := a.ok.ob k p _ e1 e2
        obtain ⟨b, rfl, hb⟩ := tKey_v hk r2
        have lk := h2.look k'
        cases e : lookD kvs k' with
        | none => rw [e] at q; exact False.elim q
        | some d =>
          rw [e] at q lk
          obtain ⟨v, lk, rv⟩ := lk
          exact .inr ⟨p, v, rfl, by rw [← lk]; exact DGet.t h1 hb, up_same u a q rv⟩
      · exact q.elim
    · exact q.elim
  · exact False.elim q
/-! ### slices -/
def cutD (ds : List Dv) (lo hi : Option Int) : List Dv := (ds.drop (HT.sIx ds.length 0 lo)).take (HT.sIx ds.length ds.length hi - HT.sIx ds.length 0 lo)
def oSl (x : Dv) (lo hi : Option Int) : MX Dv := fun _ θ Q => match x with
  | .tup ds => Q (.tup (cutD ds lo hi)) θ
  | .str z => z.length ≤ sizeLine ∧ Q (.str (cutS z lo hi)) θ
  | .obj k => (match θ[k]? with
    | some (.lst ds) => Q (.obj θ.length) (θ ++ [.lst (cutD ds lo hi)])
    | _ => False)
  | _ => False
def oPart : Dv → MX (Option Int)
  | .int i => pure (some i)
  | _ => MX.stuck
def pNo : DEnv → MX (Option Int) := fun _ => pure none
def pSo (a : ME) : DEnv → MX (Option Int) := fun ρ => do oPart (← a ρ)
def mSl (a : ME) (lo hi : DEnv → MX (Option Int)) : ME := fun ρ => do
  let x ← a ρ
  let l ← lo ρ
  let h ← hi ρ
  oSl x l h
def tMo (W : Wd X.K X.mg) (m : DEnv → MX (Option Int)) : TO := fun σ H Q => ∃ ρ α θ Qm, At W H α θ ∧ RS X.K H α σ ρ ∧ m ρ W.En θ Qm ∧ ∀ o θ' α' H', Qm o θ' → Okk X.K H' α' θ' → Nx X.K H α H' α' → Q o H'
theorem po_w {e : Option Expr} {t t' : TO} (h : PO X e t) (w : ∀ σ H Q, t' σ H Q → t σ H Q) : PO X e t' := ⟨fun pins s σ H Q I q => h.run pins s σ H Q I (w σ H Q q)⟩
theorem pom_none : PO X none (tMo W pNo) := po_w po_none fun σ H Q ⟨ρ, α, θ, Qm, at', rs, q, u⟩ => u none θ α H q at'.ok Nx.refl
theorem pom_some {e : Expr} {m : ME} (h : PE X e (tM W m)) : PO X (some e) (tMo W (pSo m)) := po_w (po_some h) fun σ H Q ⟨ρ, α, θ, Qm, at', rs, q, u⟩ => ⟨ρ, α, θ, _, at', rs, q, fun d θ1 α1 H1 v q1 ok1 nx1 r1 => by
  cases d with
  | int i => cases of_int r1; exact ⟨i, rfl, u _ θ1 α1 H1 q1 ok1 nx1⟩
  | _ => exact False.elim q1⟩
theorem cut_rps {K : PySem.W.Frag} {H : Hp} {α : List Addr} {ds : List Dv} {vs : List V} (r : Rps K H α ds vs) (lo hi : Option Int) : Rps K H α (cutD ds lo hi) (cutV vs lo hi) := by
  unfold cutD cutV
  rw [r.length]
  exact (r.drop _).take _
theorem SlR.w {r r' : V → Option Int → Option Int → Hp → VK → Prop} (h : SlR X r) (w : ∀ x l u H Q, r' x l u H Q → r x l u H Q) : SlR X r' := fun pins s σ H x v vl vu lo hi sl Q I rx hs pl pu q => h pins s σ H x v vl vu lo hi sl Q I rx hs pl pu (w x lo hi H Q q)
def rMs (W : Wd X.K X.mg) : V → Option Int → Option Int → Hp → VK → Prop := fun x lo hi H Q => ∃ α θ dx Qm, At W H α θ ∧ Rp X.K H α dx x ∧ oSl dx lo hi W.En θ Qm ∧ Up X.K H α Qm Q
theorem sl_any : SlR X (rMs W) := SlR.w (SlR.or sl_tupA (SlR.or sl_str sl_list)) fun x lo hi H Q ⟨α, θ, dx, Qm, a, r1, q, u⟩ => by
  unfold oSl at q
  split at q
  · rename_i ds
    obtain ⟨p, vs, rfl, h1, h2⟩ := rp_tup r1
    refine .inl ⟨p, vs, rfl, SqT.of h1, fun e => up_same u a q ?_, fun _ => up_tup u a q (cut_rps h2 lo hi)⟩
    have e' : cutD ds lo hi = ds := by
      unfold cutD
      rw [h2.length] at e
      rw [e.1, e.2]
      simp
    rw [e']
    exact r1
  · rename_i z
    cases of_str r1
    exact .inr (.inl ⟨z, rfl, q.1, up_same u a q.2 rp_str⟩)
  · rename_i k
    split at q
    · rename_i ds e2
      obtain ⟨p, vs, rfl, _, h1, h2⟩ := a.lst e2 r1
      exact .inr (.inr ⟨p, vs, rfl, SqL.of h1, up_lst u a q (cut_rps h2 lo hi)⟩)
    · exact False.elim q
  · exact False.elim q
theorem pm_sl {e : Expr} {m : ME} {lo hi : Option Expr} {ml mh : DEnv → MX (Option Int)} {p2 pos : Pos} (he : PE X e (tM W m)) (hl : PO X lo (tMo W ml)) (hu : PO X hi (tMo W mh)) : PE X (.Subscript e (.Slice lo hi none p2) pos) (tM W (mSl m ml mh)) :=
  pe_w (pe_slice sl_any he hl hu) fun σ H Q ⟨ρ, α, θ, Qm, at', rs, q, u⟩ => ⟨ρ, α, θ, _, at', rs, q, fun d θ1 α1 H1 v q1 ok1 nx1 r1 => ⟨ρ, α1, θ1, _, ⟨ok1, at'.nx.trans nx1⟩, rs.mono nx1, q1, fun o2 θ2 α2 H2 q2 ok2 nx2 =>
    ⟨ρ, α2, θ2, _, ⟨ok2, (at'.nx.trans nx1).trans nx2⟩, rs.mono (nx1.trans nx2), q2, fun o3 θ3 α3 H3 q3 ok3 nx3 => ⟨α3, θ3, d, Qm, ⟨ok3, ((at'.nx.trans nx1).trans nx2).trans nx3⟩, r1.mono (nx2.trans nx3), q3, u.mono ((nx1.trans nx2).trans nx3)⟩⟩⟩⟩
end
end Mn

/-! Mn5: enumerate and zip over lists and tuples in any mix. -/
namespace Mn
open PySem PySem.Spec PyProof.Rows L2

/-- a sequence that is tracked at a: a list (true) or a tuple -/
def Sq (kd : Bool) (H : Hp) (a : Addr) (xs : List V) : Prop := H a = some (if kd then HO.lst xs else HO.tup xs)
def itF (kd : Bool) (h : Heap) (it a : Addr) (i : Nat) : Prop := if kd then h.IsListIter it a i else h.IsTupleIter it a i
def hasF (kd : Bool) (h : Heap) (a : Addr) (items : Array Value) : Prop := if kd then h.IsList a items else h.IsTuple a items
def itO (kd : Bool) (a : Addr) : Obj := if kd then { cls := .type "list_iterator", data := .fields #[.ref a, .int 0 0] } else { cls := .type "tuple_iterator", data := .fields #[.ref a, .int 0 0] }
theorem Sq.inj {kd : Bool} {H : Hp} {a : Addr} {xs ys : List V} (h : Sq kd H a xs) (h' : Sq kd H a ys) : xs = ys := by
  unfold Sq at h h'
  rw [h] at h'
  cases kd <;> (cases h'; rfl)
theorem Sq.has {X : Cx} {pins : List (Addr × Obj)} {σ : L2.St} {H : Hp} {s : Shared} {kd : Bool} {a : Addr} {xs : List V} (I : Inv X pins σ H s) (h : Sq kd H a xs) : ∃ its : List Value, Vals xs its ∧ hasF kd s.heap a its.toArray := by
  cases kd with
  | true =>
    obtain ⟨its, rv, p, _⟩ := I.list (SqL.of (show H a = some (.lst xs) from h))
    exact ⟨its, rv, p.isList⟩
  | false =>
    obtain ⟨its, rv, p, _⟩ := I.tuple (SqT.of (show H a = some (.tup xs) from h))
    exact ⟨its, rv, p⟩
theorem Sq.ne {kd : Bool} {H : Hp} {a b : Addr} {xs : List V} (h : Sq kd H a xs) (n : H b = none) : a ≠ b := fun e => by
  subst e
  unfold Sq at h
  rw [n] at h
  cases h
theorem itF.stays {kd : Bool} {h h' : Heap} {it a : Addr} {i : Nat} (x : itF kd h it a i) (k : ∀ o, h.get? it = some o → h'.get? it = some o) : itF kd h' it a i := by
  cases kd
  · exact Heap.IsTupleIter.at (show h.IsTupleIter it a i from x) k
  · exact Heap.IsListIter.at (show h.IsListIter it a i from x) k
theorem itF.obj {kd : Bool} {h : Heap} {it a : Addr} {i : Nat} (x : itF kd h it a i) : ∃ o, h.get? it = some o ∧ ∀ v, o.data ≠ .cell v := by
  cases kd with
  | false =>
    obtain ⟨o, e, c, d⟩ := (show h.IsTupleIter it a i from x)
    exact ⟨o, e, fun v z => by rw [d] at z; cases z⟩
  | true =>
    obtain ⟨o, e, c, d⟩ := (show h.IsListIter it a i from x)
    exact ⟨o, e, fun v z => by rw [d] at z; cases z⟩
theorem itF.new {kd : Bool} {h : Heap} {it a : Addr} (e : h.get? it = some (itO kd a)) : itF kd h it a 0 := by
  cases kd
  · exact ⟨_, e, rfl, rfl⟩
  · exact ⟨_, e, rfl, rfl⟩
theorem draws {kd : Bool} {prog : Program} {w : World} {A : Around} (hh : A.handled = none) (it a : Addr) (ne : a ≠ it) (items : Array Value) :
    Draws prog w A it [it, a] items.size (fun i v => items[i]? = some v) (fun i h => itF kd h it a i ∧ hasF kd h a items) := by
  cases kd
  · exact Draws.tuple hh it a ne items
  · exact Draws.list hh it a ne items
theorem begins {kd : Bool} (a : Addr) (items : Array Value) : Begins (.ref a) (itO kd a) (fun h => hasF kd h a items) := by
  cases kd
  · exact begins_tuple a items
  · exact begins_list a items

/-! ### a turn that gives a new pair -/
theorem turn_pair {X : Cx} {pins : List (Addr × Obj)} {s : Shared} {σ : L2.St} {H : Hp} {E : Value → Shared → Prop} {e : Addr} {fpW wr fp : List Addr} {n i : Nat} {Pt : Nat → Array Value → Prop} {St : Nat → Heap → Prop} {Mid : Nat → Addr → Heap → Prop}
    {elts : List Expr} {kk : Nat} {tpos : Pos} {x y : V} {tn : Heap → Prop} {Y : V → Hp → Prop}
    (I : Inv X pins σ H s) (hf : ∀ b ∈ fp, FpOk X pins H b) (W : WalksT X.prog X.w X.A e fpW wr n Pt St Mid) (sub : ∀ b ∈ wr, b ∈ fp) (hi : i < n) (st : St i s.heap)
    (vals : ∀ vs, Pt i vs → Vals [x, y] vs.toList) (next : ∀ h', St (i + 1) h' → tn h') (old : ∀ b ∈ fp, b < s.heap.objs.size) (yld : ∀ T, H T = none → Y (.ref T) (upd H T (.tup [x, y]))) :
    wpAny (model X.prog X.w) X.A (pyNext (.ref e)) (fun r s1 => ∃ u, r = some u ∧
      wpAny (model X.prog X.w) X.A (letOwnedTupleGo (.Tuple elts kk tpos) (.ref e) u) (fun _ s2 => ∃ x H', Inv X pins σ H' s2 ∧ RelV x u ∧ Y x H' ∧ tn s2.heap ∧ ∀ b ∈ fp, H' b = none) E s1) E s := by
  refine W.item i s _ E hi st fun T vs h' tk hP hT hTup hmid hk => ⟨_, rfl, ?_⟩
  refine W.go elts kk tpos i T { s with heap := h', toks := tk } _ E hmid fun h2 st2 hk2 => ?_
  have hn : H T = none := I.hok.fresh hT
  have apart := W.apart i T h' hmid
  have k : ∀ b o, b ∉ wr → s.heap.get? b = some o → h2.get? b = some o := fun b o hb q => hk2 b o hb (hk b o hb q)
  obtain ⟨o, ho, hc, m, hd⟩ := hTup
  have new : ObjOk X.prog X.w (upd H T (.tup [x, y])) h2 T (.tup [x, y]) :=
    ⟨by show 2 ≤ sizeLine; decide, vs.toList, vals vs hP, o, hk2 T o apart ho, hc, m, by simp [hd]⟩
  have I1 : Inv X pins σ (upd H T (.tup [x, y])) { s with heap := h2, toks := tk } := I.turnedNew (t' := tk) k (fun b hb => hf b (sub b hb)) hT new
  refine ⟨.ref T, _, I1, rfl, yld T hn, next h2 st2, fun b hb => ?_⟩
  have hlt := old b hb
  rw [upd_ne (Nat.ne_of_lt (Nat.lt_of_lt_of_le hlt hT))]
  exact (hf b hb).1
theorem turn_end {X : Cx} {pins : List (Addr × Obj)} {s : Shared} {σ : L2.St} {H : Hp} {E : Value → Shared → Prop} {e : Addr} {fpW wr fp : List Addr} {n : Nat} {Pt : Nat → Array Value → Prop} {St : Nat → Heap → Prop} {Mid : Nat → Addr → Heap → Prop}
    (I : Inv X pins σ H s) (hf : ∀ b ∈ fp, FpOk X pins H b) (W : WalksT X.prog X.w X.A e fpW wr n Pt St Mid) (sub : ∀ b ∈ wr, b ∈ fp) (st : St n s.heap) :
    wpAny (model X.prog X.w) X.A (pyNext (.ref e)) (fun r s1 => r = none ∧ Inv X pins σ H s1) E s :=
  W.done s _ E st fun h' tk hk => ⟨rfl, I.turnedL (t' := tk) (ch := wr) hk fun b hb => hf b (sub b hb)⟩

/-! ### enumerate -/
def Jen (kd : Bool) (a : Addr) : It :=
  ⟨fun i H => ∃ xs : List V, Sq kd H a xs ∧ i < xs.length, fun i H v H' => ∃ T x xs, v = .ref T ∧ H T = none ∧ H' = upd H T (.tup [.int (i : Nat), x]) ∧ Sq kd H a xs ∧ xs[i]? = some x, fun i H => ∃ xs : List V, Sq kd H a xs ∧ xs.length = i⟩
theorem fits0 : Builtin.SmallTypes.fitsIndex 0 = true := by decide +kernel
theorem turn_en {P : Program} {w : World} {K : PySem.W.Frag} {elts : List Expr} {kk : Nat} {tpos : Pos} (kd : Bool) (a e it : Addr) (ne : e ≠ it) :
    Turn P w K (.Tuple elts kk tpos) (Jen kd a) [e, it] e (fun i h => (∃ old, IsEnum h e it (0 + (i : Int)) old) ∧ itF kd h it a i) where
  mem := by simp
  obj := fun i h st b hb => by
    obtain ⟨⟨old, he⟩, hi⟩ := st
    have e' : b = e ∨ b = it := by simpa using hb
    rcases e' with z | z
    · rw [z]
      exact ⟨_, he, fun v q => nomatch q⟩
    · rw [z]
      exact hi.obj
  keep := fun i h h' st k => by
    obtain ⟨⟨old, he⟩, hi⟩ := st
    exact ⟨⟨old, k e (by simp) _ he⟩, hi.stays fun o q => k it (by simp) o q⟩
  item := by
    intro X hP hw hK hc i pins s σ H E I hf st hg
    subst hP hw hK
    obtain ⟨⟨old, he⟩, hi⟩ := st
    obtain ⟨xs, hq, hlt⟩ := hg
    obtain ⟨its, rv, hh⟩ := hq.has I
    have na : a ≠ it := hq.ne (hf it (by simp)).1
    have ea : e ≠ a := fun z => hq.ne (hf e (by simp)).1 z.symm
    have D := draws (kd := kd) (prog := X.prog) (w := X.w) (A := X.A.in1) (I.ok.hd hc) it a na its.toArray
    have W := WalksT.enumFrom 0 D e ne (by simp [ne, ea]) (by simp)
    have hx : xs[i]? = some xs[i] := List.getElem?_eq_getElem hlt
    obtain ⟨o2, ho2, _⟩ := hi.obj
    refine turn_pair (x := .int (i : Nat)) (y := xs[i]) (tn := fun h => (∃ old, IsEnum h e it (0 + ((i + 1 : Nat) : Int)) old) ∧ itF kd h it a (i + 1)) (Y := (Jen kd a).yld i H) I hf W (fun b hb => hb) (by simp only [List.size_toArray, ← rv.length]; omega) ⟨⟨old, he⟩, hi, hh⟩ (fun vs hv => ?_) (fun h' st2 => ⟨st2.1, st2.2.1⟩) (fun b hb => ?_) (fun T hT => ⟨T, _, xs, rfl, hT, rfl, hq, hx⟩)
    · obtain ⟨t, u, hu, rfl⟩ := hv
      obtain ⟨u', hu', ru⟩ := rv.get hx
      have : u = u' := by
        rw [List.getElem?_toArray] at hu
        rw [hu] at hu'
        exact Option.some.inj hu'
      subst this
      exact .cons ⟨t, by rw [Int.zero_add]⟩ (.cons ru .nil)
    · have e' : b = e ∨ b = it := by simpa using hb
      rcases e' with z | z
      · rw [z]; exact Heap.lt_size he
      · rw [z]; exact Heap.lt_size ho2
  done := by
    intro X hP hw hK hc i pins s σ H E I hf st hg
    subst hP hw hK
    obtain ⟨⟨old, he⟩, hi⟩ := st
    obtain ⟨xs, hq, hlt⟩ := hg
    obtain ⟨its, rv, hh⟩ := hq.has I
    have na : a ≠ it := hq.ne (hf it (by simp)).1
    have ea : e ≠ a := fun z => hq.ne (hf e (by simp)).1 z.symm
    have D := draws (kd := kd) (prog := X.prog) (w := X.w) (A := X.A.in1) (I.ok.hd hc) it a na its.toArray
    have W := WalksT.enumFrom 0 D e ne (by simp [ne, ea]) (by simp)
    have hn : its.toArray.size = i := by simp [← rv.length, hlt]
    rw [← hn] at he hi
    exact turn_end I hf W (fun b hb => hb) ⟨⟨old, he⟩, hi, hh⟩
  self := fun A i s Q E st h => by
    obtain ⟨⟨old, he⟩, _⟩ := st
    exact wpAny_pyIter_enum he h
set_option maxHeartbeats 2000000 in
theorem meets_en1 {v : Value} {o : Obj} {H : Heap → Prop} (B : Begins v o H) :
    Meets (Builtin.«enumerate.__new__» ⟨[.type "enumerate", v], []⟩) (fun _ R s => H s.heap ∧
      R (.ok (.ret (.ref (s.heap.push o).objs.size))) { s with heap := (s.heap.push o).push { cls := .type "enumerate", data := .fields #[.none, .bool false, .ref s.heap.objs.size, rawInt 0, .none, .none] } }) := by
  refine .of_wp fun prog w A R s h => ?_
  obtain ⟨hp, g, d, tk, os⟩ := s
  obtain ⟨h1, h⟩ := h
  have hsub := sub_enumerate
  have q1 : ∀ {A' : Around} {E : Value → Shared → Prop} {Q : Value → Shared → Prop}, Q (.ref hp.objs.size) ⟨hp.push o, g, d, tk, os⟩ → wpAny (model prog w) A' (pyIter v) Q E ⟨hp, g, d, tk, os⟩ := fun q =>
    B.iter prog w _ _ ⟨hp, g, d, tk, os⟩ _ h1 q
  wp_walk using q1
  refine wpAny_stack_any fun st => wpAny_pure ?_
  split
  · rename_i c _ _ _ _ _
    cases (c == Value.type "enumerate") <;>
      (wp_walk using q1
       exact ⟨_, rfl, h⟩)
  · wp_walk using q1
    exact ⟨_, rfl, h⟩
theorem call_en {prog : Program} {w : World} {A : Around} {E : Value → Shared → Prop} {s : Shared} {v : Value} {o : Obj} {H : Heap → Prop} {Q : Value → Shared → Prop} (B : Begins v o H) (h1 : H s.heap)
    (h : ∀ h', IsEnum h' (s.heap.objs.size + 1) s.heap.objs.size 0 .none → h'.get? s.heap.objs.size = some o → (∀ b o, s.heap.get? b = some o → h'.get? b = some o) → Q (.ref (s.heap.objs.size + 1)) { s with heap := h' }) :
    wpAny (model prog w) A (call (.type "enumerate") [v]) Q E s := by
  have hz : (s.heap.push o).objs.size = s.heap.objs.size + 1 := Heap.size_push ..
  have he : IsEnum ((s.heap.push o).push { cls := .type "enumerate", data := .fields #[.none, .bool false, .ref s.heap.objs.size, rawInt 0, .none, .none] }) (s.heap.objs.size + 1) s.heap.objs.size 0 .none := by
    have := Heap.get?_push_size (s.heap.push o) (o := { cls := .type "enumerate", data := .fields #[.none, .bool false, .ref s.heap.objs.size, rawInt 0, .none, .none] }) rfl
    rw [hz] at this
    exact this
  refine callType_new F.called_enumerate (by decide) (F.typeCall_enumerate_1 _) (F.newCall_enumerate_1 _) (fun obj => F.args_object_init_2 obj _) F.entry_enumerate_new (meets_en1 B) ⟨h1, ?_⟩
  show _ ∧ _
  rw [hz]
  exact ⟨⟨_, he, rfl⟩, h _ he (Heap.get?_push_of_some _ (Heap.get?_push_size _ B.free)) fun b ob x => Heap.get?_push_of_some _ (Heap.get?_push_of_some _ x)⟩
def iEn (ta : TA) : TI := fun σ H R => ta σ H fun vs H1 => ∃ kd a xs, vs = [.ref a] ∧ Sq kd H1 a xs ∧ R (Jen kd a) H1
theorem pi_en {X : Cx} {e : Expr} {ta : TA} {p pos tpos : Pos} {elts : List Expr} {kk : Nat} (hg : Gl X "enumerate") (hm : X.mg "enumerate" = none) (ha : PA X [e] ta) (hs : starEach [e] X.env = [(false, eval e X.env)] := by rfl) :
    PI X (.Tuple elts kk tpos) (.Call (.Name "enumerate" p) [e] [] pos) (iEn ta) := by
  constructor
  intro pins s σ H R I h
  refine Call_ (ld_blt I hg hm boot_enumerate (PyProof.Rows.callWith_type1 (thn (ha.run pos pins s σ H _ I h) ?_) hs rfl))
  rintro us s1 ⟨vs, H1, I1, r1, kd, a, xs, ex, hq, q⟩
  subst ex
  cases r1 with
  | cons r rr =>
    cases rr
    cases r
    obtain ⟨its, rv, hh⟩ := hq.has I1
    refine call_en (begins (kd := kd) a its.toArray) hh fun h' he hit hk => wpAny_pyIter_enum he ?_
    have I2 : Inv X pins σ H1 { s1 with heap := h' } := I1.kept (t' := s1.toks) hk
    refine ⟨s1.heap.objs.size + 1, [s1.heap.objs.size + 1, s1.heap.objs.size], _, _, H1, rfl, I2, turn_en kd a _ _ (Nat.succ_ne_self _), ⟨⟨.none, he⟩, itF.new hit⟩, fun b hb => ?_, q⟩
    have hle : s1.heap.objs.size ≤ b := by
      have e' : b = s1.heap.objs.size + 1 ∨ b = s1.heap.objs.size := by simpa using hb
      rcases e' with z | z <;> rw [z]
      · exact Nat.le_add_right _ _
      · exact Nat.le_refl _
    exact I1.fpOk hle (I1.hok.fresh hle)

/-! ### zip of two -/
def Jzp (k1 k2 : Bool) (a b : Addr) : It :=
  ⟨fun i H => ∃ xs ys : List V, Sq k1 H a xs ∧ Sq k2 H b ys ∧ i < xs.length ∧ i < ys.length,
   fun i H v H' => ∃ T x y xs ys, v = .ref T ∧ H T = none ∧ H' = upd H T (.tup [x, y]) ∧ Sq k1 H a xs ∧ Sq k2 H b ys ∧ xs[i]? = some x ∧ ys[i]? = some y,
   fun i H => ∃ xs ys : List V, Sq k1 H a xs ∧ Sq k2 H b ys ∧ min xs.length ys.length = i⟩
theorem turn_zp {P : Program} {w : World} {K : PySem.W.Frag} {elts : List Expr} {kk : Nat} {tpos : Pos} (k1 k2 : Bool) (a b z TI TO i1 i2 : Addr)
    (d1 : TI ≠ z) (d2 : TO ≠ z) (d3 : TI ≠ TO) (d4 : TI ≠ i1) (d5 : TI ≠ i2) (d6 : z ≠ i1) (d7 : z ≠ i2) (d8 : TO ≠ i1) (d9 : TO ≠ i2) (d10 : i1 ≠ i2) :
    Turn P w K (.Tuple elts kk tpos) (Jzp k1 k2 a b) [z, TI, TO, i1, i2] z (fun i h => (IsZip h z TI TO .none ∧ IsTupOf2 h TI (.ref i1) (.ref i2) ∧ (∃ a1 a2, IsTupOf2 h TO a1 a2)) ∧ itF k1 h i1 a i ∧ itF k2 h i2 b i) where
  mem := by simp
  obj := fun i h st c hc => by
    obtain ⟨⟨hz, hI, a1, a2, hO⟩, h1, h2⟩ := st
    have e' : c = z ∨ c = TI ∨ c = TO ∨ c = i1 ∨ c = i2 := by simpa using hc
    rcases e' with q | q | q | q | q <;> rw [q]
    · exact ⟨_, hz, fun v q => nomatch q⟩
    · exact ⟨_, hI, fun v q => nomatch q⟩
    · exact ⟨_, hO, fun v q => nomatch q⟩
    · exact h1.obj
    · exact h2.obj
  keep := fun i h h' st k => by
    obtain ⟨⟨hz, hI, a1, a2, hO⟩, h1, h2⟩ := st
    exact ⟨⟨k z (by simp) _ hz, k TI (by simp) _ hI, a1, a2, k TO (by simp) _ hO⟩, h1.stays fun o q => k i1 (by simp) o q, h2.stays fun o q => k i2 (by simp) o q⟩
  item := by
    intro X hP hw hK hc i pins s σ H E I hf st hg
    subst hP hw hK
    obtain ⟨⟨hz, hI, hO⟩, h1, h2⟩ := st
    obtain ⟨xs, ys, hq1, hq2, hl1, hl2⟩ := hg
    obtain ⟨its1, rv1, hh1⟩ := hq1.has I
    obtain ⟨its2, rv2, hh2⟩ := hq2.has I
    have fr : ∀ c ∈ [z, TI, TO, i1, i2], a ≠ c ∧ b ≠ c := fun c hc => ⟨hq1.ne (hf c hc).1, hq2.ne (hf c hc).1⟩
    have nz := fr z (by simp)
    have nTO := fr TO (by simp)
    have n1 := fr i1 (by simp)
    have n2 := fr i2 (by simp)
    have D1 := draws (kd := k1) (prog := X.prog) (w := X.w) (A := X.A.in1) (I.ok.hd hc) i1 a n1.1 its1.toArray
    have D2 := draws (kd := k2) (prog := X.prog) (w := X.w) (A := X.A.in1) (I.ok.hd hc) i2 b n2.2 its2.toArray
    have S : ZipSep2 z TI TO i1 i2 [i1, a] [i2, b] :=
      { TIz := d1, TOz := d2, TITO := d3, TIi1 := d4, mem1 := by simp, zf1 := by simp [d6, nz.1.symm], Tf1 := by simp [d8, nTO.1.symm], TIi2 := d5, mem2 := by simp, zf2 := by simp [d7, nz.2.symm], Tf2 := by simp [d9, nTO.2.symm],
        sep1_2 := by simp [d10, n1.2.symm], sep2_1 := by simp [d10.symm, n2.1.symm] }
    have W := WalksT.zipD2 S D1 D2
    have hx : xs[i]? = some xs[i] := List.getElem?_eq_getElem hl1
    have hy : ys[i]? = some ys[i] := List.getElem?_eq_getElem hl2
    obtain ⟨o1, ho1, _⟩ := h1.obj
    obtain ⟨o2, ho2, _⟩ := h2.obj
    obtain ⟨a1, a2, hO'⟩ := hO
    refine turn_pair (x := xs[i]) (y := ys[i]) (tn := fun h => (IsZip h z TI TO .none ∧ IsTupOf2 h TI (.ref i1) (.ref i2) ∧ (∃ a1 a2, IsTupOf2 h TO a1 a2)) ∧ itF k1 h i1 a (i + 1) ∧ itF k2 h i2 b (i + 1)) (Y := (Jzp k1 k2 a b).yld i H) I hf W (fun c hc => ?_) (by simp only [List.size_toArray, ← rv1.length, ← rv2.length]; omega) ⟨hz, hI, ⟨a1, a2, hO'⟩, ⟨h1, hh1⟩, h2, hh2⟩ (fun vs hv => ?_)
      (fun h' st2 => ⟨⟨st2.1, st2.2.1, st2.2.2.1⟩, st2.2.2.2.1.1, st2.2.2.2.2.1⟩) (fun c hc => ?_) (fun T hT => ⟨T, _, _, xs, ys, rfl, hT, rfl, hq1, hq2, hx, hy⟩)
    · have : c = z ∨ c = TO ∨ c = i1 ∨ c = i2 := by simpa using hc
      rcases this with q | q | q | q <;> simp [q]
    · obtain ⟨u1, u2, e1, e2, rfl⟩ := hv
      obtain ⟨v1, hv1, ru1⟩ := rv1.get hx
      obtain ⟨v2, hv2, ru2⟩ := rv2.get hy
      rw [List.getElem?_toArray] at e1 e2
      rw [e1] at hv1
      rw [e2] at hv2
      cases hv1
      cases hv2
      exact .cons ru1 (.cons ru2 .nil)
    · have e' : c = z ∨ c = TI ∨ c = TO ∨ c = i1 ∨ c = i2 := by simpa using hc
      rcases e' with q | q | q | q | q <;> rw [q]
      · exact Heap.lt_size hz
      · exact Heap.lt_size hI
      · exact Heap.lt_size hO'
      · exact Heap.lt_size ho1
      · exact Heap.lt_size ho2
  done := by
    intro X hP hw hK hc i pins s σ H E I hf st hg
    subst hP hw hK
    obtain ⟨⟨hz, hI, hO⟩, h1, h2⟩ := st
    obtain ⟨xs, ys, hq1, hq2, hl⟩ := hg
    obtain ⟨its1, rv1, hh1⟩ := hq1.has I
    obtain ⟨its2, rv2, hh2⟩ := hq2.has I
    have fr : ∀ c ∈ [z, TI, TO, i1, i2], a ≠ c ∧ b ≠ c := fun c hc => ⟨hq1.ne (hf c hc).1, hq2.ne (hf c hc).1⟩
    have nz := fr z (by simp)
    have nTO := fr TO (by simp)
    have n1 := fr i1 (by simp)
    have n2 := fr i2 (by simp)
    have D1 := draws (kd := k1) (prog := X.prog) (w := X.w) (A := X.A.in1) (I.ok.hd hc) i1 a n1.1 its1.toArray
    have D2 := draws (kd := k2) (prog := X.prog) (w := X.w) (A := X.A.in1) (I.ok.hd hc) i2 b n2.2 its2.toArray
    have S : ZipSep2 z TI TO i1 i2 [i1, a] [i2, b] :=
      { TIz := d1, TOz := d2, TITO := d3, TIi1 := d4, mem1 := by simp, zf1 := by simp [d6, nz.1.symm], Tf1 := by simp [d8, nTO.1.symm], TIi2 := d5, mem2 := by simp, zf2 := by simp [d7, nz.2.symm], Tf2 := by simp [d9, nTO.2.symm],
        sep1_2 := by simp [d10, n1.2.symm], sep2_1 := by simp [d10.symm, n2.1.symm] }
    have W := WalksT.zipD2 S D1 D2
    have hn : min its1.toArray.size its2.toArray.size = i := by simp only [List.size_toArray, ← rv1.length, ← rv2.length]; omega
    rw [← hn] at h1 h2
    refine turn_end I hf W (fun c hc => ?_) ⟨hz, hI, hO, ⟨h1, hh1⟩, h2, hh2⟩
    have : c = z ∨ c = TO ∨ c = i1 ∨ c = i2 := by simpa using hc
    rcases this with q | q | q | q <;> simp [q]
  self := fun A i s Q E st h => by
    obtain ⟨⟨hz, _⟩, _⟩ := st
    exact wpAny_pyIter_zip hz h
def iZp (ta : TA) : TI := fun σ H R => ta σ H fun vs H1 => ∃ k1 k2 a b xs ys, vs = [.ref a, .ref b] ∧ Sq k1 H1 a xs ∧ Sq k2 H1 b ys ∧ R (Jzp k1 k2 a b) H1
theorem pi_zp {X : Cx} {e e2 : Expr} {ta : TA} {p pos tpos : Pos} {elts : List Expr} {kk : Nat} (hg : Gl X "zip") (hm : X.mg "zip" = none) (ha : PA X [e, e2] ta)
    (hs : starEach [e, e2] X.env = [(false, eval e X.env), (false, eval e2 X.env)] := by rfl) (hs2 : starEach [e2] X.env = [(false, eval e2 X.env)] := by rfl) :
    PI X (.Tuple elts kk tpos) (.Call (.Name "zip" p) [e, e2] [] pos) (iZp ta) := by
  constructor
  intro pins s σ H R I h
  refine Call_ (ld_blt I hg hm boot_zip (PyProof.Rows.callWith_type1 (thn (ha.run pos pins s σ H _ I h) ?_) (by rw [hs, hs2]) (by rw [hs2]; rfl)))
  rintro us s1 ⟨vs, H1, I1, r1, k1, k2, a, b, xs, ys, ex, hq1, hq2, q⟩
  subst ex
  cases r1 with
  | cons r rr =>
    cases rr with
    | cons r2 rr =>
      cases rr
      cases r
      cases r2
      obtain ⟨its1, rv1, hh1⟩ := hq1.has I1
      obtain ⟨its2, rv2, hh2⟩ := hq2.has I1
      refine zip_begins2 (begins (kd := k1) a its1.toArray) (begins (kd := k2) b its2.toArray) hh1 hh2 fun h' hz hI hO e1 e2 hsz hk => wpAny_pyIter_zip hz ?_
      have I2 : Inv X pins σ H1 { s1 with heap := h' } := I1.kept (t' := s1.toks) hk
      have o1 : ∀ j k : Nat, j ≠ k → s1.heap.objs.size + j ≠ s1.heap.objs.size + k := fun j k ne z => ne (Nat.add_left_cancel z)
      have o0 : ∀ j : Nat, j ≠ 0 → s1.heap.objs.size + j ≠ s1.heap.objs.size := fun j ne z => ne (by omega)
      refine ⟨_, [s1.heap.objs.size + 4, s1.heap.objs.size + 2, s1.heap.objs.size + 3, s1.heap.objs.size, s1.heap.objs.size + 1], _, _, H1, rfl, I2,
        turn_zp k1 k2 a b (s1.heap.objs.size + 4) (s1.heap.objs.size + 2) (s1.heap.objs.size + 3) s1.heap.objs.size (s1.heap.objs.size + 1)
          (o1 _ _ (by decide)) (o1 _ _ (by decide)) (o1 _ _ (by decide)) (o0 _ (by decide)) (o1 _ _ (by decide)) (o0 _ (by decide)) (o1 _ _ (by decide)) (o0 _ (by decide)) (o1 _ _ (by decide)) (o0 1 (by decide)).symm,
        ⟨⟨hz, hI, _, _, hO⟩, itF.new e1, itF.new e2⟩, fun c hc => ?_, q⟩
      have hle : s1.heap.objs.size ≤ c := by
        have e' : c = s1.heap.objs.size + 4 ∨ c = s1.heap.objs.size + 2 ∨ c = s1.heap.objs.size + 3 ∨ c = s1.heap.objs.size ∨ c = s1.heap.objs.size + 1 := by simpa using hc
        rcases e' with z | z | z | z | z <;> rw [z] <;> first | exact Nat.le_add_right _ _ | exact Nat.le_refl _
      exact I1.fpOk hle (I1.hok.fresh hle)
end Mn

/-! Mn6: targets, statements, what is walked, loops, comprehensions. -/
namespace Mn
open PySem PySem.Spec PyProof.Rows L2

/-! ### targets -/
inductive Tg where
  | nm (i : Nat) | tp (ts : List Tg)
mutual
def Tg.vars : Tg → List Nat
  | .nm i => [i]
  | .tp ts => Tg.varss ts
def Tg.varss : List Tg → List Nat
  | [] => []
  | t :: ts => t.vars ++ Tg.varss ts
end
mutual
def asgT : Tg → Dv → DEnv → Option DEnv
  | .nm i, d, ρ => some (ρ.set i (some d))
  | .tp ts, .tup ds, ρ => asgTs ts ds ρ
  | .tp _, _, _ => none
def asgTs : List Tg → List Dv → DEnv → Option DEnv
  | [], [], ρ => some ρ
  | t :: ts, d :: ds, ρ => match asgT t d ρ with
    | some ρ' => asgTs ts ds ρ'
    | none => none
  | _, _, _ => none
end
mutual
def gT (K : PySem.W.Frag) : Tg → TG
  | .nm i => gName i
  | .tp ts => gTup K ts.length (gTs K ts)
def gTs (K : PySem.W.Frag) : List Tg → TGs
  | [] => gNil
  | t :: ts => gCons (gT K t) (gTs K ts)
end
/-- σ' is σ but at vs -/
structure But (vs : List Nat) (σ σ' : L2.St) : Prop where
  len : σ'.length = σ.length
  at' : ∀ (i : Nat), i ∉ vs → σ'[i]? = σ[i]?
theorem But.refl (vs : List Nat) (σ : L2.St) : But vs σ σ := ⟨rfl, fun _ _ => rfl⟩
theorem But.trans {vs : List Nat} {a b c : L2.St} (h : But vs a b) (g : But vs b c) : But vs a c := ⟨g.len.trans h.len, fun i hi => (g.at' i hi).trans (h.at' i hi)⟩
theorem But.mono {vs us : List Nat} {a b : L2.St} (h : But vs a b) (s : ∀ i ∈ vs, i ∈ us) : But us a b := ⟨h.len, fun i hi => h.at' i fun z => hi (s i z)⟩
theorem But.set (σ : L2.St) (i : Nat) (x : Option V) : But [i] σ (σ.set i x) := ⟨by simp, fun j hj => by rw [List.getElem?_set_ne (by simpa using fun e => hj (by simp [e]))]⟩
theorem wipe_get (σ : L2.St) : ∀ (vs : List Nat) (i : Nat), (wipe σ vs)[i]? = if i ∈ vs then (if i < σ.length then some none else none) else σ[i]?
  | [], i => by simp [wipe]
  | v :: vs, i => by
    unfold wipe
    by_cases h : v = i
    · subst h
      simp only [List.mem_cons_self, if_true]
      by_cases hl : v < σ.length
      · rw [if_pos hl, List.getElem?_set_self (by rw [wipe_length]; exact hl)]
      · rw [if_neg hl, List.getElem?_eq_none (by rw [List.length_set, wipe_length]; omega)]
    · rw [List.getElem?_set_ne h, wipe_get σ vs i]
      have : (i ∈ v :: vs) = (i ∈ vs) := by
        have h' : ¬ i = v := fun e => h e.symm
        simp [h']
      simp only [this]
theorem wipe_but {vs : List Nat} {σ σ' : L2.St} (h : But vs σ σ') : wipe σ' vs = wipe σ vs := by
  apply List.ext_getElem?
  intro i
  rw [wipe_get, wipe_get, h.len]
  split
  · rfl
  · exact h.at' i (by assumption)
theorem wipe_wipe (σ : L2.St) (vs : List Nat) : wipe (wipe σ vs) vs = wipe σ vs := wipe_but ⟨wipe_length σ vs, fun i hi => by rw [wipe_get, if_neg hi]⟩
section
variable {K : PySem.W.Frag} {H : Hp} {α : List Addr}
mutual
theorem gT_ok : ∀ {T : Tg} {d : Dv} {v : V} {σ : L2.St} {ρ ρ' : DEnv} {Q : L2.St → Hp → Prop}, Rp K H α d v → RS K H α σ ρ → asgT T d ρ = some ρ' → (∀ σ', RS K H α σ' ρ' → But T.vars σ σ' → Q σ' H) → gT K T v σ H Q
  | .nm i, d, v, σ, ρ, ρ', Q, r, rs, e, k => by
    simp only [asgT, Option.some.injEq] at e
    subst e
    exact k _ (rs.set r i) (But.set σ i _)
  | .tp ts, d, v, σ, ρ, ρ', Q, r, rs, e, k => by
    cases d with
    | tup ds =>
      obtain ⟨p, vs, rfl, h1, h2⟩ := rp_tup r
      unfold gT
      have e' : asgTs ts ds ρ = some ρ' := by unfold asgT at e; exact e
      exact ⟨p, vs, rfl, SqT.of h1, by rw [h2.length]; exact (asgTs_len e').symm, gTs_ok h2 rs e' (fun σ' a b => k σ' a (by unfold Tg.vars; exact b))⟩
    | _ => simp [asgT] at e
theorem gTs_ok : ∀ {ts : List Tg} {ds : List Dv} {vs : List V} {σ : L2.St} {ρ ρ' : DEnv} {Q : L2.St → Hp → Prop}, Rps K H α ds vs → RS K H α σ ρ → asgTs ts ds ρ = some ρ' → (∀ σ', RS K H α σ' ρ' → But (Tg.varss ts) σ σ' → Q σ' H) → gTs K ts vs σ H Q
  | [], ds, vs, σ, ρ, ρ', Q, r, rs, e, k => by
    cases ds with
    | nil =>
      unfold Rps at r
      subst r
      simp only [asgTs, Option.some.injEq] at e
      subst e
      unfold gTs
      exact ⟨rfl, k σ rs (But.refl _ _)⟩
    | cons d ds => simp [asgTs] at e
  | t :: ts, ds, vs, σ, ρ, ρ', Q, r, rs, e, k => by
    cases ds with
    | nil => simp [asgTs] at e
    | cons d ds =>
      unfold Rps at r
      obtain ⟨v, us, rfl, h1, h2⟩ := r
      unfold asgTs at e
      cases e1 : asgT t d ρ with
      | none => rw [e1] at e; cases e
      | some ρ1 =>
        rw [e1] at e
        unfold gTs
        refine ⟨v, us, rfl, gT_ok h1 rs e1 fun σ1 rs1 b1 => gTs_ok h2 rs1 e fun σ2 rs2 b2 => k σ2 rs2 ?_⟩
        unfold Tg.varss
        exact (b1.mono fun i hi => List.mem_append_left _ hi).trans (b2.mono fun i hi => List.mem_append_right _ hi)
theorem asgTs_len : ∀ {ts : List Tg} {ds : List Dv} {ρ ρ' : DEnv}, asgTs ts ds ρ = some ρ' → ts.length = ds.length
  | [], [], _, _, _ => rfl
  | [], _ :: _, _, _, e => by simp [asgTs] at e
  | _ :: _, [], _, _, e => by simp [asgTs] at e
  | t :: ts, d :: ds, ρ, ρ', e => by
    unfold asgTs at e
    cases e1 : asgT t d ρ with
    | none => rw [e1] at e; cases e
    | some ρ1 =>
      rw [e1] at e
      simp [asgTs_len e]
end
end
section
variable {X : Cx}
theorem gm_nm {i : Nat} {x : Str} {pos : Pos} (h : PG X (.Name x pos) (gName i)) : PG X (.Name x pos) (gT X.K (.nm i)) := by unfold gT; exact h
theorem gms_nil : PGs X [] (gTs X.K []) := by unfold gTs; exact pgs_nil
theorem gms_cons {e : Expr} {es : List Expr} {t : Tg} {ts : List Tg} (h1 : PG X e (gT X.K t)) (h2 : PGs X es (gTs X.K ts)) (hs : List.map (fun x => x.snd) (assignEach (e :: es) X.env) = assign e X.env :: List.map (fun x => x.snd) (assignEach es X.env) := by rfl) : PGs X (e :: es) (gTs X.K (t :: ts)) := by unfold gTs; exact pgs_cons h1 h2 hs
theorem gm_tp {es : List Expr} {k : Nat} {ts : List Tg} {pos : Pos} (c : Cf X) (hl : es.length = ts.length) (h : PGs X es (gTs X.K ts)) (h' : PGs X es (gTs X.K ts) → PG X (.Tuple es k pos) (gTup X.K ts.length (gTs X.K ts))) : PG X (.Tuple es k pos) (gT X.K (.tp ts)) := by
  unfold gT
  exact h' h
end

/-! ### statements -/
def sSeq (a b : MS) : MS := fun ρ => do
  let o ← a ρ
  match o with
  | .nx ρ' => b ρ'
  | o => pure o
def sNil : MS := fun ρ => pure (.nx ρ)
def sSet (i : Nat) (e : ME) : MS := fun ρ => do
  let d ← e ρ
  pure (.nx (ρ.set i (some d)))
def sAsg (T : Tg) (e : ME) : MS := fun ρ => do
  let d ← e ρ
  let ρ' ← MX.opt (asgT T d ρ)
  pure (.nx ρ')
def sDrop (e : ME) : MS := fun ρ => do
  let _ ← e ρ
  pure (.nx ρ)
def sRet (e : ME) : MS := fun ρ => do
  let d ← e ρ
  pure (.rt d)
def sRetN : MS := fun _ => pure (.rt .non)
def sIf (c : DEnv → MX Bool) (a b : MS) : MS := fun ρ => do
  let k ← c ρ
  if k then a ρ else b ρ
def sBrk : MS := fun ρ => pure (.bk ρ)
def sCt : MS := fun ρ => pure (.ct ρ)
def sNever : MS := fun _ => MX.stuck
def sAug (i : Nat) (o : Dv → Dv → MX Dv) (e : ME) : MS := fun ρ => do
  let x ← MX.opt (ρ.getD i none)
  let y ← e ρ
  let z ← o x y
  pure (.nx (ρ.set i (some z)))
/-- o[i] = v -/
def setO (x y v : Dv) : MX Unit := fun _ θ Q => match x with
  | .obj k => (match θ[k]? with
    | some (.lst ds) => (match y with
      | .int i => (match ixN ds.length i with
        | some j => Q () (θ.set k (.lst (ds.set j v)))
        | none => False)
      | _ => False)
    | some (.dK kvs) => (match fKey y with
      | some q => kvs.length < sizeLine ∧ Q () (θ.set k (.dK (putD kvs q v)))
      | none => False)
    | some (.dT kvs) => (match tKey y with
      | some q => kvs.length < sizeLine ∧ Q () (θ.set k (.dT (putD kvs q v)))
      | none => False)
    | _ => False)
  | _ => False
def sPut (o i e : ME) : MS := fun ρ => do
  let v ← e ρ
  let x ← o ρ
  let y ← i ρ
  setO x y v
  pure (.nx ρ)
def sWhileGo (c : DEnv → MX Bool) (b : MS) : Nat → DEnv → MX Out
  | 0, _ => MX.stuck
  | n + 1, ρ => do
    let k ← c ρ
    if k then do
      let o ← b ρ
      match o with
      | .nx ρ' => sWhileGo c b n ρ'
      | .ct ρ' => sWhileGo c b n ρ'
      | .bk ρ' => pure (.nx ρ')
      | .rt d => pure (.rt d)
    else pure (.nx ρ)
def sWhile (c : DEnv → MX Bool) (b : MS) : MS := fun ρ E θ Q => ∃ n, sWhileGo c b n ρ E θ Q

section
variable {X : Cx} {W : Wd X.K X.mg} {st : Stmt} {sts : List Stmt} {pos : Pos}
theorem sm_nil : PSs X [] (tS W sNil) := pss_w pss_nil fun D σ H ⟨ρ, α, θ, Qm, at', rs, q, u⟩ => u (.nx ρ) θ α H q at'.ok Nx.refl σ rs
theorem sm_one {m : MS} (h : PS X st (tS W m)) : PSs X [st] (tS W m) := pss_one h
theorem sm_cons {a b : MS} (h1 : PS X st (tS W a)) (h2 : PSs X sts (tS W b)) : PSs X (st :: sts) (tS W (sSeq a b)) :=
  pss_w (pss_cons h1 h2) fun D σ H ⟨ρ, α, θ, Qm, at', rs, q, u⟩ => ⟨ρ, α, θ, _, at', rs, q, fun o θ1 α1 H1 q1 ok1 nx1 => by
    cases o with
    | nx ρ1 => exact fun σ1 rs1 => ⟨ρ1, α1, θ1, Qm, ⟨ok1, at'.nx.trans nx1⟩, rs1, q1, u.mono nx1⟩
    | rt d => exact u (.rt d) θ1 α1 H1 q1 ok1 nx1
    | bk ρ1 => exact u (.bk ρ1) θ1 α1 H1 q1 ok1 nx1
    | ct ρ1 => exact u (.ct ρ1) θ1 α1 H1 q1 ok1 nx1⟩
theorem ts_set {i : Nat} {m : ME} (D : Ends) (σ : L2.St) (H : Hp) : tS W (sSet i m) D σ H → tAsg (tM W m) (gName i) D σ H := fun ⟨ρ, α, θ, Qm, at', rs, q, u⟩ =>
  ⟨ρ, α, θ, _, at', rs, q, fun d θ1 α1 H1 v q1 ok1 nx1 r1 => u _ θ1 α1 H1 q1 ok1 nx1 _ ((rs.mono nx1).set r1 i)⟩
theorem sm_set {i : Nat} {m : ME} (h : ∀ te, te = tM W m → PS X st (tAsg te (gName i))) : PS X st (tS W (sSet i m)) := ps_w (h _ rfl) ts_set
theorem sm_setLc {i : Nat} {m : ME} {t : TE} (h : PS X st (tAsg t (gName i))) (w : ∀ σ H Q, tM W m σ H Q → t σ H Q) : PS X st (tS W (sSet i m)) := ps_w h fun D σ H q => w σ H _ (ts_set D σ H q)
theorem sm_asg {T : Tg} {m : ME} (h : PS X st (tAsg (tM W m) (gT X.K T))) : PS X st (tS W (sAsg T m)) := ps_w h fun D σ H ⟨ρ, α, θ, Qm, at', rs, q, u⟩ =>
  ⟨ρ, α, θ, _, at', rs, q, fun d θ1 α1 H1 v q1 ok1 nx1 r1 => by
    have q2 : (MX.opt (asgT T d ρ) : MX DEnv) W.En θ1 (fun ρ' θ' => Qm (.nx ρ') θ') := q1
    cases e : asgT T d ρ with
    | none => rw [e] at q2; exact False.elim q2
    | some ρ1 =>
      rw [e] at q2
      exact gT_ok r1 (rs.mono nx1) e fun σ1 rs1 _ => u _ θ1 α1 H1 q2 ok1 nx1 σ1 rs1⟩
theorem sm_drop {m : ME} (h : PS X st (tDrop (tM W m))) : PS X st (tS W (sDrop m)) := ps_w h fun D σ H ⟨ρ, α, θ, Qm, at', rs, q, u⟩ =>
  ⟨ρ, α, θ, _, at', rs, q, fun d θ1 α1 H1 v q1 ok1 nx1 r1 => u _ θ1 α1 H1 q1 ok1 nx1 σ (rs.mono nx1)⟩
theorem sm_ret {e : Expr} {m : ME} (h : PE X e (tM W m)) : PS X (.Return (some e) pos) (tS W (sRet m)) := ps_w (ps_ret h) fun D σ H ⟨ρ, α, θ, Qm, at', rs, q, u⟩ =>
  ⟨ρ, α, θ, _, at', rs, q, fun d θ1 α1 H1 v q1 ok1 nx1 r1 => u _ θ1 α1 H1 q1 ok1 nx1 v r1⟩
theorem sm_retN : PS X (.Return none pos) (tS W sRetN) := ps_w ps_retN fun D σ H ⟨ρ, α, θ, Qm, at', rs, q, u⟩ => u _ θ α H q at'.ok Nx.refl .non rp_non
theorem sm_if {c : Expr} {a b : List Stmt} {mc : DEnv → MX Bool} {ma mb : MS} (hc : PT X c (tMb W mc)) (ha : PSs X a (tS W ma)) (hb : PSs X b (tS W mb)) : PS X (.If c a b pos) (tS W (sIf mc ma mb)) :=
  ps_w (ps_if hc ha hb) fun D σ H ⟨ρ, α, θ, Qm, at', rs, q, u⟩ => ⟨ρ, α, θ, _, at', rs, q, fun k θ1 α1 H1 q1 ok1 nx1 => by
    cases k with
    | true => exact iteT ⟨ρ, α1, θ1, Qm, ⟨ok1, at'.nx.trans nx1⟩, rs.mono nx1, q1, u.mono nx1⟩
    | false => exact iteF ⟨ρ, α1, θ1, Qm, ⟨ok1, at'.nx.trans nx1⟩, rs.mono nx1, q1, u.mono nx1⟩⟩
theorem sm_pass : PS X (.Pass pos) (tS W sNil) := ps_w ps_pass fun D σ H ⟨ρ, α, θ, Qm, at', rs, q, u⟩ => u _ θ α H q at'.ok Nx.refl σ rs
theorem sm_break : PS X (.Break pos) (tS W sBrk) := ps_w ps_break fun D σ H ⟨ρ, α, θ, Qm, at', rs, q, u⟩ => u _ θ α H q at'.ok Nx.refl σ rs
theorem sm_continue : PS X (.Continue pos) (tS W sCt) := ps_w ps_continue fun D σ H ⟨ρ, α, θ, Qm, at', rs, q, u⟩ => u _ θ α H q at'.ok Nx.refl σ rs
theorem sm_never : PS X st (tS W sNever) := ps_w ps_never fun D σ H ⟨ρ, α, θ, Qm, at', rs, q, u⟩ => q
theorem sm_doc {x : Str} {j : Nat} {pos' : Pos} : PS X (.Expr (.Constant (.str x) j pos) pos') (tS W sNil) := ps_w ps_doc fun D σ H ⟨ρ, α, θ, Qm, at', rs, q, u⟩ => u _ θ α H q at'.ok Nx.refl σ rs
def IpM (W : Wd X.K X.mg) (op : Operator) (o : Dv → Dv → MX Dv) : Prop := PIp X op (rM2 W o)
theorem sm_aug {i : Nat} {o : Dv → Dv → MX Dv} {m : ME} (h : PS X st (tAug i (tM W m) (rM2 W o))) : PS X st (tS W (sAug i o m)) := ps_w h fun D σ H ⟨ρ, α, θ, Qm, at', rs, q, u⟩ => by
  have q' : (MX.opt (ρ.getD i none) : MX Dv) W.En θ (fun x θ1 => m ρ W.En θ1 fun y θ2 => o x y W.En θ2 fun z θ3 => Qm (.nx (ρ.set i (some z))) θ3) := q
  cases e : ρ.getD i none with
  | none => rw [e] at q'; exact False.elim q'
  | some d =>
    rw [e] at q'
    have e' : ρ[i]? = some (some d) := by
      rw [List.getD_eq_getElem?_getD] at e
      cases z : ρ[i]? with
      | none => rw [z] at e; cases e
      | some o => rw [z] at e; rw [show o = some d from e]
    obtain ⟨v, h1, h2⟩ := rs.2 i d e'
    refine ⟨v, h1, ρ, α, θ, _, at', rs, q', fun y θ1 α1 H1 vy q1 ok1 nx1 r1 => ?_⟩
    exact ⟨α1, θ1, d, y, _, ⟨ok1, at'.nx.trans nx1⟩, h2.mono nx1, r1, q1, fun z θ2 α2 H2 vz q2 ok2 nx2 r2 => u _ θ2 α2 H2 q2 ok2 (nx1.trans nx2) _ ((rs.mono (nx1.trans nx2)).set r2 i)⟩
theorem ipm_of {op : Operator} {r : TIp} {o : Dv → Dv → MX Dv} (h : PIp X op r) (w : ∀ {H : Hp} {α : List Addr} {θ : Th} {dx dy : Dv} {x y : V} {Qm : Dv → Th → Prop} {Q : VK}, At W H α θ → Rp X.K H α dx x → Rp X.K H α dy y → o dx dy W.En θ Qm → Up X.K H α Qm Q → r x y H Q) : IpM W op o :=
  fun pins s σ H x y v u Q I rx ry ⟨_, _, _, _, _, h1, h2, h3, h4, h5⟩ => h pins s σ H x y v u Q I rx ry (w h1 h2 h3 h4 h5)
theorem ipm_addI : IpM W .Add oAddI := ipm_of ip_add fun {H α θ dx dy x y Qm Q} a r1 r2 q u => by
  cases dx <;> cases dy <;> first | exact False.elim q | skip
  cases of_int r1; cases of_int r2; exact ⟨_, _, rfl, rfl, up_same u a q rp_int⟩
theorem ipm_subI : IpM W .Sub oSub := ipm_of ip_sub fun {H α θ dx dy x y Qm Q} a r1 r2 q u => by
  cases dx <;> cases dy <;> first | exact False.elim q | skip
  cases of_int r1; cases of_int r2; exact ⟨_, _, rfl, rfl, up_same u a q rp_int⟩
theorem ipm_mulI : IpM W .Mult oMulI := ipm_of (r := rI CMul fun i j => .int (i * j)) (fun pins s σ H x y v u Q I rx ry h => iop_mul pins s σ H x y v u Q I rx ry h) fun {H α θ dx dy x y Qm Q} a r1 r2 q u => by
  cases dx <;> cases dy <;> first | exact False.elim q | skip
  cases of_int r1; cases of_int r2; exact ⟨_, _, rfl, rfl, q.1, up_same u a q.2 rp_int⟩
/-! stores to a place -/
theorem PSet.w {t t' : TSet} (h : PSet X t) (w : ∀ o i v H Q, t' o i v H Q → t o i v H Q) : PSet X t' := fun pins s σ H o i v ov iv u Q I r1 r2 r3 q => h pins s σ H o i v ov iv u Q I r1 r2 r3 (w o i v H Q q)
theorem PSet.or {t t' : TSet} (h : PSet X t) (h' : PSet X t') : PSet X (fun o i v H Q => t o i v H Q ∨ t' o i v H Q) := fun pins s σ H o i v ov iv u Q I r1 r2 r3 q => q.elim (fun q => h pins s σ H o i v ov iv u Q I r1 r2 r3 q) (fun q => h' pins s σ H o i v ov iv u Q I r1 r2 r3 q)
def rSetD : TSet := fun o i v H Q => ∃ a H', o = .ref a ∧ DPut H a i v H' ∧ Q H'
theorem set_dict (c : Cf X) : PSet X rSetD := fun pins s σ H o i v ov iv u Q I r1 r2 r3 ⟨a, H', e, g, q⟩ => by
  subst e
  cases (show ov = Value.ref a from r1)
  exact d_setItem (by have := c.un; omega) I g r2 r3 fun s' I' => ⟨H', I', q⟩
def rSetM (W : Wd X.K X.mg) : TSet := fun o i v H Q => ∃ α θ dx dy dv Qm, At W H α θ ∧ Rp X.K H α dx o ∧ Rp X.K H α dy i ∧ Rp X.K H α dv v ∧ setO dx dy dv W.En θ Qm ∧ ∀ θ' H', Qm () θ' → Okk X.K H' α θ' → Nx X.K H α H' α → Q H'
theorem set_any (c : Cf X) : PSet X (rSetM W) := PSet.w (PSet.or set_list (set_dict c)) fun o i v H Q ⟨α, θ, dx, dy, dv, Qm, a, r1, r2, r3, q, k⟩ => by
  unfold setO at q
  split at q
  · rename_i n
    have r1' := r1
    unfold Rp at r1
    obtain ⟨p, e1, rfl⟩ := r1
    split at q
    · rename_i ds e2
      split at q
      · rename_i z
        cases of_int r2
        split at q
        · rename_i j hj
          obtain ⟨vs, h1, h2⟩ := a.ok.ob n p _ e1 e2
          have nx := Nx.chg (o := .lst (vs.set j v)) (a.ok.ob n p _ e1 e2)
          exact .inl ⟨p, vs, z, j, rfl, rfl, h1, by rw [h2.length]; exact hj, k _ _ q (a.ok.chg e1 e2 ⟨_, upd_same, (h2.set r3).mono nx⟩) nx⟩
        · exact q.elim
      · exact q.elim
    · rename_i kvs e2
      split at q
      · rename_i k' hk
        obtain ⟨vs, h1, h2⟩ := a.ok.ob n p _ e1 e2
        have ex := fKey_v hk r2
        subst ex
        have nx := Nx.chg (o := .dK (putK vs k' v)) (a.ok.ob n p _ e1 e2)
        exact .inr ⟨p, _, rfl, DPut.k h1 (by rw [h2.length]; exact q.1), k _ _ q.2 (a.ok.chg e1 e2 ⟨_, upd_same, (h2.put k' r3).mono nx⟩) nx⟩
      · exact q.elim
    · rename_i kvs e2
      split at q
      · rename_i k' hk
        obtain ⟨vs, h1, h2⟩ := a.ok.ob n p _ e1 e2
        obtain ⟨b, rfl, hb⟩ := tKey_v hk r2
        have nx := Nx.chg (o := .dT (putK vs k' v)) (a.ok.ob n p _ e1 e2)
        exact .inr ⟨p, _, rfl, DPut.t h1 hb (by rw [h2.length]; exact q.1), k _ _ q.2 (a.ok.chg e1 e2 ⟨_, upd_same, (h2.put k' r3).mono nx⟩) nx⟩
      · exact q.elim
    · exact q.elim
  · exact q.elim
theorem sm_put {o i e : Expr} {mo mi m : ME} {pos' : Pos} (c : Cf X) (he : PE X e (tM W m)) (ho : PE X o (tM W mo)) (hi : PE X i (tM W mi))
    (pg : ∀ t, PSet X t → PG X (.Subscript o i pos') (gSub (tM W mo) (tM W mi) t)) (ps : ∀ g, PG X (.Subscript o i pos') g → PS X st (tAsg (tM W m) g)) : PS X st (tS W (sPut mo mi m)) :=
  ps_w (ps _ (pg _ (set_any (W := W) c))) fun D σ H ⟨ρ, α, θ, Qm, at', rs, q, u⟩ => ⟨ρ, α, θ, _, at', rs, q, fun d θ1 α1 H1 v q1 ok1 nx1 r1 =>
    ⟨ρ, α1, θ1, _, ⟨ok1, at'.nx.trans nx1⟩, rs.mono nx1, q1, fun d2 θ2 α2 H2 v2 q2 ok2 nx2 r2 => ⟨ρ, α2, θ2, _, ⟨ok2, (at'.nx.trans nx1).trans nx2⟩, rs.mono (nx1.trans nx2), q2, fun d3 θ3 α3 H3 v3 q3 ok3 nx3 r3 =>
      ⟨α3, θ3, d2, d3, d, _, ⟨ok3, ((at'.nx.trans nx1).trans nx2).trans nx3⟩, r2.mono nx3, r3, r1.mono (nx2.trans nx3), q3, fun θ4 H4 q4 ok4 nx4 =>
        u _ θ4 α3 H4 q4 ok4 (((nx1.trans nx2).trans nx3).trans nx4) σ (rs.mono (((nx1.trans nx2).trans nx3).trans nx4))⟩⟩⟩⟩
theorem sm_while {c : Expr} {b : List Stmt} {mc : DEnv → MX Bool} {mb : MS} (hp : PassesOwn (model X.prog X.w) X.A X.env X.xe) (hc : PT X c (tMb W mc)) (hb : PSs X b (tS W mb)) : PS X (.While c b [] pos) (tS W (sWhile mc mb)) :=
  ps_w (ps_while hp hc hb) fun D σ H ⟨ρ, α, θ, Qm, at', rs, ⟨n, q⟩, u⟩ => by
    refine ⟨fun m σ1 H1 => ∃ ρ1 α1 θ1, At W H1 α1 θ1 ∧ RS X.K H1 α1 σ1 ρ1 ∧ Nx X.K H α H1 α1 ∧ sWhileGo mc mb m ρ1 W.En θ1 Qm, ⟨n, ρ, α, θ, at', rs, Nx.refl, q⟩, ?_⟩
    rintro m σ1 H1 ⟨ρ1, α1, θ1, at1, rs1, nx1, q1⟩
    cases m with
    | zero => exact False.elim q1
    | succ m =>
      refine ⟨ρ1, α1, θ1, _, at1, rs1, q1, fun k θ2 α2 H2 q2 ok2 nx2 => ?_⟩
      have at2 : At W H2 α2 θ2 := ⟨ok2, at1.nx.trans nx2⟩
      cases k with
      | false => exact iteF (u _ θ2 α2 H2 q2 ok2 (nx1.trans nx2) σ1 (rs1.mono nx2))
      | true =>
        refine iteT ⟨fun σ3 H3 => ∃ ρ3 α3 θ3, At W H3 α3 θ3 ∧ RS X.K H3 α3 σ3 ρ3 ∧ Nx X.K H α H3 α3 ∧ sWhileGo mc mb m ρ3 W.En θ3 Qm, fun σ3 H3 h3 => ⟨m, Nat.lt_succ_self m, h3⟩, ?_⟩
        refine ⟨ρ1, α2, θ2, _, at2, rs1.mono nx2, q2, fun o θ3 α3 H3 q3 ok3 nx3 => ?_⟩
        have nx03 := (nx1.trans nx2).trans nx3
        cases o with
        | nx ρ3 => exact fun σ3 rs3 => ⟨ρ3, α3, θ3, ⟨ok3, at2.nx.trans nx3⟩, rs3, nx03, q3⟩
        | ct ρ3 => exact fun σ3 rs3 => ⟨ρ3, α3, θ3, ⟨ok3, at2.nx.trans nx3⟩, rs3, nx03, q3⟩
        | bk ρ3 => exact fun σ3 rs3 => u (.nx ρ3) θ3 α3 H3 q3 ok3 nx03 σ3 rs3
        | rt d => exact fun v r => u (.rt d) θ3 α3 H3 q3 ok3 nx03 v r
end
end Mn

/-! Mn7: what is walked; for; comprehensions. -/
namespace Mn
open PySem PySem.Spec PyProof.Rows L2

/-! ### a sequence or a text, whichever the value is -/
def iSeq (K : PySem.W.Frag) (tl : TE) : TI := fun σ H R => tl σ H fun x H1 => (∃ a xs, x = .ref a ∧ SqL K H1 a xs ∧ R (Itl K a) H1) ∨ (∃ a xs, x = .ref a ∧ SqT K H1 a xs ∧ R (Itt K a) H1) ∨ ∃ z, x = .str z ∧ R (Its z) H1
theorem pi_seq {X : Cx} {tg l : Expr} {tl : TE} (hl : PE X l tl) : PI X tg l (iSeq X.K tl) := by
  constructor
  intro pins s σ H R I h
  refine thn (hl.run pins s σ H _ I h) ?_
  rintro v s1 ⟨x, H1, I1, r1, ⟨a, xs, e, hq, q⟩ | ⟨a, xs, e, hq, q⟩ | ⟨z, e, q⟩⟩
  · subst e
    cases r1
    obtain ⟨its, rv, p, hz⟩ := I1.list hq
    exact wpAny_pyIter_list p.isList (pi_one (tk := s1.toks) I1 _ (turn_list a _) ⟨_, Heap.get?_push_size _ rfl, rfl, rfl⟩ q)
  · subst e
    cases r1
    obtain ⟨its, rv, p, hz⟩ := I1.tuple hq
    exact wpAny_pyIter_tuple (show s1.heap.IsTuple a its.toArray from p) (pi_one (tk := s1.toks) I1 _ (turn_tuple a _) ⟨_, Heap.get?_push_size _ rfl, rfl, rfl⟩ q)
  · subst e
    obtain ⟨t, rfl⟩ := r1
    cases ha : z.cps.all (· < 128)
    · exact wpAny_pyIter_wide ha (pi_one (tk := s1.toks) I1 _ (turn_str _ z t "str_iterator" (.inr rfl)) ⟨_, Heap.get?_push_size _ rfl, rfl, rfl⟩ q)
    · exact wpAny_pyIter_ascii ha (pi_one (tk := s1.toks) I1 _ (turn_str _ z t "str_ascii_iterator" (.inl rfl)) ⟨_, Heap.get?_push_size _ rfl, rfl, rfl⟩ q)

/-! ### the values of a locked dict, whatever its keys -/
def Lkv (H : Hp) (d : Addr) (o : Obj) (vs : List V) : Prop := (∃ kvs : List (Key × V), H d = some (.frz o (.dK kvs)) ∧ kvs.map (·.2) = vs) ∨ ∃ kvs : List (List Key × V), H d = some (.frz o (.dT kvs)) ∧ kvs.map (·.2) = vs
theorem Lkv.at {X : Cx} {pins : List (Addr × Obj)} {σ : L2.St} {H : Hp} {s : Shared} {d : Addr} {o : Obj} {vs : List V} (I : Inv X pins σ H s) (h : Lkv H d o vs) :
    (d == sysModules) = false ∧ s.heap.get? d = some o ∧ ∃ es ep, s.heap.DictRaw d es ep ∧ o.data = .dict es ep ∧ es.size = vs.length ∧ ∀ (i : Nat) (hi : i < es.size) (x : V), vs[i]? = some x → RelV x es[i].val := by
  rcases h with ⟨kvs, h, e⟩ | ⟨kvs, h, e⟩
  · obtain ⟨ho, hs, hd, us, rel, dd⟩ := (show ObjOk X.prog X.w H s.heap d (.frz o (.dK kvs)) from I.hok d _ h)
    obtain ⟨es, ep, raw, hsz, hv⟩ := dd.raw
    obtain ⟨o', ho', hx, hdt⟩ := id raw
    rw [ho] at ho'
    cases ho'
    have l2 : kvs.length = us.length := Paired.length rel
    refine ⟨hd, ho, es, ep, raw, hdt, by rw [hsz, ← e, List.length_map, l2], fun i hi x hx => ?_⟩
    rw [← e, List.getElem?_map] at hx
    obtain ⟨⟨k, v⟩, h1, h2⟩ := Option.map_eq_some_iff.mp hx
    cases h2
    obtain ⟨u, hu, ru⟩ := kv_get rel h1
    rw [(hv i hi k u hu).2]
    exact ru
  · obtain ⟨ho, hs, hd, us, rel, dd⟩ := (show ObjOk X.prog X.w H s.heap d (.frz o (.dT kvs)) from I.hok d _ h)
    obtain ⟨o', es, ep, ho', hx, hdt, he, _⟩ := dd
    rw [ho] at ho'
    cases ho'
    have l2 : kvs.length = us.length := Paired.length rel
    have hsz : es.size = us.length := size_of_entries he
    refine ⟨hd, ho, es, ep, ⟨o, ho, hx, hdt⟩, hdt, by rw [hsz, ← e, List.length_map, l2], fun i hi x hx => ?_⟩
    rw [← e, List.getElem?_map] at hx
    obtain ⟨⟨k, v⟩, h1, h2⟩ := Option.map_eq_some_iff.mp hx
    cases h2
    obtain ⟨b, hb, _, _, ru⟩ := paired_get rel h1
    have q := entry_at he i
    rw [hb, Array.getElem?_eq_getElem hi] at q
    have q' : es[i] = entryOfKey _ b := Option.some.inj q
    rw [q']
    exact ru
def Jvl (d : Addr) (o : Obj) (vs : List V) : It := ⟨fun i H => Lkv H d o vs ∧ i < vs.length, fun i H x H' => H' = H ∧ vs[i]? = some x, fun i H => Lkv H d o vs ∧ vs.length ≤ i⟩
theorem turn_vl {P : Program} {w : World} {K : PySem.W.Frag} {tg : Expr} {d it : Addr} {o : Obj} {es : Array DictEntry} {ep : Nat} {vs : List V} (hod : o.data = .dict es ep) (hsz : es.size = vs.length) :
    Turn P w K tg (Jvl d o vs) [it] it (fun i h => h.IsValIter it d i es.size ep) where
  mem := by simp
  obj := fun i h st b hb => by
    have e : b = it := by simpa using hb
    subst e
    obtain ⟨oi, e, c, dd⟩ := st
    exact ⟨oi, e, fun v z => by rw [dd] at z; cases z⟩
  keep := fun i h h' st k => st.at fun oi e => k it (by simp) oi e
  item := by
    intro X hP hw hK hc i pins s σ H E I hf st hg
    subst hP hw hK
    obtain ⟨hl, hi⟩ := hg
    obtain ⟨f0, f1, f2, f3, f4, f5⟩ := hf it (by simp)
    obtain ⟨_, _, es', ep', raw, hdt, _, hv⟩ := hl.at I
    obtain ⟨rfl, rfl⟩ := dict_ep hod hdt
    have hi' : i < es'.size := by rw [hsz]; exact hi
    refine wpAny_pyNext_values_item_raw st raw hi' fun h' st' sb => ?_
    have I1 : Inv X pins σ H { s with heap := h' } := I.turned (t' := s.toks) (fun b ob hb e => (sb.2 b hb).trans e) f0 f1 f3 f4 f5
    obtain ⟨oi, e, c, dd⟩ := id st'
    have hx : vs[i]? = some vs[i] := List.getElem?_eq_getElem hi
    exact ⟨_, rfl, go_of (s := { s with heap := h' }) e c dd (by decide) ⟨vs[i], H, I1, hv i hi' _ hx, ⟨rfl, hx⟩, st', fun b hb => (hf b hb).1⟩⟩
  done := by
    intro X hP hw hK hc i pins s σ H E I hf st hg
    subst hP hw hK
    obtain ⟨hl, hi⟩ := hg
    obtain ⟨f0, f1, f2, f3, f4, f5⟩ := hf it (by simp)
    obtain ⟨_, _, es', ep', raw, hdt, _, hv⟩ := hl.at I
    obtain ⟨rfl, rfl⟩ := dict_ep hod hdt
    exact wpAny_pyNext_values_end_raw (I.ok.hd hc) st raw (by rw [hsz]; exact hi) fun h' eb => ⟨rfl, I.turned (t' := s.toks) (fun b ob hb e => eb b ob hb e) f0 f1 f3 f4 f5⟩
  self := fun A i s Q E st h => wpAny_pyIter_valiter st h
def iVl (td : TE) : TI := fun σ H R => td σ H fun x H1 => ∃ d o vs, x = .ref d ∧ Lkv H1 d o vs ∧ R (Jvl d o vs) H1
theorem pi_vl {X : Cx} {tg e : Expr} {td : TE} {apos cpos : Pos} (he : PE X e td) (hbase : attributeBase e "values" X.env (eval e X.env) = eval e X.env := by rfl) (hline : (apos.endLine == cpos.line) = true := by rfl) :
    PI X tg (.Call (.Attribute e "values" apos) [] [] cpos) (iVl td) := by
  constructor
  intro pins s σ H R I h
  refine wpAny_Call_method (T := "dict") (id := "dict.values") hbase rfl hline F.plainAttrs_dict F.slot_dict_values F.type_dict_values (thn (he.run pins s σ H _ I h) ?_)
  rintro u s1 ⟨x, H1, I1, rx, d, o, vs, ex, hd, q⟩
  subst ex
  obtain rfl : u = Value.ref d := rx
  obtain ⟨hs, hgd, es, ep, raw, hdt, hsz, hv⟩ := hd.at I1
  have nd : ∀ a, Value.ref d = .ref a → ∃ ob, s1.heap.get? a = some ob ∧ ob.dict = none := fun a e => by
    cases e
    obtain ⟨ob, e1, ex, _⟩ := raw
    exact ⟨ob, e1, ex.2.1⟩
  refine ⟨raw.typeIs, nd, ?_⟩
  have I2 : Inv X pins σ H1 { s1 with heap := s1.heap.push { cls := .type "dict_values", data := .fields #[.ref d] } } := I1.kept (t' := s1.toks) fun b ob q => Heap.get?_push_of_some _ q
  have fin : wpAny (model X.prog X.w) X.A (pyIter (.ref s1.heap.objs.size)) (PIE X pins σ tg R) X.xe { s1 with heap := s1.heap.push { cls := .type "dict_values", data := .fields #[.ref d] } } :=
    wpAny_pyIter_values_raw (d := d) ⟨_, Heap.get?_push_size _ rfl, rfl, rfl⟩ (raw.at fun ob q => Heap.get?_push_of_some _ q) (pi_one (tk := s1.toks) I2 _ (turn_vl hdt hsz) ⟨_, Heap.get?_push_size _ rfl, rfl, rfl⟩ q)
  show wpAny _ _ (callWith cpos (.builtin "dict.values") [.ref d] [] []) _ X.xe s1
  exact method_meetsIn F.slot_dict_values F.entry_dict_values rfl (PySem.evalArgs_none ⟨rfl, raw.typeIs, F.args_dict_values_1 _, _, meets_dict_values_raw d hs, ⟨es, ep, raw⟩, fin⟩)

/-! ### sources by data -/
inductive Sd where
  | T (ds : List Dv) | L (k : Nat)
def lstAt (θ : Th) (k : Nat) : Option (List Dv) := match θ[k]? with
  | some (.lst ds) => some ds
  | _ => none
def Sd.items (θ : Th) : Sd → Option (List Dv)
  | .T ds => some ds
  | .L k => lstAt θ k
inductive Src where
  | sd (s : Sd) | en (s : Sd) | zp (s t : Sd) | rng (lo c : Int) (n : Nat) | str (z : Str) | vals (k : Nat)
def enAt (o : Option (List Dv)) (i : Nat) : Option (Option Dv) := match o with
  | some ds => if i ≤ ds.length then some (ds[i]?.map fun d => .tup [.int (i : Nat), d]) else none
  | none => none
def pairO (d e : Option Dv) : Option Dv := match d, e with
  | some d, some e => some (.tup [d, e])
  | _, _ => none
def zpAt (o o' : Option (List Dv)) (i : Nat) : Option (Option Dv) := match o, o' with
  | some ds, some es => if i < min ds.length es.length then some (pairO ds[i]? es[i]?) else if i = min ds.length es.length then some none else none
  | _, _ => none
def vlAt (o : Option Ob) (i : Nat) : Option (Option Dv) := match o with
  | some (.dKf kvs) => some ((kvs.map (·.2))[i]?)
  | some (.dTf kvs) => some ((kvs.map (·.2))[i]?)
  | _ => none
def Src.at (θ : Th) : Src → Nat → Option (Option Dv)
  | .sd s, i => (s.items θ).map (·[i]?)
  | .en s, i => enAt (s.items θ) i
  | .zp s t, i => zpAt (s.items θ) (t.items θ) i
  | .rng lo c n, i => some (if i < n then some (.int (lo + (i : Nat) * c)) else none)
  | .str z, i => some (z.cps[i]?.map fun c => .str ⟨#[c]⟩)
  | .vals k, i => vlAt θ[k]? i
abbrev Wk (K : PySem.W.Frag) (J : It) (i : Nat) (H1 : Hp) (α1 : List Addr) (θ1 : Th) (r : Option Dv) : Prop := match r with
  | some d => J.go i H1 ∧ ∀ x H2, J.yld i H1 x H2 → Okk K H2 α1 θ1 ∧ Nx K H1 α1 H2 α1 ∧ Rp K H2 α1 d x
  | none => J.stop i H1
/-- the iterator J gives what src says, wherever the store has come from here -/
def Walks (K : PySem.W.Frag) (src : Src) (H : Hp) (α : List Addr) (J : It) : Prop :=
  ∀ H1 α1 θ1, Nx K H α H1 α1 → Okk K H1 α1 θ1 → ∀ (i : Nat) r, src.at θ1 i = some r → Wk K J i H1 α1 θ1 r
section
variable {X : Cx} {W : Wd X.K X.mg}
def tIm (W : Wd X.K X.mg) (m : DEnv → MX Src) : TI := fun σ H R => ∃ ρ α θ Qm, At W H α θ ∧ RS X.K H α σ ρ ∧ m ρ W.En θ Qm ∧ ∀ src θ' α' H', Qm src θ' → Okk X.K H' α' θ' → Nx X.K H α H' α' → ∀ J, Walks X.K src H' α' J → R J H'
theorem pi_w {tg e : Expr} {t t' : TI} (h : PI X tg e t) (w : ∀ σ H R, t' σ H R → t σ H R) : PI X tg e t' := ⟨fun pins s σ H R I q => h.run pins s σ H R I (w σ H R q)⟩
/-- what is known of a side -/
theorem Sd.sq {H : Hp} {α : List Addr} {θ : Th} {s : Sd} {ds : List Dv} {a : Addr} {kd : Bool} (h : match s with
    | .T es => ∃ vs, kd = false ∧ H a = some (.tup vs) ∧ Rps X.K H α es vs
    | .L k => kd = true ∧ α[k]? = some a) (ok : Okk X.K H α θ) (e : s.items θ = some ds) : ∃ vs, Sq kd H a vs ∧ Rps X.K H α ds vs := by
  cases s with
  | T es =>
    obtain ⟨vs, rfl, h1, h2⟩ := h
    cases e
    exact ⟨vs, h1, h2⟩
  | L k =>
    obtain ⟨rfl, h1⟩ := h
    have e : lstAt θ k = some ds := e
    unfold lstAt at e
    split at e
    · rename_i es e2
      cases e
      obtain ⟨vs, h3, h4⟩ := ok.ob k a _ h1 e2
      exact ⟨vs, h3, h4⟩
    · cases e
def Side (H : Hp) (α : List Addr) (K : PySem.W.Frag) (s : Sd) (kd : Bool) (a : Addr) : Prop := match s with
  | .T es => ∃ vs, kd = false ∧ H a = some (.tup vs) ∧ Rps K H α es vs
  | .L k => kd = true ∧ α[k]? = some a
theorem Side.mono {K : PySem.W.Frag} {H H' : Hp} {α α' : List Addr} {s : Sd} {kd : Bool} {a : Addr} (h : Side H α K s kd a) (n : Nx K H α H' α') : Side H' α' K s kd a := by
  cases s with
  | T es =>
    obtain ⟨vs, e, h1, h2⟩ := h
    exact ⟨vs, e, n.tup a vs h1, h2.mono n⟩
  | L k =>
    obtain ⟨e, h1⟩ := h
    exact ⟨e, n.at h1⟩
theorem Side.sq {H : Hp} {α : List Addr} {θ : Th} {s : Sd} {ds : List Dv} {a : Addr} {kd : Bool} (h : Side H α X.K s kd a) (ok : Okk X.K H α θ) (e : s.items θ = some ds) : ∃ vs, Sq kd H a vs ∧ Rps X.K H α ds vs := Sd.sq h ok e
/-- what a value is as a side -/
def asSd : Dv → MX Sd
  | .tup ds => pure (.T ds)
  | .obj k => fun _ θ Q => (match θ[k]? with
    | some (.lst _) => Q (.L k) θ
    | _ => False)
  | _ => MX.stuck
theorem asSd_up {H : Hp} {α : List Addr} {θ : Th} {d : Dv} {x : V} {E : Exn → Th → Prop} {Qm : Sd → Th → Prop} (ok : Okk X.K H α θ) (r : Rp X.K H α d x) (q : asSd d E θ Qm) : ∃ s kd a vs, Qm s θ ∧ Side H α X.K s kd a ∧ x = .ref a ∧ Sq kd H a vs := by
  cases d with
  | tup ds =>
    obtain ⟨p, vs, rfl, h1, h2⟩ := rp_tup r
    exact ⟨.T ds, false, p, vs, q, ⟨vs, rfl, h1, h2⟩, rfl, h1⟩
  | obj k =>
    unfold Rp at r
    obtain ⟨p, e1, rfl⟩ := r
    have q' : (match θ[k]? with
      | some (.lst _) => Qm (.L k) θ
      | _ => False) := q
    split at q'
    · rename_i ds e2
      obtain ⟨vs, h1, _⟩ := ok.ob k p _ e1 e2
      exact ⟨.L k, true, p, vs, q', ⟨rfl, e1⟩, rfl, h1⟩
    · exact q'.elim
  | _ => exact False.elim q
def srcV (a : ME) : DEnv → MX Src := fun ρ => do
  let d ← a ρ
  match d with
  | .str z => pure (.str z)
  | .pt ds => pure (.sd (.T ds))
  | d => do
    let s ← asSd d
    pure (.sd s)
theorem walks_sd {H : Hp} {α : List Addr} {s : Sd} {kd : Bool} {a : Addr} (h : Side H α X.K s kd a) : Walks X.K (.sd s) H α (if kd then Itl X.K a else Itt X.K a) := by
  intro H1 α1 θ1 nx ok i r e
  unfold Src.at at e
  obtain ⟨ds, e1, rfl⟩ := Option.map_eq_some_iff.mp e
  obtain ⟨vs, hq, rs⟩ := (h.mono nx).sq ok e1
  cases e2 : ds[i]? with
  | some d =>
    obtain ⟨v, hv, rv⟩ := rs.get e2
    cases kd with
    | true => exact ⟨⟨vs, v, SqL.of hq, hv⟩, fun x H2 y => by
        obtain ⟨rfl, y⟩ := y
        have := y vs (SqL.of hq)
        rw [hv] at this
        cases this
        exact ⟨ok, Nx.refl, rv⟩⟩
    | false => exact ⟨⟨vs, v, SqT.of hq, hv⟩, fun x H2 y => by
        obtain ⟨rfl, y⟩ := y
        have := y vs (SqT.of hq)
        rw [hv] at this
        cases this
        exact ⟨ok, Nx.refl, rv⟩⟩
  | none =>
    have hl : vs.length ≤ i := by rw [rs.length]; exact List.getElem?_eq_none_iff.mp e2
    cases kd with
    | true => exact ⟨vs, SqL.of hq, hl⟩
    | false => exact ⟨vs, SqT.of hq, hl⟩
theorem Rd.fz {H : Hp} {a : Addr} {o : Obj} {u : HO} (h : H a = some (.frz o u)) : Rd H a u := .inr ⟨o, h⟩
theorem SqT.fz {H : Hp} {a : Addr} {o : Obj} {vs : List V} (h : H a = some (.frz o (.tup vs))) : SqT X.K H a vs := .inl (Rd.fz h)
theorem walks_pt {H : Hp} {α : List Addr} {p : Addr} {o : Obj} {vs : List V} {ds : List Dv} (h : H p = some (.frz o (.tup vs))) (rs : Rps X.K H α ds vs) : Walks X.K (.sd (.T ds)) H α (Itt X.K p) := by
  intro H1 α1 θ1 nx ok i r e
  unfold Src.at at e
  obtain ⟨ds', e1, rfl⟩ := Option.map_eq_some_iff.mp e
  cases e1
  have hq : SqT X.K H1 p vs := SqT.fz (nx.fz p o _ h)
  have rs := rs.mono nx
  cases e2 : ds[i]? with
  | some d =>
    obtain ⟨v, hv, rv⟩ := rs.get e2
    exact ⟨⟨vs, v, hq, hv⟩, fun x H2 y => by
        obtain ⟨rfl, y⟩ := y
        have := y vs hq
        rw [hv] at this
        cases this
        exact ⟨ok, Nx.refl, rv⟩⟩
  | none => exact ⟨vs, hq, by rw [rs.length]; exact List.getElem?_eq_none_iff.mp e2⟩
theorem pim_seq {tg e : Expr} {a : ME} (he : PE X e (tM W a)) : PI X tg e (tIm W (srcV a)) := pi_w (pi_seq he) fun σ H R ⟨ρ, α, θ, Qm, at', rs, q, k⟩ => ⟨ρ, α, θ, _, at', rs, q, fun d θ1 α1 H1 v q1 ok1 nx1 r1 => by
  cases d with
  | str z =>
    cases of_str r1
    refine .inr (.inr ⟨z, rfl, k _ θ1 α1 H1 q1 ok1 nx1 _ ?_⟩)
    intro H2 α2 θ2 nx2 ok2 i r e
    unfold Src.at at e
    cases e
    cases e2 : z.cps[i]? with
    | some c => exact ⟨(Array.getElem?_eq_some_iff.mp e2).1, fun x H3 y => by
        obtain ⟨rfl, c', h1, rfl⟩ := y
        rw [e2] at h1
        cases h1
        exact ⟨ok2, Nx.refl, rp_str⟩⟩
    | none => exact Array.getElem?_eq_none_iff.mp e2
  | tup ds =>
    obtain ⟨s, kd, b, vs, q2, sd, rfl, hq⟩ := asSd_up ok1 r1 q1
    have R1 := k _ θ1 α1 H1 q2 ok1 nx1 _ (walks_sd sd)
    cases kd with
    | true => exact .inl ⟨b, vs, rfl, SqL.of hq, R1⟩
    | false => exact .inr (.inl ⟨b, vs, rfl, SqT.of hq, R1⟩)
  | obj j =>
    obtain ⟨s, kd, b, vs, q2, sd, rfl, hq⟩ := asSd_up ok1 r1 q1
    have R1 := k _ θ1 α1 H1 q2 ok1 nx1 _ (walks_sd sd)
    cases kd with
    | true => exact .inl ⟨b, vs, rfl, SqL.of hq, R1⟩
    | false => exact .inr (.inl ⟨b, vs, rfl, SqT.of hq, R1⟩)
  | pt ds =>
    unfold Rp at r1
    obtain ⟨p, vs, o, rfl, hp, _, rs1⟩ := r1
    exact .inr (.inl ⟨p, vs, rfl, SqT.fz hp, k _ θ1 α1 H1 q1 ok1 nx1 _ (walks_pt hp rs1)⟩)
  | _ => exact False.elim q1⟩
/-! ranges -/
def rk1 (ds : List Dv) : MX Src := fun _ θ Q => match ds with
  | [.int j] => (-(2 ^ 62) ≤ j ∧ j < 2 ^ 62) ∧ Q (.rng 0 1 j.toNat) θ
  | _ => False
def rk2 (ds : List Dv) : MX Src := fun _ θ Q => match ds with
  | [.int i, .int j] => (-(2 ^ 62) ≤ i ∧ i < 2 ^ 62 ∧ -(2 ^ 62) ≤ j ∧ j < 2 ^ 62) ∧ Q (.rng i 1 (j - i).toNat) θ
  | _ => False
/-- range(i, j, -1) -/
def rk3 (ds : List Dv) : MX Src := fun _ θ Q => match ds with
  | [.int i, .int j, .int c] => (-(2 ^ 62) ≤ i ∧ i < 2 ^ 62 ∧ -(2 ^ 62) ≤ j ∧ j < 2 ^ 62 ∧ c = -1) ∧ Q (.rng i (-1) (i - j).toNat) θ
  | _ => False
def rng1 (ms : DEnv → MX (List Dv)) : DEnv → MX Src := fun ρ => do rk1 (← ms ρ)
def rng2 (ms : DEnv → MX (List Dv)) : DEnv → MX Src := fun ρ => do rk2 (← ms ρ)
def rng3 (ms : DEnv → MX (List Dv)) : DEnv → MX Src := fun ρ => do rk3 (← ms ρ)
theorem ds1 {K : PySem.W.Frag} {H : Hp} {α : List Addr} {i : Int} {vs : List V} (r : Rps K H α [.int i] vs) : vs = [.int i] := by
  unfold Rps at r
  obtain ⟨v, us, rfl, h1, h2⟩ := r
  unfold Rps at h2
  subst h2
  rw [of_int h1]
theorem ds2 {K : PySem.W.Frag} {H : Hp} {α : List Addr} {i j : Int} {vs : List V} (r : Rps K H α [.int i, .int j] vs) : vs = [.int i, .int j] := by
  unfold Rps at r
  obtain ⟨v, us, rfl, h1, h2⟩ := r
  rw [ds1 h2, of_int h1]
theorem ds3 {K : PySem.W.Frag} {H : Hp} {α : List Addr} {i j k : Int} {vs : List V} (r : Rps K H α [.int i, .int j, .int k] vs) : vs = [.int i, .int j, .int k] := by
  unfold Rps at r
  obtain ⟨v, us, rfl, h1, h2⟩ := r
  rw [ds2 h2, of_int h1]
theorem walks_rng {H : Hp} {α : List Addr} {lo : Int} {n : Nat} : Walks X.K (.rng lo 1 n) H α (Itr lo n) := by
  intro H1 α1 θ1 nx ok i r e
  unfold Src.at at e
  cases e
  by_cases h : i < n
  · simp only [h, if_true]
    exact ⟨h, fun x H2 y => by
      obtain ⟨rfl, rfl⟩ := y
      refine ⟨ok, Nx.refl, ?_⟩
      rw [Int.mul_one]
      exact rp_int⟩
  · simp only [h, if_false]
    exact Nat.le_of_not_lt h
theorem walks_rngC {H : Hp} {α : List Addr} {lo c : Int} {n : Nat} : Walks X.K (.rng lo c n) H α (Itc lo c n) := by
  intro H1 α1 θ1 nx ok i r e
  unfold Src.at at e
  cases e
  by_cases h : i < n
  · simp only [h, if_true]
    exact ⟨h, fun x H2 y => by
      obtain ⟨rfl, rfl⟩ := y
      exact ⟨ok, Nx.refl, rp_int⟩⟩
  · simp only [h, if_false]
    exact Nat.le_of_not_lt h
theorem pim_rng1 {tg a : Expr} {ms : DEnv → MX (List Dv)} {p pos : Pos} (hg : Gl X "range") (hm : X.mg "range" = none) (ha : PA X [a] (tMs W ms)) (hs : starEach [a] X.env = [(false, eval a X.env)] := by rfl) : PI X tg (.Call (.Name "range" p) [a] [] pos) (tIm W (rng1 ms)) :=
  pi_w (pi_range1 hg hm ha hs) fun σ H R ⟨ρ, α, θ, Qm, at', rs, q, k⟩ => ⟨ρ, α, θ, _, at', rs, q, fun ds θ1 α1 H1 vs q1 ok1 nx1 r1 => by
    change rk1 ds W.En θ1 Qm at q1
    unfold rk1 at q1
    split at q1
    · rename_i j
      exact ⟨j, ds1 r1, q1.1.1, q1.1.2, k _ θ1 α1 H1 q1.2 ok1 nx1 _ walks_rng⟩
    · exact False.elim q1⟩
theorem pim_rng2 {tg a b : Expr} {ms : DEnv → MX (List Dv)} {p pos : Pos} (hg : Gl X "range") (hm : X.mg "range" = none) (ha : PA X [a, b] (tMs W ms)) (hs : starEach [a, b] X.env = [(false, eval a X.env), (false, eval b X.env)] := by rfl)
    (hs2 : starEach [b] X.env = [(false, eval b X.env)] := by rfl) : PI X tg (.Call (.Name "range" p) [a, b] [] pos) (tIm W (rng2 ms)) :=
  pi_w (pi_range2 hg hm ha hs hs2) fun σ H R ⟨ρ, α, θ, Qm, at', rs, q, k⟩ => ⟨ρ, α, θ, _, at', rs, q, fun ds θ1 α1 H1 vs q1 ok1 nx1 r1 => by
    change rk2 ds W.En θ1 Qm at q1
    unfold rk2 at q1
    split at q1
    · rename_i i j
      exact ⟨i, j, ds2 r1, q1.1, k _ θ1 α1 H1 q1.2 ok1 nx1 _ walks_rng⟩
    · exact False.elim q1⟩
theorem pim_rng3 {tg a b c : Expr} {ms : DEnv → MX (List Dv)} {p pos : Pos} (hg : Gl X "range") (hm : X.mg "range" = none) (ha : PA X [a, b, c] (tMs W ms)) (hs : starEach [a, b, c] X.env = (false, eval a X.env) :: starEach [b, c] X.env := by rfl)
    (hpl : (backTo pos (starEach [b, c] X.env)).any (·.1) = false := by rfl) : PI X tg (.Call (.Name "range" p) [a, b, c] [] pos) (tIm W (rng3 ms)) :=
  pi_w (pi_range3 hg hm ha hs hpl) fun σ H R ⟨ρ, α, θ, Qm, at', rs, q, k⟩ => ⟨ρ, α, θ, _, at', rs, q, fun ds θ1 α1 H1 vs q1 ok1 nx1 r1 => by
    change rk3 ds W.En θ1 Qm at q1
    unfold rk3 at q1
    split at q1
    · rename_i i j c
      obtain ⟨⟨b1, b2, b3, b4, rfl⟩, q2⟩ := q1
      exact ⟨i, j, -1, _, ds3 r1, RgC.neg b1 b2 b3 b4, k _ θ1 α1 H1 q2 ok1 nx1 _ walks_rngC⟩
    · exact False.elim q1⟩
/-! enumerate, zip, values -/
def ek (ds : List Dv) : MX Src := fun E θ Q => match ds with
  | [d] => asSd d E θ fun s θ' => Q (.en s) θ'
  | _ => False
def zk (ds : List Dv) : MX Src := fun E θ Q => match ds with
  | [d, e] => asSd d E θ fun s θ' => asSd e E θ' fun t θ2 => Q (.zp s t) θ2
  | _ => False
def srcEn (ms : DEnv → MX (List Dv)) : DEnv → MX Src := fun ρ => do ek (← ms ρ)
def srcZp (ms : DEnv → MX (List Dv)) : DEnv → MX Src := fun ρ => do zk (← ms ρ)
theorem one_of {K : PySem.W.Frag} {H : Hp} {α : List Addr} {d : Dv} {vs : List V} (r : Rps K H α [d] vs) : ∃ v, vs = [v] ∧ Rp K H α d v := by
  unfold Rps at r
  obtain ⟨v, us, rfl, h1, h2⟩ := r
  unfold Rps at h2
  subst h2
  exact ⟨v, rfl, h1⟩
theorem two_of {K : PySem.W.Frag} {H : Hp} {α : List Addr} {d e : Dv} {vs : List V} (r : Rps K H α [d, e] vs) : ∃ v u, vs = [v, u] ∧ Rp K H α d v ∧ Rp K H α e u := by
  unfold Rps at r
  obtain ⟨v, us, rfl, h1, h2⟩ := r
  obtain ⟨u, rfl, h3⟩ := one_of h2
  exact ⟨v, u, rfl, h1, h3⟩
theorem pair_up {H : Hp} {α : List Addr} {θ : Th} {d e : Dv} {x y : V} {T : Addr} (ok : Okk X.K H α θ) (hT : H T = none) (r1 : Rp X.K H α d x) (r2 : Rp X.K H α e y) :
    Okk X.K (upd H T (.tup [x, y])) α θ ∧ Nx X.K H α (upd H T (.tup [x, y])) α ∧ Rp X.K (upd H T (.tup [x, y])) α (.tup [d, e]) (.ref T) := by
  have nx : Nx X.K H α (upd H T (.tup [x, y])) α := Nx.new0 hT
  refine ⟨ok.new0 hT, nx, ?_⟩
  unfold Rp
  exact ⟨T, _, rfl, upd_same, Rps.cons (r1.mono nx) (Rps.cons (r2.mono nx) Rps.nil)⟩
theorem pim_en {elts : List Expr} {kk : Nat} {tpos : Pos} {e : Expr} {ms : DEnv → MX (List Dv)} {p pos : Pos} (hg : Gl X "enumerate") (hm : X.mg "enumerate" = none) (ha : PA X [e] (tMs W ms)) (hs : starEach [e] X.env = [(false, eval e X.env)] := by rfl) :
    PI X (.Tuple elts kk tpos) (.Call (.Name "enumerate" p) [e] [] pos) (tIm W (srcEn ms)) :=
  pi_w (pi_en hg hm ha hs) fun σ H R ⟨ρ, α, θ, Qm, at', rs, q, k⟩ => ⟨ρ, α, θ, _, at', rs, q, fun ds θ1 α1 H1 vs q1 ok1 nx1 r1 => by
    change ek ds W.En θ1 Qm at q1
    unfold ek at q1
    split at q1
    · rename_i d
      obtain ⟨v, rfl, rv⟩ := one_of r1
      obtain ⟨s, kd, a, us, q2, sd, rfl, hq⟩ := asSd_up ok1 rv q1
      refine ⟨kd, a, us, rfl, hq, k _ θ1 α1 H1 q2 ok1 nx1 _ ?_⟩
      intro H2 α2 θ2 nx2 ok2 i r e
      change enAt (s.items θ2) i = some r at e
      unfold enAt at e
      split at e
      · rename_i es e1
        split at e
        · rename_i hle
          cases e
          obtain ⟨ws, hq2, rs2⟩ := (sd.mono nx2).sq ok2 e1
          cases e2 : es[i]? with
          | some d2 =>
            obtain ⟨w, hw, rw'⟩ := rs2.get e2
            refine ⟨⟨ws, hq2, (List.getElem?_eq_some_iff.mp hw).1⟩, fun x H3 y => ?_⟩
            obtain ⟨T, x', xs', rfl, hT, rfl, hq3, hx'⟩ := y
            have := hq2.inj hq3
            subst this
            rw [hw] at hx'
            cases hx'
            exact pair_up ok2 hT rp_int rw'
          | none =>
            refine ⟨ws, hq2, ?_⟩
            have := List.getElem?_eq_none_iff.mp e2
            rw [rs2.length]
            omega
        · cases e
      · cases e
    · exact False.elim q1⟩
theorem pim_zp {elts : List Expr} {kk : Nat} {tpos : Pos} {e e2 : Expr} {ms : DEnv → MX (List Dv)} {p pos : Pos} (hg : Gl X "zip") (hm : X.mg "zip" = none) (ha : PA X [e, e2] (tMs W ms)) (hs : starEach [e, e2] X.env = [(false, eval e X.env), (false, eval e2 X.env)] := by rfl)
    (hs2 : starEach [e2] X.env = [(false, eval e2 X.env)] := by rfl) : PI X (.Tuple elts kk tpos) (.Call (.Name "zip" p) [e, e2] [] pos) (tIm W (srcZp ms)) :=
  pi_w (pi_zp hg hm ha hs hs2) fun σ H R ⟨ρ, α, θ, Qm, at', rs, q, k⟩ => ⟨ρ, α, θ, _, at', rs, q, fun ds θ1 α1 H1 vs q1 ok1 nx1 r1 => by
    change zk ds W.En θ1 Qm at q1
    unfold zk at q1
    split at q1
    · rename_i d d'
      obtain ⟨v, v', rfl, rv, rv'⟩ := two_of r1
      obtain ⟨s, kd, a, us, q2, sd, rfl, hq⟩ := asSd_up ok1 rv q1
      obtain ⟨s', kd', a', us', q3, sd', rfl, hq'⟩ := asSd_up ok1 rv' q2
      refine ⟨kd, kd', a, a', us, us', rfl, hq, hq', k _ θ1 α1 H1 q3 ok1 nx1 _ ?_⟩
      intro H2 α2 θ2 nx2 ok2 i r e
      change zpAt (s.items θ2) (s'.items θ2) i = some r at e
      unfold zpAt at e
      split at e
      · rename_i es es' e1 e1'
        obtain ⟨ws, hq2, rs2⟩ := (sd.mono nx2).sq ok2 e1
        obtain ⟨ws', hq2', rs2'⟩ := (sd'.mono nx2).sq ok2 e1'
        split at e
        · rename_i hlt
          cases e
          have g1 : es[i]? = some es[i] := List.getElem?_eq_getElem (by omega)
          have g2 : es'[i]? = some es'[i] := List.getElem?_eq_getElem (by omega)
          rw [g1, g2]
          obtain ⟨w, hw, rw'⟩ := rs2.get g1
          obtain ⟨w', hw', rw''⟩ := rs2'.get g2
          refine ⟨⟨ws, ws', hq2, hq2', (List.getElem?_eq_some_iff.mp hw).1, (List.getElem?_eq_some_iff.mp hw').1⟩, fun x H3 y => ?_⟩
          obtain ⟨T, x', y', xs', ys', rfl, hT, rfl, hq3, hq4, hx', hy'⟩ := y
          have := hq2.inj hq3
          subst this
          have := hq2'.inj hq4
          subst this
          rw [hw] at hx'
          rw [hw'] at hy'
          cases hx'
          cases hy'
          exact pair_up ok2 hT rw' rw''
        · split at e
          · rename_i heq
            cases e
            refine ⟨ws, ws', hq2, hq2', ?_⟩
            rw [rs2.length, rs2'.length]
            exact heq.symm
          · cases e
      · cases e
    · exact False.elim q1⟩
def vk (d : Dv) : MX Src := fun _ θ Q => match d with
  | .obj k => (match θ[k]? with
    | some (.dKf _) => Q (.vals k) θ
    | some (.dTf _) => Q (.vals k) θ
    | _ => False)
  | _ => False
def srcVals (a : ME) : DEnv → MX Src := fun ρ => do vk (← a ρ)
theorem RpK.snd {κ : Type} {K : PySem.W.Frag} {H : Hp} {α : List Addr} : ∀ {ds : List (κ × Dv)} {vs : List (κ × V)}, RpK K H α ds vs → Rps K H α (ds.map (·.2)) (vs.map (·.2))
  | [], _, h => by unfold RpK at h; subst h; exact Rps.nil
  | (k, d) :: ds, _, h => by
    unfold RpK at h
    obtain ⟨v, r, rfl, h1, h2⟩ := h
    exact Rps.cons h1 (RpK.snd h2)
theorem walks_rps {H : Hp} {α : List Addr} {k : Nat} {p : Addr} {J : It} (e1 : α[k]? = some p)
    (h : ∀ H1 α1 θ1, Nx X.K H α H1 α1 → Okk X.K H1 α1 θ1 → ∀ ds, (match θ1[k]? with | some (.dKf kvs) => kvs.map (·.2) = ds | some (.dTf kvs) => kvs.map (·.2) = ds | _ => False) → ∃ vs, Rps X.K H1 α1 ds vs ∧ (∀ i, i < vs.length → J.go i H1) ∧ (∀ i x H2, J.yld i H1 x H2 → H2 = H1 ∧ vs[i]? = some x) ∧ ∀ i, vs.length ≤ i → J.stop i H1) :
    Walks X.K (.vals k) H α J := by
  intro H1 α1 θ1 nx ok i r e
  have main : ∀ ds : List Dv, (match θ1[k]? with | some (.dKf kvs) => kvs.map (·.2) = ds | some (.dTf kvs) => kvs.map (·.2) = ds | _ => False) → some ds[i]? = some r → Wk X.K J i H1 α1 θ1 r := fun ds hd e => by
    cases e
    obtain ⟨vs, rs, g, y, st⟩ := h H1 α1 θ1 nx ok ds hd
    cases e2 : ds[i]? with
    | some d =>
      obtain ⟨v, hv, rv⟩ := rs.get e2
      refine ⟨g i (List.getElem?_eq_some_iff.mp hv).1, fun x H2 hy => ?_⟩
      obtain ⟨rfl, hx⟩ := y i x H2 hy
      rw [hv] at hx
      cases hx
      exact ⟨ok, Nx.refl, rv⟩
    | none => exact st i (by rw [rs.length]; exact List.getElem?_eq_none_iff.mp e2)
  change vlAt θ1[k]? i = some r at e
  unfold vlAt at e
  split at e
  · rename_i kvs e2
    exact main (kvs.map (·.2)) (by rw [e2]) e
  · rename_i kvs e2
    exact main (kvs.map (·.2)) (by rw [e2]) e
  · cases e
end
end Mn

/-! Mn8: for, comprehensions, a dict locked while it is walked. -/
namespace Mn
open PySem PySem.Spec PyProof.Rows L2

def forGo (src : Src) (T : Tg) (body : MS) : Nat → Nat → DEnv → MX Out
  | 0, _, _ => MX.stuck
  | n + 1, i, ρ => fun E θ Q => match src.at θ i with
    | none => False
    | some none => Q (.nx ρ) θ
    | some (some d) => match asgT T d ρ with
      | none => False
      | some ρ1 => body ρ1 E θ fun o θ' => match o with
        | .nx ρ2 => forGo src T body n (i + 1) ρ2 E θ' Q
        | .ct ρ2 => forGo src T body n (i + 1) ρ2 E θ' Q
        | .bk ρ2 => Q (.nx ρ2) θ'
        | .rt d => Q (.rt d) θ'
def sFor (ms : DEnv → MX Src) (T : Tg) (body : MS) : MS := fun ρ E θ Q => ms ρ E θ fun src θ' => ∃ n, forGo src T body n 0 ρ E θ' Q
def lcGo (src : Src) (T : Tg) (cond : DEnv → MX Bool) (elt : ME) (k : Nat) (ρ : DEnv) : Nat → Nat → Th → (Th → Prop) → Prop
  | 0, _, _, _ => False
  | n + 1, i, θ, Q => match src.at θ i with
    | none => False
    | some none => Q θ
    | some (some d) => match asgT T d ρ with
      | none => False
      | some ρ1 => cond ρ1 (fun _ _ => False) θ fun b θ1 => match b with
        | true => elt ρ1 (fun _ _ => False) θ1 fun y θ2 => match θ2[k]? with
          | some (.lst acc) => acc.length < sizeLine ∧ lcGo src T cond elt k ρ n (i + 1) (θ2.set k (.lst (acc ++ [y]))) Q
          | _ => False
        | false => lcGo src T cond elt k ρ n (i + 1) θ1 Q
def mLc (ms : DEnv → MX Src) (T : Tg) (cond : DEnv → MX Bool) (elt : ME) (vs : List Nat) : ME := fun ρ E θ Q => ms ρ E θ fun src θ' =>
  ∃ n, lcGo src T cond elt θ'.length (wipeE ρ vs) n 0 (θ' ++ [.lst []]) fun θ2 => Q (.obj θ'.length) θ2
def bYes : DEnv → MX Bool := fun _ => pure true
/-- while a dict is walked -/
def lockOb : Ob → Option Ob
  | .dK kvs => some (.dKf kvs)
  | .dT kvs => some (.dTf kvs)
  | _ => none
def mLock (i : Nat) (m : ME) : ME := fun ρ E θ Q => match ρ.getD i none with
  | some (.obj k) => match θ[k]? with
    | some o => match lockOb o with
      | some f => m ρ E (θ.set k f) fun d θ' => θ'[k]? = some f ∧ Q d (θ'.set k o)
      | none => False
    | none => False
  | _ => False

section
variable {X : Cx} {W : Wd X.K X.mg}
theorem sm_for {tg iter : Expr} {b : List Stmt} {ms : DEnv → MX Src} {T : Tg} {mb : MS} {pos : Pos} (hp : PassesOwn (model X.prog X.w) X.A X.env X.xe) (c : Cf X) (hi : PI X tg iter (tIm W ms)) (hg : PG X tg (gT X.K T)) (hb : PSs X b (tS W mb))
    (hs : ∀ x, foldedSetIterable iter X.env x = pure x := by intro _; rfl) : PS X (.For tg iter b [] pos) (tS W (sFor ms T mb)) :=
  ps_w (ps_for hp c.calm hi hg hb hs) fun D σ H ⟨ρ, α, θ, Qm, at', rs, q, u⟩ => ⟨ρ, α, θ, _, at', rs, q, fun src θ0 α0 H0 ⟨n, q0⟩ ok0 nx0 J wk => by
    refine ⟨fun i m σ1 H1 => ∃ ρ1 α1 θ1, At W H1 α1 θ1 ∧ RS X.K H1 α1 σ1 ρ1 ∧ Nx X.K H0 α0 H1 α1 ∧ forGo src T mb m i ρ1 W.En θ1 Qm, ⟨n, ρ, α0, θ0, ⟨ok0, at'.nx.trans nx0⟩, rs.mono nx0, Nx.refl, q0⟩, ?_⟩
    rintro i m σ1 H1 ⟨ρ1, α1, θ1, at1, rs1, nx1, q1⟩
    cases m with
    | zero => exact False.elim q1
    | succ m =>
      unfold forGo at q1
      have w1 := wk H1 α1 θ1 nx1 at1.ok i
      split at q1
      · exact q1.elim
      · rename_i e
        have st : J.stop i H1 := w1 _ e
        exact .inl ⟨st, u (.nx ρ1) θ1 α1 H1 q1 at1.ok (nx0.trans nx1) σ1 rs1⟩
      · rename_i d e
        obtain ⟨go, yl⟩ : Wk X.K J i H1 α1 θ1 (some d) := w1 _ e
        split at q1
        · exact q1.elim
        · rename_i ρ2 ea
          refine .inr ⟨go, fun σ3 H3 => ∃ ρ3 α3 θ3, At W H3 α3 θ3 ∧ RS X.K H3 α3 σ3 ρ3 ∧ Nx X.K H0 α0 H3 α3 ∧ forGo src T mb m (i + 1) ρ3 W.En θ3 Qm, fun σ3 H3 h3 => ⟨m, Nat.lt_succ_self m, h3⟩, fun x H2 y => ?_⟩
          obtain ⟨ok2, nx2, r2⟩ := yl x H2 y
          refine gT_ok r2 (rs1.mono nx2) ea fun σ2 rs2 _ => ?_
          refine ⟨ρ2, α1, θ1, _, ⟨ok2, at1.nx.trans nx2⟩, rs2, q1, fun o θ3 α3 H3 q3 ok3 nx3 => ?_⟩
          have nxT := (nx1.trans nx2).trans nx3
          have at3 : At W H3 α3 θ3 := ⟨ok3, (at1.nx.trans nx2).trans nx3⟩
          cases o with
          | nx ρ3 => exact fun σ3 rs3 => ⟨ρ3, α3, θ3, at3, rs3, nxT, q3⟩
          | ct ρ3 => exact fun σ3 rs3 => ⟨ρ3, α3, θ3, at3, rs3, nxT, q3⟩
          | bk ρ3 => exact fun σ3 rs3 => u (.nx ρ3) θ3 α3 H3 q3 ok3 (nx0.trans nxT) σ3 rs3
          | rt d => exact fun v r => u (.rt d) θ3 α3 H3 q3 ok3 (nx0.trans nxT) v r⟩
theorem tm_lc {ms : DEnv → MX Src} {T : Tg} {cond : DEnv → MX Bool} {elt : ME} {vs : List Nat} (hv : ∀ i ∈ T.vars, i ∈ vs) (σ : L2.St) (H : Hp) (Q : VK) : tM W (mLc ms T cond elt vs) σ H Q → tLc (tIm W ms) (gT X.K T) (tMb W.calm cond) (tM W.calm elt) vs σ H Q :=
  fun ⟨ρ, α, θ, Qm, at', rs, q, u⟩ => ⟨ρ, α, θ, _, at', rs, q, fun src θ0 α0 H0 ⟨n, q0⟩ ok0 nx0 J wk D hD => by
    have at0 : At W H0 α0 θ0 := ⟨ok0, at'.nx.trans nx0⟩
    have nxD : Nx X.K H0 α0 (upd H0 D (.lst [])) (α0 ++ [D]) := Nx.new hD _
    have okD : Okk X.K (upd H0 D (.lst [])) (α0 ++ [D]) (θ0 ++ [.lst []]) := ok0.new hD ⟨[], upd_same, Rps.nil⟩
    have hk : (α0 ++ [D])[θ0.length]? = some D := by rw [← ok0.len]; simp
    refine ⟨fun i m H1 => ∃ α1 θ1, At W H1 α1 θ1 ∧ Nx X.K (upd H0 D (.lst [])) (α0 ++ [D]) H1 α1 ∧ lcGo src T cond elt θ0.length (wipeE ρ vs) m i θ1 (fun θ2 => Qm (.obj θ0.length) θ2), ⟨n, α0 ++ [D], _, ⟨okD, at0.nx.trans nxD⟩, Nx.refl, q0⟩, ?_⟩
    rintro i m H1 ⟨α1, θ1, at1, nx1, q1⟩
    cases m with
    | zero => exact False.elim q1
    | succ m =>
      unfold lcGo at q1
      have w1 := wk H1 α1 θ1 (nxD.trans nx1) at1.ok i
      have nxA : Nx X.K H α H1 α1 := (nx0.trans nxD).trans nx1
      have rsW : RS X.K H1 α1 (wipe σ vs) (wipeE ρ vs) := (rs.mono nxA).wipe vs
      split at q1
      · exact q1.elim
      · rename_i e
        have st : J.stop i H1 := w1 _ e
        exact .inl ⟨st, u (.obj θ0.length) θ1 α1 H1 (.ref D) q1 at1.ok nxA (rp_obj (nx1.at hk))⟩
      · rename_i d e
        obtain ⟨go, yl⟩ : Wk X.K J i H1 α1 θ1 (some d) := w1 _ e
        split at q1
        · exact q1.elim
        · rename_i ρ2 ea
          refine .inr ⟨go, fun H3 => ∃ α3 θ3, At W H3 α3 θ3 ∧ Nx X.K (upd H0 D (.lst [])) (α0 ++ [D]) H3 α3 ∧ lcGo src T cond elt θ0.length (wipeE ρ vs) m (i + 1) θ3 (fun θ2 => Qm (.obj θ0.length) θ2), fun H3 h3 => ⟨m, Nat.lt_succ_self m, h3⟩, fun x H2 y => ?_⟩
          obtain ⟨ok2, nx2, r2⟩ := yl x H2 y
          refine gT_ok r2 (rsW.mono nx2) ea fun σ2 rs2 bt => ?_
          refine ⟨by rw [wipe_but (bt.mono hv), wipe_wipe], ?_⟩
          have nx12 := nx1.trans nx2
          refine ⟨ρ2, α1, θ1, _, ⟨ok2, at1.nx.trans nx2⟩, rs2, q1, fun b θ3 α3 H3 q3 ok3 nx3 => ?_⟩
          cases b with
          | false => exact iteF ⟨α3, θ3, ⟨ok3, (at1.nx.trans nx2).trans nx3⟩, nx12.trans nx3, q3⟩
          | true =>
            refine iteT ⟨ρ2, α3, θ3, _, ⟨ok3, (at1.nx.trans nx2).trans nx3⟩, rs2.mono nx3, q3, fun yd θ4 α4 H4 yv q4 ok4 nx4 r4 => ?_⟩
            have nxT := (nx12.trans nx3).trans nx4
            split at q4
            · rename_i acc e4
              obtain ⟨us, h1, h2⟩ := ok4.ob θ0.length D _ (nxT.at hk) e4
              have nx5 : Nx X.K H4 α4 (upd H4 D (.lst (us ++ [yv]))) α4 := Nx.chg (ok4.ob θ0.length D _ (nxT.at hk) e4)
              refine ⟨us, h1, by rw [h2.length]; exact q4.1, α4, _, ⟨ok4.chg (ob := .lst (acc ++ [yd])) (nxT.at hk) e4 ⟨_, upd_same, (h2.mono nx5).append (.cons (r4.mono nx5) .nil)⟩, (((at1.nx.trans nx2).trans nx3).trans nx4).trans nx5⟩, nxT.trans nx5, q4.2⟩
            · exact q4.elim⟩
theorem pm_lc {elt tg iter : Expr} {ifs : List Expr} {scope : Scope} {own : List (Str × Nat)} {pos : Pos} {ms : DEnv → MX Src} {T : Tg} {cond : DEnv → MX Bool} {me : ME} (c : Cf X) (hi : PI X tg iter (tIm W ms)) (ok : BlkOk X.N X.env.scope scope own)
    (hg : ∀ (s : Shared) (H : Hp) (C : Addr) (cl : List (Str × Addr)) (fp : List Addr), PG (X.blk s H scope (compEnvC scope cl C X.env) fp) tg (gT X.K T))
    (ht : ∀ (s : Shared) (H : Hp) (C : Addr) (cl : List (Str × Addr)) (fp : List Addr), PTs (X.blk s H scope (compEnvC scope cl C X.env) fp) ifs (tMb W.calm cond))
    (he : ∀ (s : Shared) (H : Hp) (C : Addr) (cl : List (Str × Addr)) (fp : List Addr), PE (X.blk s H scope (compEnvC scope cl C X.env) fp) elt (tM W.calm me))
    (hv : ∀ i ∈ T.vars, i ∈ own.map (·.2) := by decide) (hs : ∀ x, foldedSetIterable iter X.env x = pure x := by intro _; rfl) :
    PE X (.ListComp elt [⟨tg, iter, ifs, 0⟩] scope pos) (tM W (mLc ms T cond me (own.map (·.2)))) := pe_w (pe_lc c.calm c.nd hi ok hg ht he hs) (tm_lc hv)
theorem sm_lc {i : Nat} {y : Str} {py : Pos} {elt tg iter : Expr} {ifs : List Expr} {scope : Scope} {own : List (Str × Nat)} {pos spos : Pos} {ms : DEnv → MX Src} {T : Tg} {cond : DEnv → MX Bool} {me : ME} (c : Cf X) (hy : X.N[i]? = some y) (hyl : X.env.scope.names.lookup y = some .local)
    (hsw : swapsWith (.ListComp elt [⟨tg, iter, ifs, 0⟩] scope pos) (some (.Name y py)) spos.line X.env = pure true) (hi : PI X tg iter (tIm W ms)) (ok : BlkOk X.N X.env.scope scope own)
    (hg : ∀ (s : Shared) (H : Hp) (C : Addr) (cl : List (Str × Addr)) (fp : List Addr), PG (X.blk s H scope (compEnvC scope cl C X.env) fp) tg (gT X.K T))
    (ht : ∀ (s : Shared) (H : Hp) (C : Addr) (cl : List (Str × Addr)) (fp : List Addr), PTs (X.blk s H scope (compEnvC scope cl C X.env) fp) ifs (tMb W.calm cond))
    (he : ∀ (s : Shared) (H : Hp) (C : Addr) (cl : List (Str × Addr)) (fp : List Addr), PE (X.blk s H scope (compEnvC scope cl C X.env) fp) elt (tM W.calm me))
    (hv : ∀ i ∈ T.vars, i ∈ own.map (·.2) := by decide) (hs : ∀ x, foldedSetIterable iter X.env x = pure x := by intro _; rfl) :
    PS X (.Assign [.Name y py] (.ListComp elt [⟨tg, iter, ifs, 0⟩] scope pos) spos) (tS W (sSet i (mLc ms T cond me (own.map (·.2))))) := sm_setLc (ps_setLc c.calm c.nd hy hyl hsw hi ok hg ht he hs) (tm_lc hv)
theorem btm_nil : PTs X [] (tMb W bYes) := ⟨fun pins s σ H Q I ⟨ρ, α, θ, Qm, at', rs, q, u⟩ => pts_nil.run pins s σ H Q I (u true θ α H q at'.ok Nx.refl)⟩
theorem btm_one {e : Expr} {b : DEnv → MX Bool} (h : PT X e (tMb W b)) : PTs X [e] (tMb W b) := pts_one h
theorem pim_vals {tg e : Expr} {a : ME} {apos cpos : Pos} (he : PE X e (tM W a)) (hbase : attributeBase e "values" X.env (eval e X.env) = eval e X.env := by rfl) (hline : (apos.endLine == cpos.line) = true := by rfl) :
    PI X tg (.Call (.Attribute e "values" apos) [] [] cpos) (tIm W (srcVals a)) := pi_w (pi_vl he hbase hline) fun σ H R ⟨ρ, α, θ, Qm, at', rs, q, k⟩ => ⟨ρ, α, θ, _, at', rs, q, fun d θ1 α1 H1 v q1 ok1 nx1 r1 => by
  change vk d W.En θ1 Qm at q1
  unfold vk at q1
  split at q1
  · rename_i j
    unfold Rp at r1
    obtain ⟨p, ep, rfl⟩ := r1
    split at q1
    · rename_i kvs e2
      obtain ⟨vs, o, h1, h2⟩ := ok1.ob j p _ ep e2
      refine ⟨p, o, vs.map Prod.snd, rfl, .inl ⟨vs, h1, rfl⟩, k _ θ1 α1 H1 q1 ok1 nx1 _ (walks_rps ep fun H2 α2 θ2 nx2 ok2 ds hd => ?_)⟩
      have hz := nx2.fz p o _ h1
      refine ⟨vs.map Prod.snd, ?_, fun i hi => ⟨.inl ⟨vs, hz, rfl⟩, hi⟩, fun i x H3 y => show H3 = H2 ∧ (vs.map Prod.snd)[i]? = some x from y, fun i hi => ⟨.inl ⟨vs, hz, rfl⟩, hi⟩⟩
      split at hd
      · rename_i kvs2 e3
        obtain ⟨vs2, o2, h3, h4⟩ := ok2.ob j p _ (nx2.at ep) e3
        rw [hz] at h3
        cases h3
        rw [← hd]
        exact h4.snd
      · rename_i kvs2 e3
        obtain ⟨vs2, o2, h3, h4⟩ := ok2.ob j p _ (nx2.at ep) e3
        rw [hz] at h3
        cases h3
      · exact hd.elim
    · rename_i kvs e2
      obtain ⟨vs, o, h1, h2⟩ := ok1.ob j p _ ep e2
      refine ⟨p, o, vs.map Prod.snd, rfl, .inr ⟨vs, h1, rfl⟩, k _ θ1 α1 H1 q1 ok1 nx1 _ (walks_rps ep fun H2 α2 θ2 nx2 ok2 ds hd => ?_)⟩
      have hz := nx2.fz p o _ h1
      refine ⟨vs.map Prod.snd, ?_, fun i hi => ⟨.inr ⟨vs, hz, rfl⟩, hi⟩, fun i x H3 y => show H3 = H2 ∧ (vs.map Prod.snd)[i]? = some x from y, fun i hi => ⟨.inr ⟨vs, hz, rfl⟩, hi⟩⟩
      split at hd
      · rename_i kvs2 e3
        obtain ⟨vs2, o2, h3, h4⟩ := ok2.ob j p _ (nx2.at ep) e3
        rw [hz] at h3
        cases h3
      · rename_i kvs2 e3
        obtain ⟨vs2, o2, h3, h4⟩ := ok2.ob j p _ (nx2.at ep) e3
        rw [hz] at h3
        cases h3
        rw [← hd]
        exact h4.snd
      · exact hd.elim
    · exact q1.elim
  · exact q1.elim⟩
/-! ### lock -/
theorem okk_lock {K : PySem.W.Frag} {H : Hp} {α : List Addr} {θ : Th} {k : Nat} {p : Addr} {o f : Ob} {u : HO} {od : Obj} (ok : Okk K H α θ) (e1 : α[k]? = some p) (e2 : θ[k]? = some o) (hl : lockOb o = some f) (hu : H p = some u) (hm : Mut (some u)) :
    Okk K (upd H p (.frz od u)) α (θ.set k f) ∧ Nx K H α (upd H p (.frz od u)) α := by
  have r := ok.ob k p o e1 e2
  have lv : o.live = true := by cases o <;> first | rfl | cases hl
  have nx : Nx K H α (upd H p (.frz od u)) α := Nx.chg r lv
  refine ⟨ok.chg e1 e2 ?_ lv, nx⟩
  cases o with
  | dK kvs =>
    cases hl
    obtain ⟨vs, h1, h2⟩ := r
    rw [hu] at h1
    cases h1
    exact ⟨vs, od, upd_same, h2.mono nx⟩
  | dT kvs =>
    cases hl
    obtain ⟨vs, h1, h2⟩ := r
    rw [hu] at h1
    cases h1
    exact ⟨vs, od, upd_same, h2.mono nx⟩
  | _ => cases hl
theorem pm_lock {e : Expr} {i : Nat} {m : ME} (h : PE X e (tM W m)) : PE X e (tM W (mLock i m)) := pe_w (pe_lock h) fun σ H Q ⟨ρ, α, θ, Qm, at', rs, q, u⟩ => by
  unfold mLock at q
  split at q
  · rename_i k ei
    split at q
    · rename_i o eo
      split at q
      · rename_i f hl
        obtain ⟨p, ep⟩ := at'.ok.addr eo
        obtain ⟨uo, hu⟩ := (at'.ok.ob k p o ep eo).some
        have hm : Mut (some uo) := by
          have r := at'.ok.ob k p o ep eo
          cases o with
          | dK kvs => obtain ⟨vs, h1, _⟩ := r; rw [hu] at h1; cases h1; trivial
          | dT kvs => obtain ⟨vs, h1, _⟩ := r; rw [hu] at h1; cases h1; trivial
          | _ => cases hl
        refine ⟨p, uo, hu, hm, fun od => ?_⟩
        obtain ⟨ok1, nx1⟩ := okk_lock (od := od) at'.ok ep eo hl hu hm
        refine ⟨ρ, α, _, _, ⟨ok1, at'.nx.trans nx1⟩, rs.mono nx1, q, fun d θ2 α2 H2 v q2 ok2 nx2 r2 => ?_⟩
        have hz : H2 p = some (.frz od uo) := nx2.fz p od uo upd_same
        refine ⟨hz, ?_⟩
        have ep2 := nx2.at ep
        obtain ⟨e2, q2⟩ := q2
        have nw : Nw H2 α2 (upd H2 p uo) α2 := ⟨⟨[], by simp⟩, fun q us h => by rw [upd_ne (fun z => by subst z; rw [hz] at h; cases h)]; exact h, fun q o' us h => by
          rw [upd_ne (fun z => by
            subst z
            rw [hz] at h
            cases h
            cases o with
            | dK kvs => obtain ⟨vs, h1, _⟩ := at'.ok.ob k _ _ ep eo; rw [hu] at h1; cases h1
            | dT kvs => obtain ⟨vs, h1, _⟩ := at'.ok.ob k _ _ ep eo; rw [hu] at h1; cases h1
            | _ => cases hl)]
          exact h, fun q o' us h => by
          rw [upd_ne (fun z => by
            subst z
            rw [hz] at h
            cases h
            cases o with
            | dK kvs => obtain ⟨vs, h1, _⟩ := at'.ok.ob k _ _ ep eo; rw [hu] at h1; cases h1
            | dT kvs => obtain ⟨vs, h1, _⟩ := at'.ok.ob k _ _ ep eo; rw [hu] at h1; cases h1
            | _ => cases hl)]
          exact h⟩
        have ok3 : Okk X.K (upd H2 p uo) α2 (θ2.set k o) := by
          refine ⟨by simp [ok2.len], ok2.nd, fun j q w f1 f2 => ?_⟩
          by_cases hj : k = j
          · subst hj
            rw [List.getElem?_set_self (List.getElem?_eq_some_iff.mp e2).1] at f2
            rw [ep2] at f1
            cases f1
            cases f2
            have r := ok2.ob k p f ep2 e2
            cases o with
            | dK kvs =>
              cases hl
              obtain ⟨vs, o', h1, h2⟩ := r
              rw [hz] at h1
              cases h1
              exact ⟨vs, upd_same, h2.monoW nw⟩
            | dT kvs =>
              cases hl
              obtain ⟨vs, o', h1, h2⟩ := r
              rw [hz] at h1
              cases h1
              exact ⟨vs, upd_same, h2.monoW nw⟩
            | _ => cases hl
          · rw [List.getElem?_set_ne hj] at f2
            refine (ok2.ob j q w f1 f2).monoW nw (upd_ne fun z => ?_)
            subst z
            obtain ⟨a1, b1⟩ := List.getElem?_eq_some_iff.mp ep2
            obtain ⟨a2, b2⟩ := List.getElem?_eq_some_iff.mp f1
            exact hj ((List.getElem_inj ok2.nd).mp (b1.trans b2.symm))
        have nx12 := nx1.trans nx2
        have nx3 : Nx X.K H α (upd H2 p uo) α2 := ⟨nx12.ext, fun q us h => by
            rw [upd_ne (fun z => by subst z; rw [hu] at h; cases h; exact hm)]
            exact nx12.tup q us h, fun q fs h => by
            rw [upd_ne (fun z => by subst z; rw [hu] at h; cases h; exact hm)]
            exact nx12.xd q fs h, fun q o' w h => by
            rw [upd_ne (fun z => by subst z; rw [hu] at h; cases h; exact hm)]
            exact nx12.fz q o' w h⟩
        exact u d _ α2 _ v q2 ok3 nx3 (r2.monoW nw)
      · exact q.elim
    · exact q.elim
  · exact q.elim
end
end Mn

/-! Mn9: calls of built-ins and of built-in types' methods. -/
namespace Mn
open PySem PySem.Spec PyProof.Rows L2

section
variable {X : Cx} {W : Wd X.K X.mg}
def rMc (W : Wd X.K X.mg) (c : List Dv → MX Dv) : List V → Hp → VK → Prop := fun xs H Q => ∃ α θ ds Qm, At W H α θ ∧ Rps X.K H α ds xs ∧ c ds W.En θ Qm ∧ Up X.K H α Qm Q
def CallM (W : Wd X.K X.mg) (f : Value) (c : List Dv → MX Dv) : Prop := CallR X f (rMc W c)
theorem CallR.w {f : Value} {r r' : List V → Hp → VK → Prop} (h : CallR X f r) (w : ∀ xs H Q, r' xs H Q → r xs H Q) : CallR X f r' := fun pins s σ H xs us Q I r q => h pins s σ H xs us Q I r (w xs H Q q)
theorem cm_of {f : Value} {r : List V → Hp → VK → Prop} {c : List Dv → MX Dv} (h : CallR X f r) (w : ∀ {H : Hp} {α : List Addr} {θ : Th} {ds : List Dv} {xs : List V} {Qm : Dv → Th → Prop} {Q : VK}, At W H α θ → Rps X.K H α ds xs → c ds W.En θ Qm → Up X.K H α Qm Q → r xs H Q) : CallM W f c :=
  CallR.w h fun xs H Q ⟨_, _, _, _, h1, h2, h3, h4⟩ => w h1 h2 h3 h4
def mCall (c : List Dv → MX Dv) (ms : DEnv → MX (List Dv)) : ME := fun ρ => do c (← ms ρ)
theorem tm_call {c : List Dv → MX Dv} {ms : DEnv → MX (List Dv)} (σ : L2.St) (H : Hp) (Q : VK) : tM W (mCall c ms) σ H Q → tCB (rMc W c) (tMs W ms) σ H Q := fun ⟨ρ, α, θ, Qm, at', rs, q, u⟩ =>
  ⟨ρ, α, θ, _, at', rs, q, fun ds θ1 α1 H1 vs q1 ok1 nx1 r1 => ⟨α1, θ1, ds, Qm, ⟨ok1, at'.nx.trans nx1⟩, r1, q1, u.mono nx1⟩⟩
theorem pm_callB {x : Str} {p pos : Pos} {e : Expr} {es : List Expr} {ms : DEnv → MX (List Dv)} {id : String} {c : List Dv → MX Dv} (hc : CallM W (.builtin id) c) (hg : Gl X x) (hm : X.mg x = none) (hv : bootBuiltins x = some (.builtin id)) (ha : PA X (e :: es) (tMs W ms))
    (k : ∀ t, PA X (e :: es) t → CallR X (.builtin id) (rMc W c) → PE X (.Call (.Name x p) (e :: es) [] pos) (tCB (rMc W c) t)) : PE X (.Call (.Name x p) (e :: es) [] pos) (tM W (mCall c ms)) := pe_w (k _ ha hc) tm_call

/-! ### one argument -/
def k1 (f : Dv → MX Dv) : List Dv → MX Dv
  | [d] => f d
  | _ => MX.stuck
def lenD (d : Dv) : MX Dv := fun _ θ Q => match d with
  | .tup ds => Q (.int ds.length) θ
  | .scr ns => Q (.int ns.length) θ
  | .pt ds => Q (.int ds.length) θ
  | .str z => z.length ≤ sizeLine ∧ Q (.int z.length) θ
  | .obj k => (match θ[k]? with
    | some (.lst ds) => Q (.int ds.length) θ
    | some (.dK kvs) => Q (.int kvs.length) θ
    | _ => False)
  | _ => False
theorem scr_sq {K : PySem.W.Frag} {H : Hp} {p : Addr} {xs : List V} (h : Scr K H p xs) : SqL K H p xs := by
  rcases h with ⟨o, h⟩ | h
  · exact .inl (.inr ⟨o, h⟩)
  · rcases h with (h | ⟨o, h⟩) | h
    · cases h
    · cases h
    · exact .inr h
theorem call_len_dK : CallR X (.builtin "len") (fun xs H Q => ∃ a kvs, xs = [V.ref a] ∧ H a = some (.dK kvs) ∧ Q (.int (kvs.length : Nat)) H) := fun pins s σ H xs us Q I r h => call_lenD pins s σ H xs us Q I r h
theorem cm_len : CallM W (.builtin "len") (k1 lenD) := cm_of (CallR.or call_len_seq (CallR.or call_len_str call_len_dK)) fun {H α θ ds xs Qm Q} a r q u => by
  unfold k1 at q
  split at q
  · rename_i d
    obtain ⟨x, rfl, rx⟩ := one_of r
    unfold lenD at q
    split at q
    · rename_i es
      obtain ⟨p, vs, rfl, h1, h2⟩ := rp_tup rx
      exact .inl ⟨p, vs, rfl, .inr (SqT.of h1), up_same u a q (by rw [h2.length]; exact rp_int)⟩
    · rename_i ns
      unfold Rp at rx
      obtain ⟨p, rfl, hq⟩ := rx
      exact .inl ⟨p, _, rfl, .inl (scr_sq hq), up_same u a q (by rw [List.length_map]; exact rp_int)⟩
    · rename_i es
      unfold Rp at rx
      obtain ⟨p, vs, o, rfl, h1, _, h2⟩ := rx
      exact .inl ⟨p, vs, rfl, .inr (SqT.fz h1), up_same u a q (by rw [h2.length]; exact rp_int)⟩
    · rename_i z
      cases of_str rx
      exact .inr (.inl ⟨z, rfl, q.1, up_same u a q.2 rp_int⟩)
    · rename_i k
      unfold Rp at rx
      obtain ⟨p, ep, rfl⟩ := rx
      split at q
      · rename_i es e2
        obtain ⟨vs, h1, h2⟩ := a.ok.ob k p _ ep e2
        exact .inl ⟨p, vs, rfl, .inl (SqL.of h1), up_same u a q (by rw [h2.length]; exact rp_int)⟩
      · rename_i kvs e2
        obtain ⟨vs, h1, h2⟩ := a.ok.ob k p _ ep e2
        exact .inr (.inr ⟨p, vs, rfl, h1, up_same u a q (by rw [h2.length]; exact rp_int)⟩)
      · exact q.elim
    · exact q.elim
  · exact False.elim q
def intD : Dv → MX Dv
  | .int i => ret (.int i)
  | .bl b => ret (.int (if b then 1 else 0))
  | _ => MX.stuck
theorem cm_int : CallM W (.type "int") (k1 intD) := cm_of call_int1 fun {H α θ ds xs Qm Q} a r q u => by
  unfold k1 at q
  split at q
  · rename_i d
    obtain ⟨x, rfl, rx⟩ := one_of r
    cases d with
    | int i => cases of_int rx; exact .inl ⟨i, rfl, up_same u a q rp_int⟩
    | bl b => cases of_bl rx; exact .inr ⟨b, rfl, up_same u a q rp_int⟩
    | _ => exact False.elim q
  · exact False.elim q
/-! tuple(..), list(..) -/
theorem collect_kdl {prog : Program} {w : World} {A : Around} {E : Value → Shared → Prop} {s : Shared} {T : String} {r d : Addr} {n : Nat} {P : Nat → Value → Prop} {OK : Heap → Prop} {Q : List Value → Shared → Prop} (S : PySem.W.KdlSrc prog w T r d n P OK) (hh : A.handled = none) (hok : OK s.heap) (hn : n ≤ sizeLine)
    (hQ : ∀ (h' : Heap) (tk : Nat) (acc : Array Value), (∀ b o, s.heap.get? b = some o → h'.get? b = some o) → ItemsOf P acc n → Q acc.toList { s with heap := h', toks := tk }) :
    wpAny (model prog w) A (collect (.ref r)) Q E s := by
  unfold collect
  refine wpAny_bind (wpAny_runValue (codeAny_builtin F.entry_proto_collect ?_))
  rw [Around.under_plainId F.plain_proto_collect _]
  show wpAny _ A.in1 (newList [] >>= fun l => again (.builtin "list.__iadd__" ⟨[l, .ref r], []⟩)) _ _ s
  refine wpAny_bind (wpAny_newObj_type ?_)
  refine wpAny_pure ⟨plainId_quiet F.plain_list_iadd _, codeAny_builtin F.entry_list_iadd ?_⟩
  rw [Around.under_plainId F.plain_list_iadd _]
  show wpAny _ A.in1 (Builtin.List.listExtendWith (.ref s.heap.objs.size) (.ref r) (.ref s.heap.objs.size)) _ _ _
  have hS : (s.heap.push { cls := .type "list", data := .seq ([] : List Value).toArray }).get? s.heap.objs.size = some { cls := .type "list", data := .seq #[] 0 } := Heap.get?_push_size _ rfl
  have lt := S.there _ hok
  have hok' : OK (s.heap.push { cls := .type "list", data := .seq ([] : List Value).toArray }) := S.keep _ _ hok fun b _ o e => Heap.get?_push_of_some _ e
  refine wpAny_mono (PySem.W.kdl_extend (A := A) (R := fun rr s' => rr = .ok (.ret (.ref s.heap.objs.size)) ∧ ∃ (h' : Heap) (tk : Nat) (acc : Array Value) (c' : Nat), s' = { s with heap := h', toks := tk } ∧
      (∀ b o, s.heap.get? b = some o → h'.get? b = some o) ∧ h'.get? s.heap.objs.size = some { cls := .type "list", dict := none, data := .seq acc c', slots := #[] } ∧ ItemsOf P acc n)
    (s := { s with heap := s.heap.push { cls := .type "list", data := .seq ([] : List Value).toArray } }) S hh hok' _ (Nat.ne_of_gt lt.1) (Nat.ne_of_gt lt.2) _ 0 hS
    (fun h' tk acc c' hk e hi => ⟨rfl, h', tk, acc, c', rfl, fun b o q => hk b o (Nat.ne_of_lt (Heap.lt_size q)) (Heap.get?_push_of_some _ q), e, hi⟩) hn) ?_ ?_
  · intro fin s' h
    cases fin with
    | done f =>
      obtain ⟨e, h', tk, acc, c', rfl, hk, hS', hi⟩ := h
      cases e
      show wpAny _ A (load s.heap.objs.size >>= _) _ _ _
      exact wpAny_bind (wpAny_load hS' (wpAny_pure (hQ h' tk acc hk hi)))
    | again c' =>
      refine ⟨h.1, codeAny_mono h.2 ?_⟩
      rintro rr s'' ⟨rfl, h', tk, acc, c', rfl, hk, hS', hi⟩
      show wpAny _ A (load s.heap.objs.size >>= _) _ _ _
      exact wpAny_bind (wpAny_load hS' (wpAny_pure (hQ h' tk acc hk hi)))
  · intro e s' h
    exact absurd h.1 (by simp)
theorem code_tup_kdl {prog : Program} {w : World} {A : Around} {E : Value → Shared → Prop} {s : Shared} {T : String} {r d : Addr} {n : Nat} {P : Nat → Value → Prop} {OK : Heap → Prop} {Q₁ : Value → Shared → Prop} (S : PySem.W.KdlSrc prog w T r d n P OK) (hh : A.handled = none) (hok : OK s.heap) (hn : n ≤ sizeLine)
    (h : ∀ (h' : Heap) (tk : Nat) (acc : Array Value), (∀ b o, s.heap.get? b = some o → h'.get? b = some o) → ItemsOf P acc n → Q₁ (.ref h'.objs.size) { s with heap := h'.push { cls := .type "tuple", data := .seq acc }, toks := tk }) :
    codeAny (model prog w) A (.call (.builtin "tuple.__new__") ⟨[.type "tuple", .ref r], []⟩) (wants Q₁ E) s := by
  refine codeAny_of_tree ?_
  show wpAny _ A.in1 (do checkBuiltinCall "tuple.__new__" ⟨[.type "tuple", .ref r], []⟩; again (.builtin "tuple.__new__" ⟨[.type "tuple", .ref r], []⟩)) _ _ s
  refine wpAny_bind (wpAny_of_eq (F.newCall_tuple_1 _) (wpAny_pure ⟨plainId_quiet F.plain_tuple_new _, codeAny_builtin F.entry_tuple_new ?_⟩))
  rw [Around.under_plainId F.plain_tuple_new _]
  have hsub := sub_tuple_self
  have hinit := init_tuple_lookup
  have hmh := madeHere_tuple
  have hTI : s.TypeIs (.ref r) T := S.type s hok
  have hh1 : A.in1.handled = none := hh
  have hnt : (Value.type T == Value.type "tuple") = false := S.notTuple
  wp_walk using wpAny_typeOf hTI, collect_kdl (A := A.in1) S hh1 hok hn
  intro h' tk acc hk hacc
  show wpAny _ _ (Builtin.Tuple.tupleExact acc.toList.toArray >>= fun v => PySem.ret v) _ _ _
  unfold Builtin.Tuple.tupleExact
  refine wpAny_bind (wpAny_newObj_type ?_ (by show acc.toList.toArray.size ≤ sizeLine; simp only [Array.toArray_toList]; rw [hacc.1]; exact hn))
  refine wpAny_pure ?_
  have e : acc.toList.toArray = acc := by simp
  rw [e]
  exact h h' tk acc hk hacc
theorem call_tup_dK (hc : X.calm = true) : CallR X (.type "tuple") (fun xs H Q => ∃ p kvs, xs = [V.ref p] ∧ H p = some (.dK kvs) ∧ ∀ q, H q = none → Q (.ref q) (upd H q (.tup (kvs.map fun kv => kV kv.1)))) := by
  rintro pins s σ H xs us Q I r ⟨p, kvs, e, hk, q⟩
  subst e
  obtain ⟨u, eu, rx⟩ := vals1 r
  subst eu
  obtain rfl : u = Value.ref p := rx
  obtain ⟨z, lo, vs, rk, hd⟩ := (show ObjOk X.prog X.w H s.heap p (.dK kvs) from I.hok p _ hk)
  obtain ⟨ep, hat⟩ := hd.dictAt
  have hl : kvs.length = vs.length := Paired.length rk
  have S := PySem.W.kdl_dict (knd := mixKind X.prog X.w) (kvs := vs) (ep := ep) lo
  refine callType_codes (Q₁ := fun obj s₁ => s₁.TypeIs obj "tuple" ∧ EP X pins σ Q obj s₁) F.called_tuple (F.typeCall_tuple_1 _) F.entry_object_init
    (code_tup_kdl (A := X.A.in1) S (I.ok.hd hc) hat (by rw [← hl]; exact z) fun h' tk acc hk' hacc => ⟨⟨_, Heap.get?_push_size _ rfl, rfl⟩, ?_⟩) fun obj s₁ h₁ => ?_
  · have I1 : Inv X pins σ H { s with heap := h', toks := tk } := I.kept (t' := tk) hk'
    have new : Vals (kvs.map fun kv => kV kv.1) acc.toList := by
      have el : acc.toList.length = acc.size := by simp
      refine vals_of_at (by rw [List.length_map, el, hacc.1, hl]) fun j x w h1 h2 => ?_
      obtain ⟨k, y, hky, hi⟩ := hacc.2 j w (by rw [← Array.getElem?_toList]; exact h2)
      have e1 : (kvs.map (·.1))[j]? = some k := by
        rw [KV.keys rk, List.getElem?_map, hky] <;> rfl
      have e3 : (kvs.map fun kv => kV kv.1) = (kvs.map (·.1)).map kV := by
        rw [List.map_map]
        rfl
      rw [e3, List.getElem?_map, e1] at h1
      cases h1
      exact keyIs_rel hi
    have I2 : Inv X pins σ (upd H h'.objs.size (.tup (kvs.map fun kv => kV kv.1))) { s with heap := h'.push { cls := .type "tuple", data := .seq acc }, toks := tk } :=
      I1.laid (t' := tk) (fun b o e => Heap.get?_push_of_some _ e) (Nat.le_refl _) (show ObjOk X.prog X.w _ _ _ (.tup (kvs.map fun kv => kV kv.1)) from ⟨by rw [List.length_map]; exact z, acc.toList, new, ⟨_, Heap.get?_push_size _ rfl, rfl, 0, by simp⟩⟩)
    exact ⟨.ref h'.objs.size, _, I2, rfl, q _ (I1.hok.fresh (Nat.le_refl _))⟩
  · exact ⟨h₁.1, F.args_object_init_2 obj _, object_init_meets F.called_tuple.init.lookup F.called_tuple.made (by decide) X.prog X.w X.A.in1 _ s₁ ⟨h₁.1, rfl, h₁.2⟩⟩
def keyD : Key → Dv
  | .inl i => .int i
  | .inr s => .str s
theorem rp_keyD {K : PySem.W.Frag} {H : Hp} {α : List Addr} (k : Key) : Rp K H α (keyD k) (kV k) := by
  cases k
  · exact rp_int
  · exact rp_str
theorem rps_keys {K : PySem.W.Frag} {H : Hp} {α : List Addr} : ∀ {ds : List (Key × Dv)} {vs : List (Key × V)}, RpK K H α ds vs → Rps K H α (ds.map fun kv => keyD kv.1) (vs.map fun kv => kV kv.1)
  | [], _, h => by unfold RpK at h; subst h; exact Rps.nil
  | (k, d) :: ds, _, h => by
    unfold RpK at h
    obtain ⟨v, r, rfl, h1, h2⟩ := h
    exact Rps.cons (rp_keyD k) (rps_keys h2)
def tupD (d : Dv) : MX Dv := fun _ θ Q => match d with
  | .tup ds => Q (.tup ds) θ
  | .obj k => (match θ[k]? with
    | some (.lst ds) => Q (.tup ds) θ
    | some (.dK kvs) => Q (.tup (kvs.map fun kv => keyD kv.1)) θ
    | _ => False)
  | _ => False
theorem cm_tup (c : Cf X) : CallM W (.type "tuple") (k1 tupD) := cm_of (CallR.or call_tuple_of (call_tup_dK c.calm)) fun {H α θ ds xs Qm Q} a r q u => by
  unfold k1 at q
  split at q
  · rename_i d
    obtain ⟨x, rfl, rx⟩ := one_of r
    unfold tupD at q
    split at q
    · rename_i es
      obtain ⟨p, vs, rfl, h1, h2⟩ := rp_tup rx
      exact .inl ⟨p, vs, rfl, .inr ⟨SqT.of h1, up_same u a q rx⟩⟩
    · rename_i k
      unfold Rp at rx
      obtain ⟨p, ep, rfl⟩ := rx
      split at q
      · rename_i es e2
        obtain ⟨vs, h1, h2⟩ := a.ok.ob k p _ ep e2
        exact .inl ⟨p, vs, rfl, .inl ⟨SqL.of h1, up_tup u a q h2⟩⟩
      · rename_i kvs e2
        obtain ⟨vs, h1, h2⟩ := a.ok.ob k p _ ep e2
        exact .inr ⟨p, vs, rfl, h1, up_tup u a q (rps_keys h2)⟩
      · exact q.elim
    · exact q.elim
  · exact False.elim q
def lstD (d : Dv) : MX Dv := fun _ θ Q => match d with
  | .tup ds => Q (.obj θ.length) (θ ++ [.lst ds])
  | .obj k => (match θ[k]? with
    | some (.lst ds) => Q (.obj θ.length) (θ ++ [.lst ds])
    | some (.dK kvs) => Q (.obj θ.length) (θ ++ [.lst (kvs.map fun kv => keyD kv.1)])
    | _ => False)
  | _ => False
theorem cm_list (c : Cf X) : CallM W (.type "list") (k1 lstD) := cm_of (CallR.or call_list_of (call_list_dK c.calm)) fun {H α θ ds xs Qm Q} a r q u => by
  unfold k1 at q
  split at q
  · rename_i d
    obtain ⟨x, rfl, rx⟩ := one_of r
    unfold lstD at q
    split at q
    · rename_i es
      obtain ⟨p, vs, rfl, h1, h2⟩ := rp_tup rx
      exact .inl ⟨p, vs, rfl, .inr (SqT.of h1), up_lst u a q h2⟩
    · rename_i k
      unfold Rp at rx
      obtain ⟨p, ep, rfl⟩ := rx
      split at q
      · rename_i es e2
        obtain ⟨vs, h1, h2⟩ := a.ok.ob k p _ ep e2
        exact .inl ⟨p, vs, rfl, .inl (SqL.of h1), up_lst u a q h2⟩
      · rename_i kvs e2
        obtain ⟨vs, h1, h2⟩ := a.ok.ob k p _ ep e2
        exact .inr ⟨p, vs, rfl, h1, up_lst u a q (rps_keys h2)⟩
      · exact q.elim
    · exact q.elim
  · exact False.elim q
/-! ### over lists of ints, of bools -/
def intsD : List Dv → Option (List Int)
  | [] => some []
  | .int i :: r => (intsD r).map (i :: ·)
  | _ :: _ => none
def boolsD : List Dv → Option (List Bool)
  | [] => some []
  | .bl i :: r => (boolsD r).map (i :: ·)
  | _ :: _ => none
theorem intsD_v {K : PySem.W.Frag} {H : Hp} {α : List Addr} : ∀ {ds : List Dv} {ns : List Int} {vs : List V}, intsD ds = some ns → Rps K H α ds vs → vs = ns.map V.int
  | [], _, _, e, r => by unfold Rps at r; subst r; cases e; rfl
  | d :: ds, ns, vs, e, r => by
    unfold Rps at r
    obtain ⟨v, us, rfl, h1, h2⟩ := r
    cases d with
    | int i =>
      unfold intsD at e
      obtain ⟨ms, e2, rfl⟩ := Option.map_eq_some_iff.mp e
      rw [of_int h1, intsD_v e2 h2]
      rfl
    | _ => simp [intsD] at e
theorem boolsD_v {K : PySem.W.Frag} {H : Hp} {α : List Addr} : ∀ {ds : List Dv} {ns : List Bool} {vs : List V}, boolsD ds = some ns → Rps K H α ds vs → vs = ns.map V.bl
  | [], _, _, e, r => by unfold Rps at r; subst r; cases e; rfl
  | d :: ds, ns, vs, e, r => by
    unfold Rps at r
    obtain ⟨v, us, rfl, h1, h2⟩ := r
    cases d with
    | bl i =>
      unfold boolsD at e
      obtain ⟨ms, e2, rfl⟩ := Option.map_eq_some_iff.mp e
      rw [of_bl h1, boolsD_v e2 h2]
      rfl
    | _ => simp [boolsD] at e
theorem rps_ints {K : PySem.W.Frag} {H : Hp} {α : List Addr} : ∀ ns : List Int, Rps K H α (ns.map Dv.int) (ns.map V.int)
  | [] => Rps.nil
  | _ :: r => Rps.cons rp_int (rps_ints r)
/-- a list of ints at k: f of them -/
def onInts (f : List Int → MX Dv) (d : Dv) : MX Dv := fun E θ Q => match d with
  | .obj k => (match θ[k]? with
    | some (.lst ds) => (match intsD ds with
      | some ns => f ns E θ Q
      | none => False)
    | _ => False)
  | _ => False
def onBools (f : List Bool → MX Dv) (d : Dv) : MX Dv := fun E θ Q => match d with
  | .obj k => (match θ[k]? with
    | some (.lst ds) => (match boolsD ds with
      | some ns => f ns E θ Q
      | none => False)
    | _ => False)
  | _ => False
theorem onInts_up {H : Hp} {α : List Addr} {θ : Th} {f : List Int → MX Dv} {d : Dv} {x : V} {E : Exn → Th → Prop} {Qm : Dv → Th → Prop} (ok : Okk X.K H α θ) (r : Rp X.K H α d x) (q : onInts f d E θ Qm) : ∃ p ns, x = .ref p ∧ SqL X.K H p (ns.map V.int) ∧ f ns E θ Qm := by
  unfold onInts at q
  split at q
  · rename_i k
    unfold Rp at r
    obtain ⟨p, ep, rfl⟩ := r
    split at q
    · rename_i ds e2
      obtain ⟨vs, h1, h2⟩ := ok.ob k p _ ep e2
      split at q
      · rename_i ns e3
        have := intsD_v e3 h2
        subst this
        exact ⟨p, ns, rfl, SqL.of h1, q⟩
      · exact q.elim
    · exact q.elim
  · exact q.elim
theorem onBools_up {H : Hp} {α : List Addr} {θ : Th} {f : List Bool → MX Dv} {d : Dv} {x : V} {E : Exn → Th → Prop} {Qm : Dv → Th → Prop} (ok : Okk X.K H α θ) (r : Rp X.K H α d x) (q : onBools f d E θ Qm) : ∃ p ns, x = .ref p ∧ SqL X.K H p (ns.map V.bl) ∧ f ns E θ Qm := by
  unfold onBools at q
  split at q
  · rename_i k
    unfold Rp at r
    obtain ⟨p, ep, rfl⟩ := r
    split at q
    · rename_i ds e2
      obtain ⟨vs, h1, h2⟩ := ok.ob k p _ ep e2
      split at q
      · rename_i ns e3
        have := boolsD_v e3 h2
        subst this
        exact ⟨p, ns, rfl, SqL.of h1, q⟩
      · exact q.elim
    · exact q.elim
  · exact q.elim
def sumL (ns : List Int) : MX Dv := ret (.int ns.sum)
def anyL (bs : List Bool) : MX Dv := ret (.bl (bs.any id))
def allL (bs : List Bool) : MX Dv := ret (.bl (bs.all id))
def maxL (ns : List Int) : MX Dv := fun _ θ Q => 0 < ns.length ∧ ∀ m, m ∈ ns → (∀ y, y ∈ ns → y ≤ m) → Q (.int m) θ
def minL (ns : List Int) : MX Dv := fun _ θ Q => 0 < ns.length ∧ ∀ m, m ∈ ns → (∀ y, y ∈ ns → m ≤ y) → Q (.int m) θ
def sortL (ns : List Int) : MX Dv := fun _ θ Q => ∀ ns' : List Int, ns'.Perm ns → ns'.Pairwise (· ≤ ·) → Q (.obj θ.length) (θ ++ [.lst (ns'.map Dv.int)])
theorem cm_sum (c : Cf X) : CallM W (.builtin "sum") (k1 (onInts sumL)) := cm_of (cr_sum c.calm) fun {H α θ ds xs Qm Q} a r q u => by
  unfold k1 at q
  split at q
  · rename_i d
    obtain ⟨x, rfl, rx⟩ := one_of r
    obtain ⟨p, ns, rfl, h, q⟩ := onInts_up a.ok rx q
    exact ⟨p, ns, rfl, h, up_same u a q rp_int⟩
  · exact False.elim q
theorem cm_any (c : Cf X) : CallM W (.builtin "any") (k1 (onBools anyL)) := cm_of (cr_any c.calm) fun {H α θ ds xs Qm Q} a r q u => by
  unfold k1 at q
  split at q
  · rename_i d
    obtain ⟨x, rfl, rx⟩ := one_of r
    obtain ⟨p, ns, rfl, h, q⟩ := onBools_up a.ok rx q
    exact ⟨p, ns, rfl, h, up_same u a q rp_bl⟩
  · exact False.elim q
theorem cm_all (c : Cf X) : CallM W (.builtin "all") (k1 (onBools allL)) := cm_of (cr_all c.calm) fun {H α θ ds xs Qm Q} a r q u => by
  unfold k1 at q
  split at q
  · rename_i d
    obtain ⟨x, rfl, rx⟩ := one_of r
    obtain ⟨p, ns, rfl, h, q⟩ := onBools_up a.ok rx q
    exact ⟨p, ns, rfl, h, up_same u a q rp_bl⟩
  · exact False.elim q
theorem cm_max (c : Cf X) : CallM W (.builtin "max") (k1 (onInts maxL)) := cm_of (cr_max c.calm) fun {H α θ ds xs Qm Q} a r q u => by
  unfold k1 at q
  split at q
  · rename_i d
    obtain ⟨x, rfl, rx⟩ := one_of r
    obtain ⟨p, ns, rfl, h, q1, q2⟩ := onInts_up a.ok rx q
    exact ⟨p, ns, rfl, h, q1, fun m h1 h2 => up_same u a (q2 m h1 h2) rp_int⟩
  · exact False.elim q
theorem cm_min (c : Cf X) : CallM W (.builtin "min") (k1 (onInts minL)) := cm_of (cr_min c.calm) fun {H α θ ds xs Qm Q} a r q u => by
  unfold k1 at q
  split at q
  · rename_i d
    obtain ⟨x, rfl, rx⟩ := one_of r
    obtain ⟨p, ns, rfl, h, q1, q2⟩ := onInts_up a.ok rx q
    exact ⟨p, ns, rfl, h, q1, fun m h1 h2 => up_same u a (q2 m h1 h2) rp_int⟩
  · exact False.elim q
theorem cm_sort : CallM W (.builtin "sorted") (k1 (onInts sortL)) := cm_of cr_sortedI fun {H α θ ds xs Qm Q} a r q u => by
  unfold k1 at q
  split at q
  · rename_i d
    obtain ⟨x, rfl, rx⟩ := one_of r
    obtain ⟨p, ns, rfl, h, q⟩ := onInts_up a.ok rx q
    exact ⟨p, ns, rfl, h, fun ns' b h1 h2 hb => up_lst u a (q ns' h1 h2) (rps_ints ns') b hb⟩
  · exact False.elim q
def max2 : List Dv → MX Dv
  | [.int i, .int j] => ret (.int (if j > i then j else i))
  | _ => MX.stuck
def min2 : List Dv → MX Dv
  | [.int i, .int j] => ret (.int (if j < i then j else i))
  | _ => MX.stuck
theorem cm_max2 (c : Cf X) : CallM W (.builtin "max") max2 := cm_of (call_max2 c.calm) fun {H α θ ds xs Qm Q} a r q u => by
  unfold max2 at q
  split at q
  · cases ds2 r
    exact ⟨_, _, rfl, up_same u a q rp_int⟩
  · exact False.elim q
theorem cm_min2 (c : Cf X) : CallM W (.builtin "min") min2 := cm_of (call_min2 c.calm) fun {H α θ ds xs Qm Q} a r q u => by
  unfold min2 at q
  split at q
  · cases ds2 r
    exact ⟨_, _, rfl, up_same u a q rp_int⟩
  · exact False.elim q
/-! ### repr -/
def rRepr (K : PySem.W.Frag) : List V → Hp → VK → Prop := fun xs H Q => ∃ x d, xs = [x] ∧ Dp K H x d ∧ d.showable = true ∧ d.hasDict = false ∧ d.depth ≤ 64 ∧ d.shown.length ≤ sizeLine ∧ Q (.str d.shown) H
theorem call_reprD (c : Cf X) : CallR X (.builtin "repr") (rRepr X.K) := by
  rintro pins s σ H xs us Q I r ⟨x, d, e, hd, hs, hn, hdp, hz, q⟩
  subst e
  obtain ⟨u, eu, rx⟩ := vals1 r
  subst eu
  have fin : ∀ tk tk', EP X pins σ Q (.str d.shown tk) { s with toks := tk' } := fun tk tk' => ⟨.str d.shown, H, I.tok tk', ⟨_, rfl⟩, q⟩
  obtain ⟨as, hr⟩ := Dp.reads I d x u hd rx
  cases hd with
  | non => cases rx; exact PySem.P.repr_of_none (fin _ _)
  | bl b => cases rx; exact PySem.P.repr_of_bool (fin _ _)
  | int i =>
    obtain ⟨t, rfl⟩ := rx
    exact PySem.P.repr_of_int (of_decide_eq_true hs) (fin _ _)
  | str z =>
    obtain ⟨t, rfl⟩ := rx
    exact PySem.P.repr_of_str (fin _ _) hz
  | lst h1 h2 =>
    cases rx
    have un := c.un
    exact repr_of_reads' hr hs (PyData.noDict_hsm hn) c.gd (by omega) (fun _ _ e => e) (fun h' w tk hk => ⟨.str _, H, I.kept (t' := tk) hk, ⟨_, rfl⟩, q⟩) hz
  | tup h1 h2 =>
    cases rx
    have un := c.un
    exact repr_of_reads' hr hs (PyData.noDict_hsm hn) c.gd (by omega) (fun _ _ e => e) (fun h' w tk hk => ⟨.str _, H, I.kept (t' := tk) hk, ⟨_, rfl⟩, q⟩) hz
def shows (d : PyData) : Prop := d.showable = true ∧ d.hasDict = false ∧ d.depth ≤ 64 ∧ d.shown.length ≤ sizeLine
def reprD (x : Dv) : MX Dv := fun _ θ Q => match toPy θ 66 x with
  | some d => shows d ∧ Q (.str d.shown) θ
  | none => False
theorem cm_repr (c : Cf X) : CallM W (.builtin "repr") (k1 reprD) := cm_of (call_reprD c) fun {H α θ ds xs Qm Q} a r q u => by
  unfold k1 at q
  split at q
  · rename_i d
    obtain ⟨x, rfl, rx⟩ := one_of r
    unfold reprD at q
    split at q
    · rename_i e he
      obtain ⟨⟨s1, s2, s3, s4⟩, q⟩ := q
      exact ⟨x, e, rfl, toPy_dp a.ok _ _ _ _ he rx, s1, s2, s3, s4, up_same u a q rp_str⟩
    · exact q.elim
  · exact False.elim q
/-! ### isinstance of a built-in class -/
def tyO (o : Option Ob) : Option String := match o with
  | some (.lst _) => some "list"
  | some (.dK _) => some "dict"
  | some (.dT _) => some "dict"
  | _ => none
def tyD (θ : Th) : Dv → Option String
  | .non => some "NoneType"
  | .bl _ => some "bool"
  | .int _ => some "int"
  | .str _ => some "str"
  | .tup _ => some "tuple"
  | .obj k => tyO θ[k]?
  | _ => none
theorem tyD_x {H : Hp} {α : List Addr} {θ : Th} {d : Dv} {x : V} {t : String} (ok : Okk X.K H α θ) (r : Rp X.K H α d x) (h : tyD θ d = some t) : TyX X.K H x (.type t) := by
  cases d with
  | non => cases of_non r; cases h; exact .base .non
  | bl b => cases of_bl r; cases h; exact .base (.bl b)
  | int b => cases of_int r; cases h; exact .base (.int b)
  | str b => cases of_str r; cases h; exact .base (.str b)
  | tup ds => obtain ⟨p, vs, rfl, h1, _⟩ := rp_tup r; cases h; exact .base (.tup h1)
  | obj k =>
    unfold Rp at r
    obtain ⟨p, ep, rfl⟩ := r
    change tyO θ[k]? = some t at h
    unfold tyO at h
    split at h
    · rename_i ds e2
      obtain ⟨vs, h1, _⟩ := ok.ob k p _ ep e2
      cases h
      exact .base (.lst h1)
    · rename_i ds e2
      obtain ⟨vs, h1, _⟩ := ok.ob k p _ ep e2
      cases h
      exact .base (.dK h1)
    · rename_i ds e2
      obtain ⟨vs, h1, _⟩ := ok.ob k p _ ep e2
      cases h
      exact .base (.dT h1)
    · cases h
  | _ => cases h
def mIsi (T : String) (a : ME) : ME := fun ρ => do
  let d ← a ρ
  fun _ θ Q => match tyD θ d with
    | some t => (match kitB t T with
      | some b => Q (.bl b) θ
      | none => False)
    | none => False
theorem pm_isi {T : Str} {n : String} {a : Expr} {ma : ME} {p p2 pos : Pos} (hg : Gl X "isinstance") (hm : X.mg "isinstance" = none) (hgT : Gl X T) (hmT : X.mg T = none) (hbT : bootBuiltins T = some (.type n)) (ha : PE X a (tM W ma)) (hnT : T ≠ "__name__" := by decide) (hdT : (T == ("__debug__" : Str)) = false := by decide)
    (hs : starEach [a, .Name T p2] X.env = (false, eval a X.env) :: starEach [.Name T p2] X.env := by rfl) (hs2 : starEach [.Name T p2] X.env = (false, eval (.Name T p2) X.env) :: starEach [] X.env := by rfl)
    (k : ∀ t, PA X [a, .Name T p2] t → PE X (.Call (.Name "isinstance" p) [a, .Name T p2] [] pos) (tCB (rIsi X.K) t)) : PE X (.Call (.Name "isinstance" p) [a, .Name T p2] [] pos) (tM W (mIsi n ma)) :=
  pe_w (k _ (pa_cons ha (pa_cons (pe_bltn hgT hmT hbT (v := .ty n) rfl hnT hdT) pa_nil hs2) hs)) fun σ H Q ⟨ρ, α, θ, Qm, at', rs, q, u⟩ => ⟨ρ, α, θ, _, at', rs, q, fun d θ1 α1 H1 v q1 ok1 nx1 r1 => by
    have q2 : (match tyD θ1 d with
      | some t => (match kitB t n with
        | some b => Qm (.bl b) θ1
        | none => False)
      | none => False) := q1
    split at q2
    · rename_i t ht
      split at q2
      · rename_i b hb
        exact ⟨v, .ty n, .type t, .type n, b, rfl, .ty n, tyD_x ok1 r1 ht, kit_ty hb, up_same (W := W) (u.mono nx1) ⟨ok1, at'.nx.trans nx1⟩ q2 rp_bl⟩
      · exact q2.elim
    · exact q2.elim⟩
end
end Mn

/-! Mn10: methods, displays of dicts, chains, tuples and lists of ranges. -/
namespace Mn
open PySem PySem.Spec PyProof.Rows L2

section
variable {X : Cx} {W : Wd X.K X.mg}
/-! ### methods -/
def mMth (T : String) (f : Dv → List Dv → MX Dv) (o : ME) (ms : DEnv → MX (List Dv)) : ME := fun ρ E θ Q => o ρ E θ fun d θ1 => tyD θ1 d = some T ∧ ms ρ E θ1 fun ds θ2 => f d ds E θ2 Q
def rMt (W : Wd X.K X.mg) (f : Dv → List Dv → MX Dv) : V → List V → Hp → VK → Prop := fun x xs H Q => ∃ α θ d ds Qm, At W H α θ ∧ Rp X.K H α d x ∧ Rps X.K H α ds xs ∧ f d ds W.En θ Qm ∧ Up X.K H α Qm Q
def MthM (W : Wd X.K X.mg) (id : String) (f : Dv → List Dv → MX Dv) : Prop := MtR X id (rMt W f)
theorem mm_of {id : String} {r : V → List V → Hp → VK → Prop} {f : Dv → List Dv → MX Dv} (h : MtR X id r) (w : ∀ {H : Hp} {α : List Addr} {θ : Th} {d : Dv} {ds : List Dv} {x : V} {xs : List V} {Qm : Dv → Th → Prop} {Q : VK}, At W H α θ → Rp X.K H α d x → Rps X.K H α ds xs → f d ds W.En θ Qm → Up X.K H α Qm Q → r x xs H Q) : MthM W id f :=
  fun pins s σ H x xs v us Q I rx rs ⟨_, _, _, _, _, h1, h2, h3, h4, h5⟩ => h pins s σ H x xs v us Q I rx rs (w h1 h2 h3 h4 h5)
theorem tyV_of {T : String} (hT : T = "list" ∨ T = "dict" ∨ T = "str") {H : Hp} {α : List Addr} {θ : Th} {d : Dv} {x : V} (ok : Okk X.K H α θ) (r : Rp X.K H α d x) (h : tyD θ d = some T) : tyV X.K T x H := by
  cases d with
  | non => cases h; exact absurd hT (by decide)
  | bl b => cases h; exact absurd hT (by decide)
  | int i => cases h; exact absurd hT (by decide)
  | str z => cases of_str r; cases h; rfl
  | tup ds => cases h; exact absurd hT (by decide)
  | obj k =>
    unfold Rp at r
    obtain ⟨p, ep, rfl⟩ := r
    change tyO θ[k]? = some T at h
    unfold tyO at h
    split at h
    · rename_i ds e2
      obtain ⟨vs, h1, _⟩ := ok.ob k p _ ep e2
      cases h
      exact .inl ⟨rfl, vs, SqL.of h1⟩
    · rename_i ds e2
      obtain ⟨vs, h1, _⟩ := ok.ob k p _ ep e2
      cases h
      exact .inr (.inr (.inl ⟨rfl, .inl ⟨vs, h1⟩⟩))
    · rename_i ds e2
      obtain ⟨vs, h1, _⟩ := ok.ob k p _ ep e2
      cases h
      exact .inr (.inr (.inl ⟨rfl, .inr ⟨vs, h1⟩⟩))
    · cases h
  | _ => cases h
theorem pm_mth {T : String} {f : Dv → List Dv → MX Dv} {mo : ME} {ms : DEnv → MX (List Dv)} {e : Expr} (hT : T = "list" ∨ T = "dict" ∨ T = "str") (h : PE X e (tBM X.K T (rMt W f) (tM W mo) (tMs W ms))) : PE X e (tM W (mMth T f mo ms)) :=
  pe_w h fun σ H Q ⟨ρ, α, θ, Qm, at', rs, q, u⟩ => ⟨ρ, α, θ, _, at', rs, q, fun d θ1 α1 H1 v ⟨q0, q1⟩ ok1 nx1 r1 => ⟨tyV_of hT ok1 r1 q0, ρ, α1, θ1, _, ⟨ok1, at'.nx.trans nx1⟩, rs.mono nx1, q1, fun ds θ2 α2 H2 vs q2 ok2 nx2 r2 =>
    ⟨α2, θ2, d, ds, Qm, ⟨ok2, (at'.nx.trans nx1).trans nx2⟩, r1.mono nx2, r2, q2, u.mono (nx1.trans nx2)⟩⟩⟩
/-- without arguments -/
theorem pm_mth0 {T : String} {f : Dv → List Dv → MX Dv} {mo : ME} {e : Expr} (hT : T = "list" ∨ T = "dict" ∨ T = "str") (h : PE X e (tBM0 X.K T (rMt W f) (tM W mo))) : PE X e (tM W (mMth T f mo msNil)) :=
  pe_w h fun σ H Q ⟨ρ, α, θ, Qm, at', rs, q, u⟩ => ⟨ρ, α, θ, _, at', rs, q, fun d θ1 α1 H1 v ⟨q0, q1⟩ ok1 nx1 r1 => ⟨tyV_of hT ok1 r1 q0, α1, θ1, d, [], Qm, ⟨ok1, at'.nx.trans nx1⟩, r1, Rps.nil, q1, u.mono nx1⟩⟩
/-! lists -/
def appendD (d : Dv) (ds : List Dv) : MX Dv := fun _ θ Q => match d with
  | .obj k => (match θ[k]? with
    | some (.lst xs) => (match ds with
      | [y] => xs.length < sizeLine ∧ Q .non (θ.set k (.lst (xs ++ [y])))
      | _ => False)
    | _ => False)
  | _ => False
theorem mm_append : MthM W "list.append" appendD := mm_of (fun pins s σ H x xs v us Q I r1 r2 q => mt_append pins s σ H x xs v us Q I r1 r2 q) fun {H α θ d ds x xs Qm Q} a r rs q u => by
  unfold appendD at q
  split at q
  · rename_i k
    split at q
    · rename_i es e2
      split at q
      · rename_i y
        obtain ⟨p, vs, rfl, ep, h1, h2⟩ := a.lst e2 r
        obtain ⟨v, rfl, rv⟩ := one_of rs
        refine ⟨p, vs, v, rfl, rfl, h1, by rw [h2.length]; exact q.1, ?_⟩
        have nx := Nx.chg (K := X.K) (o := .lst (vs ++ [v])) (a.ok.ob k p _ ep e2)
        exact up_chg (ob := .lst (es ++ [y])) u a ep e2 ⟨_, upd_same, (h2.mono nx).append (.cons (rv.mono nx) .nil)⟩ q.2 rp_non
      · exact q.elim
    · exact q.elim
  · exact q.elim
theorem Rps.dropLast {K : PySem.W.Frag} {H : Hp} {α : List Addr} : ∀ {ds : List Dv} {vs : List V}, Rps K H α ds vs → Rps K H α ds.dropLast vs.dropLast
  | [], _, h => by unfold Rps at h; subst h; exact Rps.nil
  | [d], _, h => by
    unfold Rps at h
    obtain ⟨v, r, rfl, h1, h2⟩ := h
    unfold Rps at h2
    subst h2
    exact Rps.nil
  | d :: e :: ds, _, h => by
    unfold Rps at h
    obtain ⟨v, r, rfl, h1, h2⟩ := h
    have h3 := Rps.dropLast h2
    unfold Rps at h2
    obtain ⟨v2, r2, rfl, h4, h5⟩ := h2
    exact Rps.cons h1 h3
def popD (d : Dv) (ds : List Dv) : MX Dv := fun _ θ Q => match d with
  | .obj k => (match θ[k]? with
    | some (.lst xs) => (match ds, xs[xs.length - 1]? with
      | [], some y => Q y (θ.set k (.lst xs.dropLast))
      | _, _ => False)
    | _ => False)
  | _ => False
theorem mm_pop : MthM W "list.pop" popD := mm_of (fun pins s σ H x xs v us Q I r1 r2 q => mt_pop pins s σ H x xs v us Q I r1 r2 q) fun {H α θ d ds x xs Qm Q} a r rs q u => by
  unfold popD at q
  split at q
  · rename_i k
    split at q
    · rename_i es e2
      split at q
      · rename_i y ey
        obtain ⟨p, vs, rfl, ep, h1, h2⟩ := a.lst e2 r
        unfold Rps at rs
        subst rs
        obtain ⟨v, ev, rv⟩ := h2.get ey
        refine ⟨p, vs, v, rfl, rfl, h1, by rw [h2.length]; exact ev, ?_⟩
        have nx := Nx.chg (K := X.K) (o := .lst vs.dropLast) (a.ok.ob k p _ ep e2)
        exact up_chg (ob := .lst es.dropLast) u a ep e2 ⟨_, upd_same, (h2.mono nx).dropLast⟩ q (rv.mono nx)
      · exact q.elim
    · exact q.elim
  · exact q.elim
/-! dict.setdefault -/
theorem d_setdT {pins : List (Addr × Obj)} {σ : L2.St} {H : Hp} {s : Shared} {a b : Addr} {kvs : List (List Key × V)} {k : List Key} {r : Value} {d : V} {A : Around} {E : Value → Shared → Prop} {Q : Value → Shared → Prop} (hu : A.units + 1 < cLine) (I : Inv X pins σ H s) (e : H a = some (.dT kvs)) (eb : H b = some (.tup (k.map kV))) (rd : RelV d r) (hl : kvs.length < sizeLine)
    (h1 : ∀ v, valV kvs k = some v → ∀ (w' : Value) (s' : Shared), Inv X pins σ H s' → RelV v w' → Q w' s') (h2 : valV kvs k = none → ∀ (w' : Value) (s' : Shared), Inv X pins σ (upd H a (.dT (putK kvs k d))) s' → RelV d w' → Q w' s') :
    wpAny (model X.prog X.w) A (call (.builtin "dict.setdefault") [.ref a, .ref b, r]) Q E s := by
  obtain ⟨z, hd, xs, rel, dd⟩ := dt_of I.hok e
  have hz : xs.length ≤ sizeLine := by rw [← Paired.length rel]; exact z
  refine call_setdefault_heap (knd := tupleKind (mixKind X.prog X.w)) (hsz := hz) (tupleKind_room_in1 hu) (key_of I.hok eb) hd dd (fun p hp => ?_) fun hn h' dd' hs => ?_
  · have q := rel.val k
    rw [hp] at q
    cases q0 : valV kvs k with
    | none =>
      rw [q0] at q
      exact (show False from q).elim
    | some v0 =>
      rw [q0] at q
      exact h1 v0 q0 _ _ (I.tok _) q
  · have q := rel.val k
    rw [hn] at q
    cases q0 : valV kvs k with
    | some v0 =>
      rw [q0] at q
      exact (show False from q).elim
    | none =>
      have hl2 : (putK kvs k d).length ≤ sizeLine := by
        have := length_putK kvs k d
        omega
      obtain ⟨q, es, ep, hq, g2, g3, g4, _, g5⟩ := dd'
      refine h2 q0 _ _ (d_write I (by rw [e]; exact True.intro) hs ⟨q, hq⟩ ⟨hl2, hd, _, (rel.put k eb rd).keeps fun c ys ec => ?_, q, es, ep, hq, g2, g3, g4, g5⟩) rd
      rw [upd_ne (ne_of ec e (fun z => nomatch z))]
      exact ec
def rSetd : V → List V → Hp → VK → Prop := fun x xs H Q => ∃ a b z kvs k, x = .ref a ∧ xs = [.ref b, z] ∧ H a = some (.dT kvs) ∧ H b = some (.tup (k.map kV)) ∧ kvs.length < sizeLine ∧
  (∀ v, valV kvs k = some v → Q v H) ∧ (valV kvs k = none → Q z (upd H a (.dT (putK kvs k z))))
theorem mt_setdT (c : Cf X) : MtR X "dict.setdefault" rSetd := by
  intro pins s σ H x xs v us Q I rx rxs h
  obtain ⟨a, b, z, kvs, k, rfl, rfl, ea, eb, hl, q1, q2⟩ := h
  cases rx
  obtain ⟨u, r, rfl, ru, rr⟩ := rxs.two
  cases ru
  have un := c.un
  exact d_setdT (by omega) I ea eb rr hl (fun v hv w' s4 I4 rw' => ⟨v, _, I4, rw', q1 v hv⟩) fun hn w' s4 I4 rw' => ⟨z, _, I4, rw', q2 hn⟩
def rSetdK : V → List V → Hp → VK → Prop := fun x xs H Q => ∃ a z kvs k, x = .ref a ∧ xs = [kV k, z] ∧ H a = some (.dK kvs) ∧ kvs.length < sizeLine ∧
  (∀ v, valV kvs k = some v → Q v H) ∧ (valV kvs k = none → Q z (upd H a (.dK (putK kvs k z))))
theorem mt_setdK : MtR X "dict.setdefault" rSetdK := by
  intro pins s σ H x xs v us Q I rx rxs h
  obtain ⟨a, z, kvs, k, rfl, rfl, ea, hl, q1, q2⟩ := h
  cases rx
  obtain ⟨u, r, rfl, ru, rr⟩ := rxs.two
  exact d_setd I ea ru rr hl (fun v hv w' s4 I4 rw' => ⟨v, _, I4, rw', q1 v hv⟩) fun hn w' s4 I4 rw' => ⟨z, _, I4, rw', q2 hn⟩
theorem MtR.or {id : String} {r r' : V → List V → Hp → VK → Prop} (h : MtR X id r) (h' : MtR X id r') : MtR X id (fun x xs H Q => r x xs H Q ∨ r' x xs H Q) := fun pins s σ H x xs v us Q I r1 r2 q => q.elim (fun q => h pins s σ H x xs v us Q I r1 r2 q) (fun q => h' pins s σ H x xs v us Q I r1 r2 q)
def setdD (d : Dv) (ds : List Dv) : MX Dv := fun _ θ Q => match d, ds with
  | .obj j, [y, z] => (match θ[j]? with
    | some (.dT kvs) => (match tKey y with
      | some k => kvs.length < sizeLine ∧ (match lookD kvs k with
        | some v => Q v θ
        | none => Q z (θ.set j (.dT (putD kvs k z))))
      | none => False)
    | some (.dK kvs) => (match fKey y with
      | some k => kvs.length < sizeLine ∧ (match lookD kvs k with
        | some v => Q v θ
        | none => Q z (θ.set j (.dK (putD kvs k z))))
      | none => False)
    | _ => False)
  | _, _ => False
theorem ds_2 {K : PySem.W.Frag} {H : Hp} {α : List Addr} {d e : Dv} {xs : List V} (r : Rps K H α [d, e] xs) : ∃ x y, xs = [x, y] ∧ Rp K H α d x ∧ Rp K H α e y := by
  unfold Rps at r
  obtain ⟨x, us, rfl, h1, r⟩ := r
  obtain ⟨y, rfl, h2⟩ := one_of r
  exact ⟨x, y, rfl, h1, h2⟩
theorem mm_setd (c : Cf X) : MthM W "dict.setdefault" setdD := mm_of (MtR.or (mt_setdT c) mt_setdK) fun {H α θ d ds x xs Qm Q} a r rs q u => by
  unfold setdD at q
  split at q
  · rename_i j y z
    obtain ⟨vy, vz, rfl, ry, rz⟩ := ds_2 rs
    unfold Rp at r
    obtain ⟨p, ep, rfl⟩ := r
    split at q
    · rename_i kvs e2
      split at q
      · rename_i k hk
        obtain ⟨vs, h1, h2⟩ := a.ok.ob j p _ ep e2
        obtain ⟨b, rfl, hb⟩ := tKey_v hk ry
        have lk := h2.look k
        refine .inl ⟨p, b, vz, vs, k, rfl, rfl, h1, hb, by rw [h2.length]; exact q.1, fun v hv => ?_, fun hn => ?_⟩
        · cases e3 : lookD kvs k with
          | none => rw [e3] at lk; rw [hv] at lk; cases lk
          | some d =>
            have q2 := q.2
            rw [e3] at lk q2
            obtain ⟨v', e4, r4⟩ := lk
            rw [hv] at e4
            cases e4
            exact up_same u a q2 r4
        · cases e3 : lookD kvs k with
          | some d => rw [e3] at lk; obtain ⟨v', e4, _⟩ := lk; rw [hn] at e4; cases e4
          | none =>
            have q2 := q.2
            rw [e3] at q2
            have nx := Nx.chg (K := X.K) (o := .dT (putK vs k vz)) (a.ok.ob j p _ ep e2)
            exact up_chg (ob := .dT (putD kvs k z)) u a ep e2 ⟨_, upd_same, (h2.put k rz).mono nx⟩ q2 (rz.mono nx)
      · exact q.elim
    · rename_i kvs e2
      split at q
      · rename_i k hk
        obtain ⟨vs, h1, h2⟩ := a.ok.ob j p _ ep e2
        have ex := fKey_v hk ry
        subst ex
        have lk := h2.look k
        refine .inr ⟨p, vz, vs, k, rfl, rfl, h1, by rw [h2.length]; exact q.1, fun v hv => ?_, fun hn => ?_⟩
        · cases e3 : lookD kvs k with
          | none => rw [e3] at lk; rw [hv] at lk; cases lk
          | some d =>
            have q2 := q.2
            rw [e3] at lk q2
            obtain ⟨v', e4, r4⟩ := lk
            rw [hv] at e4
            cases e4
            exact up_same u a q2 r4
        · cases e3 : lookD kvs k with
          | some d => rw [e3] at lk; obtain ⟨v', e4, _⟩ := lk; rw [hn] at e4; cases e4
          | none =>
            have q2 := q.2
            rw [e3] at q2
            have nx := Nx.chg (K := X.K) (o := .dK (putK vs k vz)) (a.ok.ob j p _ ep e2)
            exact up_chg (ob := .dK (putD kvs k z)) u a ep e2 ⟨_, upd_same, (h2.put k rz).mono nx⟩ q2 (rz.mono nx)
      · exact q.elim
    · exact q.elim
  · exact q.elim
/-! ### displays of dicts -/
def mDK : ME := fun _ _ θ Q => Q (.obj θ.length) (θ ++ [.dK []])
def mDT : ME := fun _ _ θ Q => Q (.obj θ.length) (θ ++ [.dT []])
theorem pm_dK {pos : Pos} : PE X (.Dict [] [] pos) (tM W mDK) := pe_w pe_dnewK fun σ H Q ⟨ρ, α, θ, Qm, at', rs, q, u⟩ p hp => by
  have nx : Nx X.K H α (upd H p (.dK [])) (α ++ [p]) := Nx.new hp _
  exact u _ _ _ _ _ q (at'.ok.new hp ⟨[], upd_same, by unfold RpK; rfl⟩) nx (rp_obj (by rw [← at'.ok.len]; simp))
theorem pm_dT {pos : Pos} : PE X (.Dict [] [] pos) (tM W mDT) := pe_w pe_dnewT fun σ H Q ⟨ρ, α, θ, Qm, at', rs, q, u⟩ p hp => by
  have nx : Nx X.K H α (upd H p (.dT [])) (α ++ [p]) := Nx.new hp _
  exact u _ _ _ _ _ q (at'.ok.new hp ⟨[], upd_same, by unfold RpK; rfl⟩) nx (rp_obj (by rw [← at'.ok.len]; simp))
/-- {a: b}, the new dict stands empty while the pair is made -/
def mDict1 (a b : ME) : ME := fun ρ E θ Q => a ρ E (θ ++ [.dK []]) fun x θ1 => b ρ E θ1 fun y θ2 => θ2[θ.length]? = some (.dK []) ∧ match fKey x with
  | some k => Q (.obj θ.length) (θ2.set θ.length (.dK [(k, y)]))
  | none => False
theorem pm_dict1 {k v : Expr} {a b : ME} {pos : Pos} (hk : PE X k (tM W a)) (hv : PE X v (tM W b)) : PE X (.Dict [some k] [v] pos) (tM W (mDict1 a b)) :=
  pe_w (pe_disp (pps_cons hk hv pps_nil) rfl rfl (by simp) (by simp)) fun σ H Q ⟨ρ, α, θ, Qm, at', rs, q, u⟩ p hp => by
    have nx : Nx X.K H α (upd H p (.dK [])) (α ++ [p]) := Nx.new hp _
    have ok := at'.ok.new (ob := .dK []) hp ⟨[], upd_same, by unfold RpK; rfl⟩
    have ep : (α ++ [p])[θ.length]? = some p := by rw [← at'.ok.len]; simp
    refine ⟨ρ, _, _, _, ⟨ok, at'.nx.trans nx⟩, rs.mono nx, q, fun x θ1 α1 H1 v1 q1 ok1 nx1 r1 => ⟨ρ, α1, θ1, _, ⟨ok1, (at'.nx.trans nx).trans nx1⟩, (rs.mono nx).mono nx1, q1, fun y θ2 α2 H2 v2 q2 ok2 nx2 r2 => ?_⟩⟩
    obtain ⟨e2, q2⟩ := q2
    have ep2 := (nx1.trans nx2).at ep
    obtain ⟨vs, h1, h2⟩ := ok2.ob _ p _ ep2 e2
    unfold RpK at h2
    subst h2
    refine ⟨h1, ?_⟩
    split at q2
    · rename_i key hk
      have ex := fKey_v hk r1
      subst ex
      have nx3 := Nx.chg (K := X.K) (o := .dK [(key, v2)]) (ok2.ob _ p _ ep2 e2)
      refine ⟨[(key, v2)], rfl, by simp, ?_⟩
      have hm : mergeK [] [(key, v2)] = [(key, v2)] := rfl
      rw [hm]
      refine u _ _ α2 _ _ q2 (ok2.chg (ob := .dK [(key, y)]) ep2 e2 ⟨_, upd_same, ?_⟩) (((nx.trans nx1).trans nx2).trans nx3) (rp_obj ep2)
      unfold RpK
      exact ⟨v2, [], rfl, r2.mono nx3, by unfold RpK; rfl⟩
    · exact q2.elim
/-! ### a < b < c -/
theorem tm_chain {o o' : Dv → Dv → MX Dv} {a b c : ME} (σ : L2.St) (H : Hp) (Q : VK) : tM W (mChain o o' a b c) σ H Q → tChain (rM2 W o) (rM2 W o') (tM W a) (tM W b) (tM W c) σ H Q := fun ⟨ρ, α, θ, Qm, at', rs, q, u⟩ =>
  ⟨ρ, α, θ, _, at', rs, q, fun x θ1 α1 H1 v1 q1 ok1 nx1 r1 => ⟨ρ, α1, θ1, _, ⟨ok1, at'.nx.trans nx1⟩, rs.mono nx1, q1, fun y θ2 α2 H2 v2 q2 ok2 nx2 r2 =>
    ⟨α2, θ2, x, y, _, ⟨ok2, (at'.nx.trans nx1).trans nx2⟩, r1.mono nx2, r2, q2, fun k θ3 α3 H3 v3 q3 ok3 nx3 r3 => by
      have a3 : At W H3 α3 θ3 := ⟨ok3, ((at'.nx.trans nx1).trans nx2).trans nx3⟩
      have nxT := (nx1.trans nx2).trans nx3
      cases k with
      | bl k =>
        cases of_bl r3
        cases k with
        | true => exact ⟨true, rfl, iteT ⟨ρ, α3, θ3, _, a3, rs.mono nxT, q3, fun z θ4 α4 H4 v4 q4 ok4 nx4 r4 => ⟨α4, θ4, y, z, Qm, ⟨ok4, a3.nx.trans nx4⟩, (r2.mono nx3).mono nx4, r4, q4, u.mono (nxT.trans nx4)⟩⟩⟩
        | false => exact ⟨false, rfl, iteF (up_same (u.mono nxT) a3 q3 rp_bl)⟩
      | _ => exact False.elim q3⟩⟩⟩
theorem pm_chain {a b c : Expr} {ma mb mc : ME} {op op' : CmpOp} {o o' : Dv → Dv → MX Dv} {pos : Pos} (ho : OpM W (compareOp op) o) (ho' : OpM W (compareOp op') o') (ha : PE X a (tM W ma)) (hb : PE X b (tM W mb)) (hc : PE X c (tM W mc))
    (hm : lastMarks [op, op'] [b, c] = false := by with_unfolding_all rfl) : PE X (.Compare a [op, op'] [b, c] pos) (tM W (mChain o o' ma mb mc)) := pe_w (pe_chain ho ho' ha hb hc hm) tm_chain
theorem bm_chain {a b c : Expr} {ma mb mc : ME} {op op' : CmpOp} {o o' : Dv → Dv → MX Dv} {pos : Pos} (ho : OpM W (compareOp op) o) (ho' : OpM W (compareOp op') o') (ha : PE X a (tM W ma)) (hb : PE X b (tM W mb)) (hc : PE X c (tM W mc))
    (hm : lastMarks [op, op'] [b, c] = false := by with_unfolding_all rfl) : PT X (.Compare a [op, op'] [b, c] pos) (tMb W (bB (mChain o o' ma mb mc))) :=
  pt_w (pt_chain ho ho' ha hb hc hm) fun σ H Q ⟨ρ, α, θ, Qm, at', rs, q, u⟩ => tm_chain σ H _ ⟨ρ, α, θ, _, at', rs, q, fun d θ1 α1 H1 v q1 ok1 nx1 r1 => by
    cases d with
    | bl k =>
      cases of_bl r1
      exact ⟨k, rfl, u k θ1 α1 H1 q1 ok1 nx1⟩
    | _ => exact False.elim q1⟩
/-! ### tuple(range(..)), list(range(..)) -/
def rgD (a b : Int) : List Dv := (List.range (b - a).toNat).map fun i => Dv.int (a + (i : Nat))
theorem rps_rg {H : Hp} {α : List Addr} (a b : Int) : Rps X.K H α (rgD a b) (rgV a b) := by
  unfold rgD rgV
  generalize (List.range (b - a).toNat) = l
  induction l with
  | nil => exact Rps.nil
  | cons i l ih => exact Rps.cons rp_int ih
def mRg1 (a : ME) : DEnv → MX (Int × Int) := fun ρ => do
  let x ← a ρ
  match x with
  | .int n => pure (0, n)
  | _ => MX.stuck
def mRg2 (a b : ME) : DEnv → MX (Int × Int) := fun ρ => do
  let x ← a ρ
  let y ← b ρ
  match x, y with
  | .int i, .int j => pure (i, j)
  | _, _ => MX.stuck
def tMr (W : Wd X.K X.mg) (m : DEnv → MX (Int × Int)) : L2.St → Hp → (Int → Int → Hp → Prop) → Prop := fun σ H Q => ∃ ρ α θ Qm, At W H α θ ∧ RS X.K H α σ ρ ∧ m ρ W.En θ Qm ∧
  ∀ b θ' α' H', Qm b θ' → Okk X.K H' α' θ' → Nx X.K H α H' α' → Q b.1 b.2 H'
theorem prg_w {e : Expr} {t t' : L2.St → Hp → (Int → Int → Hp → Prop) → Prop} (h : PRg X e t) (w : ∀ σ H Q, t' σ H Q → t σ H Q) : PRg X e t' := fun pins s σ H Q I q => h pins s σ H Q I (w σ H Q q)
theorem rgm_1 {e : Expr} {a : ME} (h : PRg X e (tRg1 (tM W a))) : PRg X e (tMr W (mRg1 a)) := prg_w h fun σ H Q ⟨ρ, α, θ, Qm, at', rs, q, u⟩ => ⟨ρ, α, θ, _, at', rs, q, fun x θ1 α1 H1 v1 q1 ok1 nx1 r1 => by
  cases x with
  | int n => cases of_int r1; exact ⟨n, rfl, u _ θ1 α1 H1 q1 ok1 nx1⟩
  | _ => exact False.elim q1⟩
theorem rgm_2 {e : Expr} {a b : ME} (h : PRg X e (tRg2 (tM W a) (tM W b))) : PRg X e (tMr W (mRg2 a b)) := prg_w h fun σ H Q ⟨ρ, α, θ, Qm, at', rs, q, u⟩ => ⟨ρ, α, θ, _, at', rs, q, fun x θ1 α1 H1 v1 q1 ok1 nx1 r1 =>
  ⟨ρ, α1, θ1, _, ⟨ok1, at'.nx.trans nx1⟩, rs.mono nx1, q1, fun y θ2 α2 H2 v2 q2 ok2 nx2 r2 => by
  cases x with
  | int i =>
    cases y with
    | int j => cases of_int r1; cases of_int r2; exact ⟨i, j, rfl, rfl, u _ θ2 α2 H2 q2 ok2 (nx1.trans nx2)⟩
    | _ => exact False.elim q2
  | _ => exact False.elim q2⟩⟩
def mTupRg (m : DEnv → MX (Int × Int)) : ME := fun ρ E θ Q => m ρ E θ fun b θ1 => RgOk b.1 b.2 ∧ Q (.tup (rgD b.1 b.2)) θ1
def mLstRg (m : DEnv → MX (Int × Int)) : ME := fun ρ E θ Q => m ρ E θ fun b θ1 => RgOk b.1 b.2 ∧ Q (.obj θ1.length) (θ1 ++ [.lst (rgD b.1 b.2)])
theorem pm_tupRg {e : Expr} {m : DEnv → MX (Int × Int)} (h : PE X e (tTupRg (tMr W m))) : PE X e (tM W (mTupRg m)) := pe_w h fun σ H Q ⟨ρ, α, θ, Qm, at', rs, q, u⟩ => ⟨ρ, α, θ, _, at', rs, q, fun b θ1 α1 H1 q1 ok1 nx1 =>
  ⟨q1.1, up_tup (W := W) (u.mono nx1) ⟨ok1, at'.nx.trans nx1⟩ q1.2 (rps_rg _ _)⟩⟩
theorem pm_lstRg {e : Expr} {m : DEnv → MX (Int × Int)} (h : PE X e (tLstRg (tMr W m))) : PE X e (tM W (mLstRg m)) := pe_w h fun σ H Q ⟨ρ, α, θ, Qm, at', rs, q, u⟩ => ⟨ρ, α, θ, _, at', rs, q, fun b θ1 α1 H1 q1 ok1 nx1 =>
  ⟨q1.1, up_lst (W := W) (u.mono nx1) ⟨ok1, at'.nx.trans nx1⟩ q1.2 (rps_rg _ _)⟩⟩
end
end Mn

/-! Mn11: defs: what a def promises, its call, its body; what is left behind is dropped. -/
namespace Mn
open PySem PySem.Spec PyProof.Rows L2

/-! ### data whose objects are low n -/
mutual
def Dv.low (n : Nat) : Dv → Bool
  | .obj k => decide (k < n)
  | .tup ds => Dv.lows n ds
  | .pt ds => Dv.lows n ds
  | _ => true
def Dv.lows (n : Nat) : List Dv → Bool
  | [] => true
  | d :: ds => d.low n && Dv.lows n ds
end
def lowK {κ : Type} (n : Nat) (kvs : List (κ × Dv)) : Bool := kvs.all fun kv => kv.2.low n
def Ob.low (n : Nat) : Ob → Bool
  | .lst ds => Dv.lows n ds
  | .dK kvs => lowK n kvs
  | .dT kvs => lowK n kvs
  | .dKf kvs => lowK n kvs
  | .dTf kvs => lowK n kvs
  | .ins _ fs => lowK n fs
/-- every object of the store is made of what the store has -/
def Clo (θ : Th) : Prop := ∀ o, o ∈ θ → o.low θ.length = true
section
variable {K : PySem.W.Frag} {H : Hp} {α : List Addr} {θ : Th}
mutual
theorem Rp.low : ∀ {d : Dv} {v : V}, Rp K H α d v → d.low α.length = true
  | .non, _, _ => rfl
  | .bl _, _, _ => rfl
  | .int _, _, _ => rfl
  | .str _, _, _ => rfl
  | .rf _, _, _ => rfl
  | .fn _, _, _ => rfl
  | .scr _, _, _ => rfl
  | .obj k, v, h => by
    unfold Rp at h
    obtain ⟨p, e, _⟩ := h
    unfold Dv.low
    exact decide_eq_true (List.getElem?_eq_some_iff.mp e).1
  | .tup ds, v, h => by
    unfold Rp at h
    obtain ⟨p, vs, _, _, r⟩ := h
    unfold Dv.low
    exact Rps.low r
  | .pt ds, v, h => by
    unfold Rp at h
    obtain ⟨p, vs, _, _, _, _, r⟩ := h
    unfold Dv.low
    exact Rps.low r
theorem Rps.low : ∀ {ds : List Dv} {vs : List V}, Rps K H α ds vs → Dv.lows α.length ds = true
  | [], _, _ => rfl
  | d :: ds, _, h => by
    unfold Rps at h
    obtain ⟨v, r, _, h1, h2⟩ := h
    unfold Dv.lows
    rw [Rp.low h1, Rps.low h2]
    rfl
end
theorem RpK.low {κ : Type} : ∀ {ds : List (κ × Dv)} {vs : List (κ × V)}, RpK K H α ds vs → lowK α.length ds = true
  | [], _, _ => rfl
  | (k, d) :: ds, _, h => by
    unfold RpK at h
    obtain ⟨v, r, _, h1, h2⟩ := h
    have := RpK.low h2
    unfold lowK at this ⊢
    rw [List.all_cons, this, h1.low]
    rfl
theorem ObR.low {p : Addr} {o : Ob} (h : ObR K H α p o) : o.low α.length = true := by
  cases o with
  | lst ds => obtain ⟨vs, _, r⟩ := h; exact r.low
  | dK ds => obtain ⟨vs, _, r⟩ := h; exact r.low
  | dT ds => obtain ⟨vs, _, r⟩ := h; exact r.low
  | dKf ds => obtain ⟨vs, _, _, r⟩ := h; exact r.low
  | dTf ds => obtain ⟨vs, _, _, r⟩ := h; exact r.low
  | ins C fs => obtain ⟨_, vs, _, r⟩ := h; exact r.low
theorem Okk.clo (ok : Okk K H α θ) : Clo θ := fun o ho => by
  obtain ⟨k, hk, e⟩ := List.mem_iff_getElem.mp ho
  have e2 : θ[k]? = some o := by rw [List.getElem?_eq_getElem hk, e]
  obtain ⟨p, ep⟩ := ok.addr e2
  rw [← ok.len]
  exact (ok.ob k p o ep e2).low
mutual
theorem Rp.cut {n : Nat} : ∀ {d : Dv} {v : V}, Rp K H α d v → d.low n = true → Rp K H (α.take n) d v
  | .non, _, h, _ => by simpa [Rp] using h
  | .bl _, _, h, _ => by simpa [Rp] using h
  | .int _, _, h, _ => by simpa [Rp] using h
  | .str _, _, h, _ => by simpa [Rp] using h
  | .rf _, _, h, _ => by simpa [Rp] using h
  | .fn _, _, h, _ => by simpa [Rp] using h
  | .scr _, _, h, _ => by simpa [Rp] using h
  | .obj k, v, h, b => by
    unfold Rp at h ⊢
    obtain ⟨p, e, r⟩ := h
    unfold Dv.low at b
    have b := of_decide_eq_true b
    exact ⟨p, by rw [List.getElem?_take_of_lt b]; exact e, r⟩
  | .tup ds, v, h, b => by
    unfold Rp at h ⊢
    obtain ⟨p, vs, e, t, r⟩ := h
    unfold Dv.low at b
    exact ⟨p, vs, e, t, Rps.cut r b⟩
  | .pt ds, v, h, b => by
    unfold Rp at h ⊢
    obtain ⟨p, vs, o, e, t, d, r⟩ := h
    unfold Dv.low at b
    exact ⟨p, vs, o, e, t, d, Rps.cut r b⟩
theorem Rps.cut {n : Nat} : ∀ {ds : List Dv} {vs : List V}, Rps K H α ds vs → Dv.lows n ds = true → Rps K H (α.take n) ds vs
  | [], _, h, _ => by unfold Rps at h ⊢; exact h
  | d :: ds, _, h, b => by
    unfold Rps at h ⊢
    obtain ⟨v, r, e, h1, h2⟩ := h
    unfold Dv.lows at b
    rw [Bool.and_eq_true] at b
    exact ⟨v, r, e, Rp.cut h1 b.1, Rps.cut h2 b.2⟩
end
theorem RpK.cut {κ : Type} {n : Nat} : ∀ {ds : List (κ × Dv)} {vs : List (κ × V)}, RpK K H α ds vs → lowK n ds = true → RpK K H (α.take n) ds vs
  | [], _, h, _ => by unfold RpK at h ⊢; exact h
  | (k, d) :: ds, _, h, b => by
    unfold RpK at h ⊢
    obtain ⟨v, r, e, h1, h2⟩ := h
    unfold lowK at b
    rw [List.all_cons, Bool.and_eq_true] at b
    exact ⟨v, r, e, h1.cut b.1, RpK.cut h2 b.2⟩
theorem ObR.cut {n : Nat} {p : Addr} {o : Ob} (h : ObR K H α p o) (b : o.low n = true) : ObR K H (α.take n) p o := by
  cases o with
  | lst ds => obtain ⟨vs, e, r⟩ := h; exact ⟨vs, e, r.cut b⟩
  | dK ds => obtain ⟨vs, e, r⟩ := h; exact ⟨vs, e, r.cut b⟩
  | dT ds => obtain ⟨vs, e, r⟩ := h; exact ⟨vs, e, r.cut b⟩
  | dKf ds => obtain ⟨vs, o, e, r⟩ := h; exact ⟨vs, o, e, r.cut b⟩
  | dTf ds => obtain ⟨vs, o, e, r⟩ := h; exact ⟨vs, o, e, r.cut b⟩
  | ins C fs => obtain ⟨dx, vs, e, r⟩ := h; exact ⟨dx, vs, e, r.cut b⟩
theorem Okk.cut {g : Th} (ok : Okk K H α (θ ++ g)) (c : Clo θ) : Okk K H (α.take θ.length) θ := by
  have hl := ok.len
  rw [List.length_append] at hl
  refine ⟨by rw [List.length_take]; omega, ok.nd.sublist (List.take_sublist _ _), fun k p o e1 e2 => ?_⟩
  have hk := (List.getElem?_eq_some_iff.mp e2).1
  rw [List.getElem?_take_of_lt hk] at e1
  exact (ok.ob k p o e1 (by rw [List.getElem?_append_left hk]; exact e2)).cut (c o (List.mem_of_getElem? e2))
end

/-! ### a def -/
/-- the end of a body: what it left behind may be dropped -/
def endQ (θ0 : Th) (Q : Dv → Th → Prop) (d : Dv) (θ' : Th) : Prop := Q d θ' ∨ ∃ θ2 g, θ' = θ2 ++ g ∧ θ0.length ≤ θ2.length ∧ (Clo θ0 → Clo θ2 ∧ d.low θ2.length = true) ∧ Q d θ2
/-- a def with j names more than parameters -/
def defM (j : Nat) (m : MS) (ds : List Dv) : MX Dv := fun E θ Q => m (ds.map some ++ List.replicate j none) E θ fun o θ' => match o with
  | .nx _ => endQ θ Q .non θ'
  | .rt d => endQ θ Q d θ'
  | _ => False
/-- what a def promises -/
def spM (K : PySem.W.Frag) (mg : Str → Option Value) (n : Nat) (c : List Dv → MX Dv) : Sp := fun vs H Q E => ∃ (α : List Addr) (θ : Th) (ds : List Dv) (En : Exn → Th → Prop) (Qm : Dv → Th → Prop),
  ds.length = n ∧ Okk K H α θ ∧ Rps K H α ds vs ∧ c ds En θ Qm ∧ Up K H α Qm Q ∧ ∀ x θ' α' H' cls d, En x θ' → Okk K H' α' θ' → Nx K H α H' α' → ExR K mg H' α' x cls d → E cls d H'
theorem spM_len {K : PySem.W.Frag} {mg : Str → Option Value} {n : Nat} {c : List Dv → MX Dv} {vs : List V} {H : Hp} {Q : VK} {E : XK} (h : spM K mg n c vs H Q E) : vs.length = n := by
  obtain ⟨α, θ, ds, En, Qm, h1, _, h2, _⟩ := h
  rw [h2.length, h1]
def Wd.XK {K : PySem.W.Frag} {mg : Str → Option Value} (W : Wd K mg) : XK := fun cls d H => ∃ x θ α, W.En x θ ∧ Okk K H α θ ∧ Nx K W.H0 W.α0 H α ∧ ExR K mg H α x cls d
theorem up_end {K : PySem.W.Frag} {H : Hp} {α : List Addr} {θ : Th} {Qm : Dv → Th → Prop} {Q : VK} (ok0 : Okk K H α θ) (u : Up K H α Qm Q) {d : Dv} {θ' : Th} {α' : List Addr} {H' : Hp} {v : V} (q : endQ θ Qm d θ') (ok : Okk K H' α' θ') (nx : Nx K H α H' α') (r : Rp K H' α' d v) : Q v H' := by
  rcases q with q | ⟨θ2, g, rfl, hl, hc, q⟩
  · exact u d θ' α' H' v q ok nx r
  · obtain ⟨c2, b2⟩ := hc ok0.clo
    refine u d θ2 (α'.take θ2.length) H' v q (ok.cut c2) ⟨?_, nx.tup, nx.xd, nx.fz⟩ (r.cut b2)
    obtain ⟨β, rfl⟩ := nx.ext
    refine ⟨β.take (θ2.length - α.length), ?_⟩
    rw [List.take_append, List.take_of_length_le (by rw [ok0.len]; exact hl)]
section
variable {X : Cx} {W : Wd X.K X.mg}
def mCallU (n : Nat) (c : List Dv → MX Dv) (ms : DEnv → MX (List Dv)) : ME := fun ρ E θ Q => ms ρ E θ fun ds θ1 => ds.length = n ∧ c ds E θ1 Q
theorem pm_call {CX : CXT} {k n : Nat} {f : Addr} {fd : FuncData} {ps : List Str} {c : List Dv → MX Dv} {x : Str} {p pos : Pos} {e : Expr} {es : List Expr} {ms : DEnv → MX (List Dv)} (F : FnG X.prog X.w X.K X.mg X.base CX k f fd ps (spM X.K X.mg n c)) (cf : Cf X) (hr : Room k X.A) (hg : Gl X x) (hm : X.mg x = some (.ref f)) (hk : PySem.W.keepIn X.K (.ref f) = true)
    (hb : Binds X.K fd ps []) (hx : Passes CX X W.XK) (ha : PA X (e :: es) (tMs W ms)) (hdb : (x == ("__debug__" : Str)) = false := by decide) (he : starEach (e :: es) X.env = (false, eval e X.env) :: starEach es X.env := by rfl)
    (hpl : (backTo pos (starEach es X.env)).any (·.1) = false := by rfl) : PE X (.Call (.Name x p) (e :: es) [] pos) (tM W (mCallU n c ms)) :=
  pe_w (pe_callG F cf.gd hr hg hm hk hb .nil hx ha hdb he hpl) fun σ H Q ⟨ρ, α, θ, Qm, at', rs, q, u⟩ => ⟨ρ, α, θ, _, at', rs, q, fun ds θ1 α1 H1 vs q1 ok1 nx1 r1 => by
    show spM X.K X.mg n c (vs ++ []) H1 Q W.XK
    rw [List.append_nil]
    exact ⟨α1, θ1, ds, W.En, Qm, q1.1, ok1, r1, q1.2, u.mono nx1, fun x2 θ2 α2 H2 cls d h1 h2 h3 h4 => ⟨x2, θ2, α2, h1, h2, (at'.nx.trans nx1).trans h3, h4⟩⟩⟩
end
theorem rs_start {K : PySem.W.Frag} {H : Hp} {α : List Addr} {N : List Str} {vs : List V} {ds : List Dv} {j : Nat} (r : Rps K H α ds vs) (h : N.length = ds.length + j) : RS K H α (L2.start N vs) (ds.map some ++ List.replicate j none) := by
  unfold L2.start
  refine ⟨by simp [r.length, h], fun i d e => ?_⟩
  by_cases hi : i < ds.length
  · rw [List.getElem?_append_left (by simpa using hi), List.getElem?_map] at e
    cases e2 : ds[i]? with
    | none => rw [e2] at e; cases e
    | some d2 =>
      rw [e2] at e
      cases e
      obtain ⟨v, hv, rv⟩ := r.get e2
      refine ⟨v, ?_, rv⟩
      rw [List.getElem?_append_left (by simpa [r.length] using hi), List.getElem?_map, hv]
      rfl
  · rw [List.getElem?_append_right (by simpa using hi), List.getElem?_replicate] at e
    split at e <;> cases e
theorem room_cf {CX : CXT} {P : Program} {w : World} {K : PySem.W.Frag} {mg : Str → Option Value} {base : Heap} {N : List Str} {qual : Str} {scope : Scope} {f : Addr} {cdv : Value} {A : Around} {outer : List Env} {s : Shared} {H : Hp} {E : XK} {k : Nat} (gd : A.guards = some []) (hr : Room k (A.deeper (envOfC qual scope s.heap.objs.size f cdv))) (nd : N.Nodup) :
    Cf (cxOf CX P w K mg base N qual scope f cdv A outer s H E).nox := by
  refine ⟨rfl, ?_, ?_, nd⟩
  · show (A.deeper _).guards = some []
    exact gd
  · have := hr.un
    show (A.deeper _).units + 100 < cLine
    omega
/-- a calm def by its body -/
theorem fnM0 {P : Program} {w : World} {K : PySem.W.Frag} {mg : Str → Option Value} {base : Heap} {x qual : Str} {st : Stmt} {f : Addr} {fd : FuncData} {N ps : List Str} {k n j : Nat} {m : MS} (F : Fun K x qual st f fd) (S : FnScope N ps (defScope st)) (hn : ps.length = n) (hj : N.length = n + j)
    (hbody : ∀ (cdv : Value) (A : Around) (outer : List Env) (s : Shared) (H : Hp) (E : XK) (W : Wd K mg), Room k (A.deeper (envOfC qual (defScope st) s.heap.objs.size f cdv)) → Cf (cxOf CX0 P w K mg base N qual (defScope st) f cdv A outer s H E).nox →
      PSs (cxOf CX0 P w K mg base N qual (defScope st) f cdv A outer s H E).nox (defBody st) (tS W m)) : FnG P w K mg base CX0 (k + 1) f fd ps (spM K mg n (defM j m)) := by
  obtain ⟨oc, od, kV, doc, pm, an, cdv, ct, osl, rfl, lk, hcd⟩ := F.ex
  refine fnG_of lk hcd S (fun vs H Q E h => by rw [spM_len h, hn]) fun A outer s H vs Q E gd hr hsp => ?_
  obtain ⟨α, θ, ds, En, Qm, h1, ok, rps, q, u, lnk⟩ := hsp
  refine ⟨_, (hbody cdv A outer s H E ⟨H, α, En, E⟩ hr (room_cf gd hr S.nd)).nox, _, α, θ, _, ⟨ok, Nx.refl⟩, rs_start rps (by rw [h1]; exact hj), q, fun o θ' α' H' q' ok' nx' => ?_⟩
  cases o with
  | nx ρ' => exact fun σ' _ => up_end ok u q' ok' nx' rp_non
  | rt d => exact fun v r => up_end ok u q' ok' nx' r
  | bk ρ' => exact False.elim q'
  | ct ρ' => exact False.elim q'
end Mn

/-! Mn12: short words for derivations. -/
namespace Mn
open PySem PySem.Spec PyProof.Rows L2
theorem b_len : bootBuiltins "len" = some (.builtin "len") := by decide +kernel
theorem b_sum : bootBuiltins "sum" = some (.builtin "sum") := by decide +kernel
theorem b_any : bootBuiltins "any" = some (.builtin "any") := by decide +kernel
theorem b_all : bootBuiltins "all" = some (.builtin "all") := by decide +kernel
theorem b_max : bootBuiltins "max" = some (.builtin "max") := by decide +kernel
theorem b_min : bootBuiltins "min" = some (.builtin "min") := by decide +kernel
theorem b_sorted : bootBuiltins "sorted" = some (.builtin "sorted") := by decide +kernel
theorem b_repr : bootBuiltins "repr" = some (.builtin "repr") := by decide +kernel
theorem b_isinstance : bootBuiltins "isinstance" = some (.builtin "isinstance") := by decide +kernel
theorem b_int : bootBuiltins "int" = some (.type "int") := by decide +kernel
theorem b_bool : bootBuiltins "bool" = some (.type "bool") := by decide +kernel
theorem b_str : bootBuiltins "str" = some (.type "str") := by decide +kernel
theorem b_tuple : bootBuiltins "tuple" = some (.type "tuple") := by decide +kernel
theorem b_list : bootBuiltins "list" = some (.type "list") := by decide +kernel
theorem Cf.blk {X : Cx} {s : Shared} {H : Hp} {scope : Scope} {e : Env} {fp : List Addr} (c : Cf X) : Cf (X.blk s H scope e fp) := ⟨c.calm, c.gd, c.un, c.nd⟩
theorem pass {X : Cx} {E : XK} : Passes CX0 X E := fun _ _ _ _ _ _ _ h => h.elim
section
variable {X : Cx} {W : Wd X.K X.mg}
theorem pm_v (i : Nat) {x : Str} {pos : Pos} (hN : X.N[i]? = some x := by rfl) (hv : Vis X.env.scope x := by first | exact Or.inl rfl | exact Or.inr (Or.inl rfl) | exact Or.inr (Or.inr rfl)) (hd : (x == ("__debug__" : Str)) = false := by decide)
    (hcd : (x == ("__classdict__" : Str)) = false := by decide) : PE X (.Name x pos) (tM W (mVar i)) := pm_var (pe_var hN hv hd hcd)
/-- a built-in function's call -/
theorem pm_bf {x : Str} {p pos : Pos} {e : Expr} {es : List Expr} {ms : DEnv → MX (List Dv)} {id : String} {c : List Dv → MX Dv} (hc : CallM W (.builtin id) c) (hm : X.mg x = none) (hv : bootBuiltins x = some (.builtin id)) (ha : PA X (e :: es) (tMs W ms)) (hg : Gl X x := by rfl) (hn : x ≠ "__name__" := by decide) (hdb : (x == ("__debug__" : Str)) = false := by decide)
    (he : starEach (e :: es) X.env = (false, eval e X.env) :: starEach es X.env := by rfl) (hpl : (backTo pos (starEach es X.env)).any (·.1) = false := by rfl) : PE X (.Call (.Name x p) (e :: es) [] pos) (tM W (mCall c ms)) := pe_w (pe_callB hc hg hm hv ha hn hdb he hpl) tm_call
/-- a built-in type's call -/
theorem pm_bt {x : Str} {p pos : Pos} {e : Expr} {es : List Expr} {ms : DEnv → MX (List Dv)} {T : String} {c : List Dv → MX Dv} (hc : CallM W (.type T) c) (hm : X.mg x = none) (hv : bootBuiltins x = some (.type T)) (ha : PA X (e :: es) (tMs W ms)) (hg : Gl X x := by rfl) (hn : x ≠ "__name__" := by decide) (hdb : (x == ("__debug__" : Str)) = false := by decide)
    (he : starEach (e :: es) X.env = (false, eval e X.env) :: starEach es X.env := by rfl) (hpl : (backTo pos (starEach es X.env)).any (·.1) = false := by rfl) : PE X (.Call (.Name x p) (e :: es) [] pos) (tM W (mCall c ms)) := pe_w (pe_callTy hc hg hm hv ha hn hdb he hpl) tm_call
/-- isinstance(e, T) -/
theorem pm_is {T : Str} {n : String} {a : Expr} {ma : ME} {p p2 pos : Pos} (hm : X.mg "isinstance" = none) (hmT : X.mg T = none) (hbT : bootBuiltins T = some (.type n)) (ha : PE X a (tM W ma)) (hg : Gl X "isinstance" := by rfl) (hgT : Gl X T := by rfl) (hnT : T ≠ "__name__" := by decide) (hdT : (T == ("__debug__" : Str)) = false := by decide)
    (hs : starEach [a, .Name T p2] X.env = (false, eval a X.env) :: starEach [.Name T p2] X.env := by rfl) (hs2 : starEach [.Name T p2] X.env = (false, eval (.Name T p2) X.env) :: starEach [] X.env := by rfl)
    (hpl : (backTo pos (starEach [.Name T p2] X.env)).any (·.1) = false := by rfl) : PE X (.Call (.Name "isinstance" p) [a, .Name T p2] [] pos) (tM W (mIsi n ma)) :=
  pm_isi hg hm hgT hmT hbT ha hnT hdT hs hs2 fun t h => pe_callB (r := rIsi X.K) call_isi hg hm b_isinstance h (by decide) (by decide) hs hpl
theorem sm_st (i : Nat) {x : Str} {e : Expr} {m : ME} {pos' pos : Pos} (c : Cf X) (he : PE X e (tM W m)) (hi : X.N[i]? = some x := by rfl) (hx : Loc X.env.scope x := by first | exact Or.inl rfl | exact Or.inr rfl) (hs : swapsWith e (some (.Name x pos')) pos.line X.env = pure false := by rfl) (hf : X.fn x = true ∨ X.env.scope.names.lookup x = some .local := by first | exact .inl rfl | exact .inr rfl) :
    PS X (.Assign [.Name x pos'] e pos) (tS W (sSet i m)) := ps_w (ps_set c.nd hi hx he hs hf) ts_set
theorem sm_ex {e : Expr} {m : ME} {pos : Pos} (he : PE X e (tM W m)) (hs : swapsWith e none pos.line X.env = pure false := by rfl) : PS X (.Expr e pos) (tS W (sDrop m)) := sm_drop (ps_expr he hs)
theorem gm_v (i : Nat) {x : Str} {pos : Pos} (c : Cf X) (hi : X.N[i]? = some x := by rfl) (hx : Loc X.env.scope x := by first | exact Or.inl rfl | exact Or.inr rfl) (hf : X.fn x = true ∨ X.env.scope.names.lookup x = some .local := by first | exact .inl rfl | exact .inr rfl) : PG X (.Name x pos) (gT X.K (.nm i)) := gm_nm (pg_name c.nd hi hx hf)
theorem gm_t {es : List Expr} {k : Nat} {ts : List Tg} {pos : Pos} (c : Cf X) (h : PGs X es (gTs X.K ts)) (hl : es.length = ts.length := by rfl) (hn : (assignEach es X.env).length = ts.length := by rfl) (hst : (assignEach es X.env).findIdx? (·.1) = none := by rfl) : PG X (.Tuple es k pos) (gT X.K (.tp ts)) := gm_tp c hl h fun h => pg_tup c.calm h hn hst
theorem pm_lc1 {elt tg iter : Expr} {ifs : List Expr} {scope : Scope} {vs : List Nat} {pos : Pos} {ms : DEnv → MX Src} {T : Tg} {cond : DEnv → MX Bool} {me : ME} (own : List (Str × Nat)) (c : Cf X) (hi : PI X tg iter (tIm W ms)) (ok : BlkOk X.N X.env.scope scope own)
    (hg : ∀ (s : Shared) (H : Hp) (C : Addr) (cl : List (Str × Addr)) (fp : List Addr), PG (X.blk s H scope (compEnvC scope cl C X.env) fp) tg (gT X.K T))
    (ht : ∀ (s : Shared) (H : Hp) (C : Addr) (cl : List (Str × Addr)) (fp : List Addr), PTs (X.blk s H scope (compEnvC scope cl C X.env) fp) ifs (tMb W.calm cond))
    (he : ∀ (s : Shared) (H : Hp) (C : Addr) (cl : List (Str × Addr)) (fp : List Addr), PE (X.blk s H scope (compEnvC scope cl C X.env) fp) elt (tM W.calm me))
    (hvs : own.map (·.2) = vs := by rfl) (hv : ∀ i ∈ T.vars, i ∈ vs := by decide) (hs : ∀ x, foldedSetIterable iter X.env x = pure x := by intro _; rfl) :
    PE X (.ListComp elt [⟨tg, iter, ifs, 0⟩] scope pos) (tM W (mLc ms T cond me vs)) := by
  subst hvs
  exact pm_lc c hi ok hg ht he hv hs
theorem sm_lc1 {i : Nat} {y : Str} {py : Pos} {elt tg iter : Expr} {ifs : List Expr} {scope : Scope} {vs : List Nat} {pos spos : Pos} {ms : DEnv → MX Src} {T : Tg} {cond : DEnv → MX Bool} {me : ME} (own : List (Str × Nat)) (c : Cf X) (hy : X.N[i]? = some y) (hyl : X.env.scope.names.lookup y = some .local)
    (hsw : swapsWith (.ListComp elt [⟨tg, iter, ifs, 0⟩] scope pos) (some (.Name y py)) spos.line X.env = pure true) (hi : PI X tg iter (tIm W ms)) (ok : BlkOk X.N X.env.scope scope own)
    (hg : ∀ (s : Shared) (H : Hp) (C : Addr) (cl : List (Str × Addr)) (fp : List Addr), PG (X.blk s H scope (compEnvC scope cl C X.env) fp) tg (gT X.K T))
    (ht : ∀ (s : Shared) (H : Hp) (C : Addr) (cl : List (Str × Addr)) (fp : List Addr), PTs (X.blk s H scope (compEnvC scope cl C X.env) fp) ifs (tMb W.calm cond))
    (he : ∀ (s : Shared) (H : Hp) (C : Addr) (cl : List (Str × Addr)) (fp : List Addr), PE (X.blk s H scope (compEnvC scope cl C X.env) fp) elt (tM W.calm me))
    (hvs : own.map (·.2) = vs := by rfl) (hv : ∀ i ∈ T.vars, i ∈ vs := by decide) (hs : ∀ x, foldedSetIterable iter X.env x = pure x := by intro _; rfl) :
    PS X (.Assign [.Name y py] (.ListComp elt [⟨tg, iter, ifs, 0⟩] scope pos) spos) (tS W (sSet i (mLc ms T cond me vs))) := by
  subst hvs
  exact sm_lc c hy hyl hsw hi ok hg ht he hv hs
theorem sm_pt {o i e : Expr} {mo mi m : ME} {pos' pos : Pos} (c : Cf X) (he : PE X e (tM W m)) (ho : PE X o (tM W mo)) (hi : PE X i (tM W mi))
    (hg : ∀ g, PE X e (tM W m) → PG X (.Subscript o i pos') g → PS X (.Assign [.Subscript o i pos'] e pos) (tAsg (tM W m) g) := by exact fun g h1 h2 => ps_asg h1 h2)
    (hp : ∀ t, PE X o (tM W mo) → PE X i (tM W mi) → PSet X t → PG X (.Subscript o i pos') (gSub (tM W mo) (tM W mi) t) := by exact fun t h1 h2 h => pg_sub h1 h2 h) : PS X (.Assign [.Subscript o i pos'] e pos) (tS W (sPut mo mi m)) := sm_put c he ho hi (fun t h => hp t ho hi h) fun g h => hg g he h
end
/-! ### the law's end -/
def spTop (K : PySem.W.Frag) (c : List Dv → MX Dv) : Sp := fun vs H Q _ => ∃ (ns : List Int) (a : Addr), vs = [.ref a] ∧ Scr K H a (ns.map V.int) ∧ c [.scr ns] (fun _ _ => False) [] (fun d _ => d = .bl true) ∧ ∀ H', Q (.bl true) H'
theorem fnG_top {P : Program} {w : World} {K : PySem.W.Frag} {mg : Str → Option Value} {base : Heap} {CX : CXT} {k : Nat} {f : Addr} {fd : FuncData} {ps : List Str} {c : List Dv → MX Dv} (F : FnG P w K mg base CX k f fd ps (spM K mg 1 c)) : FnG P w K mg base CX k f fd ps (spTop K c) :=
  F.imp fun vs H Q E ⟨ns, a, e, hs, q, k⟩ => ⟨[], [], [.scr ns], fun _ _ => False, _, rfl, ⟨rfl, List.nodup_nil, fun _ _ _ h _ => by simp at h⟩, by
    subst e
    exact Rps.cons (by unfold Rp; exact ⟨a, rfl, hs⟩) Rps.nil, q, fun d θ' α' H' v h _ _ r => by
    subst h
    cases of_bl r
    exact k H', fun _ _ _ _ _ _ h => h.elim⟩
theorem top_hS {K : PySem.W.Frag} {c : List Dv → MX Dv} {H : Hp} {a : Addr} {ns : List Int} (g : ∀ ns : List Int, ns.length ≤ 63 → c [.scr ns] (fun _ _ => False) [] (fun d _ => d = .bl true)) (hl : ns.length ≤ 63) (h : ∃ o, H a = some (.frz o (.lst (ns.map V.int)))) : spTop K c [.ref a] H (fun v _ => v = .bl true) fun _ _ _ => False :=
  ⟨ns, a, rfl, .inl h, g ns hl, fun _ => rfl⟩
theorem top_hK {K : PySem.W.Frag} {c : List Dv → MX Dv} {H : Hp} {a : Addr} {ns : List Int} (g : ∀ ns : List Int, ns.length ≤ 63 → c [.scr ns] (fun _ _ => False) [] (fun d _ => d = .bl true)) (hl : ns.length ≤ 63) (h0 : ∀ b, H b = none) (h : SqL K H a (ns.map V.int)) : spTop K c [.ref a] H (fun v _ => v = .bl true) fun _ _ _ => False := by
  refine ⟨ns, a, rfl, ?_, g ns hl, fun _ => rfl⟩
  rcases h with (h | h) | h
  · rw [h0] at h; cases h
  · obtain ⟨o, h⟩ := h; rw [h0] at h; cases h
  · exact .inr (.inr h)
end Mn

/-! Mn13: how a mirror runs: equations of the words, rules of loops. -/
namespace Mn
open PySem PySem.Spec PyProof.Rows L2
section
variable {E : Exn → Th → Prop} {θ : Th} {ρ : DEnv}
section
variable {Q : Dv → Th → Prop} {a b c : ME} {o o' : Dv → Dv → MX Dv} {d : Dv}
theorem x_var0 {r : DEnv} : mVar 0 (some d :: r) E θ Q = Q d θ := (rfl)
theorem x_varS {i : Nat} {y : Option Dv} {r : DEnv} : mVar (i + 1) (y :: r) E θ Q = mVar i r E θ Q := by
  unfold mVar
  rw [List.getD_cons_succ]
theorem x_c : mC d ρ E θ Q = Q d θ := (rfl)
theorem x_bin : mBin o a b ρ E θ Q = a ρ E θ fun x θ1 => b ρ E θ1 fun y θ2 => o x y E θ2 Q := (rfl)
theorem x_un {u : Dv → MX Dv} : mUn u a ρ E θ Q = a ρ E θ fun x θ1 => u x E θ1 Q := (rfl)
def andK (b : ME) (ρ : DEnv) (E : Exn → Th → Prop) (Q : Dv → Th → Prop) : Dv → Th → Prop := fun x θ1 => match x with
  | .bl true => b ρ E θ1 Q
  | .bl false => Q (.bl false) θ1
  | _ => False
def orK (b : ME) (ρ : DEnv) (E : Exn → Th → Prop) (Q : Dv → Th → Prop) : Dv → Th → Prop := fun x θ1 => match x with
  | .bl false => b ρ E θ1 Q
  | .bl true => Q (.bl true) θ1
  | _ => False
theorem x_and : mAnd a b ρ E θ Q = a ρ E θ (andK b ρ E Q) := by
  show (a ρ E θ fun x θ1 => _) = _
  congr 1
  funext x θ1
  unfold andK
  cases x with
  | bl k => cases k <;> rfl
  | _ => rfl
theorem x_or : mOr a b ρ E θ Q = a ρ E θ (orK b ρ E Q) := by
  show (a ρ E θ fun x θ1 => _) = _
  congr 1
  funext x θ1
  unfold orK
  cases x with
  | bl k => cases k <;> rfl
  | _ => rfl
theorem x_andK {k : Bool} : andK b ρ E Q (.bl k) θ = (if k = true then b ρ E θ Q else Q (.bl false) θ) := by cases k <;> rfl
theorem x_orK {k : Bool} : orK b ρ E Q (.bl k) θ = (if k = true then Q (.bl true) θ else b ρ E θ Q) := by cases k <;> rfl
theorem x_not {k : Bool} : oNot (.bl k) E θ Q = Q (.bl !k) θ := (rfl)
theorem x_if {k : DEnv → MX Bool} : mIf k a b ρ E θ Q = k ρ E θ fun v θ1 => if v = true then a ρ E θ1 Q else b ρ E θ1 Q := by
  show (k ρ E θ fun v θ1 => (if v = true then a ρ else b ρ : MX Dv) E θ1 Q) = _
  congr 1
  funext v θ1
  cases v <;> rfl
theorem x_tup {ms : DEnv → MX (List Dv)} : mTup ms ρ E θ Q = ms ρ E θ fun ds θ1 => ds.length ≤ sizeLine ∧ Q (.tup ds) θ1 := (rfl)
theorem x_lst {ms : DEnv → MX (List Dv)} : mLst ms ρ E θ Q = ms ρ E θ fun ds θ1 => ds.length ≤ sizeLine ∧ Q (.obj θ1.length) (θ1 ++ [.lst ds]) := (rfl)
theorem x_sl {l h : DEnv → MX (Option Int)} : mSl a l h ρ E θ Q = a ρ E θ fun x θ1 => l ρ E θ1 fun l' θ2 => h ρ E θ2 fun h' θ3 => oSl x l' h' E θ3 Q := (rfl)
theorem x_call {f : List Dv → MX Dv} {ms : DEnv → MX (List Dv)} : mCall f ms ρ E θ Q = ms ρ E θ fun ds θ1 => f ds E θ1 Q := (rfl)
theorem x_callU {n : Nat} {f : List Dv → MX Dv} {ms : DEnv → MX (List Dv)} : mCallU n f ms ρ E θ Q = ms ρ E θ fun ds θ1 => ds.length = n ∧ f ds E θ1 Q := (rfl)
theorem x_mth {T : String} {f : Dv → List Dv → MX Dv} {ms : DEnv → MX (List Dv)} : mMth T f a ms ρ E θ Q = a ρ E θ fun d θ1 => tyD θ1 d = some T ∧ ms ρ E θ1 fun ds θ2 => f d ds E θ2 Q := (rfl)
theorem x_isi {T : String} : mIsi T a ρ E θ Q = a ρ E θ fun d θ1 => (match tyD θ1 d with
  | some t => (match kitB t T with
    | some b => Q (.bl b) θ1
    | none => False)
  | none => False) := (rfl)
def chK (c : Th → Prop) (Q : Dv → Th → Prop) : Dv → Th → Prop := fun k θ3 => match k with
  | .bl true => c θ3
  | .bl false => Q (.bl false) θ3
  | _ => False
theorem x_chK {c : Th → Prop} {k : Bool} : chK c Q (.bl k) θ = (if k = true then c θ else Q (.bl false) θ) := by cases k <;> rfl
theorem x_chain : mChain o o' a b c ρ E θ Q = a ρ E θ fun x θ1 => b ρ E θ1 fun y θ2 => o x y E θ2 (chK (fun θ4 => c ρ E θ4 fun z θ5 => o' y z E θ5 Q) Q) := by
  show (a ρ E θ fun x θ1 => b ρ E θ1 fun y θ2 => o x y E θ2 fun k θ3 => _) = _
  congr 1
  funext x θ1
  congr 1
  funext y θ2
  congr 1
  funext k θ3
  unfold chK
  cases k with
  | bl k => cases k <;> rfl
  | _ => rfl
theorem x_k1 {f : Dv → MX Dv} : k1 f [d] E θ Q = f d E θ Q := (rfl)
theorem x_tupRg {m : DEnv → MX (Int × Int)} : mTupRg m ρ E θ Q = m ρ E θ fun b θ1 => RgOk b.1 b.2 ∧ Q (.tup (rgD b.1 b.2)) θ1 := (rfl)
theorem x_lstRg {m : DEnv → MX (Int × Int)} : mLstRg m ρ E θ Q = m ρ E θ fun b θ1 => RgOk b.1 b.2 ∧ Q (.obj θ1.length) (θ1 ++ [.lst (rgD b.1 b.2)]) := (rfl)
theorem x_lc {ms : DEnv → MX Src} {T : Tg} {k : DEnv → MX Bool} {vs : List Nat} : mLc ms T k a vs ρ E θ Q = ms ρ E θ fun src θ' => ∃ n, lcGo src T k a θ'.length (wipeE ρ vs) n 0 (θ' ++ [.lst []]) fun θ2 => Q (.obj θ'.length) θ2 := (rfl)
/-! operations -/
theorem x_addI {i j : Int} : oAdd (.int i) (.int j) E θ Q = Q (.int (i + j)) θ := (rfl)
theorem x_addS {i j : Str} : oAdd (.str i) (.str j) E θ Q = (i.length + j.length ≤ sizeLine ∧ Q (.str (i ++ j)) θ) := (rfl)
theorem x_addT {i j : List Dv} : oAdd (.tup i) (.tup j) E θ Q = (i.length + j.length ≤ sizeLine ∧ Q (.tup (i ++ j)) θ) := (rfl)
theorem x_subI {i j : Int} : oSub (.int i) (.int j) E θ Q = Q (.int (i - j)) θ := (rfl)
theorem x_mulI {i j : Int} : oMul (.int i) (.int j) E θ Q = (CMul i j ∧ Q (.int (i * j)) θ) := (rfl)
theorem x_fdiv {i j : Int} : oFdiv (.int i) (.int j) E θ Q = (CDiv i j ∧ Q (.int (i / j)) θ) := (rfl)
theorem x_mod {i j : Int} : oMod (.int i) (.int j) E θ Q = (0 < j ∧ Q (.int (i % j)) θ) := (rfl)
theorem x_pow {i j : Int} : oPow (.int i) (.int j) E θ Q = (CPow i j ∧ Q (.int (i ^ j.toNat)) θ) := (rfl)
theorem x_lt {i j : Int} : oLt (.int i) (.int j) E θ Q = Q (.bl (decide (i < j))) θ := (rfl)
theorem x_le {i j : Int} : oLe (.int i) (.int j) E θ Q = Q (.bl (decide (i ≤ j))) θ := (rfl)
theorem x_gt {i j : Int} : oGt (.int i) (.int j) E θ Q = Q (.bl (decide (j < i))) θ := (rfl)
theorem x_ge {i j : Int} : oGe (.int i) (.int j) E θ Q = Q (.bl (decide (j ≤ i))) θ := (rfl)
theorem x_eqI {i j : Int} : oEq (.int i) (.int j) E θ Q = Q (.bl (decide (i = j))) θ := (rfl)
theorem x_eqB {i j : Bool} : oEq (.bl i) (.bl j) E θ Q = Q (.bl (decide (i = j))) θ := (rfl)
theorem x_eqS {i j : Str} : oEq (.str i) (.str j) E θ Q = Q (.bl (decide (i = j))) θ := (rfl)
theorem x_neI {i j : Int} : oNe (.int i) (.int j) E θ Q = Q (.bl (!decide (i = j))) θ := (rfl)
theorem x_neB {i j : Bool} : oNe (.bl i) (.bl j) E θ Q = Q (.bl (!decide (i = j))) θ := (rfl)
theorem x_isB {i j : Bool} : oIs (.bl i) (.bl j) E θ Q = Q (.bl (decide (i = j))) θ := (rfl)
theorem x_isnB {i j : Bool} : oIsNot (.bl i) (.bl j) E θ Q = Q (.bl (!decide (i = j))) θ := (rfl)
theorem x_neg {i : Int} : oNeg (.int i) E θ Q = Q (.int (-i)) θ := (rfl)
theorem x_int {i : Int} : intD (.int i) E θ Q = Q (.int i) θ := (rfl)
theorem x_intB {i : Bool} : intD (.bl i) E θ Q = Q (.int (if i then 1 else 0)) θ := (rfl)
theorem x_lenT {ds : List Dv} : lenD (.tup ds) E θ Q = Q (.int ds.length) θ := (rfl)
theorem x_lenPt {ds : List Dv} : lenD (.pt ds) E θ Q = Q (.int ds.length) θ := (rfl)
theorem x_lenS {ns : List Int} : lenD (.scr ns) E θ Q = Q (.int ns.length) θ := (rfl)
theorem x_lenO {k : Nat} {ds : List Dv} (h : θ[k]? = some (.lst ds)) : lenD (.obj k) E θ Q = Q (.int ds.length) θ := by unfold lenD; simp only [h]
theorem x_tupT {ds : List Dv} : tupD (.tup ds) E θ Q = Q (.tup ds) θ := (rfl)
theorem x_tupO {k : Nat} {ds : List Dv} (h : θ[k]? = some (.lst ds)) : tupD (.obj k) E θ Q = Q (.tup ds) θ := by unfold tupD; simp only [h]
theorem x_tupK {k : Nat} {kvs : List (Key × Dv)} (h : θ[k]? = some (.dK kvs)) : tupD (.obj k) E θ Q = Q (.tup (kvs.map fun kv => keyD kv.1)) θ := by unfold tupD; simp only [h]
theorem x_lstT {ds : List Dv} : lstD (.tup ds) E θ Q = Q (.obj θ.length) (θ ++ [.lst ds]) := (rfl)
theorem x_app {k : Nat} {ds : List Dv} (h : θ[k]? = some (.lst ds)) : appendD (.obj k) [d] E θ Q = (ds.length < sizeLine ∧ Q .non (θ.set k (.lst (ds ++ [d])))) := by unfold appendD; simp only [h]
theorem x_ixT {ds : List Dv} {i : Int} : oIx (.tup ds) (.int i) E θ Q = optW (atI ds i) θ Q := (rfl)
theorem x_ixO {k : Nat} {ds : List Dv} {i : Int} (h : θ[k]? = some (.lst ds)) : oIx (.obj k) (.int i) E θ Q = optW (atI ds i) θ Q := by unfold oIx; simp only [h]
theorem x_ixR {ns : List Int} {i : Int} : oIx (.scr ns) (.int i) E θ Q = optW ((atI ns i).map Dv.int) θ Q := (rfl)
theorem x_optW : optW (some d) θ Q = Q d θ := (rfl)
theorem x_tyO {k : Nat} {ds : List Dv} (h : θ[k]? = some (.lst ds)) : tyD θ (.obj k) = some "list" := by unfold tyD tyO; simp only [h]
end
section
variable {Q : List Dv → Th → Prop} {a : ME} {ms : DEnv → MX (List Dv)}
theorem x_nil : msNil ρ E θ Q = Q [] θ := (rfl)
theorem x_cons : msCons a ms ρ E θ Q = a ρ E θ fun x θ1 => ms ρ E θ1 fun xs θ2 => Q (x :: xs) θ2 := (rfl)
end
section
variable {Q : Bool → Th → Prop} {a : ME} {b c : DEnv → MX Bool}
def boolK (Q : Bool → Th → Prop) : Dv → Th → Prop := fun x θ1 => match x with
  | .bl k => Q k θ1
  | _ => False
theorem x_bB : bB a ρ E θ Q = a ρ E θ (boolK Q) := by
  show (a ρ E θ fun x θ1 => asBool x E θ1 Q) = _
  congr 1
  funext x θ1
  unfold boolK asBool
  cases x <;> rfl
theorem x_boolK {k : Bool} : boolK Q (.bl k) θ = Q k θ := (rfl)
theorem x_bAnd : bAnd b c ρ E θ Q = b ρ E θ fun v θ1 => if v = true then c ρ E θ1 Q else Q false θ1 := by
  show (b ρ E θ fun v θ1 => (if v = true then c ρ else pure false : MX Bool) E θ1 Q) = _
  congr 1
  funext v θ1
  cases v <;> rfl
theorem x_bOr : bOr b c ρ E θ Q = b ρ E θ fun v θ1 => if v = true then Q true θ1 else c ρ E θ1 Q := by
  show (b ρ E θ fun v θ1 => (if v = true then pure true else c ρ : MX Bool) E θ1 Q) = _
  congr 1
  funext v θ1
  cases v <;> rfl
theorem x_bNot : bNot b ρ E θ Q = b ρ E θ fun v θ1 => Q (!v) θ1 := (rfl)
theorem x_bYes : bYes ρ E θ Q = Q true θ := (rfl)
end
section
variable {Q : Option Int → Th → Prop} {i : Int}
theorem x_pNo : pNo ρ E θ Q = Q none θ := (rfl)
theorem x_pSo {a : ME} : pSo a ρ E θ Q = a ρ E θ fun x θ1 => oPart x E θ1 Q := (rfl)
theorem x_part : oPart (.int i) E θ Q = Q (some i) θ := (rfl)
end
section
variable {Q : Int × Int → Th → Prop}
end
section
variable {Q : Src → Th → Prop} {ms : DEnv → MX (List Dv)} {i j : Int}
theorem x_rng1 : rng1 ms ρ E θ Q = ms ρ E θ fun ds θ1 => rk1 ds E θ1 Q := (rfl)
theorem x_rng2 : rng2 ms ρ E θ Q = ms ρ E θ fun ds θ1 => rk2 ds E θ1 Q := (rfl)
theorem x_rng3 : rng3 ms ρ E θ Q = ms ρ E θ fun ds θ1 => rk3 ds E θ1 Q := (rfl)
theorem x_rk1 : rk1 [.int j] E θ Q = ((-(2 ^ 62) ≤ j ∧ j < 2 ^ 62) ∧ Q (.rng 0 1 j.toNat) θ) := (rfl)
theorem x_rk2 : rk2 [.int i, .int j] E θ Q = ((-(2 ^ 62) ≤ i ∧ i < 2 ^ 62 ∧ -(2 ^ 62) ≤ j ∧ j < 2 ^ 62) ∧ Q (.rng i 1 (j - i).toNat) θ) := (rfl)
theorem x_rk3 {c : Int} : rk3 [.int i, .int j, .int c] E θ Q = ((-(2 ^ 62) ≤ i ∧ i < 2 ^ 62 ∧ -(2 ^ 62) ≤ j ∧ j < 2 ^ 62 ∧ c = -1) ∧ Q (.rng i (-1) (i - j).toNat) θ) := (rfl)
theorem x_srcEn : srcEn ms ρ E θ Q = ms ρ E θ fun ds θ1 => ek ds E θ1 Q := (rfl)
theorem x_srcZp : srcZp ms ρ E θ Q = ms ρ E θ fun ds θ1 => zk ds E θ1 Q := (rfl)
theorem x_ekT {ds : List Dv} : ek [.tup ds] E θ Q = Q (.en (.T ds)) θ := (rfl)
theorem x_zkT {ds es : List Dv} : zk [.tup ds, .tup es] E θ Q = Q (.zp (.T ds) (.T es)) θ := (rfl)
def srcK (E : Exn → Th → Prop) (Q : Src → Th → Prop) : Dv → Th → Prop := fun x θ1 => match x with
  | .str z => Q (.str z) θ1
  | .pt ds => Q (.sd (.T ds)) θ1
  | d => asSd d E θ1 fun s θ2 => Q (.sd s) θ2
theorem x_srcV {a : ME} : srcV a ρ E θ Q = a ρ E θ (srcK E Q) := by
  show (a ρ E θ fun x θ1 => _) = _
  congr 1
  funext x θ1
  unfold srcK
  cases x <;> rfl
theorem x_srcPt {ds : List Dv} : srcK E Q (.pt ds) θ = Q (.sd (.T ds)) θ := (rfl)
theorem x_srcT {ds : List Dv} : srcK E Q (.tup ds) θ = Q (.sd (.T ds)) θ := (rfl)
theorem x_srcO {k : Nat} {ds : List Dv} (h : θ[k]? = some (.lst ds)) : srcK E Q (.obj k) θ = Q (.sd (.L k)) θ := by
  show (match θ[k]? with
    | some (.lst _) => Q (.sd (.L k)) θ
    | _ => False) = _
  rw [h]
end
section
variable {Q : Out → Th → Prop} {a : ME} {s t : MS}
def seqK (t : MS) (E : Exn → Th → Prop) (Q : Out → Th → Prop) : Out → Th → Prop := fun o θ1 => match o with
  | .nx ρ' => t ρ' E θ1 Q
  | o => Q o θ1
theorem x_seq : sSeq s t ρ E θ Q = s ρ E θ (seqK t E Q) := by
  show (s ρ E θ fun o θ1 => _) = _
  congr 1
  funext o θ1
  unfold seqK
  cases o <;> rfl
theorem x_seqN {ρ' : DEnv} : seqK t E Q (.nx ρ') θ = t ρ' E θ Q := (rfl)
theorem x_seqR {d : Dv} : seqK t E Q (.rt d) θ = Q (.rt d) θ := (rfl)
theorem x_seqB {ρ' : DEnv} : seqK t E Q (.bk ρ') θ = Q (.bk ρ') θ := (rfl)
theorem x_seqC {ρ' : DEnv} : seqK t E Q (.ct ρ') θ = Q (.ct ρ') θ := (rfl)
theorem x_sNil : sNil ρ E θ Q = Q (.nx ρ) θ := (rfl)
theorem x_set {i : Nat} : sSet i a ρ E θ Q = a ρ E θ fun d θ1 => Q (.nx (ρ.set i (some d))) θ1 := (rfl)
theorem x_drop : sDrop a ρ E θ Q = a ρ E θ fun _ θ1 => Q (.nx ρ) θ1 := (rfl)
theorem x_ret : sRet a ρ E θ Q = a ρ E θ fun d θ1 => Q (.rt d) θ1 := (rfl)
theorem x_retN : sRetN ρ E θ Q = Q (.rt .non) θ := (rfl)
theorem x_sIf {k : DEnv → MX Bool} : sIf k s t ρ E θ Q = k ρ E θ fun v θ1 => if v = true then s ρ E θ1 Q else t ρ E θ1 Q := by
  show (k ρ E θ fun v θ1 => (if v = true then s ρ else t ρ : MX Out) E θ1 Q) = _
  congr 1
  funext v θ1
  cases v <;> rfl
theorem x_brk : sBrk ρ E θ Q = Q (.bk ρ) θ := (rfl)
theorem x_ct : sCt ρ E θ Q = Q (.ct ρ) θ := (rfl)
theorem x_put {o i : ME} : sPut o i a ρ E θ Q = a ρ E θ fun v θ1 => o ρ E θ1 fun x θ2 => i ρ E θ2 fun y θ3 => setO x y v E θ3 fun _ θ4 => Q (.nx ρ) θ4 := (rfl)
theorem x_for {ms : DEnv → MX Src} {T : Tg} : sFor ms T s ρ E θ Q = ms ρ E θ fun src θ' => ∃ n, forGo src T s n 0 ρ E θ' Q := (rfl)
end
theorem x_setL {Q : Unit → Th → Prop} {k j : Nat} {ds : List Dv} {i : Int} {v : Dv} (h : θ[k]? = some (.lst ds)) (hj : ixN ds.length i = some j) : setO (.obj k) (.int i) v E θ Q = Q () (θ.set k (.lst (ds.set j v))) := by unfold setO; simp only [h, hj]
theorem x_setK {Q : Unit → Th → Prop} {k : Nat} {kvs : List (Key × Dv)} {y v : Dv} {q : Key} (h : θ[k]? = some (.dK kvs)) (hj : fKey y = some q) : setO (.obj k) y v E θ Q = (kvs.length < sizeLine ∧ Q () (θ.set k (.dK (putD kvs q v)))) := by unfold setO; simp only [h, hj]
/-! defs -/
def defK (θ : Th) (Q : Dv → Th → Prop) : Out → Th → Prop := fun o θ' => match o with
  | .nx _ => endQ θ Q .non θ'
  | .rt d => endQ θ Q d θ'
  | _ => False
theorem x_def {j : Nat} {m : MS} {ds : List Dv} {Q : Dv → Th → Prop} : defM j m ds E θ Q = m (ds.map some ++ List.replicate j none) E θ (defK θ Q) := (rfl)
theorem x_defR {Q : Dv → Th → Prop} {d : Dv} {θ' : Th} : defK θ Q (.rt d) θ' = endQ θ Q d θ' := (rfl)
theorem x_defN {Q : Dv → Th → Prop} {ρ : DEnv} {θ' : Th} : defK θ Q (.nx ρ) θ' = endQ θ Q .non θ' := (rfl)
/-- what is behind the caller's store is dropped -/
theorem end_drop {Q : Dv → Th → Prop} {d : Dv} {g : Th} (h : Q d θ) (hd : ∀ n, d.low n = true) : endQ θ Q d (θ ++ g) := .inr ⟨θ, g, rfl, Nat.le_refl _, fun c => ⟨c, hd _⟩, h⟩
theorem end_same {Q : Dv → Th → Prop} {d : Dv} {θ' : Th} (h : Q d θ') : endQ θ Q d θ' := .inl h
end
/-! ### loops -/
/-- what a turn of a loop's body must go on to -/
structure LoopK (N Q K : Out → Th → Prop) : Prop where
  nx : ∀ ρ θ, N (.nx ρ) θ → K (.nx ρ) θ
  ct : ∀ ρ θ, N (.nx ρ) θ → K (.ct ρ) θ
  bk : ∀ ρ θ, Q (.nx ρ) θ → K (.bk ρ) θ
  rt : ∀ d θ, Q (.rt d) θ → K (.rt d) θ
theorem for_rule {src : Src} {T : Tg} {body : MS} {E : Exn → Th → Prop} {Q : Out → Th → Prop} {ρ : DEnv} {θ : Th} (n : Nat) (I : Nat → DEnv → Th → Prop) (h0 : I 0 ρ θ)
    (hs : ∀ i ρ θ, i < n → I i ρ θ → ∃ d ρ1, src.at θ i = some (some d) ∧ asgT T d ρ = some ρ1 ∧ ∀ K, LoopK (fun o θ' => ∃ ρ', o = .nx ρ' ∧ I (i + 1) ρ' θ') Q K → body ρ1 E θ K)
    (he : ∀ ρ θ, I n ρ θ → src.at θ n = some none ∧ Q (.nx ρ) θ) : ∃ m, forGo src T body m 0 ρ E θ Q := by
  have key : ∀ k i ρ θ, i + k = n → I i ρ θ → forGo src T body (k + 1) i ρ E θ Q := by
    intro k
    induction k with
    | zero =>
      intro i ρ θ e h
      obtain rfl : i = n := by omega
      obtain ⟨h1, h2⟩ := he ρ θ h
      unfold forGo
      simp only [h1]
      exact h2
    | succ k ih =>
      intro i ρ θ e h
      obtain ⟨d, ρ1, h1, h2, h3⟩ := hs i ρ θ (by omega) h
      unfold forGo
      simp only [h1, h2]
      refine h3 _ ⟨?_, ?_, ?_, ?_⟩
      · rintro ρ2 θ2 ⟨ρ', e', h'⟩
        cases e'
        exact ih (i + 1) ρ2 θ2 (by omega) h'
      · rintro ρ2 θ2 ⟨ρ', e', h'⟩
        cases e'
        exact ih (i + 1) ρ2 θ2 (by omega) h'
      · exact fun ρ2 θ2 h' => h'
      · exact fun d θ2 h' => h'
  exact ⟨n + 1, key n 0 ρ θ (by omega) h0⟩
theorem lc_rule {src : Src} {T : Tg} {cond : DEnv → MX Bool} {elt : ME} {k : Nat} {Q : Th → Prop} {ρ : DEnv} {θ : Th} (n : Nat) (I : Nat → Th → Prop) (h0 : I 0 θ)
    (hs : ∀ i θ, i < n → I i θ → ∃ d ρ1, src.at θ i = some (some d) ∧ asgT T d ρ = some ρ1 ∧ ∀ K : Bool → Th → Prop, (∀ θ1, I (i + 1) θ1 → K false θ1) →
      (∀ θ1, (∀ K2 : Dv → Th → Prop, (∀ y θ2 acc, θ2[k]? = some (.lst acc) → acc.length < sizeLine → I (i + 1) (θ2.set k (.lst (acc ++ [y]))) → K2 y θ2) → elt ρ1 (fun _ _ => False) θ1 K2) → K true θ1) → cond ρ1 (fun _ _ => False) θ K)
    (he : ∀ θ, I n θ → src.at θ n = some none ∧ Q θ) : ∃ m, lcGo src T cond elt k ρ m 0 θ Q := by
  have key : ∀ j i θ, i + j = n → I i θ → lcGo src T cond elt k ρ (j + 1) i θ Q := by
    intro j
    induction j with
    | zero =>
      intro i θ e h
      obtain rfl : i = n := by omega
      obtain ⟨h1, h2⟩ := he θ h
      unfold lcGo
      simp only [h1]
      exact h2
    | succ j ih =>
      intro i θ e h
      obtain ⟨d, ρ1, h1, h2, h3⟩ := hs i θ (by omega) h
      unfold lcGo
      simp only [h1, h2]
      refine h3 _ (fun θ1 h' => ih (i + 1) θ1 (by omega) h') fun θ1 h' => h' _ fun y θ2 acc e2 hl h4 => ?_
      simp only [e2]
      exact ⟨hl, ih (i + 1) _ (by omega) h4⟩
  exact ⟨n + 1, key n 0 θ (by omega) h0⟩
/-- a comprehension whose turns leave the store ahead of the list as it is -/
theorem lc_pure {src : Src} {T : Tg} {cond : DEnv → MX Bool} {elt : ME} {Q : Th → Prop} {ρ : DEnv} {θ0 : Th} (n : Nat) (p : Nat → Bool) (f : Nat → Dv) (hn : n < sizeLine)
    (hs : ∀ i acc g, i < n → ∃ d ρ1, src.at (θ0 ++ .lst acc :: g) i = some (some d) ∧ asgT T d ρ = some ρ1 ∧ ∀ K : Bool → Th → Prop, (∀ g', (p i = true → ∀ K2 : Dv → Th → Prop, (∀ g2, K2 (f i) (θ0 ++ .lst acc :: g2)) → elt ρ1 (fun _ _ => False) (θ0 ++ .lst acc :: g') K2) → K (p i) (θ0 ++ .lst acc :: g')) → cond ρ1 (fun _ _ => False) (θ0 ++ .lst acc :: g) K)
    (he : ∀ acc g, src.at (θ0 ++ .lst acc :: g) n = some none) (q : ∀ g, Q (θ0 ++ .lst (((List.range n).filter p).map f) :: g)) : ∃ m, lcGo src T cond elt θ0.length ρ m 0 (θ0 ++ [.lst []]) Q := by
  refine lc_rule n (fun i θ => ∃ g, θ = θ0 ++ .lst (((List.range i).filter p).map f) :: g) ⟨[], rfl⟩ ?_ ?_
  · rintro i θ hi ⟨g, rfl⟩
    obtain ⟨d, ρ1, h1, h2, h3⟩ := hs i (((List.range i).filter p).map f) g hi
    refine ⟨d, ρ1, h1, h2, fun K k0 k1 => h3 K fun g' he => ?_⟩
    cases hp : p i with
    | false =>
      refine k0 _ ⟨g', ?_⟩
      rw [List.range_succ, List.filter_append]
      simp [hp]
    | true =>
      refine k1 _ fun K2 h4 => he hp K2 fun g2 => h4 _ _ (((List.range i).filter p).map f) (by simp) ?_ ⟨g2, ?_⟩
      · rw [List.length_map]
        refine Nat.lt_of_le_of_lt (List.length_filter_le _ _) ?_
        rw [List.length_range]
        omega
      · rw [List.range_succ, List.filter_append]
        simp [hp]
  · rintro θ ⟨g, rfl⟩
    exact ⟨he _ _, q g⟩
end Mn

/-! Cm: the mirrors of what many laws read alike. -/
namespace Cm
open PySem Mn
def m_ascends : MS := (sRet (mCall (k1 (onBools allL)) (msCons (mLc (srcZp (msCons (mVar 0) (msCons (mSl (mVar 0) (pSo (mC (.int 1))) pNo) msNil))) (.tp [(.nm 1), (.nm 2)]) bYes (mBin oLt (mVar 1) (mVar 2)) [1, 2]) msNil)))
def c_ascends : List Dv → MX Dv := defM 2 m_ascends
def m_is_integer : MS := (sRet (mAnd (mIsi "int" (mVar 0)) (mUn oNot (mIsi "bool" (mVar 0)))))
def c_is_integer : List Dv → MX Dv := defM 0 m_is_integer
def m_are_integers : MS := (sRet (mAnd (mIsi "tuple" (mVar 0)) (mCall (k1 (onBools allL)) (msCons (mLc (srcV (mVar 0)) (.nm 1) bYes (mCallU 1 c_is_integer (msCons (mVar 1) msNil)) [1]) msNil))))
def c_are_integers : List Dv → MX Dv := defM 1 m_are_integers
def m_check_skipped : MS := (sSeq (sIf (bOr (bNot (bB (mCallU 1 c_are_integers (msCons (mVar 1) msNil)))) (bNot (bB (mCallU 1 c_ascends (msCons (mVar 1) msNil))))) (sRet (mC (.bl false))) sNil) (sRet (mCall (k1 (onBools allL)) (msCons (mLc (srcV (mVar 1)) (.nm 2) bYes (mChain oLe oLt (mC (.int 0)) (mVar 2) (mCall (k1 lenD) (msCons (mBin oIx (mVar 0) (mC (.int 1))) msNil))) [2]) msNil))))
def c_check_skipped : List Dv → MX Dv := defM 1 m_check_skipped
def m__law_same : MS := (sRet (mBin oEq (mCall (k1 reprD) (msCons (mVar 0) msNil)) (mCall (k1 reprD) (msCons (mVar 1) msNil))))
def c__law_same : List Dv → MX Dv := defM 0 m__law_same
def m_tests : MS := (sRet (mCall (k1 tupD) (msCons (mLc (rng1 (msCons (mBin oSub (mCall (k1 lenD) (msCons (mBin oIx (mVar 0) (mC (.int 1))) msNil)) (mC (.int 1))) msNil)) (.nm 2) (bB (mBin oNotIn (mVar 2) (mVar 1))) (mVar 2) [2]) msNil)))
def c_tests : List Dv → MX Dv := defM 1 m_tests
def m_offspring : MS := (sSeq (sSet 2 (mDict1 (mVar 1) (mC (.bl true)))) (sSeq (sFor (srcEn (msCons (mBin oIx (mVar 0) (mC (.int 1))) msNil)) (.tp [(.nm 3), (.tp [(.nm 4), (.nm 5)])]) (sIf (bB (mCall (k1 (onBools anyL)) (msCons (mLc (srcV (mVar 5)) (.nm 6) bYes (mBin oIn (mVar 6) (mVar 2)) [6]) msNil))) (sPut (mVar 2) (mVar 3) (mC (.bl true))) sNil)) (sRet (mCall (k1 tupD) (msCons (mVar 2) msNil)))))
def c_offspring : List Dv → MX Dv := defM 5 m_offspring
def m_classes : MS := (sSeq (sSet 2 mDT) (sSeq (sFor (rng1 (msCons (mCall (k1 lenD) (msCons (mBin oIx (mVar 0) (mC (.int 1))) msNil)) msNil)) (.nm 3) (sSeq (sSet 4 (mCall (k1 tupD) (msCons (mLc (srcV (mCallU 2 c_offspring (msCons (mVar 0) (msCons (mVar 3) msNil)))) (.nm 5) (bB (mBin oNotIn (mVar 5) (mVar 1))) (mVar 5) [5]) msNil))) (sDrop (mMth "list" appendD (mMth "dict" setdD (mVar 2) (msCons (mVar 4) (msCons (mLst msNil) msNil))) (msCons (mVar 3) msNil))))) (sRet (mCall (k1 tupD) (msCons (mLock 2 (mLc (srcVals (mVar 2)) (.nm 6) bYes (mCall (k1 tupD) (msCons (mVar 6) msNil)) [6])) msNil)))))
def c_classes : List Dv → MX Dv := defM 5 m_classes
def m__law_above : MS := (sSeq (sSet 2 (mLc (rng1 (msCons (mCall (k1 lenD) (msCons (mBin oIx (mVar 0) (mC (.int 1))) msNil)) msNil)) (.nm 3) bYes (mBin oEq (mVar 3) (mVar 1)) [3])) (sSeq (sFor (rng3 (msCons (mVar 1) (msCons (mUn oNeg (mC (.int 1))) (msCons (mUn oNeg (mC (.int 1))) msNil)))) (.nm 3) (sFor (srcV (mBin oIx (mBin oIx (mBin oIx (mVar 0) (mC (.int 1))) (mVar 3)) (mC (.int 1)))) (.nm 4) (sPut (mVar 2) (mVar 4) (mOr (mBin oIx (mVar 2) (mVar 4)) (mBin oIx (mVar 2) (mVar 3)))))) (sRet (mVar 2))))
def c__law_above : List Dv → MX Dv := defM 3 m__law_above
def m__law_classes : MS := (sSeq (sSet 2 (mLc (rng1 (msCons (mCall (k1 lenD) (msCons (mBin oIx (mVar 0) (mC (.int 1))) msNil)) msNil)) (.nm 3) (bB (mBin oNotIn (mVar 3) (mVar 1))) (mCallU 2 c__law_above (msCons (mVar 0) (msCons (mVar 3) msNil))) [3])) (sSeq (sSet 4 (mLst msNil)) (sSeq (sFor (rng1 (msCons (mCall (k1 lenD) (msCons (mBin oIx (mVar 0) (mC (.int 1))) msNil)) msNil)) (.nm 5) (sSeq (sSet 6 (mLc (srcV (mVar 4)) (.nm 7) (bB (mBin oEq (mLc (srcV (mVar 2)) (.nm 8) bYes (mBin oIx (mVar 8) (mBin oIx (mVar 7) (mC (.int 0)))) [8]) (mLc (srcV (mVar 2)) (.nm 8) bYes (mBin oIx (mVar 8) (mVar 5)) [8]))) (mVar 7) [7])) (sIf (bB (mBin oEq (mVar 6) (mLst msNil))) (sDrop (mMth "list" appendD (mVar 4) (msCons (mLst (msCons (mVar 5) msNil)) msNil))) (sDrop (mMth "list" appendD (mBin oIx (mVar 6) (mC (.int 0))) (msCons (mVar 5) msNil)))))) (sRet (mCall (k1 tupD) (msCons (mLc (srcV (mVar 4)) (.nm 7) bYes (mCall (k1 tupD) (msCons (mVar 7) msNil)) [7]) msNil))))))
def c__law_classes : List Dv → MX Dv := defM 7 m__law_classes
def m__law_tests : MS := (sSeq (sSet 2 (mCallU 2 c__law_classes (msCons (mVar 0) (msCons (mVar 1) msNil)))) (sSeq (sSet 3 (mLst msNil)) (sSeq (sSet 4 (mLst msNil)) (sSeq (sFor (rng1 (msCons (mCall (k1 lenD) (msCons (mBin oIx (mVar 0) (mC (.int 1))) msNil)) msNil)) (.nm 5) (sSeq (sSet 6 (mLc (srcV (mVar 2)) (.nm 7) bYes (mBin oIx (mCallU 2 c__law_above (msCons (mVar 0) (msCons (mVar 5) msNil))) (mBin oIx (mVar 7) (mC (.int 0)))) [7])) (sIf (bAnd (bB (mBin oNotIn (mVar 5) (mVar 1))) (bAnd (bB (mBin oIn (mC (.bl true)) (mVar 6))) (bAnd (bB (mBin oIn (mC (.bl false)) (mVar 6))) (bB (mBin oNotIn (mVar 6) (mVar 3)))))) (sSeq (sDrop (mMth "list" appendD (mVar 3) (msCons (mVar 6) msNil))) (sDrop (mMth "list" appendD (mVar 4) (msCons (mVar 5) msNil)))) sNil))) (sRet (mCall (k1 tupD) (msCons (mVar 4) msNil)))))))
def c__law_tests : List Dv → MX Dv := defM 6 m__law_tests
def m__law_draw : MS := (sSeq (sSet 2 (mBin oIx (mVar 0) (mC (.int 1)))) (sSeq (sPut (mVar 0) (mC (.int 1)) (mBin oAdd (mVar 2) (mC (.int 1)))) (sSeq (sIf (bB (mBin oLt (mVar 2) (mCall (k1 lenD) (msCons (mBin oIx (mVar 0) (mC (.int 0))) msNil)))) (sRet (mBin oMod (mCall (k1 intD) (msCons (mBin oIx (mBin oIx (mVar 0) (mC (.int 0))) (mVar 2)) msNil)) (mVar 1))) sNil) (sRet (mC (.int 0))))))
def c__law_draw : List Dv → MX Dv := defM 1 m__law_draw
def m__law_skipped : MS := (sRet (mCall (k1 tupD) (msCons (mLc (rng1 (msCons (mCall (k1 lenD) (msCons (mBin oIx (mVar 1) (mC (.int 1))) msNil)) msNil)) (.nm 2) (bB (mBin oEq (mCallU 2 c__law_draw (msCons (mVar 0) (msCons (mC (.int 4)) msNil))) (mC (.int 0)))) (mVar 2) [2]) msNil)))
def c__law_skipped : List Dv → MX Dv := defM 1 m__law_skipped
def m__law_word : MS := (sSeq (sIf (bAnd (bB (mBin oEq (mVar 1) (mC (.int 1)))) (bB (mBin oEq (mVar 2) (mC (.int 3))))) (sRet (mC (.str "from"))) sNil) (sSeq (sIf (bAnd (bB (mBin oEq (mVar 1) (mC (.int 0)))) (bB (mBin oEq (mVar 2) (mC (.int 5))))) (sRet (mC (.str "make"))) sNil) (sRet (mBin oAdd (mBin oIx (mC (.str "abcdefghijklmnopqrstuvwxyz")) (mBin oMod (mCall (k1 intD) (msCons (mBin oAdd (mVar 2) (mVar 1)) msNil)) (mC (.int 26)))) (mBin oIx (mLst (msCons (mC (.str "")) (msCons (mC (.str "x")) (msCons (mC (.str "zzzzzzz")) msNil)))) (mBin oMod (mCall (k1 intD) (msCons (mVar 2) msNil)) (mC (.int 3))))))))
def c__law_word : List Dv → MX Dv := defM 0 m__law_word
def m__law_history : MS := (sSeq (sSet 2 (mBin oAdd (mC (.int 1)) (mCallU 2 c__law_draw (msCons (mVar 0) (msCons (mVar 1) msNil))))) (sSeq (sSet 3 (mLc (rng1 (msCons (mVar 2) msNil)) (.nm 4) bYes (mLst msNil) [4])) (sSeq (sFor (rng1 (msCons (mBin oSub (mVar 2) (mC (.int 1))) msNil)) (.nm 4) (sSeq (sSet 5 (mBin oAdd (mBin oAdd (mVar 4) (mC (.int 1))) (mBin oMul (mCallU 2 c__law_draw (msCons (mVar 0) (msCons (mBin oSub (mBin oSub (mVar 2) (mC (.int 1))) (mVar 4)) msNil))) (mCall (k1 intD) (msCons (mBin oEq (mCallU 2 c__law_draw (msCons (mVar 0) (msCons (mC (.int 2)) msNil))) (mC (.int 0))) msNil))))) (sSeq (sIf (bB (mBin oGe (mCall (k1 lenD) (msCons (mBin oIx (mVar 3) (mVar 5)) msNil)) (mC (.int 2)))) (sSet 5 (mBin oAdd (mVar 4) (mC (.int 1)))) sNil) (sDrop (mMth "list" appendD (mBin oIx (mVar 3) (mVar 5)) (msCons (mVar 4) msNil)))))) (sSeq (sFor (rng1 (msCons (mBin oMul (mCallU 2 c__law_draw (msCons (mVar 0) (msCons (mC (.int 5)) msNil))) (mCall (k1 intD) (msCons (mBin oGt (mVar 2) (mC (.int 1))) msNil))) msNil)) (.nm 6) (sSeq (sSet 5 (mBin oAdd (mC (.int 1)) (mCallU 2 c__law_draw (msCons (mVar 0) (msCons (mBin oSub (mVar 2) (mC (.int 1))) msNil))))) (sSeq (sSet 7 (mCallU 2 c__law_draw (msCons (mVar 0) (msCons (mVar 5) msNil)))) (sIf (bAnd (bB (mBin oNotIn (mVar 7) (mBin oIx (mVar 3) (mVar 5)))) (bB (mBin oLt (mCall (k1 lenD) (msCons (mBin oIx (mVar 3) (mVar 5)) msNil)) (mC (.int 4))))) (sDrop (mMth "list" appendD (mBin oIx (mVar 3) (mVar 5)) (msCons (mVar 7) msNil))) sNil)))) (sSeq (sSet 8 (mCallU 2 c__law_draw (msCons (mVar 0) (msCons (mC (.int 12)) msNil)))) (sRet (mTup (msCons (mC (.str "history")) (msCons (mCall (k1 tupD) (msCons (mLc (rng1 (msCons (mVar 2) msNil)) (.nm 4) bYes (mTup (msCons (mCallU 3 c__law_word (msCons (mVar 0) (msCons (mVar 4) (msCons (mVar 8) msNil)))) (msCons (mCall (k1 tupD) (msCons (mCall (k1 (onInts sortL)) (msCons (mBin oIx (mVar 3) (mVar 4)) msNil)) msNil)) msNil))) [4]) msNil)) msNil)))))))))
def c__law_history : List Dv → MX Dv := defM 7 m__law_history
def m__law_cell : MS := (sSeq (sIf (bB (mBin oLt (mVar 1) (mCall (k1 lenD) (msCons (mVar 0) msNil)))) (sRet (mBin oIx (mVar 0) (mVar 1))) sNil) (sRet (mC (.int 0))))
def c__law_cell : List Dv → MX Dv := defM 0 m__law_cell
def m__law_digits : MS := (sSeq (sSet 3 (mLst msNil)) (sSeq (sFor (rng2 (msCons (mVar 1) (msCons (mVar 2) msNil))) (.nm 4) (sSeq (sSet 5 (mCallU 2 c__law_cell (msCons (mVar 0) (msCons (mVar 4) msNil)))) (sSeq (sIf (bB (mBin oLt (mVar 5) (mC (.int 0)))) (sSet 5 (mBin oSub (mC (.int 1)) (mBin oMul (mC (.int 2)) (mVar 5)))) sNil) (sIf (bB (mBin oGe (mVar 5) (mBin oPow (mC (.int 10)) (mC (.int 18))))) (sFor (rng1 (msCons (mC (.int 60)) msNil)) (.nm 6) (sIf (bB (mBin oGt (mVar 5) (mC (.int 0)))) (sSeq (sDrop (mMth "list" appendD (mVar 3) (msCons (mBin oMod (mCall (k1 intD) (msCons (mVar 5) msNil)) (mC (.int 1000))) msNil))) (sSet 5 (mBin oFdiv (mVar 5) (mC (.int 1000))))) sNil)) (sSeq (sSet 7 (mBin oMod (mCall (k1 intD) (msCons (mBin oAdd (mBin oAdd (mBin oMul (mVar 5) (mC (.int 48271))) (mBin oMul (mVar 4) (mC (.int 69621)))) (mC (.int 11))) msNil)) (mC (.int 2147483647)))) (sFor (rng1 (msCons (mC (.int 12)) msNil)) (.nm 6) (sSeq (sSet 7 (mBin oMod (mCall (k1 intD) (msCons (mBin oAdd (mBin oAdd (mBin oMul (mVar 7) (mC (.int 16807))) (mBin oMul (mC (.int 7)) (mVar 6))) (mC (.int 1))) msNil)) (mC (.int 2147483647)))) (sDrop (mMth "list" appendD (mVar 3) (msCons (mBin oMod (mCall (k1 intD) (msCons (mBin oFdiv (mVar 7) (mC (.int 997))) msNil)) (mC (.int 1000))) msNil)))))))))) (sRet (mVar 3))))
def c__law_digits : List Dv → MX Dv := defM 5 m__law_digits
def m_ancestors : MS := (sSeq (sSet 2 (mBin oIx (mVar 0) (mC (.int 1)))) (sSeq (sSet 3 (mBin oAdd (mBin oMul (mLst (msCons (mC (.bl false)) msNil)) (mVar 1)) (mLst (msCons (mC (.bl true)) msNil)))) (sSeq (sFor (rng3 (msCons (mVar 1) (msCons (mUn oNeg (mC (.int 1))) (msCons (mUn oNeg (mC (.int 1))) msNil)))) (.nm 4) (sIf (bB (mBin oIx (mVar 3) (mVar 4))) (sFor (srcV (mBin oIx (mBin oIx (mVar 2) (mVar 4)) (mC (.int 1)))) (.nm 5) (sPut (mVar 3) (mVar 5) (mC (.bl true)))) sNil)) (sRet (mCall (k1 tupD) (msCons (mLc (srcEn (msCons (mVar 3) msNil)) (.tp [(.nm 4), (.nm 6)]) (bTru (mVar 6)) (mVar 4) [4, 6]) msNil))))))
def c_ancestors : List Dv → MX Dv := defM 5 m_ancestors
def m_is_against : MS := (sRet (mBin oEq (mVar 1) (mBin oEq (mVar 0) (mC (.str "works")))))
def c_is_against : List Dv → MX Dv := defM 0 m_is_against
def m_places_of : MS := (sRet (mCall (k1 tupD) (msCons (mLc (srcEn (msCons (mVar 1) msNil)) (.tp [(.nm 3), (.tp [(.nm 4), (.nm 5)])]) (bB (mCallU 2 c_is_against (msCons (mVar 4) (msCons (mBin oIn (mVar 2) (mBin oIx (mVar 0) (mVar 5))) msNil)))) (mVar 3) [3, 4, 5]) msNil)))
def c_places_of : List Dv → MX Dv := defM 3 m_places_of
def m_places_against : MS := (sSeq (sSet 2 (mLc (rng1 (msCons (mCall (k1 lenD) (msCons (mBin oIx (mVar 0) (mC (.int 1))) msNil)) msNil)) (.nm 3) bYes (mCallU 2 c_ancestors (msCons (mVar 0) (msCons (mVar 3) msNil))) [3])) (sRet (mCall (k1 tupD) (msCons (mLc (rng1 (msCons (mCall (k1 lenD) (msCons (mVar 2) msNil)) msNil)) (.nm 4) bYes (mCallU 3 c_places_of (msCons (mVar 2) (msCons (mVar 1) (msCons (mVar 4) msNil)))) [4]) msNil))))
def c_places_against : List Dv → MX Dv := defM 3 m_places_against
def m_contradictions : MS := (sRet (mCall (k1 tupD) (msCons (mLc (srcV (mCallU 2 c_places_against (msCons (mVar 0) (msCons (mVar 1) msNil)))) (.nm 2) bYes (mCall (k1 lenD) (msCons (mVar 2) msNil)) [2]) msNil)))
def c_contradictions : List Dv → MX Dv := defM 1 m_contradictions
def m_can_be : MS := (sRet (mCall (k1 tupD) (msCons (mLc (srcEn (msCons (mCallU 2 c_contradictions (msCons (mVar 0) (msCons (mVar 1) msNil))) msNil)) (.tp [(.nm 3), (.nm 4)]) (bB (mBin oLe (mVar 4) (mVar 2))) (mVar 3) [3, 4]) msNil)))
def c_can_be : List Dv → MX Dv := defM 2 m_can_be
def m_are_alike : MS := (sRet (mCall (k1 (onBools anyL)) (msCons (mLc (srcV (mCallU 2 c_classes (msCons (mVar 0) (msCons (mVar 1) msNil)))) (.nm 4) bYes (mCall (k1 (onBools allL)) (msCons (mLc (srcV (mVar 2)) (.nm 3) bYes (mBin oIn (mVar 3) (mVar 4)) [3]) msNil)) [4]) msNil)))
def c_are_alike : List Dv → MX Dv := defM 2 m_are_alike
def m_verdict : MS := (sSeq (sSet 4 (mCallU 3 c_can_be (msCons (mVar 0) (msCons (mVar 2) (msCons (mVar 3) msNil))))) (sSeq (sIf (bNot (bTru (mVar 4))) (sRet (mTup (msCons (mC (.str "none")) msNil))) sNil) (sSeq (sIf (bB (mBin oEq (mCall (k1 lenD) (msCons (mVar 4) msNil)) (mC (.int 1)))) (sRet (mTup (msCons (mC (.str "one")) (msCons (mBin oIx (mVar 4) (mC (.int 0))) msNil)))) sNil) (sSeq (sIf (bB (mCallU 3 c_are_alike (msCons (mVar 0) (msCons (mVar 1) (msCons (mVar 4) msNil))))) (sRet (mTup (msCons (mC (.str "alike")) (msCons (mVar 4) msNil)))) sNil) (sRet (mTup (msCons (mC (.str "open")) (msCons (mVar 4) msNil))))))))
def c_verdict : List Dv → MX Dv := defM 1 m_verdict
def m_certain_paper : MS := (sSeq (sSet 4 (mLst msNil)) (sSeq (sFor (srcEn (msCons (mCallU 2 c_places_against (msCons (mVar 0) (msCons (mVar 1) msNil))) msNil)) (.tp [(.nm 5), (.nm 6)]) (sIf (bB (mBin oNe (mVar 5) (mVar 3))) (sSeq (sIf (bB (mBin oLe (mCall (k1 lenD) (msCons (mVar 6) msNil)) (mVar 2))) (sRet (mC .non)) sNil) (sDrop (mMth "list" appendD (mVar 4) (msCons (mTup (msCons (mVar 5) (msCons (mSl (mVar 6) pNo (pSo (mBin oAdd (mVar 2) (mC (.int 1))))) msNil))) msNil)))) sNil)) (sRet (mCall (k1 tupD) (msCons (mVar 4) msNil)))))
def c_certain_paper : List Dv → MX Dv := defM 3 m_certain_paper
def m__law_pick : MS := (sRet (mBin oIx (mVar 1) (mBin oMod (mCall (k1 intD) (msCons (mCallU 2 c__law_draw (msCons (mVar 0) (msCons (mC (.int 900)) msNil))) msNil)) (mCall (k1 lenD) (msCons (mVar 1) msNil)))))
def c__law_pick : List Dv → MX Dv := defM 0 m__law_pick
def m__law_answers : MS := (sRet (mCall (k1 tupD) (msCons (mLc (rng1 (msCons (mCallU 2 c__law_draw (msCons (mVar 0) (msCons (mBin oAdd (mVar 2) (mC (.int 1))) msNil))) msNil)) (.nm 3) bYes (mTup (msCons (mCallU 2 c__law_pick (msCons (mVar 0) (msCons (mLst (msCons (mC (.str "broken")) (msCons (mC (.str "works")) msNil))) msNil))) (msCons (mCallU 2 c__law_draw (msCons (mVar 0) (msCons (mCall (k1 lenD) (msCons (mBin oIx (mVar 1) (mC (.int 1))) msNil)) msNil))) msNil))) [3]) msNil)))
def c__law_answers : List Dv → MX Dv := defM 1 m__law_answers
def m__law_against : MS := (sRet (mBin oNe (mBin oIx (mCallU 2 c__law_above (msCons (mVar 0) (msCons (mBin oIx (mVar 2) (mC (.int 1))) msNil))) (mVar 1)) (mBin oEq (mBin oIx (mVar 2) (mC (.int 0))) (mC (.str "broken")))))
def c__law_against : List Dv → MX Dv := defM 0 m__law_against
def m__law_places : MS := (sRet (mLc (rng1 (msCons (mCall (k1 lenD) (msCons (mVar 1) msNil)) msNil)) (.nm 3) (bB (mCallU 3 c__law_against (msCons (mVar 0) (msCons (mVar 2) (msCons (mBin oIx (mVar 1) (mVar 3)) msNil))))) (mVar 3) [3]))
def c__law_places : List Dv → MX Dv := defM 1 m__law_places
def m__law_due_verdict : MS := (sSeq (sIf (bB (mBin oEq (mVar 2) (mTup msNil))) (sRet (mTup (msCons (mC (.str "none")) msNil))) sNil) (sSeq (sIf (bB (mBin oEq (mCall (k1 lenD) (msCons (mVar 2) msNil)) (mC (.int 1)))) (sRet (mTup (msCons (mC (.str "one")) (msCons (mBin oIx (mVar 2) (mC (.int 0))) msNil)))) sNil) (sSeq (sSet 3 (mLc (srcV (mCallU 2 c__law_classes (msCons (mVar 0) (msCons (mVar 1) msNil)))) (.nm 4) (bB (mBin oIn (mBin oIx (mVar 2) (mC (.int 0))) (mVar 4))) (mVar 4) [4])) (sSeq (sIf (bB (mBin oEq (mLc (srcV (mVar 2)) (.nm 5) (bB (mBin oNotIn (mVar 5) (mBin oIx (mVar 3) (mC (.int 0))))) (mVar 5) [5]) (mLst msNil))) (sRet (mTup (msCons (mC (.str "alike")) (msCons (mVar 2) msNil)))) sNil) (sRet (mTup (msCons (mC (.str "open")) (msCons (mVar 2) msNil))))))))
def c__law_due_verdict : List Dv → MX Dv := defM 3 m__law_due_verdict
def m__law_due_paper : MS := (sSeq (sSet 4 (mTup msNil)) (sSeq (sFor (rng1 (msCons (mCall (k1 lenD) (msCons (mBin oIx (mVar 0) (mC (.int 1))) msNil)) msNil)) (.nm 5) (sIf (bB (mBin oNe (mVar 5) (mVar 3))) (sSeq (sSet 6 (mCallU 3 c__law_places (msCons (mVar 0) (msCons (mVar 1) (msCons (mVar 5) msNil))))) (sSeq (sIf (bB (mBin oLe (mCall (k1 lenD) (msCons (mVar 6) msNil)) (mVar 2))) (sRet (mC .non)) sNil) (sSet 4 (mBin oAdd (mVar 4) (mTup (msCons (mTup (msCons (mVar 5) (msCons (mCall (k1 tupD) (msCons (mSl (mVar 6) pNo (pSo (mBin oAdd (mVar 2) (mC (.int 1))))) msNil)) msNil))) msNil)))))) sNil)) (sRet (mVar 4))))
def c__law_due_paper : List Dv → MX Dv := defM 3 m__law_due_paper
def m__law_last_paper : MS := (sSeq (sSet 4 (mTup msNil)) (sSeq (sFor (srcV (mVar 3)) (.tp [(.nm 5), (.nm 6)]) (sSeq (sSet 7 (mCallU 3 c__law_places (msCons (mVar 0) (msCons (mVar 1) (msCons (mVar 5) msNil))))) (sSet 4 (mBin oAdd (mVar 4) (mTup (msCons (mTup (msCons (mVar 5) (msCons (mCall (k1 tupD) (msCons (mSl (mVar 7) (pSo (mBin oSub (mBin oSub (mCall (k1 lenD) (msCons (mVar 7) msNil)) (mVar 2)) (mC (.int 1)))) pNo) msNil)) msNil))) msNil)))))) (sRet (mVar 4))))
def c__law_last_paper : List Dv → MX Dv := defM 4 m__law_last_paper
def m_is_answer : MS := (sSeq (sIf (bOr (bNot (bB (mIsi "tuple" (mVar 1)))) (bB (mBin oNe (mCall (k1 lenD) (msCons (mVar 1) msNil)) (mC (.int 2))))) (sRet (mC (.bl false))) sNil) (sSeq (sIf (bOr (bB (mBin oNotIn (mBin oIx (mVar 1) (mC (.int 0))) (mTup (msCons (mC (.str "broken")) (msCons (mC (.str "works")) msNil))))) (bNot (bB (mCallU 1 c_is_integer (msCons (mBin oIx (mVar 1) (mC (.int 1))) msNil))))) (sRet (mC (.bl false))) sNil) (sRet (mChain oLe oLt (mC (.int 0)) (mBin oIx (mVar 1) (mC (.int 1))) (mCall (k1 lenD) (msCons (mBin oIx (mVar 0) (mC (.int 1))) msNil))))))
def c_is_answer : List Dv → MX Dv := defM 0 m_is_answer
def m__law_true : MS := (sRet (mBin oIx (mLst (msCons (mC (.str "works")) (msCons (mC (.str "broken")) msNil))) (mCall (k1 intD) (msCons (mBin oIx (mCallU 2 c__law_above (msCons (mVar 0) (msCons (mVar 2) msNil))) (mVar 1)) msNil))))
def c__law_true : List Dv → MX Dv := defM 0 m__law_true
def m__law_lied : MS := (sSeq (sSet 4 (mLc (rng1 (msCons (mBin oMul (mC (.int 10)) (mCallU 2 c__law_draw (msCons (mVar 0) (msCons (mC (.int 7)) msNil)))) msNil)) (.nm 5) bYes (mCallU 2 c__law_draw (msCons (mVar 0) (msCons (mCall (k1 lenD) (msCons (mBin oIx (mVar 1) (mC (.int 1))) msNil)) msNil))) [5])) (sSeq (sSet 6 (mLc (rng1 (msCons (mVar 3) msNil)) (.nm 5) bYes (mCallU 2 c__law_draw (msCons (mVar 0) (msCons (mC (.int 60)) msNil))) [5])) (sSeq (sSet 7 (mTup msNil)) (sSeq (sFor (rng1 (msCons (mCall (k1 lenD) (msCons (mVar 4) msNil)) msNil)) (.nm 8) (sSeq (sSet 9 (mCallU 3 c__law_true (msCons (mVar 1) (msCons (mVar 2) (msCons (mBin oIx (mVar 4) (mVar 8)) msNil))))) (sSeq (sIf (bB (mBin oIn (mVar 8) (mVar 6))) (sSet 9 (mBin oIx (mLst (msCons (mC (.str "works")) (msCons (mC (.str "broken")) msNil))) (mCall (k1 intD) (msCons (mBin oEq (mVar 9) (mC (.str "works"))) msNil)))) sNil) (sSet 7 (mBin oAdd (mVar 7) (mTup (msCons (mTup (msCons (mVar 9) (msCons (mBin oIx (mVar 4) (mVar 8)) msNil))) msNil))))))) (sRet (mVar 7))))))
def c__law_lied : List Dv → MX Dv := defM 6 m__law_lied
def m_which_are_in : MS := (sRet (mCall (k1 tupD) (msCons (mLc (srcV (mVar 0)) (.nm 2) bYes (mBin oIn (mVar 2) (mVar 1)) [2]) msNil)))
def c_which_are_in : List Dv → MX Dv := defM 1 m_which_are_in
def m_marks : MS := (sSeq (sSet 3 (mLc (srcV (mCallU 2 c_classes (msCons (mVar 0) (msCons (mVar 1) msNil)))) (.nm 4) bYes (mBin oIx (mVar 4) (mC (.int 0))) [4])) (sRet (mCall (k1 tupD) (msCons (mLc (srcV (mVar 2)) (.nm 5) bYes (mCallU 2 c_which_are_in (msCons (mVar 3) (msCons (mCallU 2 c_ancestors (msCons (mVar 0) (msCons (mVar 5) msNil))) msNil))) [5]) msNil))))
def c_marks : List Dv → MX Dv := defM 3 m_marks
def m_start : MS := (sRet (mCall (k1 tupD) (msCons (mLc (srcV (mCallU 2 c_classes (msCons (mVar 0) (msCons (mVar 1) msNil)))) (.nm 3) bYes (mVar 2) [3]) msNil)))
def c_start : List Dv → MX Dv := defM 1 m_start
def m_taken : MS := (sSeq (sIf (bB (mBin oEq (mVar 2) (mC (.str "broken")))) (sRet (mCall (k1 tupD) (msCons (mLc (srcZp (msCons (mVar 0) (msCons (mVar 1) msNil))) (.tp [(.nm 3), (.nm 4)]) bYes (mIf (bOr (bTru (mVar 4)) (bB (mBin oLt (mVar 3) (mC (.int 0))))) (mVar 3) (mBin oSub (mVar 3) (mC (.int 1)))) [3, 4]) msNil))) sNil) (sRet (mCall (k1 tupD) (msCons (mLc (srcZp (msCons (mVar 0) (msCons (mVar 1) msNil))) (.tp [(.nm 3), (.nm 4)]) bYes (mIf (bAnd (bTru (mVar 4)) (bB (mBin oGe (mVar 3) (mC (.int 0))))) (mBin oSub (mVar 3) (mC (.int 1))) (mVar 3)) [3, 4]) msNil))))
def c_taken : List Dv → MX Dv := defM 2 m_taken
def m__law_after : MS := (sSeq (sSet 4 (mCallU 2 c__law_classes (msCons (mVar 0) (msCons (mVar 1) msNil)))) (sRet (mCall (k1 tupD) (msCons (mLc (rng1 (msCons (mCall (k1 lenD) (msCons (mVar 2) msNil)) msNil)) (.nm 5) bYes (mCall (max2) (msCons (mUn oNeg (mC (.int 1))) (msCons (mBin oSub (mBin oIx (mVar 2) (mVar 5)) (mCall (k1 intD) (msCons (mCallU 3 c__law_against (msCons (mVar 0) (msCons (mBin oIx (mBin oIx (mVar 4) (mVar 5)) (mC (.int 0))) (msCons (mVar 3) msNil)))) msNil))) msNil))) [5]) msNil))))
def c__law_after : List Dv → MX Dv := defM 2 m__law_after
def m__law_inside : MS := (sRet (mLc (rng1 (msCons (mCall (k1 lenD) (msCons (mVar 0) msNil)) msNil)) (.nm 1) (bB (mBin oGe (mBin oIx (mVar 0) (mVar 1)) (mC (.int 0)))) (mVar 1) [1]))
def c__law_inside : List Dv → MX Dv := defM 1 m__law_inside
def m__law_parts : MS := (sRet (mLc (srcV (mLst (msCons (mC (.str "broken")) (msCons (mC (.str "works")) msNil)))) (.nm 4) bYes (mCallU 4 c__law_after (msCons (mVar 0) (msCons (mVar 1) (msCons (mVar 2) (msCons (mTup (msCons (mVar 4) (msCons (mVar 3) msNil))) msNil))))) [4]))
def c__law_parts : List Dv → MX Dv := defM 1 m__law_parts
def m__law_useful : MS := (sSeq (sSet 3 (mCallU 2 c__law_classes (msCons (mVar 0) (msCons (mVar 1) msNil)))) (sSeq (sSet 4 (mLst msNil)) (sSeq (sFor (srcV (mCallU 2 c__law_tests (msCons (mVar 0) (msCons (mVar 1) msNil)))) (.nm 5) (sSeq (sSet 6 (mLc (srcV (mCallU 1 c__law_inside (msCons (mVar 2) msNil))) (.nm 7) bYes (mBin oIx (mCallU 2 c__law_above (msCons (mVar 0) (msCons (mVar 5) msNil))) (mBin oIx (mBin oIx (mVar 3) (mVar 7)) (mC (.int 0)))) [7])) (sIf (bAnd (bB (mBin oIn (mC (.bl true)) (mVar 6))) (bB (mBin oIn (mC (.bl false)) (mVar 6)))) (sDrop (mMth "list" appendD (mVar 4) (msCons (mVar 5) msNil))) sNil))) (sRet (mVar 4)))))
def c__law_useful : List Dv → MX Dv := defM 5 m__law_useful
def m__law_choose : MS := (sSeq (sSet 2 (mLst (msCons (mC (.int 1)) msNil))) (sSeq (sFor (rng1 (msCons (mVar 0) msNil)) (.nm 3) (sSet 2 (mBin oAdd (mBin oAdd (mLst (msCons (mC (.int 1)) msNil)) (mLc (rng1 (msCons (mBin oSub (mCall (k1 lenD) (msCons (mVar 2) msNil)) (mC (.int 1))) msNil)) (.nm 4) bYes (mBin oAdd (mBin oIx (mVar 2) (mVar 4)) (mBin oIx (mVar 2) (mBin oAdd (mVar 4) (mC (.int 1))))) [4])) (mLst (msCons (mC (.int 1)) msNil))))) (sRet (mIf (bB (mBin oLt (mVar 1) (mCall (k1 lenD) (msCons (mVar 2) msNil)))) (mBin oIx (mVar 2) (mVar 1)) (mC (.int 0))))))
def c__law_choose : List Dv → MX Dv := defM 3 m__law_choose
def m__law_weight : MS := (sRet (mCall (k1 (onInts sumL)) (msCons (mLc (srcV (mVar 0)) (.nm 3) bYes (mCall (k1 (onInts sumL)) (msCons (mLc (rng1 (msCons (mBin oAdd (mVar 3) (mC (.int 1))) msNil)) (.nm 2) bYes (mCallU 2 c__law_choose (msCons (mVar 1) (msCons (mVar 2) msNil))) [2]) msNil)) [3]) msNil)))
def c__law_weight : List Dv → MX Dv := defM 2 m__law_weight
def m__law_pascal : MS := (sSeq (sSet 1 (mLst (msCons (mC (.int 1)) msNil))) (sSeq (sFor (rng1 (msCons (mVar 0) msNil)) (.nm 2) (sSet 1 (mBin oAdd (mBin oAdd (mLst (msCons (mC (.int 1)) msNil)) (mLc (rng1 (msCons (mBin oSub (mCall (k1 lenD) (msCons (mVar 1) msNil)) (mC (.int 1))) msNil)) (.nm 3) bYes (mBin oAdd (mBin oIx (mVar 1) (mVar 3)) (mBin oIx (mVar 1) (mBin oAdd (mVar 3) (mC (.int 1))))) [3])) (mLst (msCons (mC (.int 1)) msNil))))) (sRet (mVar 1))))
def c__law_pascal : List Dv → MX Dv := defM 3 m__law_pascal
end Cm

/-! Mn14: words that look in the store, by what they find there. -/
namespace Mn
open PySem PySem.Spec PyProof.Rows L2
section
variable {E : Exn → Th → Prop} {θ : Th} {ρ : DEnv} {Q : Dv → Th → Prop} {k : Nat} {ds : List Dv} {i : Int} {d y : Dv}
def ixK (o : Option Ob) (y : Dv) (θ : Th) (Q : Dv → Th → Prop) : Prop := match o with
  | some (.lst ds) => (match y with
    | .int i => optW (atI ds i) θ Q
    | _ => False)
  | some (.dK kvs) => (match fKey y with
    | some q => optW (lookD kvs q) θ Q
    | none => False)
  | some (.dT kvs) => (match tKey y with
    | some q => optW (lookD kvs q) θ Q
    | none => False)
  | _ => False
theorem x_ixP : oIx (.obj k) y E θ Q = ixK θ[k]? y θ Q := (rfl)
theorem x_ixL : ixK (some (.lst ds)) (.int i) θ Q = optW (atI ds i) θ Q := (rfl)
def lenK (o : Option Ob) (θ : Th) (Q : Dv → Th → Prop) : Prop := match o with
  | some (.lst ds) => Q (.int ds.length) θ
  | some (.dK kvs) => Q (.int kvs.length) θ
  | _ => False
theorem x_lenP : lenD (.obj k) E θ Q = lenK θ[k]? θ Q := (rfl)
theorem x_lenL : lenK (some (.lst ds)) θ Q = Q (.int ds.length) θ := (rfl)
def tupK (o : Option Ob) (θ : Th) (Q : Dv → Th → Prop) : Prop := match o with
  | some (.lst ds) => Q (.tup ds) θ
  | some (.dK kvs) => Q (.tup (kvs.map fun kv => keyD kv.1)) θ
  | _ => False
theorem x_tupP : tupD (.obj k) E θ Q = tupK θ[k]? θ Q := (rfl)
theorem x_tupL : tupK (some (.lst ds)) θ Q = Q (.tup ds) θ := (rfl)
theorem x_tupKK {kvs : List (Key × Dv)} : tupK (some (.dK kvs)) θ Q = Q (.tup (kvs.map fun kv => keyD kv.1)) θ := (rfl)
def lstK (o : Option Ob) (θ : Th) (Q : Dv → Th → Prop) : Prop := match o with
  | some (.lst ds) => Q (.obj θ.length) (θ ++ [.lst ds])
  | some (.dK kvs) => Q (.obj θ.length) (θ ++ [.lst (kvs.map fun kv => keyD kv.1)])
  | _ => False
theorem x_lstP : lstD (.obj k) E θ Q = lstK θ[k]? θ Q := (rfl)
theorem x_lstL : lstK (some (.lst ds)) θ Q = Q (.obj θ.length) (θ ++ [.lst ds]) := (rfl)
def appK (o : Option Ob) (k : Nat) (es : List Dv) (θ : Th) (Q : Dv → Th → Prop) : Prop := match o with
  | some (.lst xs) => (match es with
    | [y] => xs.length < sizeLine ∧ Q .non (θ.set k (.lst (xs ++ [y])))
    | _ => False)
  | _ => False
theorem x_appP {es : List Dv} : appendD (.obj k) es E θ Q = appK θ[k]? k es θ Q := (rfl)
theorem x_appL : appK (some (.lst ds)) k [y] θ Q = (ds.length < sizeLine ∧ Q .non (θ.set k (.lst (ds ++ [y])))) := (rfl)
theorem x_tyP : tyD θ (.obj k) = tyO θ[k]? := (rfl)
theorem x_tyL : tyO (some (.lst ds)) = some "list" := (rfl)
theorem x_tyK {kvs : List (Key × Dv)} : tyO (some (.dK kvs)) = some "dict" := (rfl)
theorem x_tyT {kvs : List (List Key × Dv)} : tyO (some (.dT kvs)) = some "dict" := (rfl)
def putK1 (o : Option Ob) (k : Nat) (y v : Dv) (θ : Th) (Q : Unit → Th → Prop) : Prop := match o with
  | some (.lst ds) => (match y with
      | .int i => (match ixN ds.length i with
        | some j => Q () (θ.set k (.lst (ds.set j v)))
        | none => False)
      | _ => False)
  | some (.dK kvs) => (match fKey y with
      | some q => kvs.length < sizeLine ∧ Q () (θ.set k (.dK (putD kvs q v)))
      | none => False)
  | some (.dT kvs) => (match tKey y with
      | some q => kvs.length < sizeLine ∧ Q () (θ.set k (.dT (putD kvs q v)))
      | none => False)
  | _ => False
theorem x_putP {v : Dv} {R : Unit → Th → Prop} : setO (.obj k) y v E θ R = putK1 θ[k]? k y v θ R := (rfl)
def putI (o : Option Nat) (k : Nat) (ds : List Dv) (v : Dv) (θ : Th) (Q : Unit → Th → Prop) : Prop := match o with
  | some j => Q () (θ.set k (.lst (ds.set j v)))
  | none => False
theorem x_putL {v : Dv} {R : Unit → Th → Prop} : putK1 (some (.lst ds)) k (.int i) v θ R = putI (ixN ds.length i) k ds v θ R := (rfl)
theorem x_putI {v : Dv} {j : Nat} {R : Unit → Th → Prop} : putI (some j) k ds v θ R = R () (θ.set k (.lst (ds.set j v))) := (rfl)
theorem x_putKK {v : Dv} {q : Int} {kvs : List (Key × Dv)} {R : Unit → Th → Prop} : putK1 (some (.dK kvs)) k (.int q) v θ R = (kvs.length < sizeLine ∧ R () (θ.set k (.dK (putD kvs (.inl q) v)))) := (rfl)
def srcKK (o : Option Ob) (k : Nat) (θ : Th) (Q : Src → Th → Prop) : Prop := match o with
  | some (.lst _) => Q (.sd (.L k)) θ
  | _ => False
theorem x_srcP {R : Src → Th → Prop} : srcK E R (.obj k) θ = srcKK θ[k]? k θ R := (rfl)
theorem x_srcL {R : Src → Th → Prop} : srcKK (some (.lst ds)) k θ R = R (.sd (.L k)) θ := (rfl)
/-! places -/
theorem ix_nat {n : Nat} {j : Nat} (h : j < n) : ixN n (j : Int) = some j := by
  unfold ixN
  rw [if_pos (by omega), if_pos (by omega)]
  simp
theorem ix_int {n : Nat} {i : Int} (h0 : 0 ≤ i) (h : i < n) : ixN n i = some i.toNat := by
  unfold ixN
  rw [if_pos h0, if_pos h]
theorem at_nat {β : Type} {xs : List β} {j : Nat} {x : β} (h : xs[j]? = some x) : atI xs (j : Int) = some x := by
  unfold atI
  rw [ix_nat (List.getElem?_eq_some_iff.mp h).1]
  exact h
theorem at_int {β : Type} {xs : List β} {i : Int} {x : β} (h0 : 0 ≤ i) (h : xs[i.toNat]? = some x) : atI xs i = some x := by
  unfold atI
  have := (List.getElem?_eq_some_iff.mp h).1
  rw [ix_int h0 (by omega)]
  exact h
theorem at_0 {β : Type} {x : β} {r : List β} : atI (x :: r) 0 = some x := at_nat (j := 0) rfl
theorem at_1 {β : Type} {x y : β} {r : List β} : atI (x :: y :: r) 1 = some y := at_nat (j := 1) rfl
theorem at_2 {β : Type} {x y z : β} {r : List β} : atI (x :: y :: z :: r) 2 = some z := at_nat (j := 2) rfl
theorem th_mid {θ g : Th} {o : Ob} : (θ ++ o :: g)[θ.length]? = some o := by simp
theorem th_left {θ g : Th} {k : Nat} {o : Ob} (h : θ[k]? = some o) : (θ ++ g)[k]? = some o := by
  rw [List.getElem?_append_left (List.getElem?_eq_some_iff.mp h).1]
  exact h
theorem th_set_mid {θ g : Th} {o o' : Ob} : (θ ++ o :: g).set θ.length o' = θ ++ o' :: g := by simp
end
end Mn

/-! Mn15: a suite may drop what it left behind. -/
namespace Mn
open PySem PySem.Spec PyProof.Rows L2
def lowE (n : Nat) (ρ : DEnv) : Prop := ∀ (i : Nat) (d : Dv), ρ[i]? = some (some d) → d.low n = true
/-- ρ2 is ρ' with some slots forgotten -/
def subE (ρ2 ρ' : DEnv) : Prop := ρ2.length = ρ'.length ∧ ∀ (i : Nat) (d : Dv), ρ2[i]? = some (some d) → ρ'[i]? = some (some d)
def outCut (θ0 : Th) (Q : Out → Th → Prop) (o : Out) (θ' : Th) : Prop := Q o θ' ∨ ∃ ρ' θ2 g ρ2, o = .nx ρ' ∧ θ' = θ2 ++ g ∧ θ0.length ≤ θ2.length ∧ (Clo θ0 → Clo θ2) ∧ lowE θ2.length ρ2 ∧ subE ρ2 ρ' ∧ Q (.nx ρ2) θ2
def sCut (m : MS) : MS := fun ρ E θ Q => m ρ E θ (outCut θ Q)
section
variable {X : Cx} {W : Wd X.K X.mg}
theorem sm_cut {b : List Stmt} {m : MS} (h : PSs X b (tS W m)) : PSs X b (tS W (sCut m)) := pss_w h fun D σ H ⟨ρ, α, θ, Qm, at', rs, q, u⟩ => ⟨ρ, α, θ, _, at', rs, q, fun o θ' α' H' q' ok' nx' => by
  rcases q' with q' | ⟨ρ', θ2, g, ρ2, rfl, rfl, hl, hc, lo, sb, q'⟩
  · exact u o θ' α' H' q' ok' nx'
  · intro σ' rs'
    have c2 := hc at'.ok.clo
    refine u (.nx ρ2) θ2 (α'.take θ2.length) H' q' (ok'.cut c2) ⟨?_, nx'.tup, nx'.xd, nx'.fz⟩ σ' ⟨rs'.1.trans sb.1.symm, fun i d e => ?_⟩
    · obtain ⟨β, rfl⟩ := nx'.ext
      refine ⟨β.take (θ2.length - α.length), ?_⟩
      rw [List.take_append, List.take_of_length_le (by rw [at'.ok.len]; exact hl)]
    · obtain ⟨v, h1, h2⟩ := rs'.2 i d (sb.2 i d e)
      exact ⟨v, h1, h2.cut (lo i d e)⟩⟩
end
theorem x_cut {m : MS} {ρ : DEnv} {E : Exn → Th → Prop} {θ : Th} {Q : Out → Th → Prop} : sCut m ρ E θ Q = m ρ E θ (outCut θ Q) := (rfl)
theorem cut_same {θ0 θ' : Th} {Q : Out → Th → Prop} {o : Out} (h : Q o θ') : outCut θ0 Q o θ' := .inl h
end Mn

/-! Mn16: sorted(set(xs)), sum of a tuple, count, bit operations. -/
namespace Mn
open PySem PySem.Spec PyProof.Rows L2

/-! ### set(xs) of a list of ints -/
/-- the empty set, just made -/
abbrev set0 (w : World) : Obj := { cls := .type "set", dict := none, data := .set #[] 0 (.fresh 0 0 (!w.params.followText "set-order")) }
section
variable {P : Program} {w : World} {A : Around} {E : Value → Shared → Prop} {s : Shared}
/-- what filling it leaves -/
def Filled (w : World) (s : Shared) (ns : List Int) (t : Shared) : Prop := ∃ h' tk c, t = { s with heap := h', toks := tk } ∧ SetR w h' s.heap.objs.size (fun j => decide (j ∈ ns)) c ∧ c ≤ ns.length ∧ ∀ b o, s.heap.get? b = some o → h'.get? b = some o
theorem two_not {a b c : Nat} (h1 : a ≠ b) (h2 : a ≠ c) : a ∉ [b, c] := by simp [h1, h2]
theorem set0_here (s : Shared) (w : World) : (s.heap.push (set0 w)).get? s.heap.objs.size = some (set0 w) := Heap.get?_push_size _ rfl
theorem set0_lookup (ns : List Int) {items : Array Value} (hit : IntsAre items.toList ns) (hz : items.size = ns.length) (i : Nat) (v : Value) (hv : items[i]? = some v) : ∃ k t, ns[i]? = some k ∧ v = .int k t := by
  have hi : i < ns.length := hz ▸ (Array.getElem?_eq_some_iff.mp hv).1
  obtain ⟨t, rfl⟩ := IntsAre.int_at hit i v (by rw [Array.getElem?_toList]; exact hv)
  exact ⟨ns[i], t, List.getElem?_eq_getElem hi, by rw [List.getD_eq_getElem?_getD, List.getElem?_eq_getElem hi]; rfl⟩
set_option maxHeartbeats 3200000 in
theorem call_setL {l : Addr} {items : Array Value} (ns : List Int) {Q : Value → Shared → Prop} (hh : A.handled = none) (hl : s.heap.IsList l items) (hit : IntsAre items.toList ns) (hb : ns.length + 1 < scanBound)
    (h : ∀ t, Filled w s ns t → Q (.ref s.heap.objs.size) t) : wpAny (model P w) A (call (.type "set") [.ref l]) Q E s := by
  have hz : items.size = ns.length := by rw [← Array.length_toList, IntsAre.length hit]
  have ⟨_, _, m1⟩ := F.called_set.mro
  have m2 := F.called_set.made
  have m3 := F.called_set.sub
  have m4 := F.called_set.notType
  have m5 := F.called_set.canCreate
  have m6 := F.typeCall_set_1 (.ref l)
  have m7 := F.called_set.init.lookup
  have m8 := F.called_set.init.bind (.ref s.heap.objs.size)
  have here := set0_here s w
  apply wpAny_call
  apply codeAny_of_tree
  show wpAny _ _ (callAny (.type "set") _) _ _ _
  apply wpAny_pure
  refine ⟨Code.quiet_builtin _ (by decide +kernel), codeAny_builtin F.entry_type_call ?_⟩
  rw [Around.under_plain (weight_type_call_type "set" [.ref l] []) rfl]
  repeat' first | assumption | wp_step
  refine codeAny_mono (code_set_led1 (.ref l) (E := E) (Q₁ := fun v t => v = .ref s.heap.objs.size ∧ t = { s with heap := s.heap.push (set0 w) }) ⟨rfl, rfl⟩) ?_
  rintro (e | f) t ht
  · exact ht
  cases f with
  | ret v =>
    obtain ⟨rfl, rfl⟩ := ht
    have ty : Shared.TypeIs { s with heap := s.heap.push (set0 w) } (.ref s.heap.objs.size) "set" := ⟨_, here, rfl⟩
    repeat' first | assumption | wp_step
    refine codeAny_mono (codeAny_call_builtin (R := wants (fun r t => r = .none ∧ Filled w s ns t) E) F.called_set.init.plain F.entry_set_init (check_set_init_1 ty ?_)) ?_
    · have ⟨⟨oc, od, oda, osl⟩, o1, o2, n, o3⟩ := hl
      simp only at o2 o3
      subst o2 o3
      have old : (s.heap.push (set0 w)).get? l = some _ := Heap.get?_push_of_some _ o1
      have t1 := F.sub_list_set
      have t2 := F.sub_list_frozenset
      have t3 : (Value.type "list" == Value.type "dict") = false := by decide
      have lst : (s.heap.push (set0 w)).IsList l items := ⟨_, old, rfl, n, rfl⟩
      have lt := Heap.lt_size o1
      unfold Builtin.«set.__init__» noKeywords Builtin.Frozenset.updateFrom
      generalize e : pyIter = it
      wp_walk
      subst e
      apply wpAny_pyIter_list lst
      apply wpAny_bind
      apply wpAny_runValue
      have sz := Heap.size_push s.heap (set0 w)
      have ne1 : l ≠ (s.heap.push (set0 w)).objs.size := by rw [sz]; exact Nat.ne_of_lt (Nat.lt_succ_of_lt lt)
      have ne2 : s.heap.objs.size ≠ (s.heap.push (set0 w)).objs.size := by rw [sz]; exact Nat.ne_of_lt (Nat.lt_succ_self _)
      refine set_update_ints (Walks.list (by simp [hh]) _ l ne1 items).toS s.heap.objs.size (two_not ne2 (Nat.ne_of_gt lt)) ns hz hb (set0_lookup ns hit hz) (items.size - 0) 0 _ (by omega) (Nat.zero_le _) ⟨⟨_, Heap.get?_push_size _ rfl, rfl, rfl⟩, lst.push _⟩ ⟨0, Nat.le_refl 0, setR_new_at (Heap.get?_push_of_some _ here)⟩ ?_
      rintro ⟨h', g', d', tk', os'⟩ c mv hc R
      have e1 : g' = s.gens := mv.gens
      have e2 : d' = s.drawn := mv.drawn
      have e3 : os' = s.os := mv.os
      subst e1 e2 e3
      show wpAny _ _ _ _ _ _
      apply wpAny_pure
      show wpAny _ _ (PySem.ret Value.none) _ _ _
      apply wpAny_pure
      refine ⟨rfl, h', tk', c, rfl, R, hz ▸ hc, fun b o q => ?_⟩
      have lb := Heap.lt_size q
      exact mv.heap b o (two_not (Nat.ne_of_lt lb) (by rw [sz]; exact Nat.ne_of_lt (Nat.lt_succ_of_lt lb))) (Heap.get?_push_of_some _ (Heap.get?_push_of_some _ q))
    · rintro (e | f) t ht
      · exact ht
      cases f with
      | ret v =>
        obtain ⟨rfl, ht⟩ := ht
        have ht2 := ht
        obtain ⟨h', tk, c, rfl, _⟩ := ht
        repeat' first | assumption | wp_step
        exact h _ ht2
      | _ => exact ht.elim
  | _ => exact ht.elim
end

/-! ### sorted(set(xs)) -/
section
variable {X : Cx} {W : Wd X.K X.mg}
def rSetL (X : Cx) : List V → Hp → VK → Prop := fun xs H Q => ∃ (l : Addr) (ns : List Int), xs = [.ref l] ∧ SqL X.K H l (ns.map V.int) ∧ ns.length ≤ 60 ∧ ∀ p c, H p = none → c ≤ ns.length → Q (.ref p) (upd H p (SetO X.w p (fun j => decide (j ∈ ns)) c))
theorem cr_setL (hc : X.calm = true) : CallR X (.type "set") (rSetL X) := by
  intro pins s σ H xs us Q I r h
  obtain ⟨l, ns, rfl, hs, hn, q⟩ := h
  obtain ⟨its, rv, pl, _⟩ := I.list hs
  rw [Vals.ref1 r]
  refine call_setL (I.ok.hd hc) (ns := ns) pl.isList (by simpa using rv.ints) (by unfold scanBound; omega) fun t ⟨h', tk, c, et, R, hcc, kp⟩ => ?_
  subst et
  exact ⟨.ref _, upd H s.heap.objs.size (SetO X.w s.heap.objs.size (fun j => decide (j ∈ ns)) c), I.laid (fun b u e => kp b u e) (Nat.le_refl _) (setO_new R), rfl, q _ c (I.hok.fresh (Nat.le_refl _)) hcc⟩
def srtSet (ns : List Int) : MX Dv := fun _ θ Q => ns.length ≤ 60 ∧ ∀ ns' : List Int, ns'.Pairwise (· < ·) → (∀ k, k ∈ ns' ↔ k ∈ ns) → Q (.obj θ.length) (θ ++ [.lst (ns'.map Dv.int)])
theorem pm_srtSet {e : Expr} {ms : DEnv → MX (List Dv)} {p p2 q2 pos : Pos} (c : Cf X) (hm : X.mg "sorted" = none) (hm2 : X.mg "set" = none) (ha : PA X [e] (tMs W ms)) (hg : Gl X "sorted" := by rfl) (hg2 : Gl X "set" := by rfl)
    (he : starEach [e] X.env = (false, eval e X.env) :: starEach [] X.env := by rfl) (hpl : (backTo q2 (starEach [] X.env)).any (·.1) = false := by rfl)
    (he2 : starEach [.Call (.Name "set" p2) [e] [] q2] X.env = (false, eval (.Call (.Name "set" p2) [e] [] q2) X.env) :: starEach [] X.env := by rfl) (hpl2 : (backTo pos (starEach [] X.env)).any (·.1) = false := by rfl) :
    PE X (.Call (.Name "sorted" p) [.Call (.Name "set" p2) [e] [] q2] [] pos) (tM W (mCall (k1 (onInts srtSet)) ms)) :=
  pe_w (pe_callB (cr_sortedSet c.calm) hg hm PyProof.Rows.boot_sorted (pa_cons (pe_callTy (cr_setL c.calm) hg2 hm2 PyProof.Rows.boot_set ha (by decide) (by decide) he hpl) pa_nil he2) (by decide) (by decide) he2 hpl2) fun σ H Q ⟨ρ, α, θ, Qm, at', rs, q, u⟩ =>
    ⟨ρ, α, θ, _, at', rs, q, fun ds θ1 α1 H1 vs q1 ok1 nx1 r1 => by
      have q1 : k1 (onInts srtSet) ds W.En θ1 Qm := q1
      unfold k1 at q1
      split at q1
      · rename_i d
        obtain ⟨x, rfl, rx⟩ := one_of r1
        obtain ⟨l, ns, rfl, hs, hn, q2⟩ := onInts_up ok1 rx q1
        refine ⟨l, ns, rfl, hs, hn, fun p c hp hc => ⟨p, _, c, rfl, upd_same, by omega, fun ns' p3 h1 h2 _ hp3 => ?_⟩⟩
        have nx2 : Nx X.K H1 α1 (upd H1 p (SetO X.w p (fun j => decide (j ∈ ns)) c)) α1 := Nx.new0 hp
        have a2 : At W (upd H1 p (SetO X.w p (fun j => decide (j ∈ ns)) c)) α1 θ1 := ⟨ok1.new0 hp, (at'.nx.trans nx1).trans nx2⟩
        exact up_lst (u.mono (nx1.trans nx2)) a2 (q2 ns' h1 fun k => by rw [h2 k]; exact decide_eq_true_iff) (rps_ints ns') p3 hp3
      · exact False.elim q1⟩
/-! ### sum of a tuple -/
theorem preSum_take (ns : List Int) : ∀ i, i ≤ ns.length → preSum (fun i => ns.getD i 0) i = (ns.take i).sum
  | 0, _ => by simp [preSum]
  | i + 1, h => by
    have hl : i < ns.length := h
    rw [List.take_add_one, List.getElem?_eq_getElem hl]
    simp only [Option.toList_some, List.sum_append, List.sum_cons, List.sum_nil]
    rw [← preSum_take ns i (Nat.le_of_lt hl)]
    simp [preSum, List.getD_eq_getElem?_getD, List.getElem?_eq_getElem hl]
theorem preSum_list (ns : List Int) : preSum (fun i => ns.getD i 0) ns.length = ns.sum := by rw [preSum_take ns _ (Nat.le_refl _), List.take_length]
def rSumT (K : PySem.W.Frag) : List V → Hp → VK → Prop := fun vs H Q => ∃ (a : Addr) (ns : List Int), vs = [V.ref a] ∧ SqT K H a (ns.map V.int) ∧ Q (.int ns.sum) H
theorem cr_sumT (hc : X.calm = true) : CallR X (.builtin "sum") (rSumT X.K) := by
  intro pins s σ H vs us Q I r h
  obtain ⟨a, ns, rfl, hs, q⟩ := h
  obtain ⟨its, rv, ⟨o, e, ec, n, ed⟩, _⟩ := I.tuple hs
  rw [Vals.ref1 r]
  have hi := rv.ints
  have it : s.heap.IsTuple a its.toArray := ⟨o, e, ec, n, ed⟩
  have lt := Heap.lt_size e
  have hz : its.toArray.size = ns.length := by simpa using hi.length
  refine call_sum_walkAnyS (wpAny_pyIter_tuple it ?_)
  have sz : ∀ ob, (s.heap.push ob).objs.size = s.heap.objs.size + 1 := fun ob => Heap.size_push ..
  refine ⟨s.heap.objs.size, [s.heap.objs.size, a], [s.heap.objs.size], _, _, _, _, fun i => ns.getD i 0, rfl, (Walks.tuple (A := X.A.in1) (I.ok.hd hc) s.heap.objs.size a (Nat.ne_of_lt lt) its.toArray).toS, ⟨⟨_, Heap.get?_push_size _ rfl, rfl, rfl⟩, it.push _⟩, fun b hb => ?_, fun i v hv => ?_, fun s' t' mv => ?_⟩
  · rw [sz]
    rcases List.mem_cons.mp hb with e1 | e1
    · rw [e1]; exact Nat.lt_succ_self _
    · rw [List.mem_singleton.mp e1]; exact Nat.lt_succ_of_lt lt
  · exact IntsAre.int_at hi i v (by simpa using hv)
  · obtain ⟨h', g', d', tk', os'⟩ := s'
    have e1 : g' = s.gens := mv.gens
    have e2 : d' = s.drawn := mv.drawn
    have e3 : os' = s.os := mv.os
    subst e1 e2 e3
    have kp : ∀ b o, s.heap.get? b = some o → h'.get? b = some o := fun b o q => mv.heap b o (by simp [Nat.ne_of_lt (Heap.lt_size q)]) (Heap.get?_push_of_some _ q)
    refine ⟨.int ns.sum, H, I.kept kp, ⟨t', ?_⟩, q⟩
    rw [hz, preSum_list]

def sumD (d : Dv) : MX Dv := fun E θ Q => match d with
  | .tup ds => (match intsD ds with
    | some ns => sumL ns E θ Q
    | none => False)
  | _ => False
theorem cm_sumT (c : Cf X) : CallM W (.builtin "sum") (k1 sumD) := cm_of (cr_sumT c.calm) fun {H α θ ds xs Qm Q} a r q u => by
  unfold k1 at q
  split at q
  · rename_i d
    obtain ⟨x, rfl, rx⟩ := one_of r
    unfold sumD at q
    split at q
    · rename_i es
      obtain ⟨p, vs, rfl, h1, h2⟩ := rp_tup rx
      split at q
      · rename_i ns e3
        have := intsD_v e3 h2
        subst this
        exact ⟨p, ns, rfl, SqT.of h1, up_same u a q rp_int⟩
      · exact False.elim q
    · exact False.elim q
  · exact False.elim q
/-! ### tuple(xs) of a list, known to be bare -/
def rTupP (K : PySem.W.Frag) : List V → Hp → VK → Prop := fun xs H Q => ∃ p ys, xs = [.ref p] ∧ SqL K H p ys ∧ ∀ l o, H l = none → (o.cls = .type "tuple" ∧ o.dict = none) → Q (.ref l) (upd H l (.frz o (.tup ys)))
theorem cr_tupP : CallR X (.type "tuple") (rTupP X.K) := by
  intro pins s σ H xs us Q I r h
  obtain ⟨p, ys, rfl, hq, q⟩ := h
  obtain ⟨its, rv, pl, hz⟩ := I.list hq
  rw [Vals.ref1 r]
  refine call_tuple_list pl.isList (fun h' kp => ?_) (by rw [List.size_toArray, ← rv.length]; exact hz)
  have I1 : Inv X pins σ H { s with heap := h' } := I.kept (t' := s.toks) kp
  refine ⟨.ref h'.objs.size, _, I1.laid (o := .frz { cls := .type "tuple", data := .seq its.toArray } (.tup ys)) (t' := s.toks) (fun b o e => Heap.get?_push_of_some _ e) (Nat.le_refl _) ⟨Heap.get?_push_size _ rfl, hz, its, rv, IsTup.new _ _⟩, rfl, q _ _ (I1.hok.fresh (Nat.le_refl _)) ⟨rfl, rfl⟩⟩
def tupPD (d : Dv) : MX Dv := fun _ θ Q => match d with
  | .obj k => (match θ[k]? with
    | some (.lst ds) => Q (.pt ds) θ
    | _ => False)
  | _ => False
theorem cm_tupP : CallM W (.type "tuple") (k1 tupPD) := cm_of cr_tupP fun {H α θ ds xs Qm Q} a r q u => by
  unfold k1 at q
  split at q
  · rename_i d
    obtain ⟨x, rfl, rx⟩ := one_of r
    unfold tupPD at q
    split at q
    · rename_i k
      split at q
      · rename_i es e2
        obtain ⟨p, vs, rfl, ep, h1, h2⟩ := a.lst e2 rx
        refine ⟨p, vs, rfl, SqL.of h1, fun l o hl ho => u (.pt es) θ α _ _ q (a.ok.new0 hl) (Nx.new0 hl) ?_⟩
        unfold Rp
        exact ⟨l, vs, o, rfl, upd_same, ho, h2.mono (Nx.new0 hl)⟩
      · exact q.elim
    · exact q.elim
  · exact False.elim q
/-! ### t.count(x) of a bare tuple -/
/-- a bare tuple's method -/
def tTM (r : V → List V → Hp → VK → Prop) (to : TE) (t : TA) : TE := fun σ H Q => to σ H fun x H1 => (∃ p o vs, x = .ref p ∧ H1 p = some (.frz o (.tup vs)) ∧ o.cls = .type "tuple" ∧ o.dict = none) ∧ t σ H1 fun xs H2 => r x xs H2 Q
theorem pe_tm {o e : Expr} {es : List Expr} {to : TE} {t : TA} {apos cpos : Pos} {name : Str} {id : String} {r : V → List V → Hp → VK → Prop} (slot : Slot "tuple" name id) (hty : typeOf (.builtin id) = pure (.type "method_descriptor")) (hm : MtR X id r) (ho : PE X o to) (ha : PA X (e :: es) t)
    (hbase : attributeBase o name X.env (eval o X.env) = eval o X.env := by rfl)
    (hfew : ((backTo cpos (starEach (e :: es) X.env)).all (fun x => !x.1) && (backToKw cpos (keywordEach [] X.env)).all (fun x => x.1.isSome) && decide ((e :: es).length + ([] : List Keyword).length + (if ([] : List Keyword).isEmpty then 0 else 1) < 30)) = true := by rfl)
    (hline : (apos.endLine == cpos.line) = true := by rfl) (hs : starEach (e :: es) X.env = (false, eval e X.env) :: starEach es X.env := by rfl) (hpl : (backTo cpos (starEach es X.env)).any (·.1) = false := by rfl) : PE X (.Call (.Attribute o name apos) (e :: es) [] cpos) (tTM r to t) := by
  constructor
  intro pins s σ H Q I h
  apply wpAny_Call_method_late hbase hfew hline rfl
  refine thn (ho.run pins s σ H _ I h) ?_
  rintro v s1 ⟨x, H1, I1, r1, ⟨p, ob, vs, rfl, hp, hc, hd⟩, q1⟩
  cases (show v = .ref p from r1)
  have hob := (I1.hok p _ hp).1
  refine ⟨"tuple", id, PySem.F.plainAttrs_tuple, slot, hty, ⟨ob, hob, hc⟩, fun a ea => by cases ea; exact ⟨ob, hob, hd⟩, ?_⟩
  have run := ha.run cpos pins s1 σ H1 _ I1 q1
  rw [hs] at run ⊢
  exact Calls.callWith_builtin (by show (false || (backTo cpos (starEach es X.env)).any (·.1)) = false; rw [hpl]; rfl) (Calls.evalArgs_plain (thn run fun us s2 ⟨ws, H2, I2, r2, q2⟩ => hm pins s2 σ H2 (.ref p) ws (.ref p) us Q I2 r1 r2 q2))
def rCntD (K : PySem.W.Frag) : V → List V → Hp → VK → Prop := fun x xs H Q => ∃ (a : Addr) (y : V) (d : PyData) (ds : List PyData), x = V.ref a ∧ xs = [y] ∧ Dp K H (V.ref a) (.tuple ds) ∧ Dp K H y d ∧ SeqAt.shaped (.tuple ds) = true ∧ SeqAt.shaped d = true ∧ Q (.int ((ds.countP fun z => PyData.eqv z d : Nat))) H
theorem mt_countD (hu : X.A.units + 65 < cLine) : MtR X "tuple.count" (rCntD X.K) := by
  intro pins s σ H x xs v us Q I rx rxs h
  obtain ⟨a, y, d, ds, rfl, rfl, hl, hy, sl, sd, q⟩ := h
  cases rx
  obtain ⟨uy, rfl, ry⟩ := rxs.one
  obtain ⟨bs, r1⟩ := Dp.reads I d y uy hy ry
  have lay : PyData.canLayAll0 ds = true := SeqAt.canLay_of_shaped sl
  have room := room_in_shaped (xs := ds) sd hu
  cases hl with
  | tup hs ha =>
    obtain ⟨its, rv, ⟨⟨cls, dd, data, sls⟩, ho, hc, n, hdt⟩, _⟩ := I.tuple hs
    simp only at hc hdt
    subst hc hdt
    obtain ⟨as, h4⟩ := Dp.readsAll I ds _ its ha rv
    have hmap : its.map (SeqAt.readOf s.heap) = ds := SeqAt.readsAll_map ds its as lay h4
    have cnt : its.toArray.toList.countP (fun u => PyData.eqv (SeqAt.readOf s.heap u) d) = ds.countP fun z => PyData.eqv z d := by rw [← hmap, List.countP_map]; rfl
    refine call_meets PySem.F.slot_tuple_count ⟨_, ho, rfl⟩ PySem.F.entry_tuple_count (PySem.F.args_tuple_count_2 _ _)
      (SeqAt.tuple_countAt a its.toArray n dd sls uy (fun u => PyData.eqv (SeqAt.readOf s.heap u) d)) ⟨ho, SeqAt.items_eqAt (vs := its.toArray) (show ReadsAll s.heap its.toArray.toList ds as from h4) r1 lay (SeqAt.canLay_of_shaped sd) room, ?_⟩
    exact ⟨.int _, H, I.tok _, ⟨s.toks, by rw [cnt]⟩, q⟩
def countD (d : Dv) (ds : List Dv) : MX Dv := fun _ θ Q => match d, ds with
  | .pt es, [y] => (match toPy θ 66 y, toPy θ 66 (.tup es) with
    | some d, some (.tuple ps) => SeqAt.shaped (.tuple ps) = true ∧ SeqAt.shaped d = true ∧ Q (.int (ps.countP fun z => PyData.eqv z d : Nat)) θ
    | _, _ => False)
  | _, _ => False
def mCnt (o : ME) (ms : DEnv → MX (List Dv)) : ME := fun ρ E θ Q => o ρ E θ fun d θ1 => (match d with
  | .pt _ => True
  | _ => False) ∧ ms ρ E θ1 fun ds θ2 => countD d ds E θ2 Q
theorem pm_cnt {o e : Expr} {es : List Expr} {mo : ME} {ms : DEnv → MX (List Dv)} {apos cpos : Pos} (c : Cf X) (ho : PE X o (tM W mo)) (ha : PA X (e :: es) (tMs W ms))
    (hbase : attributeBase o "count" X.env (eval o X.env) = eval o X.env := by rfl)
    (hfew : ((backTo cpos (starEach (e :: es) X.env)).all (fun x => !x.1) && (backToKw cpos (keywordEach [] X.env)).all (fun x => x.1.isSome) && decide ((e :: es).length + ([] : List Keyword).length + (if ([] : List Keyword).isEmpty then 0 else 1) < 30)) = true := by rfl)
    (hline : (apos.endLine == cpos.line) = true := by rfl) (hs : starEach (e :: es) X.env = (false, eval e X.env) :: starEach es X.env := by rfl) (hpl : (backTo cpos (starEach es X.env)).any (·.1) = false := by rfl) :
    PE X (.Call (.Attribute o "count" apos) (e :: es) [] cpos) (tM W (mCnt mo ms)) :=
  pe_w (pe_tm PySem.F.slot_tuple_count PySem.F.type_tuple_count (mt_countD (by have := c.un; omega)) ho ha hbase hfew hline hs hpl) fun σ H Q ⟨ρ, α, θ, Qm, at', rs, q, u⟩ => ⟨ρ, α, θ, _, at', rs, q, fun d θ1 α1 H1 v ⟨q0, q1⟩ ok1 nx1 r1 => by
    cases d with
    | pt es' =>
      have r1' := r1
      unfold Rp at r1
      obtain ⟨p, vs, ob, rfl, hp, hc, hr⟩ := r1
      refine ⟨⟨p, ob, vs, rfl, hp, hc.1, hc.2⟩, ρ, α1, θ1, _, ⟨ok1, at'.nx.trans nx1⟩, rs.mono nx1, q1, fun ds θ2 α2 H2 ws q2 ok2 nx2 r2 => ?_⟩
      unfold countD at q2
      split at q2
      · rename_i es2 y e1
        cases e1
        obtain ⟨vy, rfl, ry⟩ := one_of r2
        split at q2
        · rename_i d ps h1 h2
          have hp2 := nx2.fz p ob _ hp
          have dy : Dp X.K H2 vy d := toPy_dp ok2 _ _ _ _ h1 ry
          have rs2 : Rps X.K H2 α2 es' vs := hr.mono nx2
          have dt : Dp X.K H2 (.ref p) (.tuple ps) := by
            unfold toPy at h2
            obtain ⟨es3, h3, e3⟩ := Option.map_eq_some_iff.mp h2
            cases e3
            exact .tup (SqT.fz hp2) (dpAll_of (fun d v e => toPy_dp ok2 65 d v e) h3 rs2)
          exact ⟨p, vy, d, ps, rfl, rfl, dt, dy, q2.1, q2.2.1, up_same (W := W) (u.mono (nx1.trans nx2)) ⟨ok2, (at'.nx.trans nx1).trans nx2⟩ q2.2.2 rp_int⟩
        · exact q2.elim
      · exact q2.elim
    | _ => exact False.elim q0⟩
/-! ### n & 1 -/
def oAnd : Dv → Dv → MX Dv
  | .int i, .int j => fun _ θ Q => j = 1 ∧ ∃ n : Nat, i = n ∧ Q (.int ((n % 2 : Nat) : Int)) θ
  | _, _ => MX.stuck
theorem om_and : OpM W (binaryOp .BitAnd) oAnd := opm_of op_odd fun {H α θ dx dy x y Qm Q} a r1 r2 q u => by
  cases dx <;> cases dy <;> first | exact False.elim q | skip
  cases of_int r1; cases of_int r2
  obtain ⟨rfl, n, rfl, q⟩ := q
  exact ⟨n, rfl, rfl, up_same u a q rp_int⟩
/-! ### a, b = .. ; a += .. -/
theorem sm_tg {ts : List Expr} {k : Nat} {e : Expr} {m : ME} {T : Tg} {pos pos' : Pos} (he : PE X e (tM W m)) (hg : PG X (.Tuple ts k pos') (gT X.K T)) (hs : swapsWithSole [.Tuple ts k pos'] e pos.line X.env = pure false := by rfl) (hw : swappedStores [.Tuple ts k pos'] e X.env = pure none := by rfl)
    (h1 : (assignEach [.Tuple ts k pos'] X.env).map (·.2) = [assign (.Tuple ts k pos') X.env] := by rfl) : PS X (.Assign [.Tuple ts k pos'] e pos) (tS W (sAsg T m)) := sm_asg (ps_asg he hg hs hw h1)
end
end Mn

/-! Mn17: equations of what Mn16 has. -/
namespace Mn
open PySem PySem.Spec PyProof.Rows L2
section
variable {E : Exn → Th → Prop} {θ : Th} {ρ : DEnv} {a : ME} {ms : DEnv → MX (List Dv)}
def asgQ (o : Option DEnv) (θ : Th) (Q : Out → Th → Prop) : Prop := match o with
  | some ρ' => Q (.nx ρ') θ
  | none => False
theorem x_asg {T : Tg} {Q : Out → Th → Prop} : sAsg T a ρ E θ Q = a ρ E θ fun d θ1 => asgQ (asgT T d ρ) θ1 Q := by
  show (a ρ E θ fun d θ1 => (MX.opt (asgT T d ρ) : MX DEnv) E θ1 fun ρ' θ' => Q (.nx ρ') θ') = _
  congr 1
  funext d θ1
  cases asgT T d ρ <;> rfl
theorem x_asgQ {ρ' : DEnv} {Q : Out → Th → Prop} : asgQ (some ρ') θ Q = Q (.nx ρ') θ := (rfl)
theorem x_asgT2 {i j : Nat} {x y : Dv} : asgT (.tp [.nm i, .nm j]) (.tup [x, y]) ρ = some ((ρ.set i (some x)).set j (some y)) := (rfl)
variable {Q : Dv → Th → Prop}
theorem x_cnt : mCnt a ms ρ E θ Q = a ρ E θ fun d θ1 => (match d with
  | .pt _ => True
  | _ => False) ∧ ms ρ E θ1 fun ds θ2 => countD d ds E θ2 Q := (rfl)
theorem x_sumT2 {i j : Int} : sumD (.tup [.int i, .int j]) E θ Q = Q (.int (i + j)) θ := by
  show Q (.int [i, j].sum) θ = _
  simp
def tupPK (o : Option Ob) (θ : Th) (Q : Dv → Th → Prop) : Prop := match o with
  | some (.lst ds) => Q (.pt ds) θ
  | _ => False
theorem x_tupPD {k : Nat} : tupPD (.obj k) E θ Q = tupPK θ[k]? θ Q := (rfl)
theorem x_tupPL {ds : List Dv} : tupPK (some (.lst ds)) θ Q = Q (.pt ds) θ := (rfl)
theorem x_and1 {i : Nat} : oAnd (.int i) (.int 1) E θ Q = Q (.int ((i % 2 : Nat) : Int)) θ := by
  show (1 = 1 ∧ ∃ n : Nat, (i : Int) = n ∧ Q (.int ((n % 2 : Nat) : Int)) θ) = _
  refine propext ⟨fun ⟨_, n, e, q⟩ => ?_, fun q => ⟨rfl, i, rfl, q⟩⟩
  have : i = n := Int.ofNat.inj e
  rw [this]
  exact q
end
end Mn
namespace Mn
open PySem PySem.Spec PyProof.Rows L2
section
variable {E : Exn → Th → Prop} {θ : Th} {ρ : DEnv} {a : ME} {Q : Bool → Th → Prop}
def truK (E : Exn → Th → Prop) (Q : Bool → Th → Prop) : Dv → Th → Prop := fun x θ1 => truth x E θ1 Q
theorem x_bTru : bTru a ρ E θ Q = a ρ E θ (truK E Q) := (rfl)
theorem x_truB {b : Bool} : truK E Q (.bl b) θ = Q b θ := (rfl)
theorem x_truI {i : Int} : truK E Q (.int i) θ = Q (i != 0) θ := (rfl)
theorem x_truS {z : Str} : truK E Q (.str z) θ = (z.length ≤ sizeLine ∧ Q ((z.length : Int) != 0) θ) := (rfl)
end
end Mn
namespace Mn
open PySem PySem.Spec PyProof.Rows L2
section
variable {E : Exn → Th → Prop} {θ : Th} {Q : Dv → Th → Prop}
def slK (o : Option Ob) (lo hi : Option Int) (θ : Th) (Q : Dv → Th → Prop) : Prop := match o with
  | some (.lst ds) => Q (.obj θ.length) (θ ++ [.lst (cutD ds lo hi)])
  | _ => False
theorem x_slP {k : Nat} {lo hi : Option Int} : oSl (.obj k) lo hi E θ Q = slK θ[k]? lo hi θ Q := (rfl)
theorem x_slL {ds : List Dv} {lo hi : Option Int} : slK (some (.lst ds)) lo hi θ Q = Q (.obj θ.length) (θ ++ [.lst (cutD ds lo hi)]) := (rfl)
theorem x_slTu {ds : List Dv} {lo hi : Option Int} : oSl (.tup ds) lo hi E θ Q = Q (.tup (cutD ds lo hi)) θ := (rfl)
def addK (o o' : Option Ob) (θ : Th) (Q : Dv → Th → Prop) : Prop := match o, o' with
  | some (.lst a), some (.lst b) => a.length + b.length ≤ sizeLine ∧ Q (.obj θ.length) (θ ++ [.lst (a ++ b)])
  | _, _ => False
theorem x_addP {j k : Nat} : oAdd (.obj j) (.obj k) E θ Q = addK θ[j]? θ[k]? θ Q := (rfl)
theorem x_addL {a b : List Dv} : addK (some (.lst a)) (some (.lst b)) θ Q = (a.length + b.length ≤ sizeLine ∧ Q (.obj θ.length) (θ ++ [.lst (a ++ b)])) := (rfl)
end
end Mn

/-! Mn18: a part of a bare tuple; what a turn of a law's loop leaves behind. -/
namespace Mn
open PySem PySem.Spec PyProof.Rows L2
section
variable {X : Cx} {W : Wd X.K X.mg}
def wholeV (xs : List V) (lo hi : Option Int) : Prop := HT.sIx xs.length 0 lo = 0 ∧ HT.sIx xs.length xs.length hi = xs.length
def rSlP : V → Option Int → Option Int → Hp → VK → Prop := fun x lo hi H Q => ∃ a xs o, x = .ref a ∧ H a = some (.frz o (.tup xs)) ∧ (wholeV xs lo hi → Q (.ref a) H) ∧
  (¬ wholeV xs lo hi → ∀ p o', H p = none → (o'.cls = .type "tuple" ∧ o'.dict = none) → Q (.ref p) (upd H p (.frz o' (.tup (L2.cutV xs lo hi)))))
theorem sl_pt : SlR X rSlP := by
  rintro pins s σ H x v vl vu lo hi sl Q I rx hs pl pu ⟨a, xs, o, rfl, hx, q1, q2⟩
  cases rx
  have hq : SqT X.K H a xs := SqT.fz hx
  by_cases hw : wholeV xs lo hi
  · exact sl_tupA pins s σ H (.ref a) (.ref a) vl vu lo hi sl Q I (show L2.RelV (.ref a) (.ref a) from rfl) hs pl pu ⟨a, xs, rfl, hq, fun _ => q1 hw, fun h => (h hw).elim⟩
  · obtain ⟨its, r, ht, hz⟩ := I.tuple hq
    have len : its.toArray.size = xs.length := by rw [List.size_toArray, ← r.length]
    refine ⟨"tuple", _, PyProof.Rows.slot_tuple_getitem.lookup, ht.typeIs, HT.getItem_tuple_cut ht hs pl pu (len ▸ hw) ?_ (len ▸ hz)⟩
    rw [len]
    refine ⟨.ref s.heap.objs.size, _, I.laid (o := .frz { cls := .type "tuple", data := .seq ((its.drop (HT.sIx xs.length 0 lo)).take (HT.sIx xs.length xs.length hi - HT.sIx xs.length 0 lo)).toArray } (.tup (L2.cutV xs lo hi))) (t' := s.toks) (fun b ob q => Heap.get?_push_of_some _ q) (Nat.le_refl _)
      ⟨Heap.get?_push_size _ rfl, Nat.le_trans (cutV_length xs lo hi) hz, _, (r.drop _).take _, IsTup.new _ _⟩, rfl, q2 hw _ _ (I.hok.fresh (Nat.le_refl _)) ⟨rfl, rfl⟩⟩
def oSlP (x : Dv) (lo hi : Option Int) : MX Dv := fun _ θ Q => match x with
  | .pt ds => Q (.pt (Mn.cutD ds lo hi)) θ
  | _ => False
def mSlP (a : ME) (lo hi : DEnv → MX (Option Int)) : ME := fun ρ => do
  let x ← a ρ
  let l ← lo ρ
  let h ← hi ρ
  oSlP x l h
def rMsP (W : Wd X.K X.mg) : V → Option Int → Option Int → Hp → VK → Prop := fun x lo hi H Q => ∃ α θ dx Qm, At W H α θ ∧ Rp X.K H α dx x ∧ oSlP dx lo hi W.En θ Qm ∧ Up X.K H α Qm Q
theorem sl_ptM : SlR X (rMsP W) := SlR.w sl_pt fun x lo hi H Q ⟨α, θ, dx, Qm, a, r1, q, u⟩ => by
  unfold oSlP at q
  split at q
  · rename_i ds
    have r0 := r1
    unfold Rp at r1
    obtain ⟨p, vs, o, rfl, h1, h2, h3⟩ := r1
    refine ⟨p, vs, o, rfl, h1, fun e => up_same u a q ?_, fun _ l o' hl ho => u (.pt (Mn.cutD ds lo hi)) θ α _ _ q (a.ok.new0 hl) (Nx.new0 hl) ?_⟩
    · have e' : Mn.cutD ds lo hi = ds := by
        unfold Mn.cutD
        unfold wholeV at e
        rw [h3.length] at e
        rw [e.1, e.2]
        simp
      rw [e']
      exact r0
    · unfold Rp
      exact ⟨l, _, o', rfl, upd_same, ho, (cut_rps h3 lo hi).mono (Nx.new0 hl)⟩
  · exact q.elim
theorem pm_slP {e : Expr} {m : ME} {lo hi : Option Expr} {ml mh : DEnv → MX (Option Int)} {p2 pos : Pos} (he : PE X e (tM W m)) (hl : PO X lo (tMo W ml)) (hu : PO X hi (tMo W mh)) : PE X (.Subscript e (.Slice lo hi none p2) pos) (tM W (mSlP m ml mh)) :=
  pe_w (pe_slice sl_ptM he hl hu) fun σ H Q ⟨ρ, α, θ, Qm, at', rs, q, u⟩ => ⟨ρ, α, θ, _, at', rs, q, fun d θ1 α1 H1 v q1 ok1 nx1 r1 => ⟨ρ, α1, θ1, _, ⟨ok1, at'.nx.trans nx1⟩, rs.mono nx1, q1, fun o2 θ2 α2 H2 q2 ok2 nx2 =>
    ⟨ρ, α2, θ2, _, ⟨ok2, (at'.nx.trans nx1).trans nx2⟩, rs.mono (nx1.trans nx2), q2, fun o3 θ3 α3 H3 q3 ok3 nx3 => ⟨α3, θ3, d, Qm, ⟨ok3, ((at'.nx.trans nx1).trans nx2).trans nx3⟩, r1.mono (nx2.trans nx3), q3, u.mono ((nx1.trans nx2).trans nx3)⟩⟩⟩⟩
end
section
variable {E : Exn → Th → Prop} {θ : Th} {ρ : DEnv} {a : ME} {Q : Dv → Th → Prop}
theorem x_slPt {l h : DEnv → MX (Option Int)} : mSlP a l h ρ E θ Q = a ρ E θ fun x θ1 => l ρ E θ1 fun l' θ2 => h ρ E θ2 fun h' θ3 => oSlP x l' h' E θ3 Q := (rfl)
theorem x_slPu {ds : List Dv} {lo hi : Option Int} : oSlP (.pt ds) lo hi E θ Q = Q (.pt (Mn.cutD ds lo hi)) θ := (rfl)
/-! what a turn leaves behind is dropped -/
theorem lowE_nil {n : Nat} : lowE n [] := fun i d e => by simp at e
theorem lowE_none {n : Nat} {ρ : DEnv} (h : lowE n ρ) : lowE n (none :: ρ) := fun i d e => by
  cases i with
  | zero => cases e
  | succ i => exact h i d e
theorem lowE_some {n : Nat} {ρ : DEnv} {d : Dv} (hd : d.low n = true) (h : lowE n ρ) : lowE n (some d :: ρ) := fun i d' e => by
  cases i with
  | zero => cases e; exact hd
  | succ i => exact h i d' e
theorem cut_drop {θ g : Th} {ρ : DEnv} {Q : Out → Th → Prop} (lo : lowE θ.length ρ) (h : Q (.nx ρ) θ) : outCut θ Q (.nx ρ) (θ ++ g) := .inr ⟨ρ, θ, g, ρ, rfl, rfl, Nat.le_refl _, id, lo, ⟨rfl, fun _ _ e => e⟩, h⟩
end
end Mn

/-! Mn19: defs that call themselves, loops by while, small dicts and get. -/
namespace Mn
open PySem PySem.Spec PyProof.Rows L2
/-! ### a def that calls itself -/
/-- with no calls left -/
theorem fnM_stuck {P : Program} {w : World} {K : PySem.W.Frag} {mg : Str → Option Value} {base : Heap} {x qual : Str} {st : Stmt} {f : Addr} {fd : FuncData} {N ps : List Str} {k n : Nat} (F : Fun K x qual st f fd) (S : FnScope N ps (defScope st)) (hn : ps.length = n) : FnG P w K mg base CX0 (k + 1) f fd ps (spM K mg n fun _ => MX.stuck) := by
  obtain ⟨oc, od, kV, doc, pm, an, cdv, ct, osl, rfl, lk, hcd⟩ := F.ex
  refine fnG_of lk hcd S (fun vs H Q E h => by rw [spM_len h, hn]) fun A outer s H vs Q E gd hr hsp => ?_
  obtain ⟨α, θ, ds, En, Qm, h1, ok, rps, q, u, lnk⟩ := hsp
  exact False.elim q
/-! ### while -/
section
variable {E : Exn → Th → Prop} {θ : Th} {ρ : DEnv}
theorem x_while {c : DEnv → MX Bool} {b : MS} {Q : Out → Th → Prop} : sWhile c b ρ E θ Q = ∃ n, sWhileGo c b n ρ E θ Q := (rfl)
/-- m falls at each turn -/
theorem while_rule {c : DEnv → MX Bool} {b : MS} {Q : Out → Th → Prop} (I : Nat → DEnv → Th → Prop) {m : Nat} (h0 : I m ρ θ)
    (hs : ∀ m ρ θ, I m ρ θ → ∀ K : Bool → Th → Prop, (∀ θ1, (∀ K2 : Out → Th → Prop, LoopK (fun o θ' => ∃ m' ρ', o = .nx ρ' ∧ m' < m ∧ I m' ρ' θ') Q K2 → b ρ E θ1 K2) → K true θ1) → (∀ θ1, Q (.nx ρ) θ1 → K false θ1) → c ρ E θ K) : ∃ n, sWhileGo c b n ρ E θ Q := by
  have key : ∀ n m ρ θ, m < n → I m ρ θ → sWhileGo c b n ρ E θ Q := by
    intro n
    induction n with
    | zero => intro m ρ θ h; omega
    | succ n ih =>
      intro m ρ θ hm hI
      show c ρ E θ fun k θ1 => (if k then (do
        let o ← b ρ
        match o with
        | .nx ρ' => sWhileGo c b n ρ'
        | .ct ρ' => sWhileGo c b n ρ'
        | .bk ρ' => pure (.nx ρ')
        | .rt d => pure (.rt d) : MX Out) else pure (.nx ρ)) E θ1 Q
      refine hs m ρ θ hI _ (fun θ1 hb => ?_) (fun θ1 hq => hq)
      refine hb _ ⟨fun ρ' θ' ⟨m', ρ2, e, h1, h2⟩ => ?_, fun ρ' θ' ⟨m', ρ2, e, h1, h2⟩ => ?_, fun ρ' θ' q => q, fun d θ' q => q⟩
      · cases e; exact ih m' ρ' θ' (by omega) h2
      · cases e; exact ih m' ρ' θ' (by omega) h2
  exact ⟨m + 1, key (m + 1) m ρ θ (Nat.lt_succ_self _) h0⟩
end
/-! ### {a: b, c: d} and d.get(x, y) -/
def mDict2 (a b c d : ME) : ME := fun ρ E θ Q => a ρ E (θ ++ [.dK []]) fun x θ1 => b ρ E θ1 fun y θ2 => c ρ E θ2 fun x2 θ3 => d ρ E θ3 fun y2 θ4 => θ4[θ.length]? = some (.dK []) ∧ match fKey x, fKey x2 with
  | some k, some k2 => k ≠ k2 ∧ Q (.obj θ.length) (θ4.set θ.length (.dK [(k, y), (k2, y2)]))
  | _, _ => False
theorem merge2 {k k2 : Key} {v v2 : V} (h : k ≠ k2) : mergeK [] [(k, v), (k2, v2)] = [(k, v), (k2, v2)] := by
  unfold mergeK putK
  simp [h]
section
variable {X : Cx} {W : Wd X.K X.mg}
theorem pm_dict2 {k v k2 v2 : Expr} {a b c d : ME} {pos : Pos} (hk : PE X k (tM W a)) (hv : PE X v (tM W b)) (hk2 : PE X k2 (tM W c)) (hv2 : PE X v2 (tM W d)) : PE X (.Dict [some k, some k2] [v, v2] pos) (tM W (mDict2 a b c d)) :=
  pe_w (pe_disp (pps_cons hk hv (pps_cons hk2 hv2 pps_nil)) rfl rfl (by simp) (by simp)) fun σ H Q ⟨ρ, α, θ, Qm, at', rs, q, u⟩ p hp => by
    have nx : Nx X.K H α (upd H p (.dK [])) (α ++ [p]) := Nx.new hp _
    have ok := at'.ok.new (ob := .dK []) hp ⟨[], upd_same, by unfold RpK; rfl⟩
    have ep : (α ++ [p])[θ.length]? = some p := by rw [← at'.ok.len]; simp
    have n0 := at'.nx.trans nx
    refine ⟨ρ, _, _, _, ⟨ok, n0⟩, rs.mono nx, q, fun x θ1 α1 H1 v1 q1 ok1 nx1 r1 => ⟨ρ, α1, θ1, _, ⟨ok1, n0.trans nx1⟩, (rs.mono nx).mono nx1, q1, fun y θ2 α2 H2 v2 q2 ok2 nx2 r2 => ?_⟩⟩
    have n2 := nx1.trans nx2
    refine ⟨ρ, α2, θ2, _, ⟨ok2, n0.trans n2⟩, (rs.mono nx).mono n2, q2, fun x2 θ3 α3 H3 v3 q3 ok3 nx3 r3 => ⟨ρ, α3, θ3, _, ⟨ok3, (n0.trans n2).trans nx3⟩, ((rs.mono nx).mono n2).mono nx3, q3, fun y2 θ4 α4 H4 v4 q4 ok4 nx4 r4 => ?_⟩⟩
    obtain ⟨e4, q4⟩ := q4
    have n4 := (n2.trans nx3).trans nx4
    have ep4 := n4.at ep
    obtain ⟨vs, h1, h2⟩ := ok4.ob _ p _ ep4 e4
    unfold RpK at h2
    subst h2
    refine ⟨h1, ?_⟩
    split at q4
    · rename_i key key2 hk1 hk2
      have ex := fKey_v hk1 r1
      subst ex
      have ex := fKey_v hk2 r3
      subst ex
      have nx5 := Nx.chg (K := X.K) (o := .dK [(key, v2), (key2, v4)]) (ok4.ob _ p _ ep4 e4)
      refine ⟨[(key, v2), (key2, v4)], rfl, by simp, ?_⟩
      rw [merge2 q4.1]
      refine u _ _ α4 _ _ q4.2 (ok4.chg (ob := .dK [(key, y), (key2, y2)]) ep4 e4 ⟨_, upd_same, ?_⟩) ((nx.trans n4).trans nx5) (rp_obj ep4)
      unfold RpK
      refine ⟨v2, _, rfl, (r2.mono (nx3.trans nx4)).mono nx5, ?_⟩
      unfold RpK
      exact ⟨v4, [], rfl, r4.mono nx5, by unfold RpK; rfl⟩
    · exact q4.elim
def isDk (x : Dv) (θ : Th) : Prop := match x with
  | .obj j => (match θ[j]? with
    | some (.dK _) => True
    | _ => False)
  | _ => False
def dgK (x k v : Dv) (θ : Th) (Q : Dv → Th → Prop) : Prop := match x with
  | .obj j => (match θ[j]?, fKey k with
    | some (.dK kvs), some q => Q ((lookD kvs q).getD v) θ
    | _, _ => False)
  | _ => False
def mGet2 (d y z : ME) : ME := fun ρ E θ Q => d ρ E θ fun x θ1 => isDk x θ1 ∧ y ρ E θ1 fun k θ2 => z ρ E θ2 fun v θ3 => dgK x k v θ3 Q
theorem pm_get2 {o e f : Expr} {md my mz : ME} {apos cpos : Pos} (c : Cf X) (ho : PE X o (tM W md)) (he : PE X e (tM W my)) (hf : PE X f (tM W mz)) (m : M2 X o "get" apos e f cpos := by exact ⟨rfl, rfl, rfl, rfl⟩) : PE X (.Call (.Attribute o "get" apos) [e, f] [] cpos) (tM W (mGet2 md my mz)) :=
  pe_w (pe_dget2 (by have := c.un; omega) ho he hf m) fun σ H Q ⟨ρ, α, θ, Qm, at', rs, q, u⟩ => ⟨ρ, α, θ, _, at', rs, q, fun x θ1 α1 H1 v1 ⟨q0, q1⟩ ok1 nx1 r1 => by
    cases x with
    | obj j =>
      have q0' : (match θ1[j]? with
        | some (.dK _) => True
        | _ => False) := q0
      split at q0'
      · rename_i kvs ej
        have r1' := r1
        unfold Rp at r1
        obtain ⟨p, ep, rfl⟩ := r1
        obtain ⟨vs, h1, _⟩ := ok1.ob j p _ ep ej
        refine ⟨p, rfl, .inl ⟨vs, Rd.of h1⟩, ρ, α1, θ1, _, ⟨ok1, at'.nx.trans nx1⟩, rs.mono nx1, q1, fun y θ2 α2 H2 v2 q2 ok2 nx2 r2 => ⟨ρ, α2, θ2, _, ⟨ok2, (at'.nx.trans nx1).trans nx2⟩, (rs.mono nx1).mono nx2, q2, fun z θ3 α3 H3 v3 q3 ok3 nx3 r3 => ?_⟩⟩
        unfold dgK at q3
        dsimp only at q3
        split at q3
        · rename_i kvs3 q e3 ek
          have ep3 := (nx2.trans nx3).at ep
          obtain ⟨vs3, h3, h4⟩ := ok3.ob j p _ ep3 e3
          have ex := fKey_v ek r2
          subst ex
          have lk := h4.look q
          refine ⟨valV vs3 q, DGet.k h3, ?_⟩
          cases e : lookD kvs3 q with
          | none =>
            rw [e] at lk q3
            rw [lk]
            exact up_same (W := W) (u.mono ((nx1.trans nx2).trans nx3)) ⟨ok3, ((at'.nx.trans nx1).trans nx2).trans nx3⟩ q3 r3
          | some d =>
            rw [e] at lk q3
            obtain ⟨v', lk, rv⟩ := lk
            rw [lk]
            exact up_same (W := W) (u.mono ((nx1.trans nx2).trans nx3)) ⟨ok3, ((at'.nx.trans nx1).trans nx2).trans nx3⟩ q3 rv
        · exact q3.elim
      · exact q0'.elim
    | _ => exact False.elim q0⟩
end
end Mn

/-! Mn20: sorted, repeated, reversed tuples. -/
namespace Mn
open PySem PySem.Spec PyProof.Rows L2
section
variable {prog : Program} {w : World} {A : Around} {E : Value → Shared → Prop} {s : Shared}
/-- a new list with these items -/
abbrev gath (h : Heap) (vs : List Value) : Heap := (h.push (seqObj "list" #[] 0)).update h.objs.size (Obj.mapSeq (· ++ vs.toArray))
theorem collectT {l : Addr} {vs : List Value} {Q : List Value → Shared → Prop} (ht : IsTup s.heap l vs.toArray) (hz : vs.length ≤ sizeLine) (h : Q vs { s with heap := gath s.heap vs }) : wpAny (model prog w) A (collect (.ref l)) Q E s := by
  have ⟨o, o1, o2, n, o3⟩ := ht
  have old : (s.heap.push (seqObj "list" #[] 0)).get? l = some o := Heap.get?_push_of_some _ o1
  have new : (s.heap.push (seqObj "list" #[] 0)).get? s.heap.objs.size = some (seqObj "list" #[] 0) := Heap.get?_push_size _ rfl
  unfold collect
  apply wpAny_bind
  apply wpAny_runValue
  apply codeAny_builtin entry_proto_collect'
  show wpAny _ _ (do again (.builtin "list.__iadd__" ⟨[← newList [], .ref l], []⟩)) _ _ _
  apply wpAny_bind
  refine wpAny_newList ?_ (Nat.zero_le _)
  apply wpAny_pure
  refine ⟨Code.quiet_builtin _ (by decide +kernel), codeAny_builtin entry_list_iadd' ?_⟩
  show wpAny _ _ (Builtin.List.listExtendWith _ (.ref l) _) _ _ _
  unfold Builtin.List.listExtendWith
  apply wpAny_bind
  refine wpAny_typeOf (T := "tuple") ⟨o, old, o2⟩ ?_
  have t1 : (Value.type "tuple" == Value.type "list") = false := rfl
  have t2 : (Value.type "tuple" == Value.type "tuple") = true := rfl
  rw [t1, t2, Bool.or_true, if_pos rfl]
  apply wpAny_bind
  refine listItems_at old o3 ?_
  apply wpAny_bind
  refine listItems_at new rfl ?_
  rw [if_neg (by simp)]
  apply wpAny_bind
  refine listUpdate_at new rfl ?_ (Nat.zero_le _) ?_
  · apply wpAny_pure
    show wpAny _ A _ Q E { s with heap := gath s.heap vs }
    apply wpAny_bind
    refine wpAny_load (get?_update_seq new _) ?_
    apply wpAny_pure
    have e : ((#[] : Array Value) ++ vs.toArray).toList = vs := by simp
    rw [e]
    exact h
  · show (#[] ++ vs.toArray).size ≤ _
    simp
    omega
theorem sortedT {l : Addr} {vs : List Value} {lt : Value → Value → Bool} {Q : Value → Shared → Prop} (O : SrtO.Swo lt) (ht : IsTup s.heap l vs.toArray) (hz : vs.length ≤ sizeLine)
    (hS : 2 ≤ vs.length → ∀ (h₁ : Heap) (a : Addr), h₁.get? a = some (seqObj "list" vs.toArray 0) → (∀ b o, s.heap.get? b = some o → b ≠ a ∧ h₁.get? b = some o) → SrtO.SortableO prog w A.in1.in1 { s with heap := h₁ } a vs lt)
    (h : ∀ out : List Value, SrtO.Srtd lt out → SrtO.Stb lt out vs → Q (.ref (s.heap.objs.size + 1)) { s with heap := sortedAll s.heap vs out.toArray }) : wpAny (model prog w) A (call (.builtin "sorted") [.ref l]) Q E s := by
  apply Calls.call_function_entry kind_sorted plain_sorted entry_sorted (args_sorted1 _)
  unfold Builtin.«sorted»
  apply wpAny_bind (m := checkCount "sorted" 1 1 _)
  apply wpAny_pure
  apply wpAny_bind
  refine collectT ht hz ?_
  apply wpAny_bind
  refine wpAny_newList ?_ hz
  have sz : (gath s.heap vs).objs.size = s.heap.objs.size + 1 := by rw [Heap.size_update, size_push']
  have here : ((gath s.heap vs).push (seqObj "list" vs.toArray 0)).get? (s.heap.objs.size + 1) = some (seqObj "list" vs.toArray 0) := sz ▸ Heap.get?_push_size _ rfl
  have kp : ∀ b o, s.heap.get? b = some o → b ≠ s.heap.objs.size + 1 ∧ ((gath s.heap vs).push (seqObj "list" vs.toArray 0)).get? b = some o := by
    intro b o q
    have lt := Heap.lt_size q
    refine ⟨Nat.ne_of_lt (Nat.lt_succ_of_lt lt), Heap.get?_push_of_some _ ?_⟩
    unfold gath
    rw [Heap.get?_update_ne _ _ _ _ (Nat.ne_of_lt lt)]
    exact Heap.get?_push_of_some _ q
  show wpAny _ _ _ _ _ { s with heap := (gath s.heap vs).push (seqObj "list" vs.toArray 0) }
  rw [sz]
  apply wpAny_bind
  apply wpAny_holding
  refine wpAny_call_entry slot_list_sort ⟨_, here, rfl⟩ entry_list_sort (SrtO.list_sort_ord O here hz (fun h2 => hS h2 _ _ here kp) fun out a b => ⟨_, rfl, ?_⟩) (args_list_sort _)
  exact wpAny_pure ⟨_, rfl, h out a b⟩
end
section
variable {X : Cx} {W : Wd X.K X.mg}
def rSortT (K : PySem.W.Frag) : List V → Hp → VK → Prop := fun vs H Q => ∃ (a : Addr) (ns : List Int), vs = [V.ref a] ∧ SqT K H a (ns.map V.int) ∧ ∀ (ns' : List Int) (p : Addr), ns'.Perm ns → ns'.Pairwise (· ≤ ·) → H p = none → Q (.ref p) (upd H p (.lst (ns'.map V.int)))
theorem cr_sortT : CallR X (.builtin "sorted") (rSortT X.K) := by
  intro pins s σ H vs us Q I r h
  obtain ⟨a, ns, rfl, hs, q⟩ := h
  obtain ⟨its, rv, ht, hz⟩ := I.tuple hs
  rw [Vals.ref1 r]
  have hi := rv.ints
  refine sortedT SrtO.swo_int ht (by rw [← rv.length]; exact hz) (fun h2 h₁ a' _ _ => SrtO.ints_sortable hi h2) fun out b1 b2 => ?_
  obtain ⟨k1, k2, k3⟩ := SrtO.ints_out hi b1 b2
  obtain ⟨ep, he⟩ := PyProof.Rows.sortedAll_at s.heap its out.toArray
  have len : ((out.map SrtO.iv).map V.int).length ≤ sizeLine := by
    rw [List.length_map] at hz ⊢
    rw [k2.length_eq]
    exact hz
  refine ⟨.ref _, upd H (s.heap.objs.size + 1) (.lst ((out.map SrtO.iv).map V.int)), I.laid (t' := s.toks) (fun _ _ => PyProof.Rows.sortedAll_old) (Nat.le_succ _) ?_, rfl, q _ _ k2 k3 (I.hok.fresh (Nat.le_succ _))⟩
  exact ⟨len, out, ep, vals_of_ints k1, he⟩
def sortTD (d : Dv) : MX Dv := fun E θ Q => match d with
  | .tup ds => (match intsD ds with
    | some ns => sortL ns E θ Q
    | none => False)
  | _ => False
theorem cm_sortT : CallM W (.builtin "sorted") (k1 sortTD) := cm_of cr_sortT fun {H α θ ds xs Qm Q} a r q u => by
  unfold k1 at q
  split at q
  · rename_i d
    obtain ⟨x, rfl, rx⟩ := one_of r
    unfold sortTD at q
    split at q
    · rename_i es
      obtain ⟨p, vs, rfl, h1, h2⟩ := rp_tup rx
      split at q
      · rename_i ns e3
        have := intsD_v e3 h2
        subst this
        exact ⟨p, ns, rfl, SqT.of h1, fun ns' b h1 h2 hb => up_lst u a (q ns' h1 h2) (rps_ints ns') b hb⟩
      · exact False.elim q
    · exact False.elim q
  · exact False.elim q
end
end Mn

/-! Mn21: t[::-1], t * n. -/
namespace Mn
open PySem PySem.Spec PyProof.Rows L2
section
variable {prog : Program} {w : World} {A : Around} {E : Value → Shared → Prop} {s : Shared}
theorem fm_all {α β : Type} {f : α → Option β} {g : α → β} : ∀ {l : List α}, (∀ m ∈ l, f m = some (g m)) → l.filterMap f = l.map g
  | [], _ => rfl
  | x :: l, h => by
    rw [List.filterMap_cons, h x List.mem_cons_self, fm_all fun m hm => h m (List.mem_cons_of_mem _ hm)]
    rfl
theorem rev_pick (xs : Array Value) : ((List.range xs.size).filterMap fun (m : Nat) => xs[((xs.size : Int) - 1 + (m : Int) * -1).toNat]?) = xs.toList.reverse := by
  rw [fm_all (g := fun m => xs.toList.getD (xs.size - 1 - m) .none) fun m hm => ?_]
  · apply List.ext_getElem?
    intro i
    by_cases hi : i < xs.size
    · have lt : xs.size - 1 - i < xs.size := by omega
      rw [List.getElem?_reverse (by simpa using hi), List.getElem?_map, List.getElem?_range hi]
      simp [lt, List.getD_eq_getElem?_getD]
    · rw [List.getElem?_eq_none (by simp; omega), List.getElem?_eq_none (by simp; omega)]
  · have hm := List.mem_range.mp hm
    have e1 : ((xs.size : Int) - 1 + (m : Int) * -1).toNat = xs.size - 1 - m := by omega
    have lt : xs.size - 1 - m < xs.size := by omega
    rw [e1]
    simp [lt, List.getD_eq_getElem?_getD]
theorem rev_applied {sl : Addr} {u : Tok} {n : Nat} {Q : Int × Int × Nat → Shared → Prop} (hn : 0 < n) (hs : s.heap.IsSliceOf sl .none .none (.int (-1) u)) (h : Q ((n : Int) - 1, -1, n) s) : wpAny (model prog w) A (Builtin.Slice.sliceApplied (.ref sl) (pure (n : Int))) Q E s := by
  have ⟨os, h1, h2, h3⟩ := hs
  unfold Builtin.Slice.sliceApplied Builtin.Slice.sliceFields
  apply wpAny_bind
  apply wpAny_bind
  refine wpAny_field h1 h3 (x := .none) rfl ?_
  apply wpAny_bind
  refine wpAny_field h1 h3 (x := .none) rfl ?_
  apply wpAny_bind
  refine wpAny_field h1 h3 (x := .int (-1) u) rfl ?_
  apply wpAny_pure
  apply wpAny_bind
  refine slicePart_int ?_
  show wpAny _ _ (if ((-1 : Int) == 0) = true then _ else _) _ _ s
  rw [if_neg (by decide)]
  apply wpAny_bind
  refine slicePart_none ?_
  apply wpAny_bind
  refine slicePart_none ?_
  apply wpAny_bind
  apply wpAny_pure
  have e : Builtin.Slice.slicePlaces ((n : Int) - 1) (-1) (-1) = n := by
    unfold Builtin.Slice.slicePlaces
    have a1 : ¬ ((-1 : Int) > 0) := by omega
    have a2 : (n : Int) - 1 > -1 := by omega
    rw [if_neg a1, if_pos a2]
    show (((n : Int) - 1 - -1 - 1) / 1 + 1).toNat = n
    rw [Int.ediv_one]
    omega
  show wpAny _ _ (pure ((n : Int) - 1, (-1 : Int), Builtin.Slice.slicePlaces ((n : Int) - 1) (-1) (-1))) _ _ s
  rw [e]
  exact wpAny_pure h
theorem rev_item {t sl : Addr} {items : Array Value} {u : Tok} {Q : Value → Shared → Prop} (ht : IsTup s.heap t items) (hn : 0 < items.size) (hs : s.heap.IsSliceOf sl .none .none (.int (-1) u)) (hz : items.size ≤ sizeLine)
    (h : Q (.ref s.heap.objs.size) { s with heap := s.heap.push { cls := .type "tuple", data := .seq items.toList.reverse.toArray } }) : wpAny (model prog w) A (getItem (.ref t) (.ref sl)) Q E s := by
  have ok : sizeOk (.seq items.toList.reverse.toArray) := by
    show items.toList.reverse.toArray.size ≤ sizeLine
    simpa using hz
  have ⟨os, o1, o2, o3⟩ := hs
  have ty : s.TypeIs (.ref sl) "slice" := ⟨os, o1, o2⟩
  unfold getItem
  apply wpAny_holding
  apply wpAny_bind
  refine wpAny_sequenceKey ht.typeIs (by decide) ?_
  apply wpAny_bind
  refine wpAny_callSpecial?_slot (name := Str.ofString "__getitem__") ht.typeIs PyProof.Rows.slot_tuple_getitem (wpAny_call_entry PyProof.Rows.slot_tuple_getitem ht.typeIs entry_tuple_getitem ?_ (args_tuple_getitem _ _))
  show wpAny _ _ (Builtin.Tuple.tupleItemsOf (.ref t) >>= _) _ _ s
  apply wpAny_bind
  refine tupleItemsOf_ ht ?_
  apply wpAny_bind
  refine wpAny_typeOf ty ?_
  rw [if_pos (by decide)]
  apply wpAny_bind
  refine rev_applied hn hs ?_
  show wpAny _ _ (if ((items.size : Int) - 1 == 0 && (-1 : Int) == 1 && items.size == items.size) = true then _ else _) _ _ s
  rw [if_neg (by simp), rev_pick]
  first
    | exact wpAny_bind (m := Builtin.Tuple.tupleExact _) (wpAny_newObj_type (wpAny_pure ⟨_, rfl, wpAny_pure h⟩) ok)
    | exact wpAny_bind (wpAny_bind (m := Builtin.Tuple.tupleExact _) (wpAny_newObj_type (wpAny_pure ⟨_, rfl, wpAny_pure h⟩) ok))
    | exact wpAny_bind (m := Builtin.Tuple.tupleExact _) (wpAny_newObj_type (wpAny_bind (wpAny_pure (wpAny_pure ⟨_, rfl, wpAny_pure h⟩))) ok)
    | exact wpAny_bind (wpAny_bind (m := Builtin.Tuple.tupleExact _) (wpAny_newObj_type (wpAny_pure (wpAny_pure ⟨_, rfl, wpAny_pure h⟩)) ok))
end

section
variable {X : Cx} {W : Wd X.K X.mg}
def tRevT (K : PySem.W.Frag) (te : TE) : TE := fun σ H Q => te σ H fun x H1 => ∃ a xs, x = .ref a ∧ SqT K H1 a xs ∧ xs ≠ [] ∧ ∀ p, H1 p = none → Q (.ref p) (upd H1 p (.tup xs.reverse))
theorem pe_revT {e : Expr} {te : TE} {k : Nat} {p1 p2 p3 pos : Pos} (he : PE X e te) : PE X (.Subscript e (.Slice none none (some (.UnaryOp .USub (.Constant (.int 1) k p1) p2)) p3) pos) (tRevT X.K te) := by
  constructor
  intro pins s σ H Q I h
  apply Subscript_
  refine thn (he.run pins s σ H _ I h) ?_
  rintro v s1 ⟨x, H1, I1, r1, a, xs, rfl, hx, hne, q⟩
  cases r1
  have step : PO X (some (.UnaryOp .USub (.Constant (.int 1) k p1) p2)) (tPart (tUn (rU fun i => .int (-i)) (tC (.int 1)))) := po_some (pe_un un_neg pe_int)
  apply wpAny_Slice
  refine thn (po_none.run pins s1 σ H1 (fun o G => o = none ∧ G = H1) I1 ⟨rfl, rfl⟩) ?_
  rintro vl s2 ⟨o1, G1, I2, pl, rfl, rfl⟩
  refine thn (po_none.run pins s2 σ G1 (fun o G => o = none ∧ G = G1) I2 ⟨rfl, rfl⟩) ?_
  rintro vu s3 ⟨o2, G2, I3, pu, rfl, rfl⟩
  refine thn (step.run pins s3 σ G2 (fun o G => o = some (-1) ∧ G = G2) I3 ⟨1, rfl, -1, rfl, rfl, rfl⟩) ?_
  rintro vs s4 ⟨o3, G3, I4, ps, rfl, rfl⟩
  cases pl
  cases pu
  cases ps
  rename_i u
  have I5 : Inv X pins σ G3 { s4 with heap := s4.heap.push { cls := .type "slice", data := .fields #[.none, .none, .int (-1) u] } } := I4.kept (t' := s4.toks) fun b ob z => Heap.get?_push_of_some _ z
  obtain ⟨its, r, ht, hz⟩ := I5.tuple hx
  have len : its.toArray.size = xs.length := by rw [List.size_toArray, ← r.length]
  show wpAny _ _ (subscriptTail e (.Slice none none (some (.UnaryOp .USub (.Constant (.int 1) k p1) p2)) p3) (.ref a) (.ref s4.heap.objs.size)) _ _ { s4 with heap := s4.heap.push { cls := .type "slice", data := .fields #[.none, .none, .int (-1) u] } }
  refine tail_any (ops := [.ref a, .ref s4.heap.objs.size]) ht.typeIs PyProof.Rows.slot_tuple_getitem.lookup ?_ (by with_unfolding_all rfl)
  refine rev_item ht (by rw [len]; exact List.length_pos_iff.mpr hne) (Heap.IsSliceOf.new _ .none .none (.int (-1) u)) (len ▸ hz) ?_
  refine ⟨.ref _, _, I5.laid (o := .tup xs.reverse) (t' := s4.toks) (fun b ob z => Heap.get?_push_of_some _ z) (Nat.le_refl _) ⟨by rw [List.length_reverse]; exact hz, its.reverse, r.reverse, ?_⟩, rfl, q _ (I5.hok.fresh (Nat.le_refl _))⟩
  have e : its.toArray.toList.reverse.toArray = its.reverse.toArray := rfl
  rw [e]
  exact IsTup.new _ _
def revD (d : Dv) : MX Dv := fun _ θ Q => match d with
  | .tup ds => ds ≠ [] ∧ Q (.tup ds.reverse) θ
  | _ => False
def mRev (a : ME) : ME := fun ρ E θ Q => a ρ E θ fun d θ1 => revD d E θ1 Q
theorem pm_rev {e : Expr} {m : ME} {k : Nat} {p1 p2 p3 pos : Pos} (he : PE X e (tM W m)) : PE X (.Subscript e (.Slice none none (some (.UnaryOp .USub (.Constant (.int 1) k p1) p2)) p3) pos) (tM W (mRev m)) :=
  pe_w (pe_revT he) fun σ H Q ⟨ρ, α, θ, Qm, at', rs, q, u⟩ => ⟨ρ, α, θ, _, at', rs, q, fun d θ1 α1 H1 v q1 ok1 nx1 r1 => by
    cases d with
    | tup ds =>
      obtain ⟨p, vs, rfl, h1, h2⟩ := rp_tup r1
      have q1 : ds ≠ [] ∧ Qm (.tup ds.reverse) θ1 := q1
      refine ⟨p, vs, rfl, SqT.of h1, fun e => q1.1 ?_, fun b hb => up_tup (W := W) (u.mono nx1) ⟨ok1, at'.nx.trans nx1⟩ q1.2 h2.reverse b hb⟩
      have := h2.length
      rw [e] at this
      exact List.eq_nil_of_length_eq_zero this.symm
    | _ => exact False.elim q1⟩
/-! ### t * n -/
def oMulT : Dv → Dv → MX Dv
  | .tup ds, .int k => fun _ θ Q => ds ≠ [] ∧ 2 ≤ k ∧ k ≤ 1000 ∧ ds.length ≤ 1000 ∧ Q (.tup (List.replicate k.toNat ds).flatten) θ
  | _, _ => MX.stuck
theorem Rps.rep {K : PySem.W.Frag} {H : Hp} {α : List Addr} {ds : List Dv} {vs : List V} (h : Rps K H α ds vs) : ∀ n, Rps K H α (List.replicate n ds).flatten (List.replicate n vs).flatten
  | 0 => Rps.nil
  | n + 1 => by
    rw [List.replicate_succ, List.replicate_succ, List.flatten_cons, List.flatten_cons]
    exact Rps.append h (Rps.rep h n)
theorem om_mulT : OpM W (binaryOp .Mult) oMulT := opm_of op_repT fun {H α θ dx dy x y Qm Q} a r1 r2 q u => by
  cases dx <;> cases dy <;> first | exact False.elim q | skip
  rename_i ds k
  obtain ⟨p, vs, rfl, h1, h2⟩ := rp_tup r1
  cases of_int r2
  obtain ⟨q1, q2, q3, q4, q⟩ := q
  refine ⟨p, k, vs, rfl, rfl, SqT.of h1, fun e => q1 ?_, q2, q3, by rw [h2.length]; exact q4, fun b hb => up_tup u a q (h2.rep _) b hb⟩
  have := h2.length
  rw [e] at this
  exact List.eq_nil_of_length_eq_zero this.symm
end
end Mn

/-! Sp1: what the laws' helpers do. -/
namespace Sp
open PySem PySem.Spec PyProof.Rows L2 Mn
variable {E : Exn → Th → Prop} {θ : Th} {Q : Dv → Th → Prop}
/-- the store of a law: the digits, the box -/
def bx (ds : List Int) (at_ : Nat) : Th := [.lst (ds.map Dv.int), .lst [.obj 0, .int at_]]
theorem bx0 {ds : List Int} {a : Nat} {g : Th} : (bx ds a ++ g)[0]? = some (.lst (ds.map Dv.int)) := rfl
theorem bx1 {ds : List Int} {a : Nat} {g : Th} : (bx ds a ++ g)[1]? = some (.lst [.obj 0, .int a]) := rfl
theorem bx_set {ds : List Int} {a : Nat} {g : Th} : (bx ds a ++ g).set 1 (.lst [.obj 0, .int ((a : Int) + 1)]) = bx ds (a + 1) ++ g := rfl
theorem bx_len {ds : List Int} {a : Nat} : (bx ds a).length = 2 := rfl
theorem ix12 {x y : Dv} : ixN [x, y].length 1 = some 1 := rfl
theorem s_draw {ds : List Int} {a : Nat} {g : Th} {many : Int} (hm : 0 < many) (hQ : ∀ v : Int, 0 ≤ v → v < many → Q (.int v) (bx ds (a + 1) ++ g)) : Cm.c__law_draw [.obj 1, .int many] E (bx ds a ++ g) Q := by
  unfold Cm.c__law_draw Cm.m__law_draw
  simp only [x_var0, x_varS, x_c, x_bin, x_un, x_and, x_or, x_andK, x_orK, x_not, x_if, x_tup, x_lst, x_sl, x_call, x_callU, x_mth, x_isi, x_chain, x_chK, x_k1, x_tupRg, x_lstRg, x_lc, x_addI, x_addS, x_addT, x_subI, x_mulI, x_fdiv, x_mod, x_pow, x_lt, x_le, x_gt, x_ge, x_eqI, x_eqB, x_eqS, x_neI, x_neB, x_isB, x_isnB, x_neg, x_int, x_intB, x_lenT, x_lenS, x_tupT, x_lstT, x_ixT, x_ixR, x_optW, x_nil, x_cons, x_bB, x_boolK, x_bAnd, x_bOr, x_bNot, x_bYes, x_pNo, x_pSo, x_part, x_rng1, x_rng2, x_rng3, x_rk1, x_rk2, x_rk3, x_srcEn, x_srcZp, x_ekT, x_zkT, x_srcV, x_srcT, x_seq, x_seqN, x_seqR, x_seqB, x_seqC, x_sNil, x_set, x_drop, x_ret, x_retN, x_sIf, x_brk, x_ct, x_put, x_for, x_def, x_defR, x_defN, x_ixP, x_ixL, x_lenP, x_lenL, x_tupP, x_tupL, x_tupKK, x_lstP, x_lstL, x_appP, x_appL, x_tyP, x_tyL, x_tyK, x_tyT, x_putP, x_putL, x_putI, x_putKK, x_srcP, x_srcL, List.map_cons, List.map_nil, List.replicate, List.cons_append, List.nil_append, List.set_cons_zero, List.set_cons_succ, bx1, bx0, at_0, at_1, ix12, bx_set, List.length_map]
  by_cases h : a < ds.length
  · rw [if_pos (decide_eq_true (by omega))]
    have e : atI (ds.map Dv.int) (a : Int) = some (.int ds[a]) := at_nat (by simp [h])
    simp only [x_var0, x_varS, x_c, x_bin, x_un, x_and, x_or, x_andK, x_orK, x_not, x_if, x_tup, x_lst, x_sl, x_call, x_callU, x_mth, x_isi, x_chain, x_chK, x_k1, x_tupRg, x_lstRg, x_lc, x_addI, x_addS, x_addT, x_subI, x_mulI, x_fdiv, x_mod, x_pow, x_lt, x_le, x_gt, x_ge, x_eqI, x_eqB, x_eqS, x_neI, x_neB, x_isB, x_isnB, x_neg, x_int, x_intB, x_lenT, x_lenS, x_tupT, x_lstT, x_ixT, x_ixR, x_optW, x_nil, x_cons, x_bB, x_boolK, x_bAnd, x_bOr, x_bNot, x_bYes, x_pNo, x_pSo, x_part, x_rng1, x_rng2, x_rng3, x_rk1, x_rk2, x_rk3, x_srcEn, x_srcZp, x_ekT, x_zkT, x_srcV, x_srcT, x_seq, x_seqN, x_seqR, x_seqB, x_seqC, x_sNil, x_set, x_drop, x_ret, x_retN, x_sIf, x_brk, x_ct, x_put, x_for, x_def, x_defR, x_defN, x_ixP, x_ixL, x_lenP, x_lenL, x_tupP, x_tupL, x_tupKK, x_lstP, x_lstL, x_appP, x_appL, x_tyP, x_tyL, x_tyK, x_tyT, x_putP, x_putL, x_putI, x_putKK, x_srcP, x_srcL, List.map_cons, List.map_nil, List.replicate, List.cons_append, List.nil_append, List.set_cons_zero, List.set_cons_succ, e]
    exact ⟨hm, end_same (hQ _ (Int.emod_nonneg _ (by omega)) (Int.emod_lt_of_pos _ hm))⟩
  · rw [if_neg (by simpa using h)]
    exact end_same (hQ 0 (by omega) hm)
theorem s_pick {ds : List Int} {a : Nat} {g : Th} {k : Nat} {xs : List Dv} (hk : (bx ds a ++ g)[k]? = some (.lst xs)) (k2 : 2 ≤ k) (hn : 0 < xs.length) (hQ : ∀ x, x ∈ xs → Q x (bx ds (a + 1) ++ g)) : Cm.c__law_pick [.obj 1, .obj k] E (bx ds a ++ g) Q := by
  unfold Cm.c__law_pick Cm.m__law_pick
  simp only [x_var0, x_varS, x_c, x_bin, x_un, x_and, x_or, x_andK, x_orK, x_not, x_if, x_tup, x_lst, x_sl, x_call, x_callU, x_mth, x_isi, x_chain, x_chK, x_k1, x_tupRg, x_lstRg, x_lc, x_addI, x_addS, x_addT, x_subI, x_mulI, x_fdiv, x_mod, x_pow, x_lt, x_le, x_gt, x_ge, x_eqI, x_eqB, x_eqS, x_neI, x_neB, x_isB, x_isnB, x_neg, x_int, x_intB, x_lenT, x_lenS, x_tupT, x_lstT, x_ixT, x_ixR, x_optW, x_nil, x_cons, x_bB, x_boolK, x_bAnd, x_bOr, x_bNot, x_bYes, x_pNo, x_pSo, x_part, x_rng1, x_rng2, x_rng3, x_rk1, x_rk2, x_rk3, x_srcEn, x_srcZp, x_ekT, x_zkT, x_srcV, x_srcT, x_seq, x_seqN, x_seqR, x_seqB, x_seqC, x_sNil, x_set, x_drop, x_ret, x_retN, x_sIf, x_brk, x_ct, x_put, x_for, x_def, x_defR, x_defN, x_ixP, x_ixL, x_lenP, x_lenL, x_tupP, x_tupL, x_tupKK, x_lstP, x_lstL, x_appP, x_appL, x_tyP, x_tyL, x_tyK, x_tyT, x_putP, x_putL, x_putI, x_putKK, x_srcP, x_srcL, List.map_cons, List.map_nil, List.replicate, List.cons_append, List.nil_append, List.set_cons_zero, List.set_cons_succ]
  refine ⟨rfl, s_draw (by decide) fun v h0 h1 => ?_⟩
  have hk2 : (bx ds (a + 1) ++ g)[k]? = some (.lst xs) := by
    match k, k2, hk with
    | k + 2, _, hk => exact hk
  simp only [x_var0, x_varS, x_c, x_bin, x_un, x_and, x_or, x_andK, x_orK, x_not, x_if, x_tup, x_lst, x_sl, x_call, x_callU, x_mth, x_isi, x_chain, x_chK, x_k1, x_tupRg, x_lstRg, x_lc, x_addI, x_addS, x_addT, x_subI, x_mulI, x_fdiv, x_mod, x_pow, x_lt, x_le, x_gt, x_ge, x_eqI, x_eqB, x_eqS, x_neI, x_neB, x_isB, x_isnB, x_neg, x_int, x_intB, x_lenT, x_lenS, x_tupT, x_lstT, x_ixT, x_ixR, x_optW, x_nil, x_cons, x_bB, x_boolK, x_bAnd, x_bOr, x_bNot, x_bYes, x_pNo, x_pSo, x_part, x_rng1, x_rng2, x_rng3, x_rk1, x_rk2, x_rk3, x_srcEn, x_srcZp, x_ekT, x_zkT, x_srcV, x_srcT, x_seq, x_seqN, x_seqR, x_seqB, x_seqC, x_sNil, x_set, x_drop, x_ret, x_retN, x_sIf, x_brk, x_ct, x_put, x_for, x_def, x_defR, x_defN, x_ixP, x_ixL, x_lenP, x_lenL, x_tupP, x_tupL, x_tupKK, x_lstP, x_lstL, x_appP, x_appL, x_tyP, x_tyL, x_tyK, x_tyT, x_putP, x_putL, x_putI, x_putKK, x_srcP, x_srcL, List.map_cons, List.map_nil, List.replicate, List.cons_append, List.nil_append, List.set_cons_zero, List.set_cons_succ, hk2]
  refine ⟨by omega, ?_⟩
  have h2 := Int.emod_nonneg v (show (xs.length : Int) ≠ 0 by omega)
  have h3 := Int.emod_lt_of_pos v (show 0 < (xs.length : Int) by omega)
  have h4 : (v % (xs.length : Int)).toNat < xs.length := by omega
  have e : atI xs (v % (xs.length : Int)) = some xs[(v % (xs.length : Int)).toNat] := at_int h2 (by simp [h4])
  simp only [x_var0, x_varS, x_c, x_bin, x_un, x_and, x_or, x_andK, x_orK, x_not, x_if, x_tup, x_lst, x_sl, x_call, x_callU, x_mth, x_isi, x_chain, x_chK, x_k1, x_tupRg, x_lstRg, x_lc, x_addI, x_addS, x_addT, x_subI, x_mulI, x_fdiv, x_mod, x_pow, x_lt, x_le, x_gt, x_ge, x_eqI, x_eqB, x_eqS, x_neI, x_neB, x_isB, x_isnB, x_neg, x_int, x_intB, x_lenT, x_lenS, x_tupT, x_lstT, x_ixT, x_ixR, x_optW, x_nil, x_cons, x_bB, x_boolK, x_bAnd, x_bOr, x_bNot, x_bYes, x_pNo, x_pSo, x_part, x_rng1, x_rng2, x_rng3, x_rk1, x_rk2, x_rk3, x_srcEn, x_srcZp, x_ekT, x_zkT, x_srcV, x_srcT, x_seq, x_seqN, x_seqR, x_seqB, x_seqC, x_sNil, x_set, x_drop, x_ret, x_retN, x_sIf, x_brk, x_ct, x_put, x_for, x_def, x_defR, x_defN, x_ixP, x_ixL, x_lenP, x_lenL, x_tupP, x_tupL, x_tupKK, x_lstP, x_lstL, x_appP, x_appL, x_tyP, x_tyL, x_tyK, x_tyT, x_putP, x_putL, x_putI, x_putKK, x_srcP, x_srcL, List.map_cons, List.map_nil, List.replicate, List.cons_append, List.nil_append, List.set_cons_zero, List.set_cons_succ, e]
  exact end_same (hQ _ (List.getElem_mem _))
theorem s_cell {ns : List Int} {k : Int} (h0 : 0 ≤ k) (hQ : ∀ v : Int, Q (.int v) θ) : Cm.c__law_cell [.scr ns, .int k] E θ Q := by
  unfold Cm.c__law_cell Cm.m__law_cell
  simp only [x_var0, x_varS, x_c, x_bin, x_un, x_and, x_or, x_andK, x_orK, x_not, x_if, x_tup, x_lst, x_sl, x_call, x_callU, x_mth, x_isi, x_chain, x_chK, x_k1, x_tupRg, x_lstRg, x_lc, x_addI, x_addS, x_addT, x_subI, x_mulI, x_fdiv, x_mod, x_pow, x_lt, x_le, x_gt, x_ge, x_eqI, x_eqB, x_eqS, x_neI, x_neB, x_isB, x_isnB, x_neg, x_int, x_intB, x_lenT, x_lenS, x_tupT, x_lstT, x_ixT, x_ixR, x_optW, x_nil, x_cons, x_bB, x_boolK, x_bAnd, x_bOr, x_bNot, x_bYes, x_pNo, x_pSo, x_part, x_rng1, x_rng2, x_rng3, x_rk1, x_rk2, x_rk3, x_srcEn, x_srcZp, x_ekT, x_zkT, x_srcV, x_srcT, x_seq, x_seqN, x_seqR, x_seqB, x_seqC, x_sNil, x_set, x_drop, x_ret, x_retN, x_sIf, x_brk, x_ct, x_put, x_for, x_def, x_defR, x_defN, x_ixP, x_ixL, x_lenP, x_lenL, x_tupP, x_tupL, x_tupKK, x_lstP, x_lstL, x_appP, x_appL, x_tyP, x_tyL, x_tyK, x_tyT, x_putP, x_putL, x_putI, x_putKK, x_srcP, x_srcL, List.map_cons, List.map_nil, List.replicate, List.cons_append, List.nil_append, List.set_cons_zero, List.set_cons_succ]
  by_cases h : k < ns.length
  · rw [if_pos (decide_eq_true h)]
    have h4 : k.toNat < ns.length := by omega
    have e : atI ns k = some ns[k.toNat] := at_int h0 (by simp [h4])
    simp only [x_var0, x_varS, x_c, x_bin, x_un, x_and, x_or, x_andK, x_orK, x_not, x_if, x_tup, x_lst, x_sl, x_call, x_callU, x_mth, x_isi, x_chain, x_chK, x_k1, x_tupRg, x_lstRg, x_lc, x_addI, x_addS, x_addT, x_subI, x_mulI, x_fdiv, x_mod, x_pow, x_lt, x_le, x_gt, x_ge, x_eqI, x_eqB, x_eqS, x_neI, x_neB, x_isB, x_isnB, x_neg, x_int, x_intB, x_lenT, x_lenS, x_tupT, x_lstT, x_ixT, x_ixR, x_optW, x_nil, x_cons, x_bB, x_boolK, x_bAnd, x_bOr, x_bNot, x_bYes, x_pNo, x_pSo, x_part, x_rng1, x_rng2, x_rng3, x_rk1, x_rk2, x_rk3, x_srcEn, x_srcZp, x_ekT, x_zkT, x_srcV, x_srcT, x_seq, x_seqN, x_seqR, x_seqB, x_seqC, x_sNil, x_set, x_drop, x_ret, x_retN, x_sIf, x_brk, x_ct, x_put, x_for, x_def, x_defR, x_defN, x_ixP, x_ixL, x_lenP, x_lenL, x_tupP, x_tupL, x_tupKK, x_lstP, x_lstL, x_appP, x_appL, x_tyP, x_tyL, x_tyK, x_tyT, x_putP, x_putL, x_putI, x_putKK, x_srcP, x_srcL, List.map_cons, List.map_nil, List.replicate, List.cons_append, List.nil_append, List.set_cons_zero, List.set_cons_succ, e, Option.map_some]
    exact end_same (hQ _)
  · rw [if_neg (by simpa using h)]
    exact end_same (hQ 0)
theorem rng_at {lo c : Int} {n i : Nat} {θ : Th} (h : i < n) : (Src.rng lo c n).at θ i = some (some (.int (lo + (i : Nat) * c))) := by simp only [Src.at, if_pos h]
theorem rng_end {lo c : Int} {n : Nat} {θ : Th} : (Src.rng lo c n).at θ n = some none := by simp only [Src.at, if_neg (Nat.lt_irrefl n)]
theorem th_app {o o' : Ob} : (θ ++ [o]).set θ.length o' = θ ++ [o'] := th_set_mid
theorem th_last {o : Ob} : (θ ++ [o])[θ.length]? = some o := th_mid
theorem map_snoc {ds : List Int} {v : Int} : ds.map Dv.int ++ [.int v] = (ds ++ [v]).map Dv.int := by simp
/-- the digits: some ints, in a new list -/
theorem s_digits {ns : List Int} {a b : Nat} (ha : a ≤ b) (hb : b ≤ 1000) (hQ : ∀ ds : List Int, Q (.obj θ.length) (θ ++ [.lst (ds.map Dv.int)])) : Cm.c__law_digits [.scr ns, .int a, .int b] E θ Q := by
  unfold Cm.c__law_digits Cm.m__law_digits
  simp only [x_var0, x_varS, x_c, x_bin, x_un, x_and, x_or, x_andK, x_orK, x_not, x_if, x_tup, x_lst, x_sl, x_call, x_callU, x_mth, x_isi, x_chain, x_chK, x_k1, x_tupRg, x_lstRg, x_lc, x_addI, x_addS, x_addT, x_subI, x_mulI, x_fdiv, x_mod, x_pow, x_lt, x_le, x_gt, x_ge, x_eqI, x_eqB, x_eqS, x_neI, x_neB, x_isB, x_isnB, x_neg, x_int, x_intB, x_lenT, x_lenS, x_tupT, x_lstT, x_ixT, x_ixR, x_optW, x_nil, x_cons, x_bB, x_boolK, x_bAnd, x_bOr, x_bNot, x_bYes, x_pNo, x_pSo, x_part, x_rng1, x_rng2, x_rng3, x_rk1, x_rk2, x_rk3, x_srcEn, x_srcZp, x_ekT, x_zkT, x_srcV, x_srcT, x_seq, x_seqN, x_seqR, x_seqB, x_seqC, x_sNil, x_set, x_drop, x_ret, x_retN, x_sIf, x_brk, x_ct, x_put, x_for, x_def, x_defR, x_defN, x_ixP, x_ixL, x_lenP, x_lenL, x_tupP, x_tupL, x_tupKK, x_lstP, x_lstL, x_appP, x_appL, x_tyP, x_tyL, x_tyK, x_tyT, x_putP, x_putL, x_putI, x_putKK, x_srcP, x_srcL, List.map_cons, List.map_nil, List.replicate, List.cons_append, List.nil_append, List.set_cons_zero, List.set_cons_succ]
  refine ⟨by simp, ⟨by omega, by omega, by omega, by omega⟩, ?_⟩
  refine for_rule (b - a : Int).toNat (fun i ρ θ' => ∃ x4 x5 x6 x7, ∃ ds : List Int, ρ = [some (.scr ns), some (.int a), some (.int b), some (.obj θ.length), x4, x5, x6, x7] ∧ θ' = θ ++ [.lst (ds.map Dv.int)] ∧ ds.length ≤ i * 60) ⟨none, none, none, none, [], rfl, rfl, by simp⟩ ?_ ?_
  · rintro i ρ θ' hi ⟨x4, x5, x6, x7, ds, rfl, rfl, hl⟩
    refine ⟨.int (a + i * 1), _, rng_at hi, rfl, fun K LK => ?_⟩
    simp only [x_var0, x_varS, x_c, x_bin, x_un, x_and, x_or, x_andK, x_orK, x_not, x_if, x_tup, x_lst, x_sl, x_call, x_callU, x_mth, x_isi, x_chain, x_chK, x_k1, x_tupRg, x_lstRg, x_lc, x_addI, x_addS, x_addT, x_subI, x_mulI, x_fdiv, x_mod, x_pow, x_lt, x_le, x_gt, x_ge, x_eqI, x_eqB, x_eqS, x_neI, x_neB, x_isB, x_isnB, x_neg, x_int, x_intB, x_lenT, x_lenS, x_tupT, x_lstT, x_ixT, x_ixR, x_optW, x_nil, x_cons, x_bB, x_boolK, x_bAnd, x_bOr, x_bNot, x_bYes, x_pNo, x_pSo, x_part, x_rng1, x_rng2, x_rng3, x_rk1, x_rk2, x_rk3, x_srcEn, x_srcZp, x_ekT, x_zkT, x_srcV, x_srcT, x_seq, x_seqR, x_seqB, x_seqC, x_sNil, x_set, x_drop, x_ret, x_retN, x_sIf, x_brk, x_ct, x_put, x_for, x_def, x_defR, x_defN, x_ixP, x_ixL, x_lenP, x_lenL, x_tupP, x_tupL, x_tupKK, x_lstP, x_lstL, x_appP, x_appL, x_tyP, x_tyL, x_tyK, x_tyT, x_putP, x_putL, x_putI, x_putKK, x_srcP, x_srcL, List.map_cons, List.map_nil, List.replicate, List.cons_append, List.nil_append, List.set_cons_zero, List.set_cons_succ]
    refine ⟨rfl, s_cell (by omega) fun v => ?_⟩
    rw [x_seqN]
    simp only [x_var0, x_varS, x_c, x_bin, x_un, x_and, x_or, x_andK, x_orK, x_not, x_if, x_tup, x_lst, x_sl, x_call, x_callU, x_mth, x_isi, x_chain, x_chK, x_k1, x_tupRg, x_lstRg, x_lc, x_addI, x_addS, x_addT, x_subI, x_mulI, x_fdiv, x_mod, x_pow, x_lt, x_le, x_gt, x_ge, x_eqI, x_eqB, x_eqS, x_neI, x_neB, x_isB, x_isnB, x_neg, x_int, x_intB, x_lenT, x_lenS, x_tupT, x_lstT, x_ixT, x_ixR, x_optW, x_nil, x_cons, x_bB, x_boolK, x_bAnd, x_bOr, x_bNot, x_bYes, x_pNo, x_pSo, x_part, x_rng1, x_rng2, x_rng3, x_rk1, x_rk2, x_rk3, x_srcEn, x_srcZp, x_ekT, x_zkT, x_srcV, x_srcT, x_seq, x_seqR, x_seqB, x_seqC, x_sNil, x_set, x_drop, x_ret, x_retN, x_sIf, x_brk, x_ct, x_put, x_for, x_def, x_defR, x_defN, x_ixP, x_ixL, x_lenP, x_lenL, x_tupP, x_tupL, x_tupKK, x_lstP, x_lstL, x_appP, x_appL, x_tyP, x_tyL, x_tyK, x_tyT, x_putP, x_putL, x_putI, x_putKK, x_srcP, x_srcL, List.map_cons, List.map_nil, List.replicate, List.cons_append, List.nil_append, List.set_cons_zero, List.set_cons_succ]
    generalize hT : seqK _ E K = T
    have key : ∀ w : Int, T (.nx [some (.scr ns), some (.int a), some (.int b), some (.obj θ.length), some (.int (a + i * 1)), some (.int w), x6, x7]) (θ ++ [.lst (ds.map Dv.int)]) := by
      intro w
      subst hT
      simp only [x_var0, x_varS, x_c, x_bin, x_un, x_and, x_or, x_andK, x_orK, x_not, x_if, x_tup, x_lst, x_sl, x_call, x_callU, x_mth, x_isi, x_chain, x_chK, x_k1, x_tupRg, x_lstRg, x_lc, x_addI, x_addS, x_addT, x_subI, x_mulI, x_fdiv, x_mod, x_pow, x_lt, x_le, x_gt, x_ge, x_eqI, x_eqB, x_eqS, x_neI, x_neB, x_isB, x_isnB, x_neg, x_int, x_intB, x_lenT, x_lenS, x_tupT, x_lstT, x_ixT, x_ixR, x_optW, x_nil, x_cons, x_bB, x_boolK, x_bAnd, x_bOr, x_bNot, x_bYes, x_pNo, x_pSo, x_part, x_rng1, x_rng2, x_rng3, x_rk1, x_rk2, x_rk3, x_srcEn, x_srcZp, x_ekT, x_zkT, x_srcV, x_srcT, x_seq, x_seqN, x_seqR, x_seqB, x_seqC, x_sNil, x_set, x_drop, x_ret, x_retN, x_sIf, x_brk, x_ct, x_put, x_for, x_def, x_defR, x_defN, x_ixP, x_ixL, x_lenP, x_lenL, x_tupP, x_tupL, x_tupKK, x_lstP, x_lstL, x_appP, x_appL, x_tyP, x_tyL, x_tyK, x_tyT, x_putP, x_putL, x_putI, x_putKK, x_srcP, x_srcL, List.map_cons, List.map_nil, List.replicate, List.cons_append, List.nil_append, List.set_cons_zero, List.set_cons_succ]
      refine ⟨by unfold CPow; omega, ?_⟩
      by_cases hw : (10 : Int) ^ (18 : Int).toNat ≤ w
      · rw [if_pos (decide_eq_true hw)]
        refine ⟨⟨by omega, by omega⟩, ?_⟩
        refine for_rule 60 (fun j ρ θ' => ∃ x6 x7, ∃ (w : Int) (es : List Int), ρ = [some (.scr ns), some (.int a), some (.int b), some (.obj θ.length), some (.int (a + i * 1)), some (.int w), x6, x7] ∧ θ' = θ ++ [.lst (es.map Dv.int)] ∧ es.length ≤ ds.length + j) ⟨x6, x7, w, ds, rfl, rfl, by omega⟩ ?_ ?_
        · rintro j ρ θ' hj ⟨x6, x7, w, es, rfl, rfl, he⟩
          refine ⟨.int (0 + j * 1), _, rng_at hj, rfl, fun K LK => ?_⟩
          simp only [x_var0, x_varS, x_c, x_bin, x_un, x_and, x_or, x_andK, x_orK, x_not, x_if, x_tup, x_lst, x_sl, x_call, x_callU, x_mth, x_isi, x_chain, x_chK, x_k1, x_tupRg, x_lstRg, x_lc, x_addI, x_addS, x_addT, x_subI, x_mulI, x_fdiv, x_mod, x_pow, x_lt, x_le, x_gt, x_ge, x_eqI, x_eqB, x_eqS, x_neI, x_neB, x_isB, x_isnB, x_neg, x_int, x_intB, x_lenT, x_lenS, x_tupT, x_lstT, x_ixT, x_ixR, x_optW, x_nil, x_cons, x_bB, x_boolK, x_bAnd, x_bOr, x_bNot, x_bYes, x_pNo, x_pSo, x_part, x_rng1, x_rng2, x_rng3, x_rk1, x_rk2, x_rk3, x_srcEn, x_srcZp, x_ekT, x_zkT, x_srcV, x_srcT, x_seq, x_seqN, x_seqR, x_seqB, x_seqC, x_sNil, x_set, x_drop, x_ret, x_retN, x_sIf, x_brk, x_ct, x_put, x_for, x_def, x_defR, x_defN, x_ixP, x_ixL, x_lenP, x_lenL, x_tupP, x_tupL, x_tupKK, x_lstP, x_lstL, x_appP, x_appL, x_tyP, x_tyL, x_tyK, x_tyT, x_putP, x_putL, x_putI, x_putKK, x_srcP, x_srcL, List.map_cons, List.map_nil, List.replicate, List.cons_append, List.nil_append, List.set_cons_zero, List.set_cons_succ]
          by_cases hw : 0 < w
          · rw [if_pos (decide_eq_true hw)]
            simp only [th_last, x_var0, x_varS, x_c, x_bin, x_un, x_and, x_or, x_andK, x_orK, x_not, x_if, x_tup, x_lst, x_sl, x_call, x_callU, x_mth, x_isi, x_chain, x_chK, x_k1, x_tupRg, x_lstRg, x_lc, x_addI, x_addS, x_addT, x_subI, x_mulI, x_fdiv, x_mod, x_pow, x_lt, x_le, x_gt, x_ge, x_eqI, x_eqB, x_eqS, x_neI, x_neB, x_isB, x_isnB, x_neg, x_int, x_intB, x_lenT, x_lenS, x_tupT, x_lstT, x_ixT, x_ixR, x_optW, x_nil, x_cons, x_bB, x_boolK, x_bAnd, x_bOr, x_bNot, x_bYes, x_pNo, x_pSo, x_part, x_rng1, x_rng2, x_rng3, x_rk1, x_rk2, x_rk3, x_srcEn, x_srcZp, x_ekT, x_zkT, x_srcV, x_srcT, x_seq, x_seqN, x_seqR, x_seqB, x_seqC, x_sNil, x_set, x_drop, x_ret, x_retN, x_sIf, x_brk, x_ct, x_put, x_for, x_def, x_defR, x_defN, x_ixP, x_ixL, x_lenP, x_lenL, x_tupP, x_tupL, x_tupKK, x_lstP, x_lstL, x_appP, x_appL, x_tyP, x_tyL, x_tyK, x_tyT, x_putP, x_putL, x_putI, x_putKK, x_srcP, x_srcL, List.map_cons, List.map_nil, List.replicate, List.cons_append, List.nil_append, List.set_cons_zero, List.set_cons_succ, th_app, map_snoc]
            exact ⟨trivial, by omega, by rw [List.length_map, sizeLine_eq]; omega, ⟨by omega, by omega⟩, LK.nx _ _ ⟨_, rfl, _, _, _, _, rfl, rfl, by rw [List.length_append, List.length_singleton]; omega⟩⟩
          · rw [if_neg (by simpa using hw)]
            exact LK.nx _ _ ⟨_, rfl, _, _, _, _, rfl, rfl, by omega⟩
        · rintro ρ θ' ⟨x6, x7, w, es, rfl, rfl, he⟩
          exact ⟨rng_end, LK.nx _ _ ⟨_, rfl, _, _, _, _, _, rfl, rfl, by omega⟩⟩
      · rw [if_neg (by simpa using hw)]
        refine ⟨.inr ⟨by omega, by omega⟩, .inr ⟨by omega, by omega⟩, by omega, ⟨by omega, by omega⟩, ?_⟩
        refine for_rule 12 (fun j ρ θ' => ∃ x6, ∃ (w z : Int) (es : List Int), ρ = [some (.scr ns), some (.int a), some (.int b), some (.obj θ.length), some (.int (a + i * 1)), some (.int w), x6, some (.int z)] ∧ θ' = θ ++ [.lst (es.map Dv.int)] ∧ es.length ≤ ds.length + j) ⟨x6, w, _, ds, rfl, rfl, by omega⟩ ?_ ?_
        · rintro j ρ θ' hj ⟨x6, w, z, es, rfl, rfl, he⟩
          refine ⟨.int (0 + j * 1), _, rng_at hj, rfl, fun K LK => ?_⟩
          simp only [x_var0, x_varS, x_c, x_bin, x_un, x_and, x_or, x_andK, x_orK, x_not, x_if, x_tup, x_lst, x_sl, x_call, x_callU, x_mth, x_isi, x_chain, x_chK, x_k1, x_tupRg, x_lstRg, x_lc, x_addI, x_addS, x_addT, x_subI, x_mulI, x_fdiv, x_mod, x_pow, x_lt, x_le, x_gt, x_ge, x_eqI, x_eqB, x_eqS, x_neI, x_neB, x_isB, x_isnB, x_neg, x_int, x_intB, x_lenT, x_lenS, x_tupT, x_lstT, x_ixT, x_ixR, x_optW, x_nil, x_cons, x_bB, x_boolK, x_bAnd, x_bOr, x_bNot, x_bYes, x_pNo, x_pSo, x_part, x_rng1, x_rng2, x_rng3, x_rk1, x_rk2, x_rk3, x_srcEn, x_srcZp, x_ekT, x_zkT, x_srcV, x_srcT, x_seq, x_seqN, x_seqR, x_seqB, x_seqC, x_sNil, x_set, x_drop, x_ret, x_retN, x_sIf, x_brk, x_ct, x_put, x_for, x_def, x_defR, x_defN, x_ixP, x_ixL, x_lenP, x_lenL, x_tupP, x_tupL, x_tupKK, x_lstP, x_lstL, x_appP, x_appL, x_tyP, x_tyL, x_tyK, x_tyT, x_putP, x_putL, x_putI, x_putKK, x_srcP, x_srcL, List.map_cons, List.map_nil, List.replicate, List.cons_append, List.nil_append, List.set_cons_zero, List.set_cons_succ, th_last, th_app, map_snoc]
          exact ⟨.inr ⟨by omega, by omega⟩, .inl ⟨by omega, by omega⟩, by omega, trivial, ⟨by omega, by omega⟩, by omega, by rw [List.length_map, sizeLine_eq]; omega, LK.nx _ _ ⟨_, rfl, _, _, _, _, rfl, rfl, by rw [List.length_append, List.length_singleton]; omega⟩⟩
        · rintro ρ θ' ⟨x6, w, z, es, rfl, rfl, he⟩
          exact ⟨rng_end, LK.nx _ _ ⟨_, rfl, _, _, _, _, _, rfl, rfl, by omega⟩⟩
    by_cases hv : v < 0
    · rw [if_pos (decide_eq_true hv)]
      exact ⟨.inl ⟨by omega, by omega⟩, key _⟩
    · rw [if_neg (by simpa using hv)]
      exact key _
  · rintro ρ θ' ⟨x4, x5, x6, x7, ds, rfl, rfl, hl⟩
    refine ⟨by simp [Src.at], ?_⟩
    simp only [x_var0, x_varS, x_c, x_bin, x_un, x_and, x_or, x_andK, x_orK, x_not, x_if, x_tup, x_lst, x_sl, x_call, x_callU, x_mth, x_isi, x_chain, x_chK, x_k1, x_tupRg, x_lstRg, x_lc, x_addI, x_addS, x_addT, x_subI, x_mulI, x_fdiv, x_mod, x_pow, x_lt, x_le, x_gt, x_ge, x_eqI, x_eqB, x_eqS, x_neI, x_neB, x_isB, x_isnB, x_neg, x_int, x_intB, x_lenT, x_lenS, x_tupT, x_lstT, x_ixT, x_ixR, x_optW, x_nil, x_cons, x_bB, x_boolK, x_bAnd, x_bOr, x_bNot, x_bYes, x_pNo, x_pSo, x_part, x_rng1, x_rng2, x_rng3, x_rk1, x_rk2, x_rk3, x_srcEn, x_srcZp, x_ekT, x_zkT, x_srcV, x_srcT, x_seq, x_seqN, x_seqR, x_seqB, x_seqC, x_sNil, x_set, x_drop, x_ret, x_retN, x_sIf, x_brk, x_ct, x_put, x_for, x_def, x_defR, x_defN, x_ixP, x_ixL, x_lenP, x_lenL, x_tupP, x_tupL, x_tupKK, x_lstP, x_lstL, x_appP, x_appL, x_tyP, x_tyL, x_tyK, x_tyT, x_putP, x_putL, x_putI, x_putKK, x_srcP, x_srcL, List.map_cons, List.map_nil, List.replicate, List.cons_append, List.nil_append, List.set_cons_zero, List.set_cons_succ]
    exact end_same (hQ ds)
end Sp

/-! Sp2: histories, ancestors. -/
namespace Sp
open PySem PySem.Spec PyProof.Rows L2 Mn
abbrev Hist := List (Str × List Nat)
def mk (x : Str × List Nat) : Dv := .tup [.str x.1, .tup (x.2.map fun p => .int (p : Nat))]
def hD (h : Hist) : Dv := .tup [.str "history", .tup (h.map mk)]
def par (h : Hist) (k : Nat) : List Nat := match h[k]? with
  | some x => x.2
  | none => []
/-- reached from m, no make below t gone on from -/
inductive Rc (h : Hist) (m t : Nat) : Nat → Prop where
  | self : Rc h m t m
  | step {k p : Nat} : Rc h m t k → t ≤ k → p ∈ par h k → Rc h m t p
abbrev Anc (h : Hist) (m j : Nat) : Prop := Rc h m 0 j
/-- parents stand ahead -/
def Ahead (h : Hist) : Prop := ∀ k p, p ∈ par h k → p < k
theorem Rc.start {h : Hist} {m j : Nat} (a : Ahead h) : Rc h m (m + 1) j ↔ j = m := by
  constructor
  · intro r
    induction r with
    | self => rfl
    | step r h1 h2 ih => omega
  · rintro rfl
    exact .self
theorem Rc.mono {h : Hist} {m t u j : Nat} (hl : u ≤ t) (r : Rc h m t j) : Rc h m u j := by
  induction r with
  | self => exact .self
  | step r h1 h2 ih => exact .step ih (by omega) h2
theorem Rc.down {h : Hist} {m t j : Nat} (a : Ahead h) : Rc h m t j ↔ Rc h m (t + 1) j ∨ (Rc h m (t + 1) t ∧ j ∈ par h t) := by
  constructor
  · intro r
    induction r with
    | self => exact .inl .self
    | @step k p r h1 h2 ih =>
      by_cases e : k = t
      · subst e
        rcases ih with ih | ⟨_, ih⟩
        · exact .inr ⟨ih, h2⟩
        · exact absurd (a _ _ ih) (Nat.lt_irrefl _)
      · rcases ih with ih | ⟨_, ih⟩
        · exact .inl (.step ih (by omega) h2)
        · have := a _ _ ih; omega
  · rintro (r | ⟨r, hp⟩)
    · exact r.mono (Nat.le_succ _)
    · exact .step (r.mono (Nat.le_succ _)) (Nat.le_refl _) hp
theorem Rc.le {h : Hist} {m t j : Nat} (a : Ahead h) (r : Rc h m t j) : j ≤ m := by
  induction r with
  | self => exact Nat.le_refl _
  | step r h1 h2 ih => have := a _ _ h2; omega
/-- a row of bools -/
def bl (n : Nat) (f : Nat → Bool) : List Dv := (List.range n).map fun j => Dv.bl (f j)
theorem bl_len {n : Nat} {f : Nat → Bool} : (bl n f).length = n := by unfold bl; simp
theorem bl_get {n j : Nat} {f : Nat → Bool} (h : j < n) : (bl n f)[j]? = some (.bl (f j)) := by unfold bl; simp [h]
theorem bl_set {n p : Nat} {f : Nat → Bool} {v : Bool} : (bl n f).set p (.bl v) = bl n (fun j => if j = p then v else f j) := by
  unfold bl
  apply List.ext_getElem?
  intro i
  by_cases hi : i < n
  · by_cases hp : p = i
    · subst hp
      rw [List.getElem?_set_self (by simp [hi])]
      simp [hi]
    · rw [List.getElem?_set_ne hp]
      simp [hi, show ¬ i = p from fun e => hp e.symm]
  · rw [List.getElem?_eq_none (by simp; omega), List.getElem?_eq_none (by simp; omega)]
theorem bl_congr {n : Nat} {f g : Nat → Bool} (h : ∀ j, j < n → f j = g j) : bl n f = bl n g := by
  unfold bl
  apply List.map_congr_left
  intro j hj
  rw [h j (by simpa using hj)]
open Classical in
noncomputable def anc (h : Hist) (m j : Nat) : Bool := decide (Anc h m j)
theorem anc_iff {h : Hist} {m j : Nat} : anc h m j = true ↔ Anc h m j := by unfold anc; simp
theorem h_get {h : Hist} {k : Nat} (hk : k < h.length) : atI (h.map mk) (k : Int) = some (mk h[k]) := at_nat (by simp [hk])
theorem par_get {h : Hist} {k : Nat} (hk : k < h.length) : h[k].2 = par h k := by unfold par; rw [List.getElem?_eq_getElem hk]
mutual
theorem low_mono {n n' : Nat} (h : n ≤ n') : ∀ {d : Dv}, d.low n = true → d.low n' = true
  | .non, _ => rfl
  | .bl _, _ => rfl
  | .int _, _ => rfl
  | .str _, _ => rfl
  | .rf _, _ => rfl
  | .fn _, _ => rfl
  | .scr _, _ => rfl
  | .obj k, e => by
    unfold Dv.low at e ⊢
    exact decide_eq_true (by have := of_decide_eq_true e; omega)
  | .tup ds, e => by
    unfold Dv.low at e ⊢
    exact lows_mono h e
  | .pt ds, e => by
    unfold Dv.low at e ⊢
    exact lows_mono h e
theorem lows_mono {n n' : Nat} (h : n ≤ n') : ∀ {ds : List Dv}, Dv.lows n ds = true → Dv.lows n' ds = true
  | [], _ => rfl
  | d :: ds, e => by
    unfold Dv.lows at e ⊢
    rw [Bool.and_eq_true] at e ⊢
    exact ⟨low_mono h e.1, lows_mono h e.2⟩
end
theorem lowK_mono {κ : Type} {n n' : Nat} (h : n ≤ n') {kvs : List (κ × Dv)} (e : lowK n kvs = true) : lowK n' kvs = true := by
  unfold lowK at e ⊢
  rw [List.all_eq_true] at e ⊢
  exact fun x hx => low_mono h (e x hx)
theorem ob_mono {n n' : Nat} (h : n ≤ n') {o : Ob} (e : o.low n = true) : o.low n' = true := by
  cases o with
  | lst ds => exact lows_mono h e
  | dK ds => exact lowK_mono h e
  | dT ds => exact lowK_mono h e
  | dKf ds => exact lowK_mono h e
  | dTf ds => exact lowK_mono h e
  | ins C fs => exact lowK_mono h e
/-- data without objects -/
def Flat (ds : List Dv) : Prop := Dv.lows 0 ds = true
theorem flat_cons {d : Dv} {ds : List Dv} (h : d.low 0 = true) (r : Flat ds) : Flat (d :: ds) := by
  unfold Flat Dv.lows
  rw [h, r]
  rfl
theorem flat_map {β : Type} {f : β → Dv} (h : ∀ x, (f x).low 0 = true) : ∀ (l : List β), Flat (l.map f)
  | [] => rfl
  | x :: l => flat_cons (h x) (flat_map h l)
theorem flat_bl {n : Nat} {f : Nat → Bool} : Flat (bl n f) := flat_map (fun _ => rfl) _
theorem clo_snoc {θ : Th} {o : Ob} (c : Clo θ) (h : o.low (θ.length + 1) = true) : Clo (θ ++ [o]) := by
  intro u hu
  rw [List.length_append, List.length_singleton]
  rcases List.mem_append.mp hu with hu | hu
  · exact ob_mono (Nat.le_succ _) (c u hu)
  · obtain rfl := List.mem_singleton.mp hu
    exact h
theorem end_one {θ : Th} {Q : Dv → Th → Prop} {ds : List Dv} {g : Th} (f : Flat ds) (h : Q (.obj θ.length) (θ ++ [.lst ds])) : endQ θ Q (.obj θ.length) (θ ++ .lst ds :: g) :=
  .inr ⟨θ ++ [.lst ds], g, by simp, by simp, fun c => ⟨clo_snoc (o := .lst ds) c (show Dv.lows _ ds = true from lows_mono (Nat.zero_le _) f), by simp [Dv.low]⟩, h⟩
theorem flat_low {ds : List Dv} (f : Flat ds) (n : Nat) : (Dv.tup ds).low n = true := by
  unfold Dv.low
  exact lows_mono (Nat.zero_le _) f
variable {E : Exn → Th → Prop} {θ : Th} {Q : Dv → Th → Prop}
theorem x_h1 {h : Hist} {R : Dv → Th → Prop} : oIx (hD h) (.int 1) E θ R = R (.tup (h.map mk)) θ := (rfl)
theorem x_mk1 {x : Str × List Nat} {R : Dv → Th → Prop} : oIx (mk x) (.int 1) E θ R = R (.tup (x.2.map fun p => .int (p : Nat))) θ := (rfl)
theorem s_above {h : Hist} {m : Nat} (a : Ahead h) (hm : m < h.length) (hl : h.length ≤ 1000) (hQ : Q (.obj θ.length) (θ ++ [.lst (bl h.length (anc h m))])) : Cm.c__law_above [hD h, .int m] E θ Q := by
  unfold Cm.c__law_above Cm.m__law_above
  simp only [x_var0, x_varS, x_c, x_bin, x_un, x_and, x_or, x_andK, x_orK, x_not, x_if, x_tup, x_lst, x_sl, x_call, x_callU, x_mth, x_isi, x_chain, x_chK, x_k1, x_tupRg, x_lstRg, x_lc, x_addI, x_addS, x_addT, x_subI, x_mulI, x_fdiv, x_mod, x_pow, x_lt, x_le, x_gt, x_ge, x_eqI, x_eqB, x_eqS, x_neI, x_neB, x_isB, x_isnB, x_neg, x_int, x_intB, x_lenT, x_lenS, x_tupT, x_lstT, x_ixT, x_ixR, x_optW, x_nil, x_cons, x_bB, x_boolK, x_bAnd, x_bOr, x_bNot, x_bYes, x_pNo, x_pSo, x_part, x_rng1, x_rng2, x_rng3, x_rk1, x_rk2, x_rk3, x_srcEn, x_srcZp, x_ekT, x_zkT, x_srcV, x_srcT, x_seq, x_seqN, x_seqR, x_seqB, x_seqC, x_sNil, x_set, x_drop, x_ret, x_retN, x_sIf, x_brk, x_ct, x_put, x_for, x_def, x_defR, x_defN, x_ixP, x_ixL, x_lenP, x_lenL, x_tupP, x_tupL, x_tupKK, x_lstP, x_lstL, x_appP, x_appL, x_tyP, x_tyL, x_tyK, x_tyT, x_putP, x_putL, x_putI, x_putKK, x_srcP, x_srcL, List.map_cons, List.map_nil, List.replicate, List.cons_append, List.nil_append, List.set_cons_zero, List.set_cons_succ, x_h1, List.length_map, wipeE]
  refine ⟨⟨by omega, by omega⟩, ?_⟩
  refine lc_pure h.length (fun _ => true) (fun j => .bl (decide (j = m))) (by rw [sizeLine_eq]; omega) ?_ ?_ ?_
  · intro i acc g hi
    refine ⟨_, _, rng_at hi, rfl, fun K hK => ?_⟩
    simp only [x_var0, x_varS, x_c, x_bin, x_un, x_and, x_or, x_andK, x_orK, x_not, x_if, x_tup, x_lst, x_sl, x_call, x_callU, x_mth, x_isi, x_chain, x_chK, x_k1, x_tupRg, x_lstRg, x_lc, x_addI, x_addS, x_addT, x_subI, x_mulI, x_fdiv, x_mod, x_pow, x_lt, x_le, x_gt, x_ge, x_eqI, x_eqB, x_eqS, x_neI, x_neB, x_isB, x_isnB, x_neg, x_int, x_intB, x_lenT, x_lenS, x_tupT, x_lstT, x_ixT, x_ixR, x_optW, x_nil, x_cons, x_bB, x_boolK, x_bAnd, x_bOr, x_bNot, x_bYes, x_pNo, x_pSo, x_part, x_rng1, x_rng2, x_rng3, x_rk1, x_rk2, x_rk3, x_srcEn, x_srcZp, x_ekT, x_zkT, x_srcV, x_srcT, x_seq, x_seqN, x_seqR, x_seqB, x_seqC, x_sNil, x_set, x_drop, x_ret, x_retN, x_sIf, x_brk, x_ct, x_put, x_for, x_def, x_defR, x_defN, x_ixP, x_ixL, x_lenP, x_lenL, x_tupP, x_tupL, x_tupKK, x_lstP, x_lstL, x_appP, x_appL, x_tyP, x_tyL, x_tyK, x_tyT, x_putP, x_putL, x_putI, x_putKK, x_srcP, x_srcL, List.map_cons, List.map_nil, List.replicate, List.cons_append, List.nil_append, List.set_cons_zero, List.set_cons_succ]
    refine hK g fun _ K2 h2 => ?_
    have e : decide ((0 : Int) + (i : Nat) * 1 = (m : Nat)) = decide (i = m) := decide_eq_decide.mpr (by omega)
    simp only [x_var0, x_varS, x_c, x_bin, x_un, x_and, x_or, x_andK, x_orK, x_not, x_if, x_tup, x_lst, x_sl, x_call, x_callU, x_mth, x_isi, x_chain, x_chK, x_k1, x_tupRg, x_lstRg, x_lc, x_addI, x_addS, x_addT, x_subI, x_mulI, x_fdiv, x_mod, x_pow, x_lt, x_le, x_gt, x_ge, x_eqI, x_eqB, x_eqS, x_neI, x_neB, x_isB, x_isnB, x_neg, x_int, x_intB, x_lenT, x_lenS, x_tupT, x_lstT, x_ixT, x_ixR, x_optW, x_nil, x_cons, x_bB, x_boolK, x_bAnd, x_bOr, x_bNot, x_bYes, x_pNo, x_pSo, x_part, x_rng1, x_rng2, x_rng3, x_rk1, x_rk2, x_rk3, x_srcEn, x_srcZp, x_ekT, x_zkT, x_srcV, x_srcT, x_seq, x_seqN, x_seqR, x_seqB, x_seqC, x_sNil, x_set, x_drop, x_ret, x_retN, x_sIf, x_brk, x_ct, x_put, x_for, x_def, x_defR, x_defN, x_ixP, x_ixL, x_lenP, x_lenL, x_tupP, x_tupL, x_tupKK, x_lstP, x_lstL, x_appP, x_appL, x_tyP, x_tyL, x_tyK, x_tyT, x_putP, x_putL, x_putI, x_putKK, x_srcP, x_srcL, List.map_cons, List.map_nil, List.replicate, List.cons_append, List.nil_append, List.set_cons_zero, List.set_cons_succ]
    rw [e]
    exact h2 g
  · intro acc g
    exact rng_end
  · intro g
    have e0 : ((List.range h.length).filter fun _ => true).map (fun j => Dv.bl (decide (j = m))) = bl h.length (fun j => decide (j = m)) := by
      rw [List.filter_eq_self.mpr fun _ _ => rfl]
      rfl
    rw [e0]
    refine ⟨⟨by omega, by omega, by omega, by omega, trivial⟩, ?_⟩
    have en : ((m : Int) - -1).toNat = m + 1 := by omega
    rw [en]
    refine for_rule (m + 1) (fun i ρ θ' => ∃ x3 x4 f, ρ = [some (hD h), some (.int m), some (.obj θ.length), x3, x4] ∧ θ' = θ ++ .lst (bl h.length f) :: g ∧ ∀ j, j < h.length → (f j = true ↔ Rc h m (m + 1 - i) j)) ⟨none, none, _, rfl, rfl, fun j hj => ?_⟩ ?_ ?_
    · rw [Nat.sub_zero, Rc.start a]
      simp
    · rintro i ρ θ' hi ⟨x3, x4, f, rfl, rfl, hf⟩
      refine ⟨_, _, rng_at hi, rfl, fun K LK => ?_⟩
      have ek : (m : Int) + (i : Nat) * -1 = ((m - i : Nat) : Int) := by omega
      have hk : m - i < h.length := by omega
      rw [ek]
      generalize hkk : m - i = k at hk
      simp only [x_var0, x_varS, x_c, x_bin, x_un, x_and, x_or, x_andK, x_orK, x_not, x_if, x_tup, x_lst, x_sl, x_call, x_callU, x_mth, x_isi, x_chain, x_chK, x_k1, x_tupRg, x_lstRg, x_lc, x_addI, x_addS, x_addT, x_subI, x_mulI, x_fdiv, x_mod, x_pow, x_lt, x_le, x_gt, x_ge, x_eqI, x_eqB, x_eqS, x_neI, x_neB, x_isB, x_isnB, x_neg, x_int, x_intB, x_lenT, x_lenS, x_tupT, x_lstT, x_ixT, x_ixR, x_optW, x_nil, x_cons, x_bB, x_boolK, x_bAnd, x_bOr, x_bNot, x_bYes, x_pNo, x_pSo, x_part, x_rng1, x_rng2, x_rng3, x_rk1, x_rk2, x_rk3, x_srcEn, x_srcZp, x_ekT, x_zkT, x_srcV, x_srcT, x_seq, x_seqN, x_seqR, x_seqB, x_seqC, x_sNil, x_set, x_drop, x_ret, x_retN, x_sIf, x_brk, x_ct, x_put, x_for, x_def, x_defR, x_defN, x_ixP, x_ixL, x_lenP, x_lenL, x_tupP, x_tupL, x_tupKK, x_lstP, x_lstL, x_appP, x_appL, x_tyP, x_tyL, x_tyK, x_tyT, x_putP, x_putL, x_putI, x_putKK, x_srcP, x_srcL, List.map_cons, List.map_nil, List.replicate, List.cons_append, List.nil_append, List.set_cons_zero, List.set_cons_succ, x_h1, h_get hk, x_mk1, par_get hk]
      refine for_rule (par h k).length (fun i ρ θ' => ∃ x4 f2, ρ = [some (hD h), some (.int m), some (.obj θ.length), some (.int k), x4] ∧ θ' = θ ++ .lst (bl h.length f2) :: g ∧ ∀ j, j < h.length → (f2 j = true ↔ (f j = true ∨ (f k = true ∧ j ∈ (par h k).take i)))) ⟨x4, f, rfl, rfl, fun j hj => by simp⟩ ?_ ?_
      · rintro i2 ρ θ' hi2 ⟨x4, f2, rfl, rfl, hf2⟩
        refine ⟨.int ((par h k)[i2] : Nat), _, by simp [Src.at, Sd.items, hi2], rfl, fun K LK => ?_⟩
        have hp : (par h k)[i2] < k := a _ _ (List.getElem_mem _)
        generalize hpp : (par h k)[i2] = p at hp
        have e1 : atI (bl h.length f2) (p : Int) = some (.bl (f2 p)) := at_nat (bl_get (by omega))
        have e2 : atI (bl h.length f2) (k : Int) = some (.bl (f2 k)) := at_nat (bl_get hk)
        simp only [x_var0, x_varS, x_c, x_bin, x_un, x_and, x_or, x_andK, x_orK, x_not, x_if, x_tup, x_lst, x_sl, x_call, x_callU, x_mth, x_isi, x_chain, x_chK, x_k1, x_tupRg, x_lstRg, x_lc, x_addI, x_addS, x_addT, x_subI, x_mulI, x_fdiv, x_mod, x_pow, x_lt, x_le, x_gt, x_ge, x_eqI, x_eqB, x_eqS, x_neI, x_neB, x_isB, x_isnB, x_neg, x_int, x_intB, x_lenT, x_lenS, x_tupT, x_lstT, x_ixT, x_ixR, x_optW, x_nil, x_cons, x_bB, x_boolK, x_bAnd, x_bOr, x_bNot, x_bYes, x_pNo, x_pSo, x_part, x_rng1, x_rng2, x_rng3, x_rk1, x_rk2, x_rk3, x_srcEn, x_srcZp, x_ekT, x_zkT, x_srcV, x_srcT, x_seq, x_seqN, x_seqR, x_seqB, x_seqC, x_sNil, x_set, x_drop, x_ret, x_retN, x_sIf, x_brk, x_ct, x_put, x_for, x_def, x_defR, x_defN, x_ixP, x_ixL, x_lenP, x_lenL, x_tupP, x_tupL, x_tupKK, x_lstP, x_lstL, x_appP, x_appL, x_tyP, x_tyL, x_tyK, x_tyT, x_putP, x_putL, x_putI, x_putKK, x_srcP, x_srcL, List.map_cons, List.map_nil, List.replicate, List.cons_append, List.nil_append, List.set_cons_zero, List.set_cons_succ, th_mid, e1, e2, ix_nat (show p < (bl h.length f2).length by rw [bl_len]; omega), th_set_mid, bl_set]
        have e3 : (par h k).take (i2 + 1) = (par h k).take i2 ++ [p] := by rw [List.take_add_one, List.getElem?_eq_getElem hi2, hpp]; rfl
        have hkk2 : f2 k = true ↔ f k = true := by
          rw [hf2 k hk]
          constructor
          · rintro (r | ⟨r, _⟩) <;> exact r
          · exact fun r => .inl r
        by_cases c : f2 p = true
        · rw [if_pos c]
          refine LK.nx _ _ ⟨_, rfl, _, _, rfl, rfl, fun j hj => ?_⟩
          rw [e3, List.mem_append]
          by_cases ej : j = p
          · subst ej
            simp only [if_true]
            have := (hf2 j (by omega)).mp c
            constructor
            · intro _
              rcases this with r | ⟨r, r2⟩
              · exact .inl r
              · exact .inr ⟨r, .inl r2⟩
            · intro _; trivial
          · rw [if_neg ej, hf2 j hj]
            simp [ej]
        · rw [if_neg c]
          refine LK.nx _ _ ⟨_, rfl, _, _, rfl, rfl, fun j hj => ?_⟩
          rw [e3, List.mem_append]
          by_cases ej : j = p
          · subst ej
            rw [if_pos rfl, hkk2]
            have := fun z => c ((hf2 j (by omega)).mpr z)
            have this : ¬(f j = true ∨ f k = true ∧ j ∈ List.take i2 (par h k)) := this
            simp only [not_or, not_and] at this
            constructor
            · exact fun r => .inr ⟨r, .inr (by simp)⟩
            · rintro (r | ⟨r, _⟩)
              · exact absurd r this.1
              · exact r
          · rw [if_neg ej, hf2 j hj]
            simp [ej]
      · rintro ρ θ' ⟨x4, f2, rfl, rfl, hf2⟩
        refine ⟨by simp [Src.at, Sd.items], LK.nx _ _ ⟨_, rfl, _, _, f2, rfl, rfl, fun j hj => ?_⟩⟩
        have et : m + 1 - i = k + 1 := by omega
        have et2 : m + 1 - (i + 1) = k := by omega
        rw [hf2 j hj, List.take_length, et2, Rc.down a, hf j hj, hf k hk, et]
    · rintro ρ θ' ⟨x3, x4, f, rfl, rfl, hf⟩
      refine ⟨rng_end, ?_⟩
      simp only [x_var0, x_varS, x_c, x_bin, x_un, x_and, x_or, x_andK, x_orK, x_not, x_if, x_tup, x_lst, x_sl, x_call, x_callU, x_mth, x_isi, x_chain, x_chK, x_k1, x_tupRg, x_lstRg, x_lc, x_addI, x_addS, x_addT, x_subI, x_mulI, x_fdiv, x_mod, x_pow, x_lt, x_le, x_gt, x_ge, x_eqI, x_eqB, x_eqS, x_neI, x_neB, x_isB, x_isnB, x_neg, x_int, x_intB, x_lenT, x_lenS, x_tupT, x_lstT, x_ixT, x_ixR, x_optW, x_nil, x_cons, x_bB, x_boolK, x_bAnd, x_bOr, x_bNot, x_bYes, x_pNo, x_pSo, x_part, x_rng1, x_rng2, x_rng3, x_rk1, x_rk2, x_rk3, x_srcEn, x_srcZp, x_ekT, x_zkT, x_srcV, x_srcT, x_seq, x_seqN, x_seqR, x_seqB, x_seqC, x_sNil, x_set, x_drop, x_ret, x_retN, x_sIf, x_brk, x_ct, x_put, x_for, x_def, x_defR, x_defN, x_ixP, x_ixL, x_lenP, x_lenL, x_tupP, x_tupL, x_tupKK, x_lstP, x_lstL, x_appP, x_appL, x_tyP, x_tyL, x_tyK, x_tyT, x_putP, x_putL, x_putI, x_putKK, x_srcP, x_srcL, List.map_cons, List.map_nil, List.replicate, List.cons_append, List.nil_append, List.set_cons_zero, List.set_cons_succ]
      have e : bl h.length f = bl h.length (anc h m) := bl_congr fun j hj => by
        rw [Bool.eq_iff_iff, hf j hj, anc_iff, Nat.sub_self]
      rw [e]
      exact end_one flat_bl hQ
end Sp

/-! Sp3: words, skipped makes, drawn histories. -/
namespace Sp
open PySem PySem.Spec PyProof.Rows L2 Mn
variable {E : Exn → Th → Prop} {θ : Th} {Q : Dv → Th → Prop}
theorem ints_nat (l : List Nat) : intsD (l.map fun p => Dv.int (p : Nat)) = some (l.map fun p : Nat => (p : Int)) := by
  induction l with
  | nil => rfl
  | cons p l ih =>
    show (intsD (l.map fun p => Dv.int (p : Nat))).map ((p : Int) :: ·) = _
    rw [ih]
    rfl
theorem x_intsP {f : List Int → MX Dv} {k : Nat} {ds : List Dv} {ns : List Int} (h : θ[k]? = some (.lst ds)) (hn : intsD ds = some ns) : onInts f (.obj k) E θ Q = f ns E θ Q := by
  unfold onInts
  simp only [h, hn]
theorem flat_ints (l : List Nat) : (l.map fun p => Dv.int (p : Nat)).all isFlat = true := by
  rw [List.all_map, List.all_eq_true]
  intro x _
  rfl
theorem inF_ints {v : Nat} (l : List Nat) : inF (.int v) (l.map fun p => Dv.int (p : Nat)) = decide (v ∈ l) := by
  unfold inF
  rw [List.any_map, Bool.eq_iff_iff, List.any_eq_true, decide_eq_true_eq]
  constructor
  · rintro ⟨x, hx, e⟩
    have : ((x : Int) == (v : Int)) = true := e
    have := eq_of_beq this
    have : x = v := by omega
    rw [← this]
    exact hx
  · exact fun h => ⟨v, h, by show ((v : Int) == (v : Int)) = true; simp⟩
theorem notin_ints {v k : Nat} {l : List Nat} (h : θ[k]? = some (.lst (l.map fun p => Dv.int (p : Nat)))) (hq : Q (.bl (!decide (v ∈ l))) θ) : oNotIn (.int v) (.obj k) E θ Q := by
  unfold oNotIn inO
  simp only [h]
  exact .inl ⟨flat_ints l, rfl, by rw [inF_ints]; exact hq⟩
theorem notin_intsT {v : Nat} {l : List Nat} (hq : Q (.bl (!decide (v ∈ l))) θ) : oNotIn (.int v) (.tup (l.map fun p => Dv.int (p : Nat))) E θ Q := by
  unfold oNotIn inO
  exact ⟨⟨rfl, flat_ints l⟩, by rw [inF_ints]; exact hq⟩
/-! the end with the box -/
theorem flat_ints' (l : List Int) : Flat (l.map Dv.int) := flat_map (fun _ => rfl) l
theorem bx_clo (ds : List Int) (a : Nat) : Clo (bx ds a) := by
  intro o ho
  rcases List.mem_cons.mp ho with rfl | ho
  · exact lows_mono (Nat.zero_le _) (flat_ints' ds)
  · obtain rfl := List.mem_singleton.mp ho
    rfl
theorem end_bx {ds : List Int} {a a' : Nat} {g : Th} {d : Dv} (hd : ∀ n, d.low n = true) (h : Q d (bx ds a')) : endQ (bx ds a) Q d (bx ds a' ++ g) :=
  .inr ⟨bx ds a', g, rfl, Nat.le_refl _, fun _ => ⟨bx_clo ds a', hd _⟩, h⟩
theorem low_nats (l : List Nat) (n : Nat) : (Dv.tup (l.map fun p => Dv.int (p : Nat))).low n = true := flat_low (flat_map (fun _ => rfl) l) n
/-! words -/
def wordS (k a : Nat) : Str := if k = 1 ∧ a = 3 then "from" else if k = 0 ∧ a = 5 then "make" else (⟨#[97 + (a + k) % 26]⟩ : Str) ++ (if a % 3 = 0 then ("" : Str) else if a % 3 = 1 then "x" else "zzzzzzz")
theorem letters : (("abcdefghijklmnopqrstuvwxyz" : Str)).cps.toList = (List.range 26).map (97 + ·) := by decide +kernel
def tailS (a : Nat) : Str := if a % 3 = 0 then ("" : Str) else if a % 3 = 1 then "x" else "zzzzzzz"
abbrev tails : List Dv := [.str "", .str "x", .str "zzzzzzz"]
theorem tail_at (a : Nat) : atI tails ((a : Int) % 3) = some (.str (tailS a)) := by
  have e : ((a : Int) % 3) = ((a % 3 : Nat) : Int) := by omega
  rw [e]
  have h : a % 3 < 3 := Nat.mod_lt _ (by decide)
  unfold tailS
  generalize a % 3 = r at h
  match r, h with
  | 0, _ => rfl
  | 1, _ => rfl
  | 2, _ => rfl
theorem tail_len (a : Nat) : (tailS a).length ≤ 7 := by
  unfold tailS
  split
  · decide
  · split <;> decide
theorem s_tail {k a : Nat} (hQ : Q (.str ((⟨#[97 + (a + k) % 26]⟩ : Str) ++ tailS a)) θ) : oIx (.str "abcdefghijklmnopqrstuvwxyz") (.int (((a : Int) + (k : Int)) % 26)) E θ fun x θ1 => tails.length ≤ sizeLine ∧ (0 : Int) < 3 ∧ ixK (θ1 ++ [Ob.lst tails])[θ1.length]? (.int ((a : Int) % 3)) (θ1 ++ [Ob.lst tails]) fun y θ2 => oAdd x y E θ2 fun d θ1 => endQ θ Q d θ1 := by
  refine ⟨by decide, 97 + (a + k) % 26, ?_, ?_⟩
  · rw [letters]
    have e : (((a : Int) + (k : Int)) % 26) = (((a + k) % 26 : Nat) : Int) := by omega
    rw [e]
    exact at_nat (by simp [Nat.mod_lt])
  · refine ⟨by decide, by decide, ?_⟩
    rw [th_last, x_ixL, tail_at, x_optW, x_addS]
    refine ⟨?_, ?_⟩
    · have := tail_len a
      have e : ((⟨#[97 + (a + k) % 26]⟩ : Str)).length = 1 := rfl
      rw [e, sizeLine_eq]
      omega
    · exact end_drop hQ fun _ => rfl
theorem s_word {b : Dv} {k a : Nat} (hQ : Q (.str (wordS k a)) θ) : Cm.c__law_word [b, .int k, .int a] E θ Q := by
  unfold Cm.c__law_word Cm.m__law_word
  simp only [x_var0, x_varS, x_c, x_bin, x_un, x_and, x_or, x_andK, x_orK, x_not, x_if, x_tup, x_lst, x_sl, x_call, x_callU, x_mth, x_isi, x_chain, x_chK, x_k1, x_tupRg, x_lstRg, x_lc, x_addI, x_addS, x_addT, x_subI, x_mulI, x_fdiv, x_mod, x_pow, x_lt, x_le, x_gt, x_ge, x_eqI, x_eqB, x_eqS, x_neI, x_neB, x_isB, x_isnB, x_neg, x_int, x_intB, x_lenT, x_lenS, x_tupT, x_lstT, x_ixT, x_ixR, x_optW, x_nil, x_cons, x_bB, x_boolK, x_bAnd, x_bOr, x_bNot, x_bYes, x_pNo, x_pSo, x_part, x_rng1, x_rng2, x_rng3, x_rk1, x_rk2, x_rk3, x_srcEn, x_srcZp, x_ekT, x_zkT, x_srcV, x_srcT, x_seq, x_seqN, x_seqR, x_seqB, x_seqC, x_sNil, x_set, x_drop, x_ret, x_retN, x_sIf, x_brk, x_ct, x_put, x_for, x_def, x_defR, x_defN, x_ixP, x_ixL, x_lenP, x_lenL, x_tupP, x_tupL, x_tupKK, x_lstP, x_lstL, x_appP, x_appL, x_tyP, x_tyL, x_tyK, x_tyT, x_putP, x_putL, x_putI, x_putKK, x_srcP, x_srcL, List.map_cons, List.map_nil, List.replicate, List.cons_append, List.nil_append, List.set_cons_zero, List.set_cons_succ]
  have e1 : decide ((k : Int) = 1) = decide (k = 1) := decide_eq_decide.mpr (by omega)
  have e2 : decide ((a : Int) = 3) = decide (a = 3) := decide_eq_decide.mpr (by omega)
  have e3 : decide ((k : Int) = 0) = decide (k = 0) := decide_eq_decide.mpr (by omega)
  have e4 : decide ((a : Int) = 5) = decide (a = 5) := decide_eq_decide.mpr (by omega)
  rw [e1, e2, e3, e4]
  have fin : ¬(k = 1 ∧ a = 3) → ¬(k = 0 ∧ a = 5) → Q (.str ((⟨#[97 + (a + k) % 26]⟩ : Str) ++ tailS a)) θ := fun h1 h2 => by
    unfold wordS at hQ
    rw [if_neg h1, if_neg h2] at hQ
    exact hQ
  by_cases h1 : k = 1
  · rw [if_pos (decide_eq_true h1)]
    by_cases h2 : a = 3
    · rw [if_pos (decide_eq_true h2)]
      unfold wordS at hQ
      rw [if_pos ⟨h1, h2⟩] at hQ
      exact end_same hQ
    · rw [if_neg (by simpa using h2), if_neg (by simp [h1]), if_neg Bool.false_ne_true]
      exact ⟨by omega, s_tail (fin (fun h => h2 h.2) (by omega))⟩
  · rw [if_neg (by simpa using h1), if_neg Bool.false_ne_true]
    by_cases h3 : k = 0
    · rw [if_pos (decide_eq_true h3)]
      by_cases h4 : a = 5
      · rw [if_pos (decide_eq_true h4)]
        unfold wordS at hQ
        rw [if_neg (fun h => h1 h.1), if_pos ⟨h3, h4⟩] at hQ
        exact end_same hQ
      · rw [if_neg (by simpa using h4)]
        exact ⟨by omega, s_tail (fin (fun h => h1 h.1) fun h => h4 h.2)⟩
    · rw [if_neg (by simpa using h3), if_neg Bool.false_ne_true]
      exact ⟨by omega, s_tail (fin (fun h => h1 h.1) fun h => h3 h.1)⟩
/-- the skipped makes: some, ascending -/
theorem s_skipped {ds : List Int} {a : Nat} {h : Hist} (hl : h.length ≤ 1000) (hQ : ∀ (p : Nat → Bool) (a' : Nat), Q (.tup (((List.range h.length).filter p).map fun m => Dv.int (m : Nat))) (bx ds a')) : Cm.c__law_skipped [.obj 1, hD h] E (bx ds a) Q := by
  unfold Cm.c__law_skipped Cm.m__law_skipped
  simp only [x_var0, x_varS, x_c, x_bin, x_un, x_and, x_or, x_andK, x_orK, x_not, x_if, x_tup, x_lst, x_sl, x_call, x_callU, x_mth, x_isi, x_chain, x_chK, x_k1, x_tupRg, x_lstRg, x_lc, x_addI, x_addS, x_addT, x_subI, x_mulI, x_fdiv, x_mod, x_pow, x_lt, x_le, x_gt, x_ge, x_eqI, x_eqB, x_eqS, x_neI, x_neB, x_isB, x_isnB, x_neg, x_int, x_intB, x_lenT, x_lenS, x_tupT, x_lstT, x_ixT, x_ixR, x_optW, x_nil, x_cons, x_bB, x_boolK, x_bAnd, x_bOr, x_bNot, x_bYes, x_pNo, x_pSo, x_part, x_rng1, x_rng2, x_rng3, x_rk1, x_rk2, x_rk3, x_srcEn, x_srcZp, x_ekT, x_zkT, x_srcV, x_srcT, x_seq, x_seqN, x_seqR, x_seqB, x_seqC, x_sNil, x_set, x_drop, x_ret, x_retN, x_sIf, x_brk, x_ct, x_put, x_for, x_def, x_defR, x_defN, x_ixP, x_ixL, x_lenP, x_lenL, x_tupP, x_tupL, x_tupKK, x_lstP, x_lstL, x_appP, x_appL, x_tyP, x_tyL, x_tyK, x_tyT, x_putP, x_putL, x_putI, x_putKK, x_srcP, x_srcL, List.map_cons, List.map_nil, List.replicate, List.cons_append, List.nil_append, List.set_cons_zero, List.set_cons_succ, x_h1, List.length_map, wipeE]
  refine ⟨⟨by omega, by omega⟩, ?_⟩
  have e2 : (bx ds a).length = 2 := rfl
  refine lc_rule h.length (fun i θ => ∃ a' p g, θ = bx ds a' ++ .lst (((List.range i).filter p).map fun m => Dv.int (m : Nat)) :: g) ⟨a, fun _ => true, [], rfl⟩ ?_ ?_
  · rintro i θ hi ⟨a', p, g, rfl⟩
    refine ⟨_, _, rng_at hi, rfl, fun K k0 k1 => ?_⟩
    simp only [x_var0, x_varS, x_c, x_bin, x_un, x_and, x_or, x_andK, x_orK, x_not, x_if, x_tup, x_lst, x_sl, x_call, x_callU, x_mth, x_isi, x_chain, x_chK, x_k1, x_tupRg, x_lstRg, x_lc, x_addI, x_addS, x_addT, x_subI, x_mulI, x_fdiv, x_mod, x_pow, x_lt, x_le, x_gt, x_ge, x_eqI, x_eqB, x_eqS, x_neI, x_neB, x_isB, x_isnB, x_neg, x_int, x_intB, x_lenT, x_lenS, x_tupT, x_lstT, x_ixT, x_ixR, x_optW, x_nil, x_cons, x_bB, x_boolK, x_bAnd, x_bOr, x_bNot, x_bYes, x_pNo, x_pSo, x_part, x_rng1, x_rng2, x_rng3, x_rk1, x_rk2, x_rk3, x_srcEn, x_srcZp, x_ekT, x_zkT, x_srcV, x_srcT, x_seq, x_seqN, x_seqR, x_seqB, x_seqC, x_sNil, x_set, x_drop, x_ret, x_retN, x_sIf, x_brk, x_ct, x_put, x_for, x_def, x_defR, x_defN, x_ixP, x_ixL, x_lenP, x_lenL, x_tupP, x_tupL, x_tupKK, x_lstP, x_lstL, x_appP, x_appL, x_tyP, x_tyL, x_tyK, x_tyT, x_putP, x_putL, x_putI, x_putKK, x_srcP, x_srcL, List.map_cons, List.map_nil, List.replicate, List.cons_append, List.nil_append, List.set_cons_zero, List.set_cons_succ]
    refine ⟨rfl, s_draw (by decide) fun v _ _ => ?_⟩
    simp only [x_var0, x_varS, x_c, x_bin, x_un, x_and, x_or, x_andK, x_orK, x_not, x_if, x_tup, x_lst, x_sl, x_call, x_callU, x_mth, x_isi, x_chain, x_chK, x_k1, x_tupRg, x_lstRg, x_lc, x_addI, x_addS, x_addT, x_subI, x_mulI, x_fdiv, x_mod, x_pow, x_lt, x_le, x_gt, x_ge, x_eqI, x_eqB, x_eqS, x_neI, x_neB, x_isB, x_isnB, x_neg, x_int, x_intB, x_lenT, x_lenS, x_tupT, x_lstT, x_ixT, x_ixR, x_optW, x_nil, x_cons, x_bB, x_boolK, x_bAnd, x_bOr, x_bNot, x_bYes, x_pNo, x_pSo, x_part, x_rng1, x_rng2, x_rng3, x_rk1, x_rk2, x_rk3, x_srcEn, x_srcZp, x_ekT, x_zkT, x_srcV, x_srcT, x_seq, x_seqN, x_seqR, x_seqB, x_seqC, x_sNil, x_set, x_drop, x_ret, x_retN, x_sIf, x_brk, x_ct, x_put, x_for, x_def, x_defR, x_defN, x_ixP, x_ixL, x_lenP, x_lenL, x_tupP, x_tupL, x_tupKK, x_lstP, x_lstL, x_appP, x_appL, x_tyP, x_tyL, x_tyK, x_tyT, x_putP, x_putL, x_putI, x_putKK, x_srcP, x_srcL, List.map_cons, List.map_nil, List.replicate, List.cons_append, List.nil_append, List.set_cons_zero, List.set_cons_succ]
    by_cases hv : v = 0
    · rw [decide_eq_true hv]
      refine k1 _ fun K2 h2 => ?_
      simp only [x_var0, x_varS, x_c, x_bin, x_un, x_and, x_or, x_andK, x_orK, x_not, x_if, x_tup, x_lst, x_sl, x_call, x_callU, x_mth, x_isi, x_chain, x_chK, x_k1, x_tupRg, x_lstRg, x_lc, x_addI, x_addS, x_addT, x_subI, x_mulI, x_fdiv, x_mod, x_pow, x_lt, x_le, x_gt, x_ge, x_eqI, x_eqB, x_eqS, x_neI, x_neB, x_isB, x_isnB, x_neg, x_int, x_intB, x_lenT, x_lenS, x_tupT, x_lstT, x_ixT, x_ixR, x_optW, x_nil, x_cons, x_bB, x_boolK, x_bAnd, x_bOr, x_bNot, x_bYes, x_pNo, x_pSo, x_part, x_rng1, x_rng2, x_rng3, x_rk1, x_rk2, x_rk3, x_srcEn, x_srcZp, x_ekT, x_zkT, x_srcV, x_srcT, x_seq, x_seqN, x_seqR, x_seqB, x_seqC, x_sNil, x_set, x_drop, x_ret, x_retN, x_sIf, x_brk, x_ct, x_put, x_for, x_def, x_defR, x_defN, x_ixP, x_ixL, x_lenP, x_lenL, x_tupP, x_tupL, x_tupKK, x_lstP, x_lstL, x_appP, x_appL, x_tyP, x_tyL, x_tyK, x_tyT, x_putP, x_putL, x_putI, x_putKK, x_srcP, x_srcL, List.map_cons, List.map_nil, List.replicate, List.cons_append, List.nil_append, List.set_cons_zero, List.set_cons_succ]
      refine h2 _ _ _ rfl ?_ ⟨a' + 1, fun m => if m = i then true else p m, g, ?_⟩
      · rw [List.length_map, sizeLine_eq]
        have := List.length_filter_le p (List.range i)
        rw [List.length_range] at this
        omega
      · show bx ds (a' + 1) ++ _ :: g = _
        congr 3
        rw [List.range_succ, List.filter_append, List.map_append]
        congr 1
        · congr 1
          apply List.filter_congr
          intro x hx
          rw [List.mem_range] at hx
          rw [if_neg (by omega)]
        · simp
    · rw [decide_eq_false hv]
      refine k0 _ ⟨a' + 1, fun m => if m = i then false else p m, g, ?_⟩
      congr 3
      rw [List.range_succ, List.filter_append]
      have e : (List.range i).filter p = (List.range i).filter (fun m => if m = i then false else p m) := by
        apply List.filter_congr
        intro x hx
        rw [List.mem_range] at hx
        rw [if_neg (by omega)]
      rw [e]
      simp
  · rintro θ ⟨a', p, g, rfl⟩
    refine ⟨rng_end, ?_⟩
    show endQ (bx ds a) Q (.tup (((List.range h.length).filter p).map fun m => Dv.int (m : Nat))) (bx ds a' ++ .lst (((List.range h.length).filter p).map fun m => Dv.int (m : Nat)) :: g)
    exact end_bx (fun n => low_nats _ n) (hQ p a')
end Sp

/-! Sp4: drawn histories. -/
namespace Sp
open PySem PySem.Spec PyProof.Rows L2 Mn
variable {E : Exn → Th → Prop} {θ : Th} {Q : Dv → Th → Prop}
abbrev nd (l : List Nat) : List Dv := l.map fun p => Dv.int (p : Nat)
def pl (n : Nat) : List Dv := (List.range n).map fun j => Dv.obj (j + 3)
def hsX (n : Nat) (P : Nat → List Nat) (g : Th) : Th := .lst (pl n) :: ((List.range n).map (fun j => Ob.lst (nd (P j))) ++ g)
def setP (P : Nat → List Nat) (j : Nat) (xs : List Nat) : Nat → List Nat := fun i => if i = j then xs else P i
section
variable {ds : List Int} {a n j : Nat} {P : Nat → List Nat} {g : Th}
theorem hs2 : (bx ds a ++ hsX n P g)[2]? = some (.lst (pl n)) := rfl
theorem hsj (h : j < n) : (bx ds a ++ hsX n P g)[j + 3]? = some (.lst (nd (P j))) := by
  show ((List.range n).map (fun j => Ob.lst (nd (P j))) ++ g)[j]? = _
  rw [List.getElem?_append_left (by simp [h])]
  simp [h]
theorem hs_set (h : j < n) {xs : List Nat} : (bx ds a ++ hsX n P g).set (j + 3) (.lst (nd xs)) = bx ds a ++ hsX n (setP P j xs) g := by
  show bx ds a ++ .lst (pl n) :: ((List.range n).map (fun j => Ob.lst (nd (P j))) ++ g).set j (.lst (nd xs)) = _
  unfold hsX
  congr 2
  rw [List.set_append_left _ _ (by simp [h])]
  congr 1
  apply List.ext_getElem?
  intro i
  by_cases hi : i < n
  · by_cases hj : j = i
    · subst hj
      rw [List.getElem?_set_self (by simp [hi])]
      simp [hi, setP]
    · rw [List.getElem?_set_ne hj]
      simp [hi, setP, show ¬ i = j from fun e => hj e.symm]
  · rw [List.getElem?_eq_none (by simp; omega), List.getElem?_eq_none (by simp; omega)]
theorem pl_at (h : j < n) : atI (pl n) (j : Int) = some (.obj (j + 3)) := at_nat (by unfold pl; simp [h])
end
structure G (n i : Nat) (P : Nat → List Nat) : Prop where
  nd : ∀ j, j < n → (P j).Nodup
  lt : ∀ j p, j < n → p ∈ P j → p < j ∧ p < i
  l3 : ∀ j, j < n → (P j).length ≤ 3
  l2 : ∀ j, j < n → i < j → (P j).length ≤ 2
  up : ∀ k, k < i → ∃ j, j < n ∧ k ∈ P j
theorem G.step {n i c : Nat} {P : Nat → List Nat} (g : G n i P) (h1 : i < c) (h2 : c < n) (h3 : (P c).length ≤ 1 ∨ c = i + 1) : G n (i + 1) (setP P c (P c ++ [i])) := by
  have hc : (P c).length ≤ 2 := g.l2 c h2 h1
  refine ⟨fun j hj => ?_, fun j p hj hp => ?_, fun j hj => ?_, fun j hj h => ?_, fun k hk => ?_⟩
  · unfold setP
    by_cases e : j = c
    · rw [if_pos e, List.nodup_append]
      exact ⟨g.nd c h2, by simp, fun x hx y hy e => by
        have := (g.lt c x h2 hx).2
        simp at hy
        omega⟩
    · rw [if_neg e]; exact g.nd j hj
  · unfold setP at hp
    by_cases e : j = c
    · rw [if_pos e] at hp
      rcases List.mem_append.mp hp with hp | hp
      · have := g.lt c p h2 hp; omega
      · simp at hp; omega
    · rw [if_neg e] at hp
      have := g.lt j p hj hp; omega
  · unfold setP
    by_cases e : j = c
    · rw [if_pos e, List.length_append, List.length_singleton]; omega
    · rw [if_neg e]; exact g.l3 j hj
  · unfold setP
    by_cases e : j = c
    · rw [if_pos e, List.length_append, List.length_singleton]
      rcases h3 with h3 | h3 <;> omega
    · rw [if_neg e]; exact g.l2 j hj (by omega)
  · by_cases e : k = i
    · exact ⟨c, h2, by unfold setP; rw [if_pos rfl, e]; simp⟩
    · obtain ⟨j, hj, hm⟩ := g.up k (by omega)
      refine ⟨j, hj, ?_⟩
      unfold setP
      by_cases e : j = c
      · rw [if_pos e, List.mem_append]; rw [e] at hm; exact .inl hm
      · rw [if_neg e]; exact hm
structure G2 (n : Nat) (P : Nat → List Nat) : Prop where
  nd : ∀ j, j < n → (P j).Nodup
  lt : ∀ j p, j < n → p ∈ P j → p < j
  l4 : ∀ j, j < n → (P j).length ≤ 4
  up : ∀ k, k + 1 < n → ∃ j, j < n ∧ k ∈ P j
theorem G2.step {n c p : Nat} {P : Nat → List Nat} (g : G2 n P) (h1 : p < c) (h2 : c < n) (h3 : (P c).length < 4) (h4 : p ∉ P c) : G2 n (setP P c (P c ++ [p])) := by
  refine ⟨fun j hj => ?_, fun j q hj hp => ?_, fun j hj => ?_, fun k hk => ?_⟩
  · unfold setP
    by_cases e : j = c
    · rw [if_pos e, List.nodup_append]
      exact ⟨g.nd c h2, by simp, fun x hx y hy e => by
        simp at hy
        subst hy
        subst e
        exact h4 hx⟩
    · rw [if_neg e]; exact g.nd j hj
  · unfold setP at hp
    by_cases e : j = c
    · rw [if_pos e] at hp
      rcases List.mem_append.mp hp with hp | hp
      · have := g.lt c q h2 hp; omega
      · simp at hp; omega
    · rw [if_neg e] at hp
      exact g.lt j q hj hp
  · unfold setP
    by_cases e : j = c
    · rw [if_pos e, List.length_append, List.length_singleton]; omega
    · rw [if_neg e]; exact g.l4 j hj
  · obtain ⟨j, hj, hm⟩ := g.up k (by omega)
    refine ⟨j, hj, ?_⟩
    unfold setP
    by_cases e : j = c
    · rw [if_pos e, List.mem_append]; rw [e] at hm; exact .inl hm
    · rw [if_neg e]; exact hm
def srt (l : List Nat) : List Nat := (PySem.W.sortI (l.map fun p : Nat => (p : Int))).map Int.toNat
theorem srt_ints (l : List Nat) : (srt l).map (fun p : Nat => (p : Int)) = PySem.W.sortI (l.map fun p : Nat => (p : Int)) := by
  unfold srt
  rw [List.map_map]
  conv => rhs; rw [← List.map_id (PySem.W.sortI _)]
  apply List.map_congr_left
  intro x hx
  have := (PySem.W.sortI_perm _).mem_iff.mp hx
  obtain ⟨p, _, rfl⟩ := List.mem_map.mp this
  simp
def hist (n : Nat) (P : Nat → List Nat) (w : Nat) : Hist := (List.range n).map fun k => (wordS k w, srt (P k))
theorem mk_low (x : Str × List Nat) (n : Nat) : (mk x).low n = true := by
  have h := low_nats x.2 n
  unfold mk Dv.low Dv.lows Dv.lows
  rw [h]
  rfl
theorem hD_low (h : Hist) (n : Nat) : (hD h).low n = true := by
  have e : ∀ l : List (Str × List Nat), Dv.lows n (l.map mk) = true := by
    intro l
    induction l with
    | nil => rfl
    | cons x l ih =>
      rw [List.map_cons]
      unfold Dv.lows
      rw [mk_low, ih]
      rfl
  have e2 : (Dv.tup (h.map mk)).low n = true := by
    unfold Dv.low
    exact e h
  unfold hD Dv.low Dv.lows Dv.lows
  rw [e2]
  rfl
theorem s_history {ds : List Int} {a : Nat} {most : Nat} (h1 : 0 < most) (hm : most ≤ 1000) (hQ : ∀ (n : Nat) (P : Nat → List Nat) (w a' : Nat), 0 < n → n ≤ most → G2 n P → w < 12 → Q (hD (hist n P w)) (bx ds a')) : Cm.c__law_history [.obj 1, .int most] E (bx ds a) Q := by
  unfold Cm.c__law_history Cm.m__law_history
  simp only [x_var0, x_varS, x_c, x_bin, x_un, x_and, x_or, x_andK, x_orK, x_not, x_if, x_tup, x_lst, x_sl, x_call, x_callU, x_mth, x_isi, x_chain, x_chK, x_k1, x_tupRg, x_lstRg, x_lc, x_addI, x_addS, x_addT, x_subI, x_mulI, x_fdiv, x_mod, x_pow, x_lt, x_le, x_gt, x_ge, x_eqI, x_eqB, x_eqS, x_neI, x_neB, x_isB, x_isnB, x_neg, x_int, x_intB, x_lenT, x_lenS, x_tupT, x_lstT, x_ixT, x_ixR, x_optW, x_nil, x_cons, x_bB, x_boolK, x_bAnd, x_bOr, x_bNot, x_bYes, x_pNo, x_pSo, x_part, x_rng1, x_rng2, x_rng3, x_rk1, x_rk2, x_rk3, x_srcEn, x_srcZp, x_ekT, x_zkT, x_srcV, x_srcT, x_seq, x_seqR, x_seqB, x_seqC, x_sNil, x_set, x_drop, x_ret, x_retN, x_sIf, x_brk, x_ct, x_put, x_for, x_def, x_defR, x_defN, x_ixP, x_ixL, x_lenP, x_lenL, x_tupP, x_tupL, x_tupKK, x_lstP, x_lstL, x_appP, x_appL, x_tyP, x_tyL, x_tyK, x_tyT, x_putP, x_putL, x_putI, x_putKK, x_srcP, x_srcL, List.map_cons, List.map_nil, List.replicate, List.cons_append, List.nil_append, List.set_cons_zero, List.set_cons_succ, wipeE]
  refine ⟨rfl, ?_⟩
  rw [← List.append_nil (bx ds a)]
  refine s_draw (by omega) fun v h0 h2 => ?_
  obtain ⟨n, hn⟩ : ∃ n : Nat, 1 + v = (n : Int) := ⟨(1 + v).toNat, by omega⟩
  simp only [x_var0, x_varS, x_c, x_bin, x_un, x_and, x_or, x_andK, x_orK, x_not, x_if, x_tup, x_lst, x_sl, x_call, x_callU, x_mth, x_isi, x_chain, x_chK, x_k1, x_tupRg, x_lstRg, x_lc, x_addI, x_addS, x_addT, x_subI, x_mulI, x_fdiv, x_mod, x_pow, x_lt, x_le, x_gt, x_ge, x_eqI, x_eqB, x_eqS, x_neI, x_neB, x_isB, x_isnB, x_neg, x_int, x_intB, x_lenT, x_lenS, x_tupT, x_lstT, x_ixT, x_ixR, x_optW, x_nil, x_cons, x_bB, x_boolK, x_bAnd, x_bOr, x_bNot, x_bYes, x_pNo, x_pSo, x_part, x_rng1, x_rng2, x_rng3, x_rk1, x_rk2, x_rk3, x_srcEn, x_srcZp, x_ekT, x_zkT, x_srcV, x_srcT, x_seq, x_seqR, x_seqB, x_seqC, x_sNil, x_set, x_drop, x_ret, x_retN, x_sIf, x_brk, x_ct, x_put, x_for, x_def, x_defR, x_defN, x_ixP, x_ixL, x_lenP, x_lenL, x_tupP, x_tupL, x_tupKK, x_lstP, x_lstL, x_appP, x_appL, x_tyP, x_tyL, x_tyK, x_tyT, x_putP, x_putL, x_putI, x_putKK, x_srcP, x_srcL, List.map_cons, List.map_nil, List.replicate, List.cons_append, List.nil_append, List.set_cons_zero, List.set_cons_succ, hn]
  rw [x_seqN]
  simp only [x_var0, x_varS, x_c, x_bin, x_un, x_and, x_or, x_andK, x_orK, x_not, x_if, x_tup, x_lst, x_sl, x_call, x_callU, x_mth, x_isi, x_chain, x_chK, x_k1, x_tupRg, x_lstRg, x_lc, x_addI, x_addS, x_addT, x_subI, x_mulI, x_fdiv, x_mod, x_pow, x_lt, x_le, x_gt, x_ge, x_eqI, x_eqB, x_eqS, x_neI, x_neB, x_isB, x_isnB, x_neg, x_int, x_intB, x_lenT, x_lenS, x_tupT, x_lstT, x_ixT, x_ixR, x_optW, x_nil, x_cons, x_bB, x_boolK, x_bAnd, x_bOr, x_bNot, x_bYes, x_pNo, x_pSo, x_part, x_rng1, x_rng2, x_rng3, x_rk1, x_rk2, x_rk3, x_srcEn, x_srcZp, x_ekT, x_zkT, x_srcV, x_srcT, x_seq, x_seqR, x_seqB, x_seqC, x_sNil, x_set, x_drop, x_ret, x_retN, x_sIf, x_brk, x_ct, x_put, x_for, x_def, x_defR, x_defN, x_ixP, x_ixL, x_lenP, x_lenL, x_tupP, x_tupL, x_tupKK, x_lstP, x_lstL, x_appP, x_appL, x_tyP, x_tyL, x_tyK, x_tyT, x_putP, x_putL, x_putI, x_putKK, x_srcP, x_srcL, List.map_cons, List.map_nil, List.replicate, List.cons_append, List.nil_append, List.set_cons_zero, List.set_cons_succ, wipeE]
  refine ⟨⟨by omega, by omega⟩, ?_⟩
  refine lc_rule n (fun i θ => θ = bx ds (a + 1) ++ .lst (pl i) :: (List.range i).map (fun _ => Ob.lst [])) rfl ?_ ?_
  · rintro i θ hi rfl
    refine ⟨_, _, rng_at hi, rfl, fun K k0 k1 => ?_⟩
    simp only [x_var0, x_varS, x_c, x_bin, x_un, x_and, x_or, x_andK, x_orK, x_not, x_if, x_tup, x_lst, x_sl, x_call, x_callU, x_mth, x_isi, x_chain, x_chK, x_k1, x_tupRg, x_lstRg, x_lc, x_addI, x_addS, x_addT, x_subI, x_mulI, x_fdiv, x_mod, x_pow, x_lt, x_le, x_gt, x_ge, x_eqI, x_eqB, x_eqS, x_neI, x_neB, x_isB, x_isnB, x_neg, x_int, x_intB, x_lenT, x_lenS, x_tupT, x_lstT, x_ixT, x_ixR, x_optW, x_nil, x_cons, x_bB, x_boolK, x_bAnd, x_bOr, x_bNot, x_bYes, x_pNo, x_pSo, x_part, x_rng1, x_rng2, x_rng3, x_rk1, x_rk2, x_rk3, x_srcEn, x_srcZp, x_ekT, x_zkT, x_srcV, x_srcT, x_seq, x_seqN, x_seqR, x_seqB, x_seqC, x_sNil, x_set, x_drop, x_ret, x_retN, x_sIf, x_brk, x_ct, x_put, x_for, x_def, x_defR, x_defN, x_ixP, x_ixL, x_lenP, x_lenL, x_tupP, x_tupL, x_tupKK, x_lstP, x_lstL, x_appP, x_appL, x_tyP, x_tyL, x_tyK, x_tyT, x_putP, x_putL, x_putI, x_putKK, x_srcP, x_srcL, List.map_cons, List.map_nil, List.replicate, List.cons_append, List.nil_append, List.set_cons_zero, List.set_cons_succ]
    refine k1 _ fun K2 h2 => ⟨by simp, h2 _ _ (pl i) rfl ?_ ?_⟩
    · unfold pl
      rw [List.length_map, List.length_range, sizeLine_eq]
      have : (n : Int).toNat = n := rfl
      omega
    · have e : (bx ds (a + 1) ++ .lst (pl i) :: (List.range i).map (fun _ => Ob.lst [])).length = i + 3 := by
        rw [List.length_append, bx_len, List.length_cons, List.length_map, List.length_range]
        omega
      rw [e]
      show bx ds (a + 1) ++ .lst (pl i ++ [.obj (i + 3)]) :: ((List.range i).map (fun _ => Ob.lst []) ++ [.lst []]) = _
      unfold pl
      rw [List.range_succ, List.map_append, List.map_append]
      rfl
  · rintro θ rfl
    refine ⟨rng_end, ?_⟩
    rw [x_seqN]
    simp only [x_var0, x_varS, x_c, x_bin, x_un, x_and, x_or, x_andK, x_orK, x_not, x_if, x_tup, x_lst, x_sl, x_call, x_callU, x_mth, x_isi, x_chain, x_chK, x_k1, x_tupRg, x_lstRg, x_lc, x_addI, x_addS, x_addT, x_subI, x_mulI, x_fdiv, x_mod, x_pow, x_lt, x_le, x_gt, x_ge, x_eqI, x_eqB, x_eqS, x_neI, x_neB, x_isB, x_isnB, x_neg, x_int, x_intB, x_lenT, x_lenS, x_tupT, x_lstT, x_ixT, x_ixR, x_optW, x_nil, x_cons, x_bB, x_boolK, x_bAnd, x_bOr, x_bNot, x_bYes, x_pNo, x_pSo, x_part, x_rng1, x_rng2, x_rng3, x_rk1, x_rk2, x_rk3, x_srcEn, x_srcZp, x_ekT, x_zkT, x_srcV, x_srcT, x_seq, x_seqR, x_seqB, x_seqC, x_sNil, x_set, x_drop, x_ret, x_retN, x_sIf, x_brk, x_ct, x_put, x_for, x_def, x_defR, x_defN, x_ixP, x_ixL, x_lenP, x_lenL, x_tupP, x_tupL, x_tupKK, x_lstP, x_lstL, x_appP, x_appL, x_tyP, x_tyL, x_tyK, x_tyT, x_putP, x_putL, x_putI, x_putKK, x_srcP, x_srcL, List.map_cons, List.map_nil, List.replicate, List.cons_append, List.nil_append, List.set_cons_zero, List.set_cons_succ, wipeE]
    refine ⟨⟨by omega, by omega⟩, ?_⟩
    have e0 : (bx ds (a + 1) ++ .lst (pl n) :: (List.range n).map (fun _ => Ob.lst [])) = bx ds (a + 1) ++ hsX n (fun _ => []) [] := by
      unfold hsX
      rw [List.append_nil]
      rfl
    rw [e0]
    refine for_rule (n - 1) (fun i ρ θ' => ∃ x4 x5 a' P, ρ = [some (.obj 1), some (.int most), some (.int n), some (.obj 2), x4, x5, none, none, none] ∧ θ' = bx ds a' ++ hsX n P [] ∧ G n i P) ⟨none, none, a + 1, fun _ => [], rfl, rfl, ⟨fun j _ => List.nodup_nil, fun j p _ h => (by simp at h), fun j _ => by simp, fun j _ _ => by simp, fun k h => absurd h (Nat.not_lt_zero _)⟩⟩ ?_ ?_
    · rintro i ρ θ' hi ⟨x4, x5, a', P, rfl, rfl, g⟩
      refine ⟨.int (i : Nat), [some (.obj 1), some (.int most), some (.int n), some (.obj 2), some (.int i), x5, none, none, none], ?_, rfl, fun K LK => ?_⟩
      · have e : ((n : Int) - 1).toNat = n - 1 := by omega
        rw [e, rng_at hi]
        simp
      · simp only [x_var0, x_varS, x_c, x_bin, x_un, x_and, x_or, x_andK, x_orK, x_not, x_if, x_tup, x_lst, x_sl, x_call, x_callU, x_mth, x_isi, x_chain, x_chK, x_k1, x_tupRg, x_lstRg, x_lc, x_addI, x_addS, x_addT, x_subI, x_mulI, x_fdiv, x_mod, x_pow, x_lt, x_le, x_gt, x_ge, x_eqI, x_eqB, x_eqS, x_neI, x_neB, x_isB, x_isnB, x_neg, x_int, x_intB, x_lenT, x_lenS, x_tupT, x_lstT, x_ixT, x_ixR, x_optW, x_nil, x_cons, x_bB, x_boolK, x_bAnd, x_bOr, x_bNot, x_bYes, x_pNo, x_pSo, x_part, x_rng1, x_rng2, x_rng3, x_rk1, x_rk2, x_rk3, x_srcEn, x_srcZp, x_ekT, x_zkT, x_srcV, x_srcT, x_seq, x_seqR, x_seqB, x_seqC, x_sNil, x_set, x_drop, x_ret, x_retN, x_sIf, x_brk, x_ct, x_put, x_for, x_def, x_defR, x_defN, x_ixP, x_ixL, x_lenP, x_lenL, x_tupP, x_tupL, x_tupKK, x_lstP, x_lstL, x_appP, x_appL, x_tyP, x_tyL, x_tyK, x_tyT, x_putP, x_putL, x_putI, x_putKK, x_srcP, x_srcL, List.map_cons, List.map_nil, List.replicate, List.cons_append, List.nil_append, List.set_cons_zero, List.set_cons_succ]
        refine ⟨rfl, s_draw (by omega) fun v1 u0 u1 => ?_⟩
        refine ⟨rfl, s_draw (by omega) fun v2 u2 u3 => ?_⟩
        simp only [x_var0, x_varS, x_c, x_bin, x_un, x_and, x_or, x_andK, x_orK, x_not, x_if, x_tup, x_lst, x_sl, x_call, x_callU, x_mth, x_isi, x_chain, x_chK, x_k1, x_tupRg, x_lstRg, x_lc, x_addI, x_addS, x_addT, x_subI, x_mulI, x_fdiv, x_mod, x_pow, x_lt, x_le, x_gt, x_ge, x_eqI, x_eqB, x_eqS, x_neI, x_neB, x_isB, x_isnB, x_neg, x_int, x_intB, x_lenT, x_lenS, x_tupT, x_lstT, x_ixT, x_ixR, x_optW, x_nil, x_cons, x_bB, x_boolK, x_bAnd, x_bOr, x_bNot, x_bYes, x_pNo, x_pSo, x_part, x_rng1, x_rng2, x_rng3, x_rk1, x_rk2, x_rk3, x_srcEn, x_srcZp, x_ekT, x_zkT, x_srcV, x_srcT, x_seq, x_seqR, x_seqB, x_seqC, x_sNil, x_set, x_drop, x_ret, x_retN, x_sIf, x_brk, x_ct, x_put, x_for, x_def, x_defR, x_defN, x_ixP, x_ixL, x_lenP, x_lenL, x_tupP, x_tupL, x_tupKK, x_lstP, x_lstL, x_appP, x_appL, x_tyP, x_tyL, x_tyK, x_tyT, x_putP, x_putL, x_putI, x_putKK, x_srcP, x_srcL, List.map_cons, List.map_nil, List.replicate, List.cons_append, List.nil_append, List.set_cons_zero, List.set_cons_succ]
        refine ⟨?_, ?_⟩
        · right
          split <;> omega
        · obtain ⟨c, hc, c1, c2⟩ : ∃ c : Nat, (i : Int) + 1 + v1 * (if decide (v2 = 0) = true then 1 else 0) = (c : Int) ∧ i < c ∧ c < n := by
            refine ⟨((i : Int) + 1 + v1 * (if decide (v2 = 0) = true then 1 else 0)).toNat, ?_, ?_, ?_⟩ <;> (by_cases z : v2 = 0 <;> simp [z] <;> omega)
          rw [hc, x_seqN]
          simp only [x_var0, x_varS, x_c, x_bin, x_un, x_and, x_or, x_andK, x_orK, x_not, x_if, x_tup, x_lst, x_sl, x_call, x_callU, x_mth, x_isi, x_chain, x_chK, x_k1, x_tupRg, x_lstRg, x_lc, x_addI, x_addS, x_addT, x_subI, x_mulI, x_fdiv, x_mod, x_pow, x_lt, x_le, x_gt, x_ge, x_eqI, x_eqB, x_eqS, x_neI, x_neB, x_isB, x_isnB, x_neg, x_int, x_intB, x_lenT, x_lenS, x_tupT, x_lstT, x_ixT, x_ixR, x_optW, x_nil, x_cons, x_bB, x_boolK, x_bAnd, x_bOr, x_bNot, x_bYes, x_pNo, x_pSo, x_part, x_rng1, x_rng2, x_rng3, x_rk1, x_rk2, x_rk3, x_srcEn, x_srcZp, x_ekT, x_zkT, x_srcV, x_srcT, x_seq, x_seqR, x_seqB, x_seqC, x_sNil, x_set, x_drop, x_ret, x_retN, x_sIf, x_brk, x_ct, x_put, x_for, x_def, x_defR, x_defN, x_ixP, x_ixL, x_lenP, x_lenL, x_tupP, x_tupL, x_tupKK, x_lstP, x_lstL, x_appP, x_appL, x_tyP, x_tyL, x_tyK, x_tyT, x_putP, x_putL, x_putI, x_putKK, x_srcP, x_srcL, List.map_cons, List.map_nil, List.replicate, List.cons_append, List.nil_append, List.set_cons_zero, List.set_cons_succ]
          generalize hT : seqK (sDrop _) E K = T
          have key : ∀ c : Nat, i < c → c < n → ((P c).length ≤ 1 ∨ c = i + 1) → T (.nx [some (.obj 1), some (.int most), some (.int n), some (.obj 2), some (.int i), some (.int c), none, none, none]) (bx ds (a' + 1 + 1) ++ hsX n P []) := by
            intro c c1 c2 c3
            subst hT
            rw [x_seqN]
            simp only [x_var0, x_varS, x_c, x_bin, x_un, x_and, x_or, x_andK, x_orK, x_not, x_if, x_tup, x_lst, x_sl, x_call, x_callU, x_mth, x_isi, x_chain, x_chK, x_k1, x_tupRg, x_lstRg, x_lc, x_addI, x_addS, x_addT, x_subI, x_mulI, x_fdiv, x_mod, x_pow, x_lt, x_le, x_gt, x_ge, x_eqI, x_eqB, x_eqS, x_neI, x_neB, x_isB, x_isnB, x_neg, x_int, x_intB, x_lenT, x_lenS, x_tupT, x_lstT, x_ixT, x_ixR, x_optW, x_nil, x_cons, x_bB, x_boolK, x_bAnd, x_bOr, x_bNot, x_bYes, x_pNo, x_pSo, x_part, x_rng1, x_rng2, x_rng3, x_rk1, x_rk2, x_rk3, x_srcEn, x_srcZp, x_ekT, x_zkT, x_srcV, x_srcT, x_seq, x_seqR, x_seqB, x_seqC, x_sNil, x_set, x_drop, x_ret, x_retN, x_sIf, x_brk, x_ct, x_put, x_for, x_def, x_defR, x_defN, x_ixP, x_ixL, x_lenP, x_lenL, x_tupP, x_tupL, x_tupKK, x_lstP, x_lstL, x_appP, x_appL, x_tyP, x_tyL, x_tyK, x_tyT, x_putP, x_putL, x_putI, x_putKK, x_srcP, x_srcL, List.map_cons, List.map_nil, List.replicate, List.cons_append, List.nil_append, List.set_cons_zero, List.set_cons_succ, hs2, pl_at c2, hsj c2]
            refine ⟨trivial, ?_, ?_⟩
            · rw [List.length_map, sizeLine_eq]
              have := g.l3 c c2
              omega
            · have e : nd (P c) ++ [Dv.int (i : Nat)] = nd (P c ++ [i]) := by simp
              rw [e, hs_set c2]
              exact LK.nx _ _ ⟨_, rfl, _, _, _, _, rfl, rfl, g.step c1 c2 c3⟩
          simp only [hs2, x_var0, x_varS, x_c, x_bin, x_un, x_and, x_or, x_andK, x_orK, x_not, x_if, x_tup, x_lst, x_sl, x_call, x_callU, x_mth, x_isi, x_chain, x_chK, x_k1, x_tupRg, x_lstRg, x_lc, x_addI, x_addS, x_addT, x_subI, x_mulI, x_fdiv, x_mod, x_pow, x_lt, x_le, x_gt, x_ge, x_eqI, x_eqB, x_eqS, x_neI, x_neB, x_isB, x_isnB, x_neg, x_int, x_intB, x_lenT, x_lenS, x_tupT, x_lstT, x_ixT, x_ixR, x_optW, x_nil, x_cons, x_bB, x_boolK, x_bAnd, x_bOr, x_bNot, x_bYes, x_pNo, x_pSo, x_part, x_rng1, x_rng2, x_rng3, x_rk1, x_rk2, x_rk3, x_srcEn, x_srcZp, x_ekT, x_zkT, x_srcV, x_srcT, x_seq, x_seqR, x_seqB, x_seqC, x_sNil, x_set, x_drop, x_ret, x_retN, x_sIf, x_brk, x_ct, x_put, x_for, x_def, x_defR, x_defN, x_ixP, x_ixL, x_lenP, x_lenL, x_tupP, x_tupL, x_tupKK, x_lstP, x_lstL, x_appP, x_appL, x_tyP, x_tyL, x_tyK, x_tyT, x_putP, x_putL, x_putI, x_putKK, x_srcP, x_srcL, List.map_cons, List.map_nil, List.replicate, List.cons_append, List.nil_append, List.set_cons_zero, List.set_cons_succ, pl_at c2, hsj c2, List.length_map]
          by_cases hl : 2 ≤ (P c).length
          · rw [if_pos (decide_eq_true (by omega))]
            have e : (i : Int) + 1 = ((i + 1 : Nat) : Int) := by omega
            rw [e]
            exact key (i + 1) (by omega) (by omega) (.inr rfl)
          · rw [if_neg (by simp; omega)]
            exact key c c1 c2 (.inl (by omega))
    · rintro ρ θ' ⟨x4, x5, a', P, rfl, rfl, g⟩
      have en : ((n : Int) - 1).toNat = n - 1 := by omega
      refine ⟨by rw [en]; exact rng_end, ?_⟩
      have g2 : G2 n P := ⟨g.nd, fun j p h1 h2 => (g.lt j p h1 h2).1, fun j h => by have := g.l3 j h; omega, fun k hk => g.up k (by omega)⟩
      clear g e0
      rw [x_seqN]
      simp only [x_var0, x_varS, x_c, x_bin, x_un, x_and, x_or, x_andK, x_orK, x_not, x_if, x_tup, x_lst, x_sl, x_call, x_callU, x_mth, x_isi, x_chain, x_chK, x_k1, x_tupRg, x_lstRg, x_lc, x_addI, x_addS, x_addT, x_subI, x_mulI, x_fdiv, x_mod, x_pow, x_lt, x_le, x_gt, x_ge, x_eqI, x_eqB, x_eqS, x_neI, x_neB, x_isB, x_isnB, x_neg, x_int, x_intB, x_lenT, x_lenS, x_tupT, x_lstT, x_ixT, x_ixR, x_optW, x_nil, x_cons, x_bB, x_boolK, x_bAnd, x_bOr, x_bNot, x_bYes, x_pNo, x_pSo, x_part, x_rng1, x_rng2, x_rng3, x_rk1, x_rk2, x_rk3, x_srcEn, x_srcZp, x_ekT, x_zkT, x_srcV, x_srcT, x_seq, x_seqR, x_seqB, x_seqC, x_sNil, x_set, x_drop, x_ret, x_retN, x_sIf, x_brk, x_ct, x_put, x_for, x_def, x_defR, x_defN, x_ixP, x_ixL, x_lenP, x_lenL, x_tupP, x_tupL, x_tupKK, x_lstP, x_lstL, x_appP, x_appL, x_tyP, x_tyL, x_tyK, x_tyT, x_putP, x_putL, x_putI, x_putKK, x_srcP, x_srcL, List.map_cons, List.map_nil, List.replicate, List.cons_append, List.nil_append, List.set_cons_zero, List.set_cons_succ]
      refine ⟨rfl, s_draw (by decide) fun v1 u0 u1 => ?_⟩
      simp only [x_var0, x_varS, x_c, x_bin, x_un, x_and, x_or, x_andK, x_orK, x_not, x_if, x_tup, x_lst, x_sl, x_call, x_callU, x_mth, x_isi, x_chain, x_chK, x_k1, x_tupRg, x_lstRg, x_lc, x_addI, x_addS, x_addT, x_subI, x_mulI, x_fdiv, x_mod, x_pow, x_lt, x_le, x_gt, x_ge, x_eqI, x_eqB, x_eqS, x_neI, x_neB, x_isB, x_isnB, x_neg, x_int, x_intB, x_lenT, x_lenS, x_tupT, x_lstT, x_ixT, x_ixR, x_optW, x_nil, x_cons, x_bB, x_boolK, x_bAnd, x_bOr, x_bNot, x_bYes, x_pNo, x_pSo, x_part, x_rng1, x_rng2, x_rng3, x_rk1, x_rk2, x_rk3, x_srcEn, x_srcZp, x_ekT, x_zkT, x_srcV, x_srcT, x_seq, x_seqR, x_seqB, x_seqC, x_sNil, x_set, x_drop, x_ret, x_retN, x_sIf, x_brk, x_ct, x_put, x_for, x_def, x_defR, x_defN, x_ixP, x_ixL, x_lenP, x_lenL, x_tupP, x_tupL, x_tupKK, x_lstP, x_lstL, x_appP, x_appL, x_tyP, x_tyL, x_tyK, x_tyT, x_putP, x_putL, x_putI, x_putKK, x_srcP, x_srcL, List.map_cons, List.map_nil, List.replicate, List.cons_append, List.nil_append, List.set_cons_zero, List.set_cons_succ]
      obtain ⟨t, ht, tl⟩ : ∃ t : Nat, v1 * (if decide ((1 : Int) < n) = true then 1 else 0) = (t : Int) ∧ (0 < t → 1 < n) := by
        refine ⟨(v1 * (if decide ((1 : Int) < n) = true then 1 else 0)).toNat, ?_, ?_⟩ <;> (by_cases z : (1 : Int) < n <;> simp [z] <;> omega)
      have tb : (t : Int) < 5 := by rw [← ht]; split <;> omega
      refine ⟨by right; split <;> omega, ?_⟩
      rw [ht]
      refine ⟨⟨by omega, by omega⟩, ?_⟩
      refine for_rule t (fun i ρ θ' => ∃ x4 x5 x6 x7 a' P, ρ = [some (.obj 1), some (.int most), some (.int n), some (.obj 2), x4, x5, x6, x7, none] ∧ θ' = bx ds a' ++ hsX n P [] ∧ G2 n P) ⟨x4, x5, none, none, _, P, rfl, rfl, g2⟩ ?_ ?_
      · rintro i ρ θ' hi ⟨x4, x5, x6, x7, a', P, rfl, rfl, g⟩
        refine ⟨_, _, rng_at hi, rfl, fun K LK => ?_⟩
        have hn1 := tl (by omega)
        simp only [x_var0, x_varS, x_c, x_bin, x_un, x_and, x_or, x_andK, x_orK, x_not, x_if, x_tup, x_lst, x_sl, x_call, x_callU, x_mth, x_isi, x_chain, x_chK, x_k1, x_tupRg, x_lstRg, x_lc, x_addI, x_addS, x_addT, x_subI, x_mulI, x_fdiv, x_mod, x_pow, x_lt, x_le, x_gt, x_ge, x_eqI, x_eqB, x_eqS, x_neI, x_neB, x_isB, x_isnB, x_neg, x_int, x_intB, x_lenT, x_lenS, x_tupT, x_lstT, x_ixT, x_ixR, x_optW, x_nil, x_cons, x_bB, x_boolK, x_bAnd, x_bOr, x_bNot, x_bYes, x_pNo, x_pSo, x_part, x_rng1, x_rng2, x_rng3, x_rk1, x_rk2, x_rk3, x_srcEn, x_srcZp, x_ekT, x_zkT, x_srcV, x_srcT, x_seq, x_seqR, x_seqB, x_seqC, x_sNil, x_set, x_drop, x_ret, x_retN, x_sIf, x_brk, x_ct, x_put, x_for, x_def, x_defR, x_defN, x_ixP, x_ixL, x_lenP, x_lenL, x_tupP, x_tupL, x_tupKK, x_lstP, x_lstL, x_appP, x_appL, x_tyP, x_tyL, x_tyK, x_tyT, x_putP, x_putL, x_putI, x_putKK, x_srcP, x_srcL, List.map_cons, List.map_nil, List.replicate, List.cons_append, List.nil_append, List.set_cons_zero, List.set_cons_succ]
        refine ⟨rfl, s_draw (by omega) fun v1 u0 u1 => ?_⟩
        simp only [x_var0, x_varS, x_c, x_bin, x_un, x_and, x_or, x_andK, x_orK, x_not, x_if, x_tup, x_lst, x_sl, x_call, x_callU, x_mth, x_isi, x_chain, x_chK, x_k1, x_tupRg, x_lstRg, x_lc, x_addI, x_addS, x_addT, x_subI, x_mulI, x_fdiv, x_mod, x_pow, x_lt, x_le, x_gt, x_ge, x_eqI, x_eqB, x_eqS, x_neI, x_neB, x_isB, x_isnB, x_neg, x_int, x_intB, x_lenT, x_lenS, x_tupT, x_lstT, x_ixT, x_ixR, x_optW, x_nil, x_cons, x_bB, x_boolK, x_bAnd, x_bOr, x_bNot, x_bYes, x_pNo, x_pSo, x_part, x_rng1, x_rng2, x_rng3, x_rk1, x_rk2, x_rk3, x_srcEn, x_srcZp, x_ekT, x_zkT, x_srcV, x_srcT, x_seq, x_seqR, x_seqB, x_seqC, x_sNil, x_set, x_drop, x_ret, x_retN, x_sIf, x_brk, x_ct, x_put, x_for, x_def, x_defR, x_defN, x_ixP, x_ixL, x_lenP, x_lenL, x_tupP, x_tupL, x_tupKK, x_lstP, x_lstL, x_appP, x_appL, x_tyP, x_tyL, x_tyK, x_tyT, x_putP, x_putL, x_putI, x_putKK, x_srcP, x_srcL, List.map_cons, List.map_nil, List.replicate, List.cons_append, List.nil_append, List.set_cons_zero, List.set_cons_succ]
        obtain ⟨c, hc⟩ : ∃ c : Nat, 1 + v1 = (c : Int) := ⟨(1 + v1).toNat, by omega⟩
        rw [hc, x_seqN]
        have c1 : 0 < c := by omega
        have c2 : c < n := by omega
        simp only [x_var0, x_varS, x_c, x_bin, x_un, x_and, x_or, x_andK, x_orK, x_not, x_if, x_tup, x_lst, x_sl, x_call, x_callU, x_mth, x_isi, x_chain, x_chK, x_k1, x_tupRg, x_lstRg, x_lc, x_addI, x_addS, x_addT, x_subI, x_mulI, x_fdiv, x_mod, x_pow, x_lt, x_le, x_gt, x_ge, x_eqI, x_eqB, x_eqS, x_neI, x_neB, x_isB, x_isnB, x_neg, x_int, x_intB, x_lenT, x_lenS, x_tupT, x_lstT, x_ixT, x_ixR, x_optW, x_nil, x_cons, x_bB, x_boolK, x_bAnd, x_bOr, x_bNot, x_bYes, x_pNo, x_pSo, x_part, x_rng1, x_rng2, x_rng3, x_rk1, x_rk2, x_rk3, x_srcEn, x_srcZp, x_ekT, x_zkT, x_srcV, x_srcT, x_seq, x_seqR, x_seqB, x_seqC, x_sNil, x_set, x_drop, x_ret, x_retN, x_sIf, x_brk, x_ct, x_put, x_for, x_def, x_defR, x_defN, x_ixP, x_ixL, x_lenP, x_lenL, x_tupP, x_tupL, x_tupKK, x_lstP, x_lstL, x_appP, x_appL, x_tyP, x_tyL, x_tyK, x_tyT, x_putP, x_putL, x_putI, x_putKK, x_srcP, x_srcL, List.map_cons, List.map_nil, List.replicate, List.cons_append, List.nil_append, List.set_cons_zero, List.set_cons_succ]
        refine ⟨rfl, s_draw (by omega) fun v2 u2 u3 => ?_⟩
        obtain ⟨p, rfl⟩ : ∃ p : Nat, v2 = (p : Int) := ⟨v2.toNat, by omega⟩
        rw [x_seqN]
        simp only [x_var0, x_varS, x_c, x_bin, x_un, x_and, x_or, x_andK, x_orK, x_not, x_if, x_tup, x_lst, x_sl, x_call, x_callU, x_mth, x_isi, x_chain, x_chK, x_k1, x_tupRg, x_lstRg, x_lc, x_addI, x_addS, x_addT, x_subI, x_mulI, x_fdiv, x_mod, x_pow, x_lt, x_le, x_gt, x_ge, x_eqI, x_eqB, x_eqS, x_neI, x_neB, x_isB, x_isnB, x_neg, x_int, x_intB, x_lenT, x_lenS, x_tupT, x_lstT, x_ixT, x_ixR, x_optW, x_nil, x_cons, x_bB, x_boolK, x_bAnd, x_bOr, x_bNot, x_bYes, x_pNo, x_pSo, x_part, x_rng1, x_rng2, x_rng3, x_rk1, x_rk2, x_rk3, x_srcEn, x_srcZp, x_ekT, x_zkT, x_srcV, x_srcT, x_seq, x_seqR, x_seqB, x_seqC, x_sNil, x_set, x_drop, x_ret, x_retN, x_sIf, x_brk, x_ct, x_put, x_for, x_def, x_defR, x_defN, x_ixP, x_ixL, x_lenP, x_lenL, x_tupP, x_tupL, x_tupKK, x_lstP, x_lstL, x_appP, x_appL, x_tyP, x_tyL, x_tyK, x_tyT, x_putP, x_putL, x_putI, x_putKK, x_srcP, x_srcL, List.map_cons, List.map_nil, List.replicate, List.cons_append, List.nil_append, List.set_cons_zero, List.set_cons_succ, hs2, pl_at c2]
        refine notin_ints (hsj c2) ?_
        simp only [x_var0, x_varS, x_c, x_bin, x_un, x_and, x_or, x_andK, x_orK, x_not, x_if, x_tup, x_lst, x_sl, x_call, x_callU, x_mth, x_isi, x_chain, x_chK, x_k1, x_tupRg, x_lstRg, x_lc, x_addI, x_addS, x_addT, x_subI, x_mulI, x_fdiv, x_mod, x_pow, x_lt, x_le, x_gt, x_ge, x_eqI, x_eqB, x_eqS, x_neI, x_neB, x_isB, x_isnB, x_neg, x_int, x_intB, x_lenT, x_lenS, x_tupT, x_lstT, x_ixT, x_ixR, x_optW, x_nil, x_cons, x_bB, x_boolK, x_bAnd, x_bOr, x_bNot, x_bYes, x_pNo, x_pSo, x_part, x_rng1, x_rng2, x_rng3, x_rk1, x_rk2, x_rk3, x_srcEn, x_srcZp, x_ekT, x_zkT, x_srcV, x_srcT, x_seq, x_seqR, x_seqB, x_seqC, x_sNil, x_set, x_drop, x_ret, x_retN, x_sIf, x_brk, x_ct, x_put, x_for, x_def, x_defR, x_defN, x_ixP, x_ixL, x_lenP, x_lenL, x_tupP, x_tupL, x_tupKK, x_lstP, x_lstL, x_appP, x_appL, x_tyP, x_tyL, x_tyK, x_tyT, x_putP, x_putL, x_putI, x_putKK, x_srcP, x_srcL, List.map_cons, List.map_nil, List.replicate, List.cons_append, List.nil_append, List.set_cons_zero, List.set_cons_succ, hs2, pl_at c2, hsj c2, List.length_map]
        have fin : ∀ P', G2 n P' → K (.nx [some (.obj 1), some (.int most), some (.int n), some (.obj 2), x4, some (.int c), some (.int (0 + (i : Nat) * 1)), some (.int p), none]) (bx ds (a' + 1 + 1) ++ hsX n P' []) := fun P' g' => LK.nx _ _ ⟨_, rfl, _, _, _, _, _, P', rfl, rfl, g'⟩
        by_cases hp : p ∈ P c
        · rw [if_neg (by simp [hp]), if_neg Bool.false_ne_true]
          exact fin P g
        · rw [if_pos (by simp [hp])]
          by_cases hl : (P c).length < 4
          · rw [if_pos (decide_eq_true (by omega))]
            refine ⟨trivial, ?_, ?_⟩
            · rw [sizeLine_eq]; omega
            · have e : nd (P c) ++ [Dv.int (p : Nat)] = nd (P c ++ [p]) := by simp
              rw [e, hs_set c2]
              exact fin _ (g.step (by omega) c2 hl hp)
          · rw [if_neg (by simp; omega)]
            exact fin P g
      · rintro ρ θ' ⟨x4, x5, x6, x7, a', P, rfl, rfl, g⟩
        refine ⟨rng_end, ?_⟩
        rw [x_seqN]
        simp only [x_var0, x_varS, x_c, x_bin, x_un, x_and, x_or, x_andK, x_orK, x_not, x_if, x_tup, x_lst, x_sl, x_call, x_callU, x_mth, x_isi, x_chain, x_chK, x_k1, x_tupRg, x_lstRg, x_lc, x_addI, x_addS, x_addT, x_subI, x_mulI, x_fdiv, x_mod, x_pow, x_lt, x_le, x_gt, x_ge, x_eqI, x_eqB, x_eqS, x_neI, x_neB, x_isB, x_isnB, x_neg, x_int, x_intB, x_lenT, x_lenS, x_tupT, x_lstT, x_ixT, x_ixR, x_optW, x_nil, x_cons, x_bB, x_boolK, x_bAnd, x_bOr, x_bNot, x_bYes, x_pNo, x_pSo, x_part, x_rng1, x_rng2, x_rng3, x_rk1, x_rk2, x_rk3, x_srcEn, x_srcZp, x_ekT, x_zkT, x_srcV, x_srcT, x_seq, x_seqR, x_seqB, x_seqC, x_sNil, x_set, x_drop, x_ret, x_retN, x_sIf, x_brk, x_ct, x_put, x_for, x_def, x_defR, x_defN, x_ixP, x_ixL, x_lenP, x_lenL, x_tupP, x_tupL, x_tupKK, x_lstP, x_lstL, x_appP, x_appL, x_tyP, x_tyL, x_tyK, x_tyT, x_putP, x_putL, x_putI, x_putKK, x_srcP, x_srcL, List.map_cons, List.map_nil, List.replicate, List.cons_append, List.nil_append, List.set_cons_zero, List.set_cons_succ]
        refine ⟨rfl, s_draw (by decide) fun v2 u2 u3 => ?_⟩
        obtain ⟨w, rfl⟩ : ∃ w : Nat, v2 = (w : Int) := ⟨v2.toNat, by omega⟩
        rw [x_seqN]
        simp only [x_var0, x_varS, x_c, x_bin, x_un, x_and, x_or, x_andK, x_orK, x_not, x_if, x_tup, x_lst, x_sl, x_call, x_callU, x_mth, x_isi, x_chain, x_chK, x_k1, x_tupRg, x_lstRg, x_lc, x_addI, x_addS, x_addT, x_subI, x_mulI, x_fdiv, x_mod, x_pow, x_lt, x_le, x_gt, x_ge, x_eqI, x_eqB, x_eqS, x_neI, x_neB, x_isB, x_isnB, x_neg, x_int, x_intB, x_lenT, x_lenS, x_tupT, x_lstT, x_ixT, x_ixR, x_optW, x_nil, x_cons, x_bB, x_boolK, x_bAnd, x_bOr, x_bNot, x_bYes, x_pNo, x_pSo, x_part, x_rng1, x_rng2, x_rng3, x_rk1, x_rk2, x_rk3, x_srcEn, x_srcZp, x_ekT, x_zkT, x_srcV, x_srcT, x_seq, x_seqR, x_seqB, x_seqC, x_sNil, x_set, x_drop, x_ret, x_retN, x_sIf, x_brk, x_ct, x_put, x_for, x_def, x_defR, x_defN, x_ixP, x_ixL, x_lenP, x_lenL, x_tupP, x_tupL, x_tupKK, x_lstP, x_lstL, x_appP, x_appL, x_tyP, x_tyL, x_tyK, x_tyT, x_putP, x_putL, x_putI, x_putKK, x_srcP, x_srcL, List.map_cons, List.map_nil, List.replicate, List.cons_append, List.nil_append, List.set_cons_zero, List.set_cons_succ, wipeE]
        refine ⟨⟨by omega, by omega⟩, ?_⟩
        refine lc_pure n (fun _ => true) (fun k => mk (wordS k w, srt (P k))) (by rw [sizeLine_eq]; omega) ?_ ?_ ?_
        · intro i acc g' hi
          refine ⟨.int (i : Nat), _, by rw [show (n : Int).toNat = n from rfl, rng_at hi]; simp, rfl, fun K hK => ?_⟩
          simp only [x_var0, x_varS, x_c, x_bin, x_un, x_and, x_or, x_andK, x_orK, x_not, x_if, x_tup, x_lst, x_sl, x_call, x_callU, x_mth, x_isi, x_chain, x_chK, x_k1, x_tupRg, x_lstRg, x_lc, x_addI, x_addS, x_addT, x_subI, x_mulI, x_fdiv, x_mod, x_pow, x_lt, x_le, x_gt, x_ge, x_eqI, x_eqB, x_eqS, x_neI, x_neB, x_isB, x_isnB, x_neg, x_int, x_intB, x_lenT, x_lenS, x_tupT, x_lstT, x_ixT, x_ixR, x_optW, x_nil, x_cons, x_bB, x_boolK, x_bAnd, x_bOr, x_bNot, x_bYes, x_pNo, x_pSo, x_part, x_rng1, x_rng2, x_rng3, x_rk1, x_rk2, x_rk3, x_srcEn, x_srcZp, x_ekT, x_zkT, x_srcV, x_srcT, x_seq, x_seqN, x_seqR, x_seqB, x_seqC, x_sNil, x_set, x_drop, x_ret, x_retN, x_sIf, x_brk, x_ct, x_put, x_for, x_def, x_defR, x_defN, x_ixP, x_ixL, x_lenP, x_lenL, x_tupP, x_tupL, x_tupKK, x_lstP, x_lstL, x_appP, x_appL, x_tyP, x_tyL, x_tyK, x_tyT, x_putP, x_putL, x_putI, x_putKK, x_srcP, x_srcL, List.map_cons, List.map_nil, List.replicate, List.cons_append, List.nil_append, List.set_cons_zero, List.set_cons_succ]
          refine hK g' fun _ K2 h2 => ?_
          simp only [x_var0, x_varS, x_c, x_bin, x_un, x_and, x_or, x_andK, x_orK, x_not, x_if, x_tup, x_lst, x_sl, x_call, x_callU, x_mth, x_isi, x_chain, x_chK, x_k1, x_tupRg, x_lstRg, x_lc, x_addI, x_addS, x_addT, x_subI, x_mulI, x_fdiv, x_mod, x_pow, x_lt, x_le, x_gt, x_ge, x_eqI, x_eqB, x_eqS, x_neI, x_neB, x_isB, x_isnB, x_neg, x_int, x_intB, x_lenT, x_lenS, x_tupT, x_lstT, x_ixT, x_ixR, x_optW, x_nil, x_cons, x_bB, x_boolK, x_bAnd, x_bOr, x_bNot, x_bYes, x_pNo, x_pSo, x_part, x_rng1, x_rng2, x_rng3, x_rk1, x_rk2, x_rk3, x_srcEn, x_srcZp, x_ekT, x_zkT, x_srcV, x_srcT, x_seq, x_seqR, x_seqB, x_seqC, x_sNil, x_set, x_drop, x_ret, x_retN, x_sIf, x_brk, x_ct, x_put, x_for, x_def, x_defR, x_defN, x_ixP, x_ixL, x_lenP, x_lenL, x_tupP, x_tupL, x_tupKK, x_lstP, x_lstL, x_appP, x_appL, x_tyP, x_tyL, x_tyK, x_tyT, x_putP, x_putL, x_putI, x_putKK, x_srcP, x_srcL, List.map_cons, List.map_nil, List.replicate, List.cons_append, List.nil_append, List.set_cons_zero, List.set_cons_succ]
          refine ⟨rfl, s_word ?_⟩
          have h3 : ∀ gg : Th, (bx ds (a' + 1) ++ hsX n P [] ++ gg)[2]? = some (.lst (pl n)) := fun gg => th_left hs2
          have h4 : ∀ gg : Th, (bx ds (a' + 1) ++ hsX n P [] ++ gg)[i + 3]? = some (.lst (nd (P i))) := fun gg => th_left (hsj hi)
          simp only [x_var0, x_varS, x_c, x_bin, x_un, x_and, x_or, x_andK, x_orK, x_not, x_if, x_tup, x_lst, x_sl, x_call, x_callU, x_mth, x_isi, x_chain, x_chK, x_k1, x_tupRg, x_lstRg, x_lc, x_addI, x_addS, x_addT, x_subI, x_mulI, x_fdiv, x_mod, x_pow, x_lt, x_le, x_gt, x_ge, x_eqI, x_eqB, x_eqS, x_neI, x_neB, x_isB, x_isnB, x_neg, x_int, x_intB, x_lenT, x_lenS, x_tupT, x_lstT, x_ixT, x_ixR, x_optW, x_nil, x_cons, x_bB, x_boolK, x_bAnd, x_bOr, x_bNot, x_bYes, x_pNo, x_pSo, x_part, x_rng1, x_rng2, x_rng3, x_rk1, x_rk2, x_rk3, x_srcEn, x_srcZp, x_ekT, x_zkT, x_srcV, x_srcT, x_seq, x_seqR, x_seqB, x_seqC, x_sNil, x_set, x_drop, x_ret, x_retN, x_sIf, x_brk, x_ct, x_put, x_for, x_def, x_defR, x_defN, x_ixP, x_ixL, x_lenP, x_lenL, x_tupP, x_tupL, x_tupKK, x_lstP, x_lstL, x_appP, x_appL, x_tyP, x_tyL, x_tyK, x_tyT, x_putP, x_putL, x_putI, x_putKK, x_srcP, x_srcL, List.map_cons, List.map_nil, List.replicate, List.cons_append, List.nil_append, List.set_cons_zero, List.set_cons_succ, h3, pl_at hi]
          rw [x_intsP (h4 _) (ints_nat _)]
          intro ns' hp hs
          simp only [x_var0, x_varS, x_c, x_bin, x_un, x_and, x_or, x_andK, x_orK, x_not, x_if, x_tup, x_lst, x_sl, x_call, x_callU, x_mth, x_isi, x_chain, x_chK, x_k1, x_tupRg, x_lstRg, x_lc, x_addI, x_addS, x_addT, x_subI, x_mulI, x_fdiv, x_mod, x_pow, x_lt, x_le, x_gt, x_ge, x_eqI, x_eqB, x_eqS, x_neI, x_neB, x_isB, x_isnB, x_neg, x_int, x_intB, x_lenT, x_lenS, x_tupT, x_lstT, x_ixT, x_ixR, x_optW, x_nil, x_cons, x_bB, x_boolK, x_bAnd, x_bOr, x_bNot, x_bYes, x_pNo, x_pSo, x_part, x_rng1, x_rng2, x_rng3, x_rk1, x_rk2, x_rk3, x_srcEn, x_srcZp, x_ekT, x_zkT, x_srcV, x_srcT, x_seq, x_seqR, x_seqB, x_seqC, x_sNil, x_set, x_drop, x_ret, x_retN, x_sIf, x_brk, x_ct, x_put, x_for, x_def, x_defR, x_defN, x_ixP, x_ixL, x_lenP, x_lenL, x_tupP, x_tupL, x_tupKK, x_lstP, x_lstL, x_appP, x_appL, x_tyP, x_tyL, x_tyK, x_tyT, x_putP, x_putL, x_putI, x_putKK, x_srcP, x_srcL, List.map_cons, List.map_nil, List.replicate, List.cons_append, List.nil_append, List.set_cons_zero, List.set_cons_succ]
          rw [th_last, x_tupL]
          refine ⟨by rw [sizeLine_eq]; simp, ?_⟩
          have e : Dv.tup [.str (wordS i w), .tup (ns'.map Dv.int)] = mk (wordS i w, srt (P i)) := by
            have e1 := PySem.W.eq_sortI hp hs
            have e2 := srt_ints (P i)
            rw [← e1] at e2
            show Dv.tup [.str (wordS i w), .tup (ns'.map Dv.int)] = Dv.tup [.str (wordS i w), .tup ((srt (P i)).map fun p => Dv.int (p : Nat))]
            rw [← e2, List.map_map]
            rfl
          rw [e, List.append_assoc, List.cons_append]
          exact h2 _
        · intro acc g'
          exact rng_end
        · intro g'
          rw [th_mid, x_tupL]
          refine ⟨by rw [sizeLine_eq]; simp, ?_⟩
          rw [List.append_nil, List.append_assoc, List.filter_eq_self.mpr fun _ _ => rfl]
          have e : Dv.tup [.str "history", .tup ((List.range n).map fun k => mk (wordS k w, srt (P k)))] = hD (hist n P w) := by
            unfold hD hist
            rw [List.map_map]
            rfl
          rw [e]
          exact end_bx (fun m => hD_low _ m) (hQ n P w _ (by omega) (by omega) g (by omega))
end Sp

/-! Sp5: the program's offspring. -/
namespace Sp
open PySem PySem.Spec PyProof.Rows L2 Mn
variable {E : Exn → Th → Prop} {θ : Th} {ρ : DEnv} {Q : Dv → Th → Prop}
def dict1K (x y : Dv) (k : Nat) (θ2 : Th) (Q : Dv → Th → Prop) : Prop := match fKey x with
  | some q => Q (.obj k) (θ2.set k (.dK [(q, y)]))
  | none => False
theorem x_dict1 {a b : ME} : mDict1 a b ρ E θ Q = a ρ E (θ ++ [.dK []]) fun x θ1 => b ρ E θ1 fun y θ2 => θ2[θ.length]? = some (.dK []) ∧ dict1K x y θ.length θ2 Q := (rfl)
theorem x_dict1K {i : Int} {y : Dv} {k : Nat} : dict1K (.int i) y k θ Q = Q (.obj k) (θ.set k (.dK [(.inl i, y)])) := (rfl)
theorem en_at {ds : List Dv} {i : Nat} {d : Dv} (h : ds[i]? = some d) : (Src.en (.T ds)).at θ i = some (some (.tup [.int (i : Nat), d])) := by
  have := (List.getElem?_eq_some_iff.mp h).1
  simp only [Src.at, Sd.items, enAt, if_pos (Nat.le_of_lt this), h, Option.map_some]
theorem en_end {ds : List Dv} : (Src.en (.T ds)).at θ ds.length = some none := by
  simp only [Src.at, Sd.items, enAt, if_pos (Nat.le_refl _), List.getElem?_eq_none (Nat.le_refl _), Option.map_none]
theorem sdT_at {ds : List Dv} {i : Nat} {d : Dv} (h : ds[i]? = some d) : (Src.sd (.T ds)).at θ i = some (some d) := by
  simp only [Src.at, Sd.items, Option.map_some, h]
theorem sdT_end {ds : List Dv} : (Src.sd (.T ds)).at θ ds.length = some none := by
  simp only [Src.at, Sd.items, Option.map_some, List.getElem?_eq_none (Nat.le_refl _)]
theorem bools_of (l : List Bool) : boolsD (l.map Dv.bl) = some l := by
  induction l with
  | nil => rfl
  | cons p l ih =>
    show (boolsD (l.map Dv.bl)).map (p :: ·) = _
    rw [ih]
    rfl
theorem x_boolsP {f : List Bool → MX Dv} {k : Nat} {ds : List Dv} {ns : List Bool} (h : θ[k]? = some (.lst ds)) (hn : boolsD ds = some ns) : onBools f (.obj k) E θ Q = f ns E θ Q := by
  unfold onBools
  simp only [h, hn]
theorem x_anyL {bs : List Bool} : anyL bs E θ Q = Q (.bl (bs.any id)) θ := (rfl)
theorem x_allL {bs : List Bool} : allL bs E θ Q = Q (.bl (bs.all id)) θ := (rfl)
/-! dicts of ints -/
def kd (ks : List Nat) : List (Key × Dv) := ks.map fun j : Nat => ((.inl (j : Int) : Key), Dv.bl true)
theorem kd_look {ks : List Nat} {p : Nat} : (lookD (kd ks) (.inl (p : Int))).isSome = decide (p ∈ ks) := by
  unfold lookD kd
  rw [Option.isSome_map, Bool.eq_iff_iff, List.find?_isSome, decide_eq_true_eq]
  constructor
  · rintro ⟨x, hx, e⟩
    obtain ⟨j, hj, rfl⟩ := List.mem_map.mp hx
    have e := of_decide_eq_true e
    have : (j : Int) = (p : Int) := Sum.inl.inj e
    have : j = p := by omega
    rw [← this]
    exact hj
  · exact fun h => ⟨(.inl (p : Int), .bl true), List.mem_map.mpr ⟨p, h, rfl⟩, by simp⟩
theorem kd_put {ks : List Nat} {p : Nat} (h : p ∉ ks) : putD (kd ks) (.inl (p : Int)) (.bl true) = kd (ks ++ [p]) := by
  unfold putD
  rw [if_neg]
  · unfold kd
    rw [List.map_append]
    rfl
  · intro e
    rw [List.any_eq_true] at e
    obtain ⟨x, hx, e⟩ := e
    unfold kd at hx
    obtain ⟨j, hj, rfl⟩ := List.mem_map.mp hx
    have e := of_decide_eq_true e
    have : (j : Int) = (p : Int) := Sum.inl.inj e
    have : j = p := by omega
    exact h (this ▸ hj)
theorem in_kd {p k : Nat} {ks : List Nat} (h : θ[k]? = some (.dK (kd ks))) (hq : Q (.bl (decide (p ∈ ks))) θ) : oIn (.int p) (.obj k) E θ Q := by
  unfold oIn inO
  simp only [h, fKey, kd_look]
  exact hq
/-! ancestors from the other side -/
theorem Anc.head {h : Hist} {i m : Nat} : Anc h i m ↔ m = i ∨ ∃ p, p ∈ par h i ∧ Anc h p m := by
  constructor
  · intro r
    induction r with
    | self => exact .inl rfl
    | @step k p r _ h2 ih =>
      rcases ih with rfl | ⟨q, hq, ih⟩
      · exact .inr ⟨p, h2, .self⟩
      · exact .inr ⟨q, hq, .step ih (Nat.zero_le _) h2⟩
  · rintro (rfl | ⟨p, hp, r⟩)
    · exact .self
    · induction r with
      | self => exact .step .self (Nat.zero_le _) hp
      | step r h1 h2 ih => exact .step ih (Nat.zero_le _) h2
noncomputable def offs (h : Hist) (m : Nat) : List Nat := (List.range h.length).filter fun j => anc h j m
theorem offs_keys {h : Hist} {m : Nat} (a : Ahead h) : ∀ n, m < n → m :: ((List.range n).filter fun j => decide (m < j) && anc h j m) = (List.range n).filter fun j => anc h j m := by
  have e0 : ∀ n, n ≤ m → ((List.range n).filter fun j => anc h j m) = [] ∧ ((List.range n).filter fun j => decide (m < j) && anc h j m) = [] := by
    intro n hn
    constructor
    · rw [List.filter_eq_nil_iff]
      intro j hj
      rw [List.mem_range] at hj
      rw [anc_iff]
      intro r
      have := Rc.le a r
      omega
    · rw [List.filter_eq_nil_iff]
      intro j hj
      rw [List.mem_range] at hj
      simp
      omega
  intro n
  induction n with
  | zero => intro h; omega
  | succ n ih =>
    intro hm
    rw [List.range_succ, List.filter_append, List.filter_append]
    by_cases e : n = m
    · subst e
      rw [(e0 n (Nat.le_refl _)).1, (e0 n (Nat.le_refl _)).2]
      have : anc h n n = true := anc_iff.mpr .self
      simp [this]
    · have : decide (m < n) = true := decide_eq_true (by omega)
      have e3 : List.filter (fun j => decide (m < j) && anc h j m) [n] = List.filter (fun j => anc h j m) [n] := by simp [List.filter_cons, this]
      rw [← ih (by omega), List.cons_append, e3]
theorem keys_iff {h : Hist} {i m : Nat} (a : Ahead h) : (∃ p, p ∈ par h i ∧ p ∈ m :: ((List.range i).filter fun j => decide (m < j) && anc h j m)) ↔ m < i ∧ Anc h i m := by
  constructor
  · rintro ⟨p, hp, hk⟩
    have := a _ _ hp
    rcases List.mem_cons.mp hk with rfl | hk
    · exact ⟨this, Anc.head.mpr (.inr ⟨p, hp, .self⟩)⟩
    · rw [List.mem_filter, Bool.and_eq_true, decide_eq_true_eq, anc_iff] at hk
      exact ⟨by omega, Anc.head.mpr (.inr ⟨p, hp, hk.2.2⟩)⟩
  · rintro ⟨hm, r⟩
    rcases Anc.head.mp r with e | ⟨p, hp, r⟩
    · omega
    · refine ⟨p, hp, ?_⟩
      have h1 := a _ _ hp
      have h2 := Rc.le a r
      by_cases e : p = m
      · rw [e]; exact List.mem_cons_self
      · refine List.mem_cons_of_mem _ ?_
        rw [List.mem_filter, Bool.and_eq_true, decide_eq_true_eq, anc_iff, List.mem_range]
        exact ⟨h1, by omega, r⟩
theorem nd_keys (ks : List Nat) : (kd ks).map (fun kv => keyD kv.1) = nd ks := by
  unfold kd
  rw [List.map_map]
  rfl
theorem s_offspring {h : Hist} {m : Nat} (a : Ahead h) (hm : m < h.length) (hl : h.length ≤ 1000) (hw : ∀ k, (par h k).length ≤ 1000) (hQ : Q (.tup (nd (offs h m))) θ) : Cm.c_offspring [hD h, .int m] E θ Q := by
  unfold Cm.c_offspring Cm.m_offspring
  simp only [x_var0, x_varS, x_c, x_bin, x_un, x_and, x_or, x_andK, x_orK, x_not, x_if, x_tup, x_lst, x_sl, x_call, x_callU, x_mth, x_isi, x_chain, x_chK, x_k1, x_tupRg, x_lstRg, x_lc, x_addI, x_addS, x_addT, x_subI, x_mulI, x_fdiv, x_mod, x_pow, x_lt, x_le, x_gt, x_ge, x_eqI, x_eqB, x_eqS, x_neI, x_neB, x_isB, x_isnB, x_neg, x_int, x_intB, x_lenT, x_lenS, x_tupT, x_lstT, x_ixT, x_ixR, x_optW, x_nil, x_cons, x_bB, x_boolK, x_bAnd, x_bOr, x_bNot, x_bYes, x_pNo, x_pSo, x_part, x_rng1, x_rng2, x_rng3, x_rk1, x_rk2, x_rk3, x_srcEn, x_srcZp, x_ekT, x_zkT, x_srcV, x_srcT, x_seq, x_seqR, x_seqB, x_seqC, x_sNil, x_set, x_drop, x_ret, x_retN, x_sIf, x_brk, x_ct, x_put, x_for, x_def, x_defR, x_defN, x_ixP, x_ixL, x_lenP, x_lenL, x_tupP, x_tupL, x_tupKK, x_lstP, x_lstL, x_appP, x_appL, x_tyP, x_tyL, x_tyK, x_tyT, x_putP, x_putL, x_putI, x_putKK, x_srcP, x_srcL, List.map_cons, List.map_nil, List.replicate, List.cons_append, List.nil_append, List.set_cons_zero, List.set_cons_succ, wipeE, x_dict1, x_dict1K, x_h1]
  refine ⟨by simp, ?_⟩
  rw [th_app, x_seqN]
  simp only [x_var0, x_varS, x_c, x_bin, x_un, x_and, x_or, x_andK, x_orK, x_not, x_if, x_tup, x_lst, x_sl, x_call, x_callU, x_mth, x_isi, x_chain, x_chK, x_k1, x_tupRg, x_lstRg, x_lc, x_addI, x_addS, x_addT, x_subI, x_mulI, x_fdiv, x_mod, x_pow, x_lt, x_le, x_gt, x_ge, x_eqI, x_eqB, x_eqS, x_neI, x_neB, x_isB, x_isnB, x_neg, x_int, x_intB, x_lenT, x_lenS, x_tupT, x_lstT, x_ixT, x_ixR, x_optW, x_nil, x_cons, x_bB, x_boolK, x_bAnd, x_bOr, x_bNot, x_bYes, x_pNo, x_pSo, x_part, x_rng1, x_rng2, x_rng3, x_rk1, x_rk2, x_rk3, x_srcEn, x_srcZp, x_ekT, x_zkT, x_srcV, x_srcT, x_seq, x_seqR, x_seqB, x_seqC, x_sNil, x_set, x_drop, x_ret, x_retN, x_sIf, x_brk, x_ct, x_put, x_for, x_def, x_defR, x_defN, x_ixP, x_ixL, x_lenP, x_lenL, x_tupP, x_tupL, x_tupKK, x_lstP, x_lstL, x_appP, x_appL, x_tyP, x_tyL, x_tyK, x_tyT, x_putP, x_putL, x_putI, x_putKK, x_srcP, x_srcL, List.map_cons, List.map_nil, List.replicate, List.cons_append, List.nil_append, List.set_cons_zero, List.set_cons_succ, wipeE, x_h1]
  have el : (h.map mk).length = h.length := by simp
  rw [← el] at hl
  refine for_rule (h.map mk).length (fun i ρ θ' => ∃ x3 x4 x5 x6 g, ρ = [some (hD h), some (.int m), some (.obj θ.length), x3, x4, x5, x6] ∧ θ' = θ ++ .dK (kd (m :: ((List.range i).filter fun j => decide (m < j) && anc h j m))) :: g) ⟨none, none, none, none, [], rfl, rfl⟩ ?_ ?_
  · rintro i ρ θ' hi ⟨x3, x4, x5, x6, g, rfl, rfl⟩
    rw [el] at hi
    refine ⟨_, [some (hD h), some (.int m), some (.obj θ.length), some (.int i), some (.str h[i].1), some (.tup (nd (par h i))), x6], en_at (d := mk h[i]) (by simp [hi]), ?_, fun K LK => ?_⟩
    · rw [← par_get hi]; rfl
    · generalize hks : (m :: ((List.range i).filter fun j => decide (m < j) && anc h j m)) = ks
      simp only [x_var0, x_varS, x_c, x_bin, x_un, x_and, x_or, x_andK, x_orK, x_not, x_if, x_tup, x_lst, x_sl, x_call, x_callU, x_mth, x_isi, x_chain, x_chK, x_k1, x_tupRg, x_lstRg, x_lc, x_addI, x_addS, x_addT, x_subI, x_mulI, x_fdiv, x_mod, x_pow, x_lt, x_le, x_gt, x_ge, x_eqI, x_eqB, x_eqS, x_neI, x_neB, x_isB, x_isnB, x_neg, x_int, x_intB, x_lenT, x_lenS, x_tupT, x_lstT, x_ixT, x_ixR, x_optW, x_nil, x_cons, x_bB, x_boolK, x_bAnd, x_bOr, x_bNot, x_bYes, x_pNo, x_pSo, x_part, x_rng1, x_rng2, x_rng3, x_rk1, x_rk2, x_rk3, x_srcEn, x_srcZp, x_ekT, x_zkT, x_srcV, x_srcT, x_seq, x_seqR, x_seqB, x_seqC, x_sNil, x_set, x_drop, x_ret, x_retN, x_sIf, x_brk, x_ct, x_put, x_for, x_def, x_defR, x_defN, x_ixP, x_ixL, x_lenP, x_lenL, x_tupP, x_tupL, x_tupKK, x_lstP, x_lstL, x_appP, x_appL, x_tyP, x_tyL, x_tyK, x_tyT, x_putP, x_putL, x_putI, x_putKK, x_srcP, x_srcL, List.map_cons, List.map_nil, List.replicate, List.cons_append, List.nil_append, List.set_cons_zero, List.set_cons_succ, wipeE]
      refine lc_pure (θ0 := θ ++ .dK (kd ks) :: g) (par h i).length (fun _ => true) (fun t => .bl (decide ((par h i).getD t 0 ∈ ks))) (by rw [sizeLine_eq]; have := hw i; omega) ?_ ?_ ?_
      · intro t acc g' ht
        have e1 : (nd (par h i))[t]? = some (.int ((par h i)[t] : Nat)) := by simp [ht]
        refine ⟨_, _, sdT_at e1, rfl, fun K2 hK => ?_⟩
        simp only [x_var0, x_varS, x_c, x_bin, x_un, x_and, x_or, x_andK, x_orK, x_not, x_if, x_tup, x_lst, x_sl, x_call, x_callU, x_mth, x_isi, x_chain, x_chK, x_k1, x_tupRg, x_lstRg, x_lc, x_addI, x_addS, x_addT, x_subI, x_mulI, x_fdiv, x_mod, x_pow, x_lt, x_le, x_gt, x_ge, x_eqI, x_eqB, x_eqS, x_neI, x_neB, x_isB, x_isnB, x_neg, x_int, x_intB, x_lenT, x_lenS, x_tupT, x_lstT, x_ixT, x_ixR, x_optW, x_nil, x_cons, x_bB, x_boolK, x_bAnd, x_bOr, x_bNot, x_bYes, x_pNo, x_pSo, x_part, x_rng1, x_rng2, x_rng3, x_rk1, x_rk2, x_rk3, x_srcEn, x_srcZp, x_ekT, x_zkT, x_srcV, x_srcT, x_seq, x_seqN, x_seqR, x_seqB, x_seqC, x_sNil, x_set, x_drop, x_ret, x_retN, x_sIf, x_brk, x_ct, x_put, x_for, x_def, x_defR, x_defN, x_ixP, x_ixL, x_lenP, x_lenL, x_tupP, x_tupL, x_tupKK, x_lstP, x_lstL, x_appP, x_appL, x_tyP, x_tyL, x_tyK, x_tyT, x_putP, x_putL, x_putI, x_putKK, x_srcP, x_srcL, List.map_cons, List.map_nil, List.replicate, List.cons_append, List.nil_append, List.set_cons_zero, List.set_cons_succ]
        refine hK g' fun _ K3 h2 => ?_
        simp only [x_var0, x_varS, x_c, x_bin, x_un, x_and, x_or, x_andK, x_orK, x_not, x_if, x_tup, x_lst, x_sl, x_call, x_callU, x_mth, x_isi, x_chain, x_chK, x_k1, x_tupRg, x_lstRg, x_lc, x_addI, x_addS, x_addT, x_subI, x_mulI, x_fdiv, x_mod, x_pow, x_lt, x_le, x_gt, x_ge, x_eqI, x_eqB, x_eqS, x_neI, x_neB, x_isB, x_isnB, x_neg, x_int, x_intB, x_lenT, x_lenS, x_tupT, x_lstT, x_ixT, x_ixR, x_optW, x_nil, x_cons, x_bB, x_boolK, x_bAnd, x_bOr, x_bNot, x_bYes, x_pNo, x_pSo, x_part, x_rng1, x_rng2, x_rng3, x_rk1, x_rk2, x_rk3, x_srcEn, x_srcZp, x_ekT, x_zkT, x_srcV, x_srcT, x_seq, x_seqR, x_seqB, x_seqC, x_sNil, x_set, x_drop, x_ret, x_retN, x_sIf, x_brk, x_ct, x_put, x_for, x_def, x_defR, x_defN, x_ixP, x_ixL, x_lenP, x_lenL, x_tupP, x_tupL, x_tupKK, x_lstP, x_lstL, x_appP, x_appL, x_tyP, x_tyL, x_tyK, x_tyT, x_putP, x_putL, x_putI, x_putKK, x_srcP, x_srcL, List.map_cons, List.map_nil, List.replicate, List.cons_append, List.nil_append, List.set_cons_zero, List.set_cons_succ]
        refine in_kd (ks := ks) (th_left th_mid) ?_
        have e2 : (par h i).getD t 0 = (par h i)[t] := by simp [List.getD, ht]
        rw [e2] at h2
        exact h2 g'
      · intro acc g'
        have e : (nd (par h i)).length = (par h i).length := by simp
        rw [← e]
        exact sdT_end
      · intro g'
        have e3 : ((List.range (par h i).length).filter fun _ => true).map (fun t => Dv.bl (decide ((par h i).getD t 0 ∈ ks))) = ((List.range (par h i).length).map fun t => decide ((par h i).getD t 0 ∈ ks)).map Dv.bl := by
          rw [List.filter_eq_self.mpr fun _ _ => rfl, List.map_map]
          rfl
        rw [e3, x_boolsP th_mid (bools_of _), x_anyL, x_boolK]
        have e4 : (((List.range (par h i).length).map fun t => decide ((par h i).getD t 0 ∈ ks)).any id = true) ↔ (m < i ∧ Anc h i m) := by
          rw [← keys_iff a, hks, List.any_map, List.any_eq_true]
          constructor
          · rintro ⟨t, ht, hd⟩
            rw [List.mem_range] at ht
            have e2 : (par h i).getD t 0 = (par h i)[t] := by simp [List.getD, ht]
            have hd : decide ((par h i).getD t 0 ∈ ks) = true := hd
            rw [e2] at hd
            exact ⟨_, List.getElem_mem ht, of_decide_eq_true hd⟩
          · rintro ⟨p, hp, hk⟩
            obtain ⟨t, ht, e⟩ := List.mem_iff_getElem.mp hp
            refine ⟨t, List.mem_range.mpr ht, ?_⟩
            have e2 : (par h i).getD t 0 = p := by simp [List.getD, ht, e]
            show decide ((par h i).getD t 0 ∈ ks) = true
            rw [e2]
            exact decide_eq_true hk
        by_cases c : m < i ∧ Anc h i m
        · rw [if_pos (e4.mpr c), th_left th_mid]
          have hni : i ∉ ks := by
            rw [← hks]
            intro hmem
            rcases List.mem_cons.mp hmem with e | hmem
            · omega
            · rw [List.mem_filter, List.mem_range] at hmem
              omega
          rw [x_putKK, kd_put hni, List.append_assoc, List.cons_append, th_set_mid]
          have e5 : (List.range i).filter (fun j => decide (m < j) && anc h j m) ++ [i] = (List.range (i + 1)).filter (fun j => decide (m < j) && anc h j m) := by
            rw [List.range_succ, List.filter_append]
            simp [decide_eq_true c.1, anc_iff.mpr c.2]
          have e7 : ks ++ [i] = m :: (List.range (i + 1)).filter (fun j => decide (m < j) && anc h j m) := by
            rw [← hks, List.cons_append, e5]
          rw [e7]
          refine ⟨?_, LK.nx _ _ ⟨_, rfl, _, _, _, _, _, rfl, rfl⟩⟩
          · rw [← hks]
            unfold kd
            rw [List.length_map, List.length_cons, sizeLine_eq]
            have := List.length_filter_le (fun j => decide (m < j) && anc h j m) (List.range i)
            rw [List.length_range] at this
            omega
        · rw [if_neg (fun z => c (e4.mp z))]
          rw [List.append_assoc, List.cons_append]
          have e5 : (List.range (i + 1)).filter (fun j => decide (m < j) && anc h j m) = (List.range i).filter (fun j => decide (m < j) && anc h j m) := by
            rw [List.range_succ, List.filter_append]
            have e6 : List.filter (fun j => decide (m < j) && anc h j m) [i] = [] := by
              rw [List.filter_eq_nil_iff]
              intro j hj
              obtain rfl := List.mem_singleton.mp hj
              rw [Bool.and_eq_true, decide_eq_true_eq, anc_iff]
              exact c
            rw [e6, List.append_nil]
          rw [← hks, ← e5]
          exact LK.nx _ _ ⟨_, rfl, _, _, _, _, _, rfl, rfl⟩
  · rintro ρ θ' ⟨x3, x4, x5, x6, g, rfl, rfl⟩
    refine ⟨en_end, ?_⟩
    rw [x_seqN, el, offs_keys a _ hm]
    simp only [x_var0, x_varS, x_c, x_bin, x_un, x_and, x_or, x_andK, x_orK, x_not, x_if, x_tup, x_lst, x_sl, x_call, x_callU, x_mth, x_isi, x_chain, x_chK, x_k1, x_tupRg, x_lstRg, x_lc, x_addI, x_addS, x_addT, x_subI, x_mulI, x_fdiv, x_mod, x_pow, x_lt, x_le, x_gt, x_ge, x_eqI, x_eqB, x_eqS, x_neI, x_neB, x_isB, x_isnB, x_neg, x_int, x_intB, x_lenT, x_lenS, x_tupT, x_lstT, x_ixT, x_ixR, x_optW, x_nil, x_cons, x_bB, x_boolK, x_bAnd, x_bOr, x_bNot, x_bYes, x_pNo, x_pSo, x_part, x_rng1, x_rng2, x_rng3, x_rk1, x_rk2, x_rk3, x_srcEn, x_srcZp, x_ekT, x_zkT, x_srcV, x_srcT, x_seq, x_seqR, x_seqB, x_seqC, x_sNil, x_set, x_drop, x_ret, x_retN, x_sIf, x_brk, x_ct, x_put, x_for, x_def, x_defR, x_defN, x_ixP, x_ixL, x_lenP, x_lenL, x_tupP, x_tupL, x_tupKK, x_lstP, x_lstL, x_appP, x_appL, x_tyP, x_tyL, x_tyK, x_tyT, x_putP, x_putL, x_putI, x_putKK, x_srcP, x_srcL, List.map_cons, List.map_nil, List.replicate, List.cons_append, List.nil_append, List.set_cons_zero, List.set_cons_succ, th_mid]
    rw [nd_keys]
    exact end_drop hQ fun n => low_nats _ n
end Sp

/-! Sp6: the program's small questions, tests, check_skipped. -/
namespace Sp
open PySem PySem.Spec PyProof.Rows L2 Mn
variable {E : Exn → Th → Prop} {θ : Th} {ρ : DEnv} {Q : Dv → Th → Prop}
def isInt : Dv → Bool
  | .int _ => true
  | _ => false
def isTup : Dv → Bool
  | .tup _ => true
  | _ => false
/-- data that are looked at -/
inductive Plain (θ : Th) : Dv → Prop where
  | non : Plain θ .non
  | bl (b : Bool) : Plain θ (.bl b)
  | int (i : Int) : Plain θ (.int i)
  | str (s : Str) : Plain θ (.str s)
  | tup (ds : List Dv) : Plain θ (.tup ds)
  | lst (k : Nat) (ds : List Dv) (h : θ[k]? = some (.lst ds)) : Plain θ (.obj k)
theorem s_is_integer {x : Dv} (p : Plain θ x) (hQ : Q (.bl (isInt x)) θ) : Cm.c_is_integer [x] E θ Q := by
  unfold Cm.c_is_integer Cm.m_is_integer
  simp only [x_var0, x_varS, x_c, x_bin, x_un, x_and, x_or, x_andK, x_orK, x_not, x_if, x_tup, x_lst, x_sl, x_call, x_callU, x_mth, x_isi, x_chain, x_chK, x_k1, x_tupRg, x_lstRg, x_lc, x_addI, x_addS, x_addT, x_subI, x_mulI, x_fdiv, x_mod, x_pow, x_lt, x_le, x_gt, x_ge, x_eqI, x_eqB, x_eqS, x_neI, x_neB, x_isB, x_isnB, x_neg, x_int, x_intB, x_lenT, x_lenS, x_tupT, x_lstT, x_ixT, x_ixR, x_optW, x_nil, x_cons, x_bB, x_boolK, x_bAnd, x_bOr, x_bNot, x_bYes, x_pNo, x_pSo, x_part, x_rng1, x_rng2, x_rng3, x_rk1, x_rk2, x_rk3, x_srcEn, x_srcZp, x_ekT, x_zkT, x_srcV, x_srcT, x_seq, x_seqN, x_seqR, x_seqB, x_seqC, x_sNil, x_set, x_drop, x_ret, x_retN, x_sIf, x_brk, x_ct, x_put, x_for, x_def, x_defR, x_defN, x_ixP, x_ixL, x_lenP, x_lenL, x_tupP, x_tupL, x_tupKK, x_lstP, x_lstL, x_appP, x_appL, x_tyP, x_tyL, x_tyK, x_tyT, x_putP, x_putL, x_putI, x_putKK, x_srcP, x_srcL, List.map_cons, List.map_nil, List.replicate, List.cons_append, List.nil_append, List.set_cons_zero, List.set_cons_succ]
  cases p with
  | lst k ds h =>
    simp only [x_var0, x_varS, x_c, x_bin, x_un, x_and, x_or, x_andK, x_orK, x_not, x_if, x_tup, x_lst, x_sl, x_call, x_callU, x_mth, x_isi, x_chain, x_chK, x_k1, x_tupRg, x_lstRg, x_lc, x_addI, x_addS, x_addT, x_subI, x_mulI, x_fdiv, x_mod, x_pow, x_lt, x_le, x_gt, x_ge, x_eqI, x_eqB, x_eqS, x_neI, x_neB, x_isB, x_isnB, x_neg, x_int, x_intB, x_lenT, x_lenS, x_tupT, x_lstT, x_ixT, x_ixR, x_optW, x_nil, x_cons, x_bB, x_boolK, x_bAnd, x_bOr, x_bNot, x_bYes, x_pNo, x_pSo, x_part, x_rng1, x_rng2, x_rng3, x_rk1, x_rk2, x_rk3, x_srcEn, x_srcZp, x_ekT, x_zkT, x_srcV, x_srcT, x_seq, x_seqN, x_seqR, x_seqB, x_seqC, x_sNil, x_set, x_drop, x_ret, x_retN, x_sIf, x_brk, x_ct, x_put, x_for, x_def, x_defR, x_defN, x_ixP, x_ixL, x_lenP, x_lenL, x_tupP, x_tupL, x_tupKK, x_lstP, x_lstL, x_appP, x_appL, x_tyP, x_tyL, x_tyK, x_tyT, x_putP, x_putL, x_putI, x_putKK, x_srcP, x_srcL, List.map_cons, List.map_nil, List.replicate, List.cons_append, List.nil_append, List.set_cons_zero, List.set_cons_succ, h]
    exact end_same hQ
  | _ => exact end_same hQ
theorem s_tests {h : Hist} {sk : List Nat} (hl : h.length ≤ 1000) (hQ : Q (.tup (nd ((List.range (h.length - 1)).filter fun m => !decide (m ∈ sk)))) θ) : Cm.c_tests [hD h, .tup (nd sk)] E θ Q := by
  unfold Cm.c_tests Cm.m_tests
  simp only [x_var0, x_varS, x_c, x_bin, x_un, x_and, x_or, x_andK, x_orK, x_not, x_if, x_tup, x_lst, x_sl, x_call, x_callU, x_mth, x_isi, x_chain, x_chK, x_k1, x_tupRg, x_lstRg, x_lc, x_addI, x_addS, x_addT, x_subI, x_mulI, x_fdiv, x_mod, x_pow, x_lt, x_le, x_gt, x_ge, x_eqI, x_eqB, x_eqS, x_neI, x_neB, x_isB, x_isnB, x_neg, x_int, x_intB, x_lenT, x_lenS, x_tupT, x_lstT, x_ixT, x_ixR, x_optW, x_nil, x_cons, x_bB, x_boolK, x_bAnd, x_bOr, x_bNot, x_bYes, x_pNo, x_pSo, x_part, x_rng1, x_rng2, x_rng3, x_rk1, x_rk2, x_rk3, x_srcEn, x_srcZp, x_ekT, x_zkT, x_srcV, x_srcT, x_seq, x_seqN, x_seqR, x_seqB, x_seqC, x_sNil, x_set, x_drop, x_ret, x_retN, x_sIf, x_brk, x_ct, x_put, x_for, x_def, x_defR, x_defN, x_ixP, x_ixL, x_lenP, x_lenL, x_tupP, x_tupL, x_tupKK, x_lstP, x_lstL, x_appP, x_appL, x_tyP, x_tyL, x_tyK, x_tyT, x_putP, x_putL, x_putI, x_putKK, x_srcP, x_srcL, List.map_cons, List.map_nil, List.replicate, List.cons_append, List.nil_append, List.set_cons_zero, List.set_cons_succ, x_h1, List.length_map, wipeE]
  refine ⟨⟨by omega, by omega⟩, ?_⟩
  have en : ((h.length : Int) - 1).toNat = h.length - 1 := by omega
  rw [en]
  refine lc_pure (h.length - 1) (fun m => !decide (m ∈ sk)) (fun m => .int (m : Nat)) (by rw [sizeLine_eq]; omega) ?_ ?_ ?_
  · intro i acc g hi
    have e : (0 : Int) + (i : Nat) * 1 = ((i : Nat) : Int) := by omega
    refine ⟨.int (i : Nat), _, by rw [rng_at hi, e], rfl, fun K hK => ?_⟩
    simp only [x_var0, x_varS, x_c, x_bin, x_un, x_and, x_or, x_andK, x_orK, x_not, x_if, x_tup, x_lst, x_sl, x_call, x_callU, x_mth, x_isi, x_chain, x_chK, x_k1, x_tupRg, x_lstRg, x_lc, x_addI, x_addS, x_addT, x_subI, x_mulI, x_fdiv, x_mod, x_pow, x_lt, x_le, x_gt, x_ge, x_eqI, x_eqB, x_eqS, x_neI, x_neB, x_isB, x_isnB, x_neg, x_int, x_intB, x_lenT, x_lenS, x_tupT, x_lstT, x_ixT, x_ixR, x_optW, x_nil, x_cons, x_bB, x_boolK, x_bAnd, x_bOr, x_bNot, x_bYes, x_pNo, x_pSo, x_part, x_rng1, x_rng2, x_rng3, x_rk1, x_rk2, x_rk3, x_srcEn, x_srcZp, x_ekT, x_zkT, x_srcV, x_srcT, x_seq, x_seqN, x_seqR, x_seqB, x_seqC, x_sNil, x_set, x_drop, x_ret, x_retN, x_sIf, x_brk, x_ct, x_put, x_for, x_def, x_defR, x_defN, x_ixP, x_ixL, x_lenP, x_lenL, x_tupP, x_tupL, x_tupKK, x_lstP, x_lstL, x_appP, x_appL, x_tyP, x_tyL, x_tyK, x_tyT, x_putP, x_putL, x_putI, x_putKK, x_srcP, x_srcL, List.map_cons, List.map_nil, List.replicate, List.cons_append, List.nil_append, List.set_cons_zero, List.set_cons_succ]
    refine notin_intsT ?_
    rw [x_boolK]
    refine hK g fun _ K2 h2 => ?_
    simp only [x_var0, x_varS, x_c, x_bin, x_un, x_and, x_or, x_andK, x_orK, x_not, x_if, x_tup, x_lst, x_sl, x_call, x_callU, x_mth, x_isi, x_chain, x_chK, x_k1, x_tupRg, x_lstRg, x_lc, x_addI, x_addS, x_addT, x_subI, x_mulI, x_fdiv, x_mod, x_pow, x_lt, x_le, x_gt, x_ge, x_eqI, x_eqB, x_eqS, x_neI, x_neB, x_isB, x_isnB, x_neg, x_int, x_intB, x_lenT, x_lenS, x_tupT, x_lstT, x_ixT, x_ixR, x_optW, x_nil, x_cons, x_bB, x_boolK, x_bAnd, x_bOr, x_bNot, x_bYes, x_pNo, x_pSo, x_part, x_rng1, x_rng2, x_rng3, x_rk1, x_rk2, x_rk3, x_srcEn, x_srcZp, x_ekT, x_zkT, x_srcV, x_srcT, x_seq, x_seqN, x_seqR, x_seqB, x_seqC, x_sNil, x_set, x_drop, x_ret, x_retN, x_sIf, x_brk, x_ct, x_put, x_for, x_def, x_defR, x_defN, x_ixP, x_ixL, x_lenP, x_lenL, x_tupP, x_tupL, x_tupKK, x_lstP, x_lstL, x_appP, x_appL, x_tyP, x_tyL, x_tyK, x_tyT, x_putP, x_putL, x_putI, x_putKK, x_srcP, x_srcL, List.map_cons, List.map_nil, List.replicate, List.cons_append, List.nil_append, List.set_cons_zero, List.set_cons_succ]
    exact h2 g
  · intro acc g
    exact rng_end
  · intro g
    rw [th_mid, x_tupL]
    exact end_drop hQ fun n => low_nats _ n
/-! rows of ints -/
def intsT : List Dv → Option (List Int) := intsD
theorem isInts {ds : List Dv} : ds.all isInt = (intsD ds).isSome := by
  induction ds with
  | nil => rfl
  | cons d ds ih =>
    rw [List.all_cons, ih]
    cases d <;> simp [isInt, intsD, Option.isSome_map]
theorem intsD_map (ns : List Int) : intsD (ns.map Dv.int) = some ns := by
  induction ns with
  | nil => rfl
  | cons n ns ih =>
    show (intsD (ns.map Dv.int)).map (n :: ·) = _
    rw [ih]
    rfl
theorem intsD_inv : ∀ {ds : List Dv} {ns : List Int}, intsD ds = some ns → ds = ns.map Dv.int
  | [], ns, h => by cases h; rfl
  | d :: ds, ns, h => by
    cases d with
    | int i =>
      unfold intsD at h
      obtain ⟨ms, e, rfl⟩ := Option.map_eq_some_iff.mp h
      rw [intsD_inv e]
      rfl
    | _ => simp [intsD] at h
theorem s_are_integers {ds : List Dv} (hl : ds.length ≤ 1000) (hp : ∀ d, d ∈ ds → ∀ θ', Plain θ' d) (hQ : Q (.bl (ds.all isInt)) θ) : Cm.c_are_integers [.tup ds] E θ Q := by
  unfold Cm.c_are_integers Cm.m_are_integers
  simp only [x_var0, x_varS, x_c, x_bin, x_un, x_and, x_or, x_andK, x_orK, x_not, x_if, x_tup, x_lst, x_sl, x_call, x_callU, x_mth, x_isi, x_chain, x_chK, x_k1, x_tupRg, x_lstRg, x_lc, x_addI, x_addS, x_addT, x_subI, x_mulI, x_fdiv, x_mod, x_pow, x_lt, x_le, x_gt, x_ge, x_eqI, x_eqB, x_eqS, x_neI, x_neB, x_isB, x_isnB, x_neg, x_int, x_intB, x_lenT, x_lenS, x_tupT, x_lstT, x_ixT, x_ixR, x_optW, x_nil, x_cons, x_bB, x_boolK, x_bAnd, x_bOr, x_bNot, x_bYes, x_pNo, x_pSo, x_part, x_rng1, x_rng2, x_rng3, x_rk1, x_rk2, x_rk3, x_srcEn, x_srcZp, x_ekT, x_zkT, x_srcV, x_srcT, x_seq, x_seqN, x_seqR, x_seqB, x_seqC, x_sNil, x_set, x_drop, x_ret, x_retN, x_sIf, x_brk, x_ct, x_put, x_for, x_def, x_defR, x_defN, x_ixP, x_ixL, x_lenP, x_lenL, x_tupP, x_tupL, x_tupKK, x_lstP, x_lstL, x_appP, x_appL, x_tyP, x_tyL, x_tyK, x_tyT, x_putP, x_putL, x_putI, x_putKK, x_srcP, x_srcL, List.map_cons, List.map_nil, List.replicate, List.cons_append, List.nil_append, List.set_cons_zero, List.set_cons_succ, wipeE]
  show ∃ n, lcGo (Src.sd (Sd.T ds)) (Tg.nm 1) bYes (mCallU 1 Cm.c_is_integer (msCons (mVar 1) msNil)) θ.length [some (.tup ds), none] n 0 (θ ++ [.lst []]) fun θ2 => onBools allL (.obj θ.length) E θ2 fun d θ1 => endQ θ Q d θ1
  refine lc_pure ds.length (fun _ => true) (fun t => .bl (isInt (ds.getD t .non))) (by rw [sizeLine_eq]; omega) ?_ ?_ ?_
  · intro i acc g hi
    have e1 : ds[i]? = some ds[i] := List.getElem?_eq_getElem hi
    refine ⟨_, _, sdT_at e1, rfl, fun K hK => ?_⟩
    simp only [x_var0, x_varS, x_c, x_bin, x_un, x_and, x_or, x_andK, x_orK, x_not, x_if, x_tup, x_lst, x_sl, x_call, x_callU, x_mth, x_isi, x_chain, x_chK, x_k1, x_tupRg, x_lstRg, x_lc, x_addI, x_addS, x_addT, x_subI, x_mulI, x_fdiv, x_mod, x_pow, x_lt, x_le, x_gt, x_ge, x_eqI, x_eqB, x_eqS, x_neI, x_neB, x_isB, x_isnB, x_neg, x_int, x_intB, x_lenT, x_lenS, x_tupT, x_lstT, x_ixT, x_ixR, x_optW, x_nil, x_cons, x_bB, x_boolK, x_bAnd, x_bOr, x_bNot, x_bYes, x_pNo, x_pSo, x_part, x_rng1, x_rng2, x_rng3, x_rk1, x_rk2, x_rk3, x_srcEn, x_srcZp, x_ekT, x_zkT, x_srcV, x_srcT, x_seq, x_seqN, x_seqR, x_seqB, x_seqC, x_sNil, x_set, x_drop, x_ret, x_retN, x_sIf, x_brk, x_ct, x_put, x_for, x_def, x_defR, x_defN, x_ixP, x_ixL, x_lenP, x_lenL, x_tupP, x_tupL, x_tupKK, x_lstP, x_lstL, x_appP, x_appL, x_tyP, x_tyL, x_tyK, x_tyT, x_putP, x_putL, x_putI, x_putKK, x_srcP, x_srcL, List.map_cons, List.map_nil, List.replicate, List.cons_append, List.nil_append, List.set_cons_zero, List.set_cons_succ]
    refine hK g fun _ K2 h2 => ?_
    simp only [x_var0, x_varS, x_c, x_bin, x_un, x_and, x_or, x_andK, x_orK, x_not, x_if, x_tup, x_lst, x_sl, x_call, x_callU, x_mth, x_isi, x_chain, x_chK, x_k1, x_tupRg, x_lstRg, x_lc, x_addI, x_addS, x_addT, x_subI, x_mulI, x_fdiv, x_mod, x_pow, x_lt, x_le, x_gt, x_ge, x_eqI, x_eqB, x_eqS, x_neI, x_neB, x_isB, x_isnB, x_neg, x_int, x_intB, x_lenT, x_lenS, x_tupT, x_lstT, x_ixT, x_ixR, x_optW, x_nil, x_cons, x_bB, x_boolK, x_bAnd, x_bOr, x_bNot, x_bYes, x_pNo, x_pSo, x_part, x_rng1, x_rng2, x_rng3, x_rk1, x_rk2, x_rk3, x_srcEn, x_srcZp, x_ekT, x_zkT, x_srcV, x_srcT, x_seq, x_seqN, x_seqR, x_seqB, x_seqC, x_sNil, x_set, x_drop, x_ret, x_retN, x_sIf, x_brk, x_ct, x_put, x_for, x_def, x_defR, x_defN, x_ixP, x_ixL, x_lenP, x_lenL, x_tupP, x_tupL, x_tupKK, x_lstP, x_lstL, x_appP, x_appL, x_tyP, x_tyL, x_tyK, x_tyT, x_putP, x_putL, x_putI, x_putKK, x_srcP, x_srcL, List.map_cons, List.map_nil, List.replicate, List.cons_append, List.nil_append, List.set_cons_zero, List.set_cons_succ]
    refine ⟨rfl, s_is_integer (hp _ (List.getElem_mem hi) _) ?_⟩
    have e2 : ds.getD i .non = ds[i] := by simp [List.getD, hi]
    rw [e2] at h2
    exact h2 g
  · intro acc g
    exact sdT_end
  · intro g
    have e3 : ((List.range ds.length).filter fun _ => true).map (fun t => Dv.bl (isInt (ds.getD t .non))) = ((List.range ds.length).map fun t => isInt (ds.getD t .non)).map Dv.bl := by
      rw [List.filter_eq_self.mpr fun _ _ => rfl, List.map_map]
      rfl
    rw [e3, x_boolsP th_mid (bools_of _), x_allL]
    have e4 : ((List.range ds.length).map fun t => isInt (ds.getD t .non)) = ds.map isInt := by
      apply List.ext_getElem?
      intro i
      by_cases hi : i < ds.length
      · simp [hi, List.getD]
      · rw [List.getElem?_eq_none (by simp; omega), List.getElem?_eq_none (by simp; omega)]
    have e5 : (ds.map isInt).all id = ds.all isInt := by rw [List.all_map]; rfl
    rw [e4, e5]
    exact end_drop hQ fun _ => rfl
theorem s_are_integers0 {x : Dv} (p : Plain θ x) (hx : isTup x = false) (hQ : Q (.bl false) θ) : Cm.c_are_integers [x] E θ Q := by
  unfold Cm.c_are_integers Cm.m_are_integers
  simp only [x_var0, x_varS, x_c, x_bin, x_un, x_and, x_or, x_andK, x_orK, x_not, x_if, x_tup, x_lst, x_sl, x_call, x_callU, x_mth, x_isi, x_chain, x_chK, x_k1, x_tupRg, x_lstRg, x_lc, x_addI, x_addS, x_addT, x_subI, x_mulI, x_fdiv, x_mod, x_pow, x_lt, x_le, x_gt, x_ge, x_eqI, x_eqB, x_eqS, x_neI, x_neB, x_isB, x_isnB, x_neg, x_int, x_intB, x_lenT, x_lenS, x_tupT, x_lstT, x_ixT, x_ixR, x_optW, x_nil, x_cons, x_bB, x_boolK, x_bAnd, x_bOr, x_bNot, x_bYes, x_pNo, x_pSo, x_part, x_rng1, x_rng2, x_rng3, x_rk1, x_rk2, x_rk3, x_srcEn, x_srcZp, x_ekT, x_zkT, x_srcV, x_srcT, x_seq, x_seqN, x_seqR, x_seqB, x_seqC, x_sNil, x_set, x_drop, x_ret, x_retN, x_sIf, x_brk, x_ct, x_put, x_for, x_def, x_defR, x_defN, x_ixP, x_ixL, x_lenP, x_lenL, x_tupP, x_tupL, x_tupKK, x_lstP, x_lstL, x_appP, x_appL, x_tyP, x_tyL, x_tyK, x_tyT, x_putP, x_putL, x_putI, x_putKK, x_srcP, x_srcL, List.map_cons, List.map_nil, List.replicate, List.cons_append, List.nil_append, List.set_cons_zero, List.set_cons_succ, wipeE]
  cases p with
  | tup ds => cases hx
  | lst k ds h =>
    simp only [x_var0, x_varS, x_c, x_bin, x_un, x_and, x_or, x_andK, x_orK, x_not, x_if, x_tup, x_lst, x_sl, x_call, x_callU, x_mth, x_isi, x_chain, x_chK, x_k1, x_tupRg, x_lstRg, x_lc, x_addI, x_addS, x_addT, x_subI, x_mulI, x_fdiv, x_mod, x_pow, x_lt, x_le, x_gt, x_ge, x_eqI, x_eqB, x_eqS, x_neI, x_neB, x_isB, x_isnB, x_neg, x_int, x_intB, x_lenT, x_lenS, x_tupT, x_lstT, x_ixT, x_ixR, x_optW, x_nil, x_cons, x_bB, x_boolK, x_bAnd, x_bOr, x_bNot, x_bYes, x_pNo, x_pSo, x_part, x_rng1, x_rng2, x_rng3, x_rk1, x_rk2, x_rk3, x_srcEn, x_srcZp, x_ekT, x_zkT, x_srcV, x_srcT, x_seq, x_seqN, x_seqR, x_seqB, x_seqC, x_sNil, x_set, x_drop, x_ret, x_retN, x_sIf, x_brk, x_ct, x_put, x_for, x_def, x_defR, x_defN, x_ixP, x_ixL, x_lenP, x_lenL, x_tupP, x_tupL, x_tupKK, x_lstP, x_lstL, x_appP, x_appL, x_tyP, x_tyL, x_tyK, x_tyT, x_putP, x_putL, x_putI, x_putKK, x_srcP, x_srcL, List.map_cons, List.map_nil, List.replicate, List.cons_append, List.nil_append, List.set_cons_zero, List.set_cons_succ, h]
    exact end_same hQ
  | _ => exact end_same hQ
theorem cut1 (ds : List Dv) : Mn.cutD ds (some 1) none = ds.drop 1 := by
  unfold Mn.cutD
  rw [show HT.sIx ds.length 0 (some 1) = min 1 ds.length from HT.sIx_nat ds.length 0 1, HT.sIx_none]
  cases ds with
  | nil => rfl
  | cons x r =>
    rw [show min 1 (x :: r).length = 1 by
      rw [List.length_cons]
      omega]
    show (List.take ((x :: r).length - 1) r) = r
    rw [List.length_cons, Nat.add_sub_cancel]
    exact List.take_length
theorem x_slT {ds : List Dv} {l h : Option Int} : oSl (.tup ds) l h E θ Q = Q (.tup (Mn.cutD ds l h)) θ := (rfl)
theorem zp_at {ds es : List Dv} {i : Nat} {d e : Dv} (h1 : ds[i]? = some d) (h2 : es[i]? = some e) : (Src.zp (.T ds) (.T es)).at θ i = some (some (.tup [d, e])) := by
  have := (List.getElem?_eq_some_iff.mp h1).1
  have := (List.getElem?_eq_some_iff.mp h2).1
  simp only [Src.at, Sd.items, zpAt, if_pos (show i < min ds.length es.length by omega), h1, h2, pairO]
theorem zp_end {ds es : List Dv} {n : Nat} (h : n = min ds.length es.length) : (Src.zp (.T ds) (.T es)).at θ n = some none := by
  subst h
  simp only [Src.at, Sd.items, zpAt, if_neg (Nat.lt_irrefl _), if_true]
/-- each less than the next -/
def asc (ns : List Int) : Bool := ((List.range (ns.length - 1)).map fun i => decide (ns.getD i 0 < ns.getD (i + 1) 0)).all id
theorem s_ascends {ns : List Int} (hl : ns.length ≤ 1000) (hQ : Q (.bl (asc ns)) θ) : Cm.c_ascends [.tup (ns.map Dv.int)] E θ Q := by
  unfold Cm.c_ascends Cm.m_ascends
  simp only [x_var0, x_varS, x_c, x_bin, x_un, x_and, x_or, x_andK, x_orK, x_not, x_if, x_tup, x_lst, x_sl, x_call, x_callU, x_mth, x_isi, x_chain, x_chK, x_k1, x_tupRg, x_lstRg, x_lc, x_addI, x_addS, x_addT, x_subI, x_mulI, x_fdiv, x_mod, x_pow, x_lt, x_le, x_gt, x_ge, x_eqI, x_eqB, x_eqS, x_neI, x_neB, x_isB, x_isnB, x_neg, x_int, x_intB, x_lenT, x_lenS, x_tupT, x_lstT, x_ixT, x_ixR, x_optW, x_nil, x_cons, x_bB, x_boolK, x_bAnd, x_bOr, x_bNot, x_bYes, x_pNo, x_pSo, x_part, x_rng1, x_rng2, x_rng3, x_rk1, x_rk2, x_rk3, x_srcEn, x_srcZp, x_ekT, x_zkT, x_srcV, x_srcT, x_seq, x_seqN, x_seqR, x_seqB, x_seqC, x_sNil, x_set, x_drop, x_ret, x_retN, x_sIf, x_brk, x_ct, x_put, x_for, x_def, x_defR, x_defN, x_ixP, x_ixL, x_lenP, x_lenL, x_tupP, x_tupL, x_tupKK, x_lstP, x_lstL, x_appP, x_appL, x_tyP, x_tyL, x_tyK, x_tyT, x_putP, x_putL, x_putI, x_putKK, x_srcP, x_srcL, List.map_cons, List.map_nil, List.replicate, List.cons_append, List.nil_append, List.set_cons_zero, List.set_cons_succ, wipeE, x_slT, cut1]
  have hd : (ns.map Dv.int).drop 1 = (ns.drop 1).map Dv.int := by rw [List.map_drop]
  rw [hd]
  refine lc_pure (ns.length - 1) (fun _ => true) (fun i => .bl (decide (ns.getD i 0 < ns.getD (i + 1) 0))) (by rw [sizeLine_eq]; omega) ?_ ?_ ?_
  · intro i acc g hi
    have e1 : (ns.map Dv.int)[i]? = some (.int (ns.getD i 0)) := by
      have : i < ns.length := by omega
      simp [this, List.getD]
    have e2 : ((ns.drop 1).map Dv.int)[i]? = some (.int (ns.getD (i + 1) 0)) := by
      have : 1 + i < ns.length := by omega
      rw [List.getElem?_map, List.getElem?_drop, List.getElem?_eq_getElem this]
      simp [List.getD, Nat.add_comm i 1, this]
    refine ⟨_, _, zp_at e1 e2, rfl, fun K hK => ?_⟩
    simp only [x_var0, x_varS, x_c, x_bin, x_un, x_and, x_or, x_andK, x_orK, x_not, x_if, x_tup, x_lst, x_sl, x_call, x_callU, x_mth, x_isi, x_chain, x_chK, x_k1, x_tupRg, x_lstRg, x_lc, x_addI, x_addS, x_addT, x_subI, x_mulI, x_fdiv, x_mod, x_pow, x_lt, x_le, x_gt, x_ge, x_eqI, x_eqB, x_eqS, x_neI, x_neB, x_isB, x_isnB, x_neg, x_int, x_intB, x_lenT, x_lenS, x_tupT, x_lstT, x_ixT, x_ixR, x_optW, x_nil, x_cons, x_bB, x_boolK, x_bAnd, x_bOr, x_bNot, x_bYes, x_pNo, x_pSo, x_part, x_rng1, x_rng2, x_rng3, x_rk1, x_rk2, x_rk3, x_srcEn, x_srcZp, x_ekT, x_zkT, x_srcV, x_srcT, x_seq, x_seqN, x_seqR, x_seqB, x_seqC, x_sNil, x_set, x_drop, x_ret, x_retN, x_sIf, x_brk, x_ct, x_put, x_for, x_def, x_defR, x_defN, x_ixP, x_ixL, x_lenP, x_lenL, x_tupP, x_tupL, x_tupKK, x_lstP, x_lstL, x_appP, x_appL, x_tyP, x_tyL, x_tyK, x_tyT, x_putP, x_putL, x_putI, x_putKK, x_srcP, x_srcL, List.map_cons, List.map_nil, List.replicate, List.cons_append, List.nil_append, List.set_cons_zero, List.set_cons_succ]
    refine hK g fun _ K2 h2 => ?_
    simp only [x_var0, x_varS, x_c, x_bin, x_un, x_and, x_or, x_andK, x_orK, x_not, x_if, x_tup, x_lst, x_sl, x_call, x_callU, x_mth, x_isi, x_chain, x_chK, x_k1, x_tupRg, x_lstRg, x_lc, x_addI, x_addS, x_addT, x_subI, x_mulI, x_fdiv, x_mod, x_pow, x_lt, x_le, x_gt, x_ge, x_eqI, x_eqB, x_eqS, x_neI, x_neB, x_isB, x_isnB, x_neg, x_int, x_intB, x_lenT, x_lenS, x_tupT, x_lstT, x_ixT, x_ixR, x_optW, x_nil, x_cons, x_bB, x_boolK, x_bAnd, x_bOr, x_bNot, x_bYes, x_pNo, x_pSo, x_part, x_rng1, x_rng2, x_rng3, x_rk1, x_rk2, x_rk3, x_srcEn, x_srcZp, x_ekT, x_zkT, x_srcV, x_srcT, x_seq, x_seqN, x_seqR, x_seqB, x_seqC, x_sNil, x_set, x_drop, x_ret, x_retN, x_sIf, x_brk, x_ct, x_put, x_for, x_def, x_defR, x_defN, x_ixP, x_ixL, x_lenP, x_lenL, x_tupP, x_tupL, x_tupKK, x_lstP, x_lstL, x_appP, x_appL, x_tyP, x_tyL, x_tyK, x_tyT, x_putP, x_putL, x_putI, x_putKK, x_srcP, x_srcL, List.map_cons, List.map_nil, List.replicate, List.cons_append, List.nil_append, List.set_cons_zero, List.set_cons_succ]
    exact h2 g
  · intro acc g
    exact zp_end (by simp)
  · intro g
    have e3 : ((List.range (ns.length - 1)).filter fun _ => true).map (fun i => Dv.bl (decide (ns.getD i 0 < ns.getD (i + 1) 0))) = ((List.range (ns.length - 1)).map fun i => decide (ns.getD i 0 < ns.getD (i + 1) 0)).map Dv.bl := by
      rw [List.filter_eq_self.mpr fun _ _ => rfl, List.map_map]
      rfl
    rw [e3, x_boolsP th_mid (bools_of _), x_allL]
    exact end_drop hQ fun _ => rfl
/-- all of these are indices of makes -/
def inR (n : Nat) (ns : List Int) : Bool := (ns.map fun m => decide (0 ≤ m) && decide (m < (n : Int))).all id
def ckS (n : Nat) (ds : List Dv) : Bool := match intsD ds with
  | some ns => asc ns && inR n ns
  | none => false
theorem s_check {h : Hist} {ds : List Dv} (hl : ds.length ≤ 1000) (hp : ∀ d, d ∈ ds → ∀ θ', Plain θ' d) (hQ : Q (.bl (ckS h.length ds)) θ) : Cm.c_check_skipped [hD h, .tup ds] E θ Q := by
  unfold Cm.c_check_skipped Cm.m_check_skipped
  simp only [x_var0, x_varS, x_c, x_bin, x_un, x_and, x_or, x_andK, x_orK, x_not, x_if, x_tup, x_lst, x_sl, x_call, x_callU, x_mth, x_isi, x_chain, x_chK, x_k1, x_tupRg, x_lstRg, x_lc, x_addI, x_addS, x_addT, x_subI, x_mulI, x_fdiv, x_mod, x_pow, x_lt, x_le, x_gt, x_ge, x_eqI, x_eqB, x_eqS, x_neI, x_neB, x_isB, x_isnB, x_neg, x_int, x_intB, x_lenT, x_lenS, x_tupT, x_lstT, x_ixT, x_ixR, x_optW, x_nil, x_cons, x_bB, x_boolK, x_bAnd, x_bOr, x_bNot, x_bYes, x_pNo, x_pSo, x_part, x_rng1, x_rng2, x_rng3, x_rk1, x_rk2, x_rk3, x_srcEn, x_srcZp, x_ekT, x_zkT, x_srcV, x_srcT, x_seq, x_seqR, x_seqB, x_seqC, x_sNil, x_set, x_drop, x_ret, x_retN, x_sIf, x_brk, x_ct, x_put, x_for, x_def, x_defR, x_defN, x_ixP, x_ixL, x_lenP, x_lenL, x_tupP, x_tupL, x_tupKK, x_lstP, x_lstL, x_appP, x_appL, x_tyP, x_tyL, x_tyK, x_tyT, x_putP, x_putL, x_putI, x_putKK, x_srcP, x_srcL, List.map_cons, List.map_nil, List.replicate, List.cons_append, List.nil_append, List.set_cons_zero, List.set_cons_succ, wipeE]
  refine ⟨rfl, s_are_integers hl hp ?_⟩
  rw [x_boolK, isInts]
  unfold ckS at hQ
  cases e : intsD ds with
  | none =>
    rw [e] at hQ
    simp only [x_var0, x_varS, x_c, x_bin, x_un, x_and, x_or, x_andK, x_orK, x_not, x_if, x_tup, x_lst, x_sl, x_call, x_callU, x_mth, x_isi, x_chain, x_chK, x_k1, x_tupRg, x_lstRg, x_lc, x_addI, x_addS, x_addT, x_subI, x_mulI, x_fdiv, x_mod, x_pow, x_lt, x_le, x_gt, x_ge, x_eqI, x_eqB, x_eqS, x_neI, x_neB, x_isB, x_isnB, x_neg, x_int, x_intB, x_lenT, x_lenS, x_tupT, x_lstT, x_ixT, x_ixR, x_optW, x_nil, x_cons, x_bB, x_boolK, x_bAnd, x_bOr, x_bNot, x_bYes, x_pNo, x_pSo, x_part, x_rng1, x_rng2, x_rng3, x_rk1, x_rk2, x_rk3, x_srcEn, x_srcZp, x_ekT, x_zkT, x_srcV, x_srcT, x_seq, x_seqN, x_seqR, x_seqB, x_seqC, x_sNil, x_set, x_drop, x_ret, x_retN, x_sIf, x_brk, x_ct, x_put, x_for, x_def, x_defR, x_defN, x_ixP, x_ixL, x_lenP, x_lenL, x_tupP, x_tupL, x_tupKK, x_lstP, x_lstL, x_appP, x_appL, x_tyP, x_tyL, x_tyK, x_tyT, x_putP, x_putL, x_putI, x_putKK, x_srcP, x_srcL, List.map_cons, List.map_nil, List.replicate, List.cons_append, List.nil_append, List.set_cons_zero, List.set_cons_succ]
    exact end_same hQ
  | some ns =>
    rw [e] at hQ
    replace hQ : Q (.bl (asc ns && inR h.length ns)) θ := hQ
    have e0 := intsD_inv e
    subst e0
    rw [List.length_map] at hl
    show ([Dv.tup (ns.map Dv.int)].length = 1 ∧ _)
    refine ⟨rfl, s_ascends hl ?_⟩
    rw [x_boolK]
    cases ea : asc ns with
    | false =>
      rw [ea, Bool.false_and] at hQ
      simp only [x_var0, x_varS, x_c, x_bin, x_un, x_and, x_or, x_andK, x_orK, x_not, x_if, x_tup, x_lst, x_sl, x_call, x_callU, x_mth, x_isi, x_chain, x_chK, x_k1, x_tupRg, x_lstRg, x_lc, x_addI, x_addS, x_addT, x_subI, x_mulI, x_fdiv, x_mod, x_pow, x_lt, x_le, x_gt, x_ge, x_eqI, x_eqB, x_eqS, x_neI, x_neB, x_isB, x_isnB, x_neg, x_int, x_intB, x_lenT, x_lenS, x_tupT, x_lstT, x_ixT, x_ixR, x_optW, x_nil, x_cons, x_bB, x_boolK, x_bAnd, x_bOr, x_bNot, x_bYes, x_pNo, x_pSo, x_part, x_rng1, x_rng2, x_rng3, x_rk1, x_rk2, x_rk3, x_srcEn, x_srcZp, x_ekT, x_zkT, x_srcV, x_srcT, x_seq, x_seqN, x_seqR, x_seqB, x_seqC, x_sNil, x_set, x_drop, x_ret, x_retN, x_sIf, x_brk, x_ct, x_put, x_for, x_def, x_defR, x_defN, x_ixP, x_ixL, x_lenP, x_lenL, x_tupP, x_tupL, x_tupKK, x_lstP, x_lstL, x_appP, x_appL, x_tyP, x_tyL, x_tyK, x_tyT, x_putP, x_putL, x_putI, x_putKK, x_srcP, x_srcL, List.map_cons, List.map_nil, List.replicate, List.cons_append, List.nil_append, List.set_cons_zero, List.set_cons_succ]
      exact end_same hQ
    | true =>
      rw [ea, Bool.true_and] at hQ
      simp only [x_var0, x_varS, x_c, x_bin, x_un, x_and, x_or, x_andK, x_orK, x_not, x_if, x_tup, x_lst, x_sl, x_call, x_callU, x_mth, x_isi, x_chain, x_chK, x_k1, x_tupRg, x_lstRg, x_lc, x_addI, x_addS, x_addT, x_subI, x_mulI, x_fdiv, x_mod, x_pow, x_lt, x_le, x_gt, x_ge, x_eqI, x_eqB, x_eqS, x_neI, x_neB, x_isB, x_isnB, x_neg, x_int, x_intB, x_lenT, x_lenS, x_tupT, x_lstT, x_ixT, x_ixR, x_optW, x_nil, x_cons, x_bB, x_boolK, x_bAnd, x_bOr, x_bNot, x_bYes, x_pNo, x_pSo, x_part, x_rng1, x_rng2, x_rng3, x_rk1, x_rk2, x_rk3, x_srcEn, x_srcZp, x_ekT, x_zkT, x_srcV, x_srcT, x_seq, x_seqN, x_seqR, x_seqB, x_seqC, x_sNil, x_set, x_drop, x_ret, x_retN, x_sIf, x_brk, x_ct, x_put, x_for, x_def, x_defR, x_defN, x_ixP, x_ixL, x_lenP, x_lenL, x_tupP, x_tupL, x_tupKK, x_lstP, x_lstL, x_appP, x_appL, x_tyP, x_tyL, x_tyK, x_tyT, x_putP, x_putL, x_putI, x_putKK, x_srcP, x_srcL, List.map_cons, List.map_nil, List.replicate, List.cons_append, List.nil_append, List.set_cons_zero, List.set_cons_succ, wipeE]
      rw [if_neg (by decide)]
      refine lc_pure ns.length (fun _ => true) (fun i => .bl (decide (0 ≤ ns.getD i 0) && decide (ns.getD i 0 < (h.length : Int)))) (by rw [sizeLine_eq]; omega) ?_ ?_ ?_
      · intro i acc g hi
        have e1 : (ns.map Dv.int)[i]? = some (.int (ns.getD i 0)) := by simp [hi, List.getD]
        refine ⟨_, _, sdT_at e1, rfl, fun K hK => ?_⟩
        simp only [x_var0, x_varS, x_c, x_bin, x_un, x_and, x_or, x_andK, x_orK, x_not, x_if, x_tup, x_lst, x_sl, x_call, x_callU, x_mth, x_isi, x_chain, x_chK, x_k1, x_tupRg, x_lstRg, x_lc, x_addI, x_addS, x_addT, x_subI, x_mulI, x_fdiv, x_mod, x_pow, x_lt, x_le, x_gt, x_ge, x_eqI, x_eqB, x_eqS, x_neI, x_neB, x_isB, x_isnB, x_neg, x_int, x_intB, x_lenT, x_lenS, x_tupT, x_lstT, x_ixT, x_ixR, x_optW, x_nil, x_cons, x_bB, x_boolK, x_bAnd, x_bOr, x_bNot, x_bYes, x_pNo, x_pSo, x_part, x_rng1, x_rng2, x_rng3, x_rk1, x_rk2, x_rk3, x_srcEn, x_srcZp, x_ekT, x_zkT, x_srcV, x_srcT, x_seq, x_seqN, x_seqR, x_seqB, x_seqC, x_sNil, x_set, x_drop, x_ret, x_retN, x_sIf, x_brk, x_ct, x_put, x_for, x_def, x_defR, x_defN, x_ixP, x_ixL, x_lenP, x_lenL, x_tupP, x_tupL, x_tupKK, x_lstP, x_lstL, x_appP, x_appL, x_tyP, x_tyL, x_tyK, x_tyT, x_putP, x_putL, x_putI, x_putKK, x_srcP, x_srcL, List.map_cons, List.map_nil, List.replicate, List.cons_append, List.nil_append, List.set_cons_zero, List.set_cons_succ]
        refine hK g fun _ K2 h2 => ?_
        simp only [x_var0, x_varS, x_c, x_bin, x_un, x_and, x_or, x_andK, x_orK, x_not, x_if, x_tup, x_lst, x_sl, x_call, x_callU, x_mth, x_isi, x_chain, x_chK, x_k1, x_tupRg, x_lstRg, x_lc, x_addI, x_addS, x_addT, x_subI, x_mulI, x_fdiv, x_mod, x_pow, x_lt, x_le, x_gt, x_ge, x_eqI, x_eqB, x_eqS, x_neI, x_neB, x_isB, x_isnB, x_neg, x_int, x_intB, x_lenT, x_lenS, x_tupT, x_lstT, x_ixT, x_ixR, x_optW, x_nil, x_cons, x_bB, x_boolK, x_bAnd, x_bOr, x_bNot, x_bYes, x_pNo, x_pSo, x_part, x_rng1, x_rng2, x_rng3, x_rk1, x_rk2, x_rk3, x_srcEn, x_srcZp, x_ekT, x_zkT, x_srcV, x_srcT, x_seq, x_seqN, x_seqR, x_seqB, x_seqC, x_sNil, x_set, x_drop, x_ret, x_retN, x_sIf, x_brk, x_ct, x_put, x_for, x_def, x_defR, x_defN, x_ixP, x_ixL, x_lenP, x_lenL, x_tupP, x_tupL, x_tupKK, x_lstP, x_lstL, x_appP, x_appL, x_tyP, x_tyL, x_tyK, x_tyT, x_putP, x_putL, x_putI, x_putKK, x_srcP, x_srcL, List.map_cons, List.map_nil, List.replicate, List.cons_append, List.nil_append, List.set_cons_zero, List.set_cons_succ, x_h1, List.length_map]
        by_cases c : 0 ≤ ns.getD i 0
        · rw [if_pos (decide_eq_true c)]
          rw [decide_eq_true c] at h2
          exact h2 g
        · rw [if_neg (by simpa using c)]
          rw [decide_eq_false c] at h2
          exact h2 g
      · intro acc g
        have el : (ns.map Dv.int).length = ns.length := by simp
        rw [← el]
        exact sdT_end
      · intro g
        have e3 : ((List.range ns.length).filter fun _ => true).map (fun i => Dv.bl (decide (0 ≤ ns.getD i 0) && decide (ns.getD i 0 < (h.length : Int)))) = ((List.range ns.length).map fun i => decide (0 ≤ ns.getD i 0) && decide (ns.getD i 0 < (h.length : Int))).map Dv.bl := by
          rw [List.filter_eq_self.mpr fun _ _ => rfl, List.map_map]
          rfl
        rw [e3, x_boolsP th_mid (bools_of _), x_allL]
        have e4 : ((List.range ns.length).map fun i => decide (0 ≤ ns.getD i 0) && decide (ns.getD i 0 < (h.length : Int))) = ns.map fun m => decide (0 ≤ m) && decide (m < (h.length : Int)) := by
          apply List.ext_getElem?
          intro i
          by_cases hi : i < ns.length
          · simp [hi, List.getD]
          · rw [List.getElem?_eq_none (by simp; omega), List.getElem?_eq_none (by simp; omega)]
        rw [e4]
        exact end_drop hQ fun _ => rfl
theorem s_check0 {h : Hist} {x : Dv} (p : Plain θ x) (hx : isTup x = false) (hQ : Q (.bl false) θ) : Cm.c_check_skipped [hD h, x] E θ Q := by
  unfold Cm.c_check_skipped Cm.m_check_skipped
  simp only [x_var0, x_varS, x_c, x_bin, x_un, x_and, x_or, x_andK, x_orK, x_not, x_if, x_tup, x_lst, x_sl, x_call, x_callU, x_mth, x_isi, x_chain, x_chK, x_k1, x_tupRg, x_lstRg, x_lc, x_addI, x_addS, x_addT, x_subI, x_mulI, x_fdiv, x_mod, x_pow, x_lt, x_le, x_gt, x_ge, x_eqI, x_eqB, x_eqS, x_neI, x_neB, x_isB, x_isnB, x_neg, x_int, x_intB, x_lenT, x_lenS, x_tupT, x_lstT, x_ixT, x_ixR, x_optW, x_nil, x_cons, x_bB, x_boolK, x_bAnd, x_bOr, x_bNot, x_bYes, x_pNo, x_pSo, x_part, x_rng1, x_rng2, x_rng3, x_rk1, x_rk2, x_rk3, x_srcEn, x_srcZp, x_ekT, x_zkT, x_srcV, x_srcT, x_seq, x_seqR, x_seqB, x_seqC, x_sNil, x_set, x_drop, x_ret, x_retN, x_sIf, x_brk, x_ct, x_put, x_for, x_def, x_defR, x_defN, x_ixP, x_ixL, x_lenP, x_lenL, x_tupP, x_tupL, x_tupKK, x_lstP, x_lstL, x_appP, x_appL, x_tyP, x_tyL, x_tyK, x_tyT, x_putP, x_putL, x_putI, x_putKK, x_srcP, x_srcL, List.map_cons, List.map_nil, List.replicate, List.cons_append, List.nil_append, List.set_cons_zero, List.set_cons_succ, wipeE]
  refine ⟨rfl, s_are_integers0 p hx ?_⟩
  simp only [x_var0, x_varS, x_c, x_bin, x_un, x_and, x_or, x_andK, x_orK, x_not, x_if, x_tup, x_lst, x_sl, x_call, x_callU, x_mth, x_isi, x_chain, x_chK, x_k1, x_tupRg, x_lstRg, x_lc, x_addI, x_addS, x_addT, x_subI, x_mulI, x_fdiv, x_mod, x_pow, x_lt, x_le, x_gt, x_ge, x_eqI, x_eqB, x_eqS, x_neI, x_neB, x_isB, x_isnB, x_neg, x_int, x_intB, x_lenT, x_lenS, x_tupT, x_lstT, x_ixT, x_ixR, x_optW, x_nil, x_cons, x_bB, x_boolK, x_bAnd, x_bOr, x_bNot, x_bYes, x_pNo, x_pSo, x_part, x_rng1, x_rng2, x_rng3, x_rk1, x_rk2, x_rk3, x_srcEn, x_srcZp, x_ekT, x_zkT, x_srcV, x_srcT, x_seq, x_seqN, x_seqR, x_seqB, x_seqC, x_sNil, x_set, x_drop, x_ret, x_retN, x_sIf, x_brk, x_ct, x_put, x_for, x_def, x_defR, x_defN, x_ixP, x_ixL, x_lenP, x_lenL, x_tupP, x_tupL, x_tupKK, x_lstP, x_lstL, x_appP, x_appL, x_tyP, x_tyL, x_tyK, x_tyT, x_putP, x_putL, x_putI, x_putKK, x_srcP, x_srcL, List.map_cons, List.map_nil, List.replicate, List.cons_append, List.nil_append, List.set_cons_zero, List.set_cons_succ]
  exact end_same hQ
end Sp

/-! Sp7: the program's classes. -/
namespace Sp
open PySem PySem.Spec PyProof.Rows L2 Mn
variable {E : Exn → Th → Prop} {θ : Th} {ρ : DEnv} {Q : Dv → Th → Prop}
def addP (tl : Nat → List Nat) (ps : List (List Nat)) (c : Nat) : List (List Nat) :=
  if (ps.any fun p => decide (tl (p.headD 0) = tl c)) = true then ps.map (fun p => if tl (p.headD 0) = tl c then p ++ [c] else p) else ps ++ [[c]]
def cls (tl : Nat → List Nat) (n : Nat) : List (List Nat) := (List.range n).foldl (addP tl) []
theorem cls_succ (tl : Nat → List Nat) (n : Nat) : cls tl (n + 1) = addP tl (cls tl n) n := by
  unfold cls
  rw [List.range_succ, List.foldl_append]
  rfl
def kt (l : List Nat) : List Key := l.map fun m : Nat => (.inl (m : Int) : Key)
theorem tKey_nd (l : List Nat) : tKey (.tup (nd l)) = some (kt l) := by
  show allSome fKey (nd l) = _
  induction l with
  | nil => rfl
  | cons x l ih =>
    have e : nd (x :: l) = .int (x : Int) :: nd l := rfl
    rw [e]
    unfold allSome
    rw [ih]
    rfl
theorem kt_inj {l l' : List Nat} (h : kt l = kt l') : l = l' := by
  induction l generalizing l' with
  | nil => cases l' with
    | nil => rfl
    | cons y l' => cases h
  | cons x l ih => cases l' with
    | nil => cases h
    | cons y l' =>
      unfold kt at h
      rw [List.map_cons, List.map_cons] at h
      obtain ⟨h1, h2⟩ := List.cons.inj h
      have h1 : (x : Int) = (y : Int) := Sum.inl.inj h1
      rw [ih h2, show x = y by omega]
abbrev Part := List Nat × Nat
def kvT (L : Nat) (tl : Nat → List Nat) (qs : List Part) : List (List Key × Dv) := qs.map fun q => (kt (tl (q.1.headD 0)), .obj (L + 1 + q.2))
theorem kvT_look {L : Nat} {tl : Nat → List Nat} {t : List Nat} : ∀ {qs : List Part}, lookD (kvT L tl qs) (kt t) = (qs.find? fun q => decide (tl (q.1.headD 0) = t)).map fun q => .obj (L + 1 + q.2)
  | [] => rfl
  | q :: qs => by
    have ih := kvT_look (L := L) (tl := tl) (t := t) (qs := qs)
    unfold lookD kvT at ih ⊢
    rw [List.map_cons, List.find?_cons, List.find?_cons]
    by_cases e : tl (q.1.headD 0) = t
    · have e1 : decide (kt (tl (q.1.headD 0)) = kt t) = true := decide_eq_true (by rw [e])
      have e2 : decide (tl (q.1.headD 0) = t) = true := decide_eq_true e
      simp only [e1, e2]
      rfl
    · have e1 : decide (kt (tl (q.1.headD 0)) = kt t) = false := decide_eq_false (fun z => e (kt_inj z))
      have e2 : decide (tl (q.1.headD 0) = t) = false := decide_eq_false e
      simp only [e1, e2]
      exact ih
theorem kvT_put {L : Nat} {tl : Nat → List Nat} {t : List Nat} {qs : List Part} {v : Dv} (h : (qs.find? fun q => decide (tl (q.1.headD 0) = t)) = none) : putD (kvT L tl qs) (kt t) v = kvT L tl qs ++ [(kt t, v)] := by
  unfold putD
  rw [if_neg]
  intro e
  rw [List.any_eq_true] at e
  obtain ⟨x, hx, e⟩ := e
  unfold kvT at hx
  obtain ⟨q, hq, rfl⟩ := List.mem_map.mp hx
  have e := kt_inj (of_decide_eq_true e)
  exact List.find?_eq_none.mp h q hq (decide_eq_true e)
structure CI (tl : Nat → List Nat) (qs : List Part) (R : Th) : Prop where
  at' : ∀ q, q ∈ qs → q.1 ≠ [] ∧ R[q.2]? = some (.lst (nd q.1))
  nd : (qs.map (·.2)).Nodup
  kn : (qs.map fun q => tl (q.1.headD 0)).Nodup
theorem headD_snoc {p : List Nat} {c : Nat} (h : p ≠ []) : (p ++ [c]).headD 0 = p.headD 0 := by
  cases p with
  | nil => exact absurd rfl h
  | cons x p => rfl
def upP (tl : Nat → List Nat) (c : Nat) (q : Part) : Part := if tl (q.1.headD 0) = tl c then (q.1 ++ [c], q.2) else q
theorem upP_2 (tl : Nat → List Nat) (c : Nat) (q : Part) : (upP tl c q).2 = q.2 := by unfold upP; split <;> rfl
theorem upP_h (tl : Nat → List Nat) (c : Nat) (q : Part) (h : q.1 ≠ []) : (upP tl c q).1.headD 0 = q.1.headD 0 := by
  unfold upP
  split
  · exact headD_snoc h
  · rfl
theorem nodup_inj {β γ : Type} {f : β → γ} : ∀ {l : List β}, (l.map f).Nodup → ∀ x y, x ∈ l → y ∈ l → f x = f y → x = y
  | [], _, _, _, h, _, _ => by simp at h
  | z :: l, n, x, y, hx, hy, e => by
    rw [List.map_cons, List.nodup_cons] at n
    rcases List.mem_cons.mp hx with h1 | h1
    · rcases List.mem_cons.mp hy with h2 | h2
      · rw [h1, h2]
      · exact absurd (List.mem_map.mpr ⟨y, h2, by rw [← e, h1]⟩) n.1
    · rcases List.mem_cons.mp hy with h2 | h2
      · exact absurd (List.mem_map.mpr ⟨x, h1, by rw [e, h2]⟩) n.1
      · exact nodup_inj n.2 x y h1 h2 e
theorem CI.more {tl : Nat → List Nat} {qs : List Part} {R g : Th} (h : CI tl qs R) : CI tl qs (R ++ g) := ⟨fun q hq => ⟨(h.at' q hq).1, th_left (h.at' q hq).2⟩, h.nd, h.kn⟩
theorem CI.found {tl : Nat → List Nat} {qs : List Part} {R : Th} {q : Part} {c : Nat} (h : CI tl qs R) (hq : q ∈ qs) (hk : tl (q.1.headD 0) = tl c) : CI tl (qs.map (upP tl c)) (R.set q.2 (.lst (Sp.nd (q.1 ++ [c])))) := by
  refine ⟨fun q' hq' => ?_, ?_, ?_⟩
  · obtain ⟨u, hu, rfl⟩ := List.mem_map.mp hq'
    have hu0 := h.at' u hu
    unfold upP
    by_cases e : tl (u.1.headD 0) = tl c
    · rw [if_pos e]
      have : u = q := nodup_inj h.kn u q hu hq (e.trans hk.symm)
      subst this
      exact ⟨by simp, List.getElem?_set_self (List.getElem?_eq_some_iff.mp hu0.2).1⟩
    · rw [if_neg e]
      refine ⟨hu0.1, ?_⟩
      rw [List.getElem?_set_ne]
      · exact hu0.2
      · intro z
        have : q = u := nodup_inj h.nd q u hq hu z
        subst this
        exact e hk
  · rw [List.map_map]
    have : qs.map ((·.2) ∘ upP tl c) = qs.map (·.2) := List.map_congr_left fun u _ => upP_2 tl c u
    rw [this]
    exact h.nd
  · rw [List.map_map]
    have : qs.map ((fun q => tl (q.1.headD 0)) ∘ upP tl c) = qs.map fun q => tl (q.1.headD 0) := List.map_congr_left fun u hu => by
      show tl ((upP tl c u).1.headD 0) = _
      rw [upP_h tl c u (h.at' u hu).1]
    rw [this]
    exact h.kn
theorem CI.new {tl : Nat → List Nat} {qs : List Part} {R : Th} {c : Nat} (h : CI tl qs R) (hk : (qs.find? fun q => decide (tl (q.1.headD 0) = tl c)) = none) : CI tl (qs ++ [([c], R.length)]) (R ++ [.lst (Sp.nd [c])]) := by
  refine ⟨fun q hq => ?_, ?_, ?_⟩
  · rcases List.mem_append.mp hq with hq | hq
    · exact ⟨(h.at' q hq).1, th_left (h.at' q hq).2⟩
    · obtain rfl := List.mem_singleton.mp hq
      exact ⟨by simp, th_last⟩
  · rw [List.map_append, List.nodup_append]
    refine ⟨h.nd, by simp, fun a ha b hb e => ?_⟩
    simp at hb
    obtain ⟨q, hq, rfl⟩ := List.mem_map.mp ha
    have := (List.getElem?_eq_some_iff.mp (h.at' q hq).2).1
    omega
  · rw [List.map_append, List.nodup_append]
    refine ⟨h.kn, by simp, fun a ha b hb e => ?_⟩
    simp at hb
    obtain ⟨q, hq, rfl⟩ := List.mem_map.mp ha
    exact List.find?_eq_none.mp hk q hq (decide_eq_true (by rw [e, hb]))
theorem addP_found {tl : Nat → List Nat} {qs : List Part} {q : Part} {c : Nat} (hq : q ∈ qs) (hk : tl (q.1.headD 0) = tl c) : addP tl (qs.map (·.1)) c = (qs.map (upP tl c)).map (·.1) := by
  unfold addP
  rw [if_pos, List.map_map, List.map_map]
  · apply List.map_congr_left
    intro u _
    show (if tl (u.1.headD 0) = tl c then u.1 ++ [c] else u.1) = (upP tl c u).1
    unfold upP
    split <;> rfl
  · rw [List.any_eq_true]
    exact ⟨q.1, List.mem_map.mpr ⟨q, hq, rfl⟩, decide_eq_true hk⟩
theorem addP_new {tl : Nat → List Nat} {qs : List Part} {c j : Nat} (hk : (qs.find? fun q => decide (tl (q.1.headD 0) = tl c)) = none) : addP tl (qs.map (·.1)) c = (qs ++ [([c], j)]).map (·.1) := by
  unfold addP
  rw [if_neg, List.map_append]
  · rfl
  · intro e
    rw [List.any_eq_true] at e
    obtain ⟨p, hp, e⟩ := e
    obtain ⟨q, hq, rfl⟩ := List.mem_map.mp hp
    exact List.find?_eq_none.mp hk q hq e
theorem x_lock {i k : Nat} {m : ME} {o f : Ob} (h1 : ρ.getD i none = some (.obj k)) (h2 : θ[k]? = some o) (h3 : lockOb o = some f) (hq : m ρ E (θ.set k f) fun d θ' => θ'[k]? = some f ∧ Q d (θ'.set k o)) : mLock i m ρ E θ Q := by
  unfold mLock
  simp only [h1, h2, h3]
  exact hq
theorem x_dT : mDT ρ E θ Q = Q (.obj θ.length) (θ ++ [.dT []]) := (rfl)
theorem th_off {o : Ob} {R : Th} {j : Nat} : (θ ++ o :: R)[θ.length + 1 + j]? = R[j]? := by
  rw [List.getElem?_append_right (by omega), show θ.length + 1 + j - θ.length = j + 1 by omega, List.getElem?_cons_succ]
theorem th_set_off {o o' : Ob} {R : Th} {j : Nat} : (θ ++ o :: R).set (θ.length + 1 + j) o' = θ ++ o :: R.set j o' := by
  rw [List.set_append_right _ _ (by omega), show θ.length + 1 + j - θ.length = j + 1 by omega, List.set_cons_succ]
noncomputable def tell (h : Hist) (sk : List Nat) (c : Nat) : List Nat := (offs h c).filter fun m => !decide (m ∈ sk)
theorem x_vals {a : ME} {R : Src → Th → Prop} : srcVals a ρ E θ R = a ρ E θ fun d θ1 => vk d E θ1 R := (rfl)
def vkK (o : Option Ob) (k : Nat) (θ : Th) (R : Src → Th → Prop) : Prop := match o with
  | some (.dKf _) => R (.vals k) θ
  | some (.dTf _) => R (.vals k) θ
  | _ => False
theorem x_vkP {k : Nat} {R : Src → Th → Prop} : vk (.obj k) E θ R = vkK θ[k]? k θ R := (rfl)
theorem x_vkT {k : Nat} {kvs : List (List Key × Dv)} {R : Src → Th → Prop} : vkK (some (.dTf kvs)) k θ R = R (.vals k) θ := (rfl)
theorem setd_new {k : Nat} {kvs : List (List Key × Dv)} {y z : Dv} {t : List Key} (h : θ[k]? = some (.dT kvs)) (ht : tKey y = some t) (hl : kvs.length < sizeLine) (hn : lookD kvs t = none) (hq : Q z (θ.set k (.dT (putD kvs t z)))) : setdD (.obj k) [y, z] E θ Q := by
  unfold setdD
  simp only [h, ht, hn]
  exact ⟨hl, hq⟩
theorem setd_old {k : Nat} {kvs : List (List Key × Dv)} {y z v : Dv} {t : List Key} (h : θ[k]? = some (.dT kvs)) (ht : tKey y = some t) (hl : kvs.length < sizeLine) (hn : lookD kvs t = some v) (hq : Q v θ) : setdD (.obj k) [y, z] E θ Q := by
  unfold setdD
  simp only [h, ht, hn]
  exact ⟨hl, hq⟩
theorem addP_len (tl : Nat → List Nat) (ps : List (List Nat)) (c : Nat) : (addP tl ps c).length ≤ ps.length + 1 := by
  unfold addP
  split <;> simp
theorem cls_len (tl : Nat → List Nat) : ∀ n, (cls tl n).length ≤ n
  | 0 => Nat.le_refl _
  | n + 1 => by
    rw [cls_succ]
    have := addP_len tl (cls tl n) n
    have := cls_len tl n
    omega
theorem addP_part (tl : Nat → List Nat) (ps : List (List Nat)) (c b : Nat) (h : ∀ p, p ∈ ps → p.length ≤ b) : ∀ p, p ∈ addP tl ps c → p.length ≤ b + 1 := by
  intro p hp
  unfold addP at hp
  split at hp
  · obtain ⟨q, hq, rfl⟩ := List.mem_map.mp hp
    have := h q hq
    split <;> simp <;> omega
  · rcases List.mem_append.mp hp with hp | hp
    · have := h p hp; omega
    · obtain rfl := List.mem_singleton.mp hp
      simp
theorem cls_part (tl : Nat → List Nat) : ∀ n p, p ∈ cls tl n → p.length ≤ n
  | 0, p, h => by simp [cls] at h
  | n + 1, p, h => by
    rw [cls_succ] at h
    exact addP_part tl _ n n (cls_part tl n) p h
def rows (ps : List (List Nat)) : Dv := .tup (ps.map fun p => .tup (nd p))
theorem rows_low (ps : List (List Nat)) (n : Nat) : (rows ps).low n = true := by
  unfold rows Dv.low
  induction ps with
  | nil => rfl
  | cons p ps ih =>
    rw [List.map_cons]
    unfold Dv.lows
    rw [ih, low_nats]
    rfl
theorem filt_range (l : List Nat) (p : Nat → Bool) : ((List.range l.length).filter fun t => p (l.getD t 0)).map (fun t => l.getD t 0) = l.filter p := by
  have e : (List.range l.length).map (fun t => l.getD t 0) = l := by
    apply List.ext_getElem?
    intro i
    by_cases hi : i < l.length
    · simp [hi, List.getD]
    · rw [List.getElem?_eq_none (by simp; omega), List.getElem?_eq_none (by omega)]
  conv => rhs; rw [← e]
  rw [List.filter_map]
  rfl
theorem s_classes {h : Hist} {sk : List Nat} (a : Ahead h) (hl : h.length ≤ 1000) (hw : ∀ k, (par h k).length ≤ 1000) (hQ : Q (rows (cls (tell h sk) h.length)) θ) : Cm.c_classes [hD h, .tup (nd sk)] E θ Q := by
  unfold Cm.c_classes Cm.m_classes
  simp only [x_var0, x_varS, x_c, x_bin, x_un, x_and, x_or, x_andK, x_orK, x_not, x_if, x_tup, x_lst, x_sl, x_call, x_callU, x_mth, x_isi, x_chain, x_chK, x_k1, x_tupRg, x_lstRg, x_lc, x_addI, x_addS, x_addT, x_subI, x_mulI, x_fdiv, x_mod, x_pow, x_lt, x_le, x_gt, x_ge, x_eqI, x_eqB, x_eqS, x_neI, x_neB, x_isB, x_isnB, x_neg, x_int, x_intB, x_lenT, x_lenS, x_tupT, x_lstT, x_ixT, x_ixR, x_optW, x_nil, x_cons, x_bB, x_boolK, x_bAnd, x_bOr, x_bNot, x_bYes, x_pNo, x_pSo, x_part, x_rng1, x_rng2, x_rng3, x_rk1, x_rk2, x_rk3, x_srcEn, x_srcZp, x_ekT, x_zkT, x_srcV, x_srcT, x_seq, x_seqR, x_seqB, x_seqC, x_sNil, x_set, x_drop, x_ret, x_retN, x_sIf, x_brk, x_ct, x_put, x_for, x_def, x_defR, x_defN, x_ixP, x_ixL, x_lenP, x_lenL, x_tupP, x_tupL, x_tupKK, x_lstP, x_lstL, x_appP, x_appL, x_tyP, x_tyL, x_tyK, x_tyT, x_putP, x_putL, x_putI, x_putKK, x_srcP, x_srcL, List.map_cons, List.map_nil, List.replicate, List.cons_append, List.nil_append, List.set_cons_zero, List.set_cons_succ, wipeE, x_dT]
  rw [x_seqN]
  simp only [x_var0, x_varS, x_c, x_bin, x_un, x_and, x_or, x_andK, x_orK, x_not, x_if, x_tup, x_lst, x_sl, x_call, x_callU, x_mth, x_isi, x_chain, x_chK, x_k1, x_tupRg, x_lstRg, x_lc, x_addI, x_addS, x_addT, x_subI, x_mulI, x_fdiv, x_mod, x_pow, x_lt, x_le, x_gt, x_ge, x_eqI, x_eqB, x_eqS, x_neI, x_neB, x_isB, x_isnB, x_neg, x_int, x_intB, x_lenT, x_lenS, x_tupT, x_lstT, x_ixT, x_ixR, x_optW, x_nil, x_cons, x_bB, x_boolK, x_bAnd, x_bOr, x_bNot, x_bYes, x_pNo, x_pSo, x_part, x_rng1, x_rng2, x_rng3, x_rk1, x_rk2, x_rk3, x_srcEn, x_srcZp, x_ekT, x_zkT, x_srcV, x_srcT, x_seq, x_seqR, x_seqB, x_seqC, x_sNil, x_set, x_drop, x_ret, x_retN, x_sIf, x_brk, x_ct, x_put, x_for, x_def, x_defR, x_defN, x_ixP, x_ixL, x_lenP, x_lenL, x_tupP, x_tupL, x_tupKK, x_lstP, x_lstL, x_appP, x_appL, x_tyP, x_tyL, x_tyK, x_tyT, x_putP, x_putL, x_putI, x_putKK, x_srcP, x_srcL, List.map_cons, List.map_nil, List.replicate, List.cons_append, List.nil_append, List.set_cons_zero, List.set_cons_succ, wipeE, x_h1, List.length_map]
  refine ⟨⟨by omega, by omega⟩, ?_⟩
  refine for_rule h.length (fun i ρ θ' => ∃ x3 x4 x5 x6 R qs, ρ = [some (hD h), some (.tup (nd sk)), some (.obj θ.length), x3, x4, x5, x6] ∧ θ' = θ ++ .dT (kvT θ.length (tell h sk) qs) :: R ∧ CI (tell h sk) qs R ∧ qs.map (·.1) = cls (tell h sk) i) ⟨none, none, none, none, [], [], rfl, rfl, ⟨fun q hq => (by simp at hq), by simp, by simp⟩, rfl⟩ ?_ ?_
  · rintro c ρ θ' hc ⟨x3, x4, x5, x6, R, qs, rfl, rfl, ci, hqs⟩
    have e : (0 : Int) + (c : Nat) * 1 = ((c : Nat) : Int) := by omega
    refine ⟨.int (c : Nat), _, by rw [show ((h.length : Nat) : Int).toNat = h.length from rfl, rng_at hc, e], rfl, fun K LK => ?_⟩
    simp only [x_var0, x_varS, x_c, x_bin, x_un, x_and, x_or, x_andK, x_orK, x_not, x_if, x_tup, x_lst, x_sl, x_call, x_callU, x_mth, x_isi, x_chain, x_chK, x_k1, x_tupRg, x_lstRg, x_lc, x_addI, x_addS, x_addT, x_subI, x_mulI, x_fdiv, x_mod, x_pow, x_lt, x_le, x_gt, x_ge, x_eqI, x_eqB, x_eqS, x_neI, x_neB, x_isB, x_isnB, x_neg, x_int, x_intB, x_lenT, x_lenS, x_tupT, x_lstT, x_ixT, x_ixR, x_optW, x_nil, x_cons, x_bB, x_boolK, x_bAnd, x_bOr, x_bNot, x_bYes, x_pNo, x_pSo, x_part, x_rng1, x_rng2, x_rng3, x_rk1, x_rk2, x_rk3, x_srcEn, x_srcZp, x_ekT, x_zkT, x_srcV, x_srcT, x_seq, x_seqR, x_seqB, x_seqC, x_sNil, x_set, x_drop, x_ret, x_retN, x_sIf, x_brk, x_ct, x_put, x_for, x_def, x_defR, x_defN, x_ixP, x_ixL, x_lenP, x_lenL, x_tupP, x_tupL, x_tupKK, x_lstP, x_lstL, x_appP, x_appL, x_tyP, x_tyL, x_tyK, x_tyT, x_putP, x_putL, x_putI, x_putKK, x_srcP, x_srcL, List.map_cons, List.map_nil, List.replicate, List.cons_append, List.nil_append, List.set_cons_zero, List.set_cons_succ, wipeE]
    refine ⟨rfl, s_offspring a hc hl hw ?_⟩
    simp only [x_var0, x_varS, x_c, x_bin, x_un, x_and, x_or, x_andK, x_orK, x_not, x_if, x_tup, x_lst, x_sl, x_call, x_callU, x_mth, x_isi, x_chain, x_chK, x_k1, x_tupRg, x_lstRg, x_lc, x_addI, x_addS, x_addT, x_subI, x_mulI, x_fdiv, x_mod, x_pow, x_lt, x_le, x_gt, x_ge, x_eqI, x_eqB, x_eqS, x_neI, x_neB, x_isB, x_isnB, x_neg, x_int, x_intB, x_lenT, x_lenS, x_tupT, x_lstT, x_ixT, x_ixR, x_optW, x_nil, x_cons, x_bB, x_boolK, x_bAnd, x_bOr, x_bNot, x_bYes, x_pNo, x_pSo, x_part, x_rng1, x_rng2, x_rng3, x_rk1, x_rk2, x_rk3, x_srcEn, x_srcZp, x_ekT, x_zkT, x_srcV, x_srcT, x_seq, x_seqR, x_seqB, x_seqC, x_sNil, x_set, x_drop, x_ret, x_retN, x_sIf, x_brk, x_ct, x_put, x_for, x_def, x_defR, x_defN, x_ixP, x_ixL, x_lenP, x_lenL, x_tupP, x_tupL, x_tupKK, x_lstP, x_lstL, x_appP, x_appL, x_tyP, x_tyL, x_tyK, x_tyT, x_putP, x_putL, x_putI, x_putKK, x_srcP, x_srcL, List.map_cons, List.map_nil, List.replicate, List.cons_append, List.nil_append, List.set_cons_zero, List.set_cons_succ, wipeE]
    refine lc_pure (offs h c).length (fun t => !decide ((offs h c).getD t 0 ∈ sk)) (fun t => .int ((offs h c).getD t 0 : Nat)) ?_ ?_ ?_ ?_
    · have := List.length_filter_le (fun j => anc h j c) (List.range h.length)
      rw [List.length_range] at this
      unfold offs
      rw [sizeLine_eq]
      omega
    · intro t acc g ht
      have e1 : (nd (offs h c))[t]? = some (.int ((offs h c).getD t 0 : Nat)) := by simp [ht, List.getD]
      refine ⟨_, _, sdT_at e1, rfl, fun K hK => ?_⟩
      simp only [x_var0, x_varS, x_c, x_bin, x_un, x_and, x_or, x_andK, x_orK, x_not, x_if, x_tup, x_lst, x_sl, x_call, x_callU, x_mth, x_isi, x_chain, x_chK, x_k1, x_tupRg, x_lstRg, x_lc, x_addI, x_addS, x_addT, x_subI, x_mulI, x_fdiv, x_mod, x_pow, x_lt, x_le, x_gt, x_ge, x_eqI, x_eqB, x_eqS, x_neI, x_neB, x_isB, x_isnB, x_neg, x_int, x_intB, x_lenT, x_lenS, x_tupT, x_lstT, x_ixT, x_ixR, x_optW, x_nil, x_cons, x_bB, x_boolK, x_bAnd, x_bOr, x_bNot, x_bYes, x_pNo, x_pSo, x_part, x_rng1, x_rng2, x_rng3, x_rk1, x_rk2, x_rk3, x_srcEn, x_srcZp, x_ekT, x_zkT, x_srcV, x_srcT, x_seq, x_seqN, x_seqR, x_seqB, x_seqC, x_sNil, x_set, x_drop, x_ret, x_retN, x_sIf, x_brk, x_ct, x_put, x_for, x_def, x_defR, x_defN, x_ixP, x_ixL, x_lenP, x_lenL, x_tupP, x_tupL, x_tupKK, x_lstP, x_lstL, x_appP, x_appL, x_tyP, x_tyL, x_tyK, x_tyT, x_putP, x_putL, x_putI, x_putKK, x_srcP, x_srcL, List.map_cons, List.map_nil, List.replicate, List.cons_append, List.nil_append, List.set_cons_zero, List.set_cons_succ]
      refine notin_intsT ?_
      rw [x_boolK]
      refine hK g fun _ K2 h2 => ?_
      simp only [x_var0, x_varS, x_c, x_bin, x_un, x_and, x_or, x_andK, x_orK, x_not, x_if, x_tup, x_lst, x_sl, x_call, x_callU, x_mth, x_isi, x_chain, x_chK, x_k1, x_tupRg, x_lstRg, x_lc, x_addI, x_addS, x_addT, x_subI, x_mulI, x_fdiv, x_mod, x_pow, x_lt, x_le, x_gt, x_ge, x_eqI, x_eqB, x_eqS, x_neI, x_neB, x_isB, x_isnB, x_neg, x_int, x_intB, x_lenT, x_lenS, x_tupT, x_lstT, x_ixT, x_ixR, x_optW, x_nil, x_cons, x_bB, x_boolK, x_bAnd, x_bOr, x_bNot, x_bYes, x_pNo, x_pSo, x_part, x_rng1, x_rng2, x_rng3, x_rk1, x_rk2, x_rk3, x_srcEn, x_srcZp, x_ekT, x_zkT, x_srcV, x_srcT, x_seq, x_seqN, x_seqR, x_seqB, x_seqC, x_sNil, x_set, x_drop, x_ret, x_retN, x_sIf, x_brk, x_ct, x_put, x_for, x_def, x_defR, x_defN, x_ixP, x_ixL, x_lenP, x_lenL, x_tupP, x_tupL, x_tupKK, x_lstP, x_lstL, x_appP, x_appL, x_tyP, x_tyL, x_tyK, x_tyT, x_putP, x_putL, x_putI, x_putKK, x_srcP, x_srcL, List.map_cons, List.map_nil, List.replicate, List.cons_append, List.nil_append, List.set_cons_zero, List.set_cons_succ]
      exact h2 g
    · intro acc g
      have el : (nd (offs h c)).length = (offs h c).length := by simp
      rw [← el]
      exact sdT_end
    · intro g
      rw [th_mid, x_tupL]
      have e3 : ((List.range (offs h c).length).filter fun t => !decide ((offs h c).getD t 0 ∈ sk)).map (fun t => Dv.int ((offs h c).getD t 0 : Nat)) = nd (tell h sk c) := by
        unfold tell
        rw [← filt_range (offs h c) (fun m => !decide (m ∈ sk))]
        simp only [nd, List.map_map]
        rfl
      rw [e3, List.append_assoc, List.cons_append]
      have ci2 : CI (tell h sk) qs (R ++ .lst (nd (tell h sk c)) :: g) := ci.more
      generalize (R ++ .lst (nd (tell h sk c)) :: g) = R2 at ci2
      clear ci e3
      have ql : qs.length ≤ 1000 := by
        have e := cls_len (tell h sk) c
        rw [← hqs, List.length_map] at e
        omega
      rw [x_seqN]
      simp only [x_var0, x_varS, x_c, x_bin, x_un, x_and, x_or, x_andK, x_orK, x_not, x_if, x_tup, x_lst, x_sl, x_call, x_callU, x_mth, x_isi, x_chain, x_chK, x_k1, x_tupRg, x_lstRg, x_lc, x_addI, x_addS, x_addT, x_subI, x_mulI, x_fdiv, x_mod, x_pow, x_lt, x_le, x_gt, x_ge, x_eqI, x_eqB, x_eqS, x_neI, x_neB, x_isB, x_isnB, x_neg, x_int, x_intB, x_lenT, x_lenS, x_tupT, x_lstT, x_ixT, x_ixR, x_optW, x_nil, x_cons, x_bB, x_boolK, x_bAnd, x_bOr, x_bNot, x_bYes, x_pNo, x_pSo, x_part, x_rng1, x_rng2, x_rng3, x_rk1, x_rk2, x_rk3, x_srcEn, x_srcZp, x_ekT, x_zkT, x_srcV, x_srcT, x_seq, x_seqR, x_seqB, x_seqC, x_sNil, x_set, x_drop, x_ret, x_retN, x_sIf, x_brk, x_ct, x_put, x_for, x_def, x_defR, x_defN, x_ixP, x_ixL, x_lenP, x_lenL, x_tupP, x_tupL, x_tupKK, x_lstP, x_lstL, x_appP, x_appL, x_tyP, x_tyL, x_tyK, x_tyT, x_putP, x_putL, x_putI, x_putKK, x_srcP, x_srcL, List.map_cons, List.map_nil, List.replicate, List.cons_append, List.nil_append, List.set_cons_zero, List.set_cons_succ, th_mid]
      refine ⟨trivial, by rw [sizeLine_eq]; simp, ?_⟩
      rw [List.append_assoc, List.cons_append]
      have kl : (kvT θ.length (tell h sk) qs).length < sizeLine := by
        unfold kvT
        rw [List.length_map, sizeLine_eq]
        omega
      have pl : ∀ q, q ∈ qs → q.1.length ≤ 1000 := fun q hq => by
        have := cls_part (tell h sk) c q.1 (by rw [← hqs]; exact List.mem_map.mpr ⟨q, hq, rfl⟩)
        omega
      cases hf : qs.find? fun q => decide (tell h sk (q.1.headD 0) = tell h sk c) with
      | some q =>
        have hq := List.mem_of_find?_eq_some hf
        have hk : tell h sk (q.1.headD 0) = tell h sk c := of_decide_eq_true (List.find?_some (p := fun q : Part => decide (tell h sk (q.1.headD 0) = tell h sk c)) hf)
        have ci3 := ci2.more (g := [.lst []])
        refine setd_old th_mid (tKey_nd _) kl (v := .obj (θ.length + 1 + q.2)) (by rw [kvT_look, hf]; rfl) ?_
        simp only [x_var0, x_varS, x_c, x_bin, x_un, x_and, x_or, x_andK, x_orK, x_not, x_if, x_tup, x_lst, x_sl, x_call, x_callU, x_mth, x_isi, x_chain, x_chK, x_k1, x_tupRg, x_lstRg, x_lc, x_addI, x_addS, x_addT, x_subI, x_mulI, x_fdiv, x_mod, x_pow, x_lt, x_le, x_gt, x_ge, x_eqI, x_eqB, x_eqS, x_neI, x_neB, x_isB, x_isnB, x_neg, x_int, x_intB, x_lenT, x_lenS, x_tupT, x_lstT, x_ixT, x_ixR, x_optW, x_nil, x_cons, x_bB, x_boolK, x_bAnd, x_bOr, x_bNot, x_bYes, x_pNo, x_pSo, x_part, x_rng1, x_rng2, x_rng3, x_rk1, x_rk2, x_rk3, x_srcEn, x_srcZp, x_ekT, x_zkT, x_srcV, x_srcT, x_seq, x_seqR, x_seqB, x_seqC, x_sNil, x_set, x_drop, x_ret, x_retN, x_sIf, x_brk, x_ct, x_put, x_for, x_def, x_defR, x_defN, x_ixP, x_ixL, x_lenP, x_lenL, x_tupP, x_tupL, x_tupKK, x_lstP, x_lstL, x_appP, x_appL, x_tyP, x_tyL, x_tyK, x_tyT, x_putP, x_putL, x_putI, x_putKK, x_srcP, x_srcL, List.map_cons, List.map_nil, List.replicate, List.cons_append, List.nil_append, List.set_cons_zero, List.set_cons_succ, th_off, (ci3.at' q hq).2]
        refine ⟨trivial, ?_, ?_⟩
        · rw [List.length_map, sizeLine_eq]
          have := pl q hq
          omega
        · have e : nd q.1 ++ [Dv.int (c : Nat)] = nd (q.1 ++ [c]) := by simp
          rw [e, th_set_off]
          have ek : kvT θ.length (tell h sk) qs = kvT θ.length (tell h sk) (qs.map (upP (tell h sk) c)) := by
            unfold kvT
            rw [List.map_map]
            apply List.map_congr_left
            intro u hu
            show _ = (kt (tell h sk ((upP (tell h sk) c u).1.headD 0)), Dv.obj (θ.length + 1 + (upP (tell h sk) c u).2))
            rw [upP_h _ _ _ (ci2.at' u hu).1, upP_2]
          rw [ek]
          refine LK.nx _ _ ⟨_, rfl, _, _, _, _, _, _, rfl, rfl, ci3.found hq hk, ?_⟩
          rw [cls_succ, ← hqs, addP_found hq hk]
      | none =>
        refine setd_new th_mid (tKey_nd _) kl (by rw [kvT_look, hf]; rfl) ?_
        rw [kvT_put hf, th_set_mid]
        have eN : (θ ++ Ob.dT (kvT θ.length (tell h sk) qs) :: R2).length = θ.length + 1 + R2.length := by
          rw [List.length_append, List.length_cons]
          omega
        rw [eN]
        simp only [x_var0, x_varS, x_c, x_bin, x_un, x_and, x_or, x_andK, x_orK, x_not, x_if, x_tup, x_lst, x_sl, x_call, x_callU, x_mth, x_isi, x_chain, x_chK, x_k1, x_tupRg, x_lstRg, x_lc, x_addI, x_addS, x_addT, x_subI, x_mulI, x_fdiv, x_mod, x_pow, x_lt, x_le, x_gt, x_ge, x_eqI, x_eqB, x_eqS, x_neI, x_neB, x_isB, x_isnB, x_neg, x_int, x_intB, x_lenT, x_lenS, x_tupT, x_lstT, x_ixT, x_ixR, x_optW, x_nil, x_cons, x_bB, x_boolK, x_bAnd, x_bOr, x_bNot, x_bYes, x_pNo, x_pSo, x_part, x_rng1, x_rng2, x_rng3, x_rk1, x_rk2, x_rk3, x_srcEn, x_srcZp, x_ekT, x_zkT, x_srcV, x_srcT, x_seq, x_seqR, x_seqB, x_seqC, x_sNil, x_set, x_drop, x_ret, x_retN, x_sIf, x_brk, x_ct, x_put, x_for, x_def, x_defR, x_defN, x_ixP, x_ixL, x_lenP, x_lenL, x_tupP, x_tupL, x_tupKK, x_lstP, x_lstL, x_appP, x_appL, x_tyP, x_tyL, x_tyK, x_tyT, x_putP, x_putL, x_putI, x_putKK, x_srcP, x_srcL, List.map_cons, List.map_nil, List.replicate, List.cons_append, List.nil_append, List.set_cons_zero, List.set_cons_succ, th_off, th_last]
        refine ⟨trivial, by rw [sizeLine_eq]; simp, ?_⟩
        rw [th_set_off, th_app]
        have ek : kvT θ.length (tell h sk) qs ++ [(kt (tell h sk c), Dv.obj (θ.length + 1 + R2.length))] = kvT θ.length (tell h sk) (qs ++ [([c], R2.length)]) := by
          unfold kvT
          rw [List.map_append]
          rfl
        rw [ek]
        refine LK.nx _ _ ⟨_, rfl, _, _, _, _, _, _, rfl, rfl, ci2.new hf, ?_⟩
        rw [cls_succ, ← hqs, addP_new hf]
  · rintro ρ θ' ⟨x3, x4, x5, x6, R, qs, rfl, rfl, ci, hqs⟩
    refine ⟨rng_end, ?_⟩
    rw [x_seqN]
    simp only [x_var0, x_varS, x_c, x_bin, x_un, x_and, x_or, x_andK, x_orK, x_not, x_if, x_tup, x_lst, x_sl, x_call, x_callU, x_mth, x_isi, x_chain, x_chK, x_k1, x_tupRg, x_lstRg, x_lc, x_addI, x_addS, x_addT, x_subI, x_mulI, x_fdiv, x_mod, x_pow, x_lt, x_le, x_gt, x_ge, x_eqI, x_eqB, x_eqS, x_neI, x_neB, x_isB, x_isnB, x_neg, x_int, x_intB, x_lenT, x_lenS, x_tupT, x_lstT, x_ixT, x_ixR, x_optW, x_nil, x_cons, x_bB, x_boolK, x_bAnd, x_bOr, x_bNot, x_bYes, x_pNo, x_pSo, x_part, x_rng1, x_rng2, x_rng3, x_rk1, x_rk2, x_rk3, x_srcEn, x_srcZp, x_ekT, x_zkT, x_srcV, x_srcT, x_seq, x_seqR, x_seqB, x_seqC, x_sNil, x_set, x_drop, x_ret, x_retN, x_sIf, x_brk, x_ct, x_put, x_for, x_def, x_defR, x_defN, x_ixP, x_ixL, x_lenP, x_lenL, x_tupP, x_tupL, x_tupKK, x_lstP, x_lstL, x_appP, x_appL, x_tyP, x_tyL, x_tyK, x_tyT, x_putP, x_putL, x_putI, x_putKK, x_srcP, x_srcL, List.map_cons, List.map_nil, List.replicate, List.cons_append, List.nil_append, List.set_cons_zero, List.set_cons_succ, wipeE]
    refine x_lock rfl th_mid rfl ?_
    rw [th_set_mid]
    simp only [x_var0, x_varS, x_c, x_bin, x_un, x_and, x_or, x_andK, x_orK, x_not, x_if, x_tup, x_lst, x_sl, x_call, x_callU, x_mth, x_isi, x_chain, x_chK, x_k1, x_tupRg, x_lstRg, x_lc, x_addI, x_addS, x_addT, x_subI, x_mulI, x_fdiv, x_mod, x_pow, x_lt, x_le, x_gt, x_ge, x_eqI, x_eqB, x_eqS, x_neI, x_neB, x_isB, x_isnB, x_neg, x_int, x_intB, x_lenT, x_lenS, x_tupT, x_lstT, x_ixT, x_ixR, x_optW, x_nil, x_cons, x_bB, x_boolK, x_bAnd, x_bOr, x_bNot, x_bYes, x_pNo, x_pSo, x_part, x_rng1, x_rng2, x_rng3, x_rk1, x_rk2, x_rk3, x_srcEn, x_srcZp, x_ekT, x_zkT, x_srcV, x_srcT, x_seq, x_seqR, x_seqB, x_seqC, x_sNil, x_set, x_drop, x_ret, x_retN, x_sIf, x_brk, x_ct, x_put, x_for, x_def, x_defR, x_defN, x_ixP, x_ixL, x_lenP, x_lenL, x_tupP, x_tupL, x_tupKK, x_lstP, x_lstL, x_appP, x_appL, x_tyP, x_tyL, x_tyK, x_tyT, x_putP, x_putL, x_putI, x_putKK, x_srcP, x_srcL, List.map_cons, List.map_nil, List.replicate, List.cons_append, List.nil_append, List.set_cons_zero, List.set_cons_succ, wipeE, x_vals, x_vkP, x_vkT, th_mid]
    have ql : qs.length = (cls (tell h sk) h.length).length := by rw [← hqs, List.length_map]
    refine lc_pure qs.length (fun _ => true) (fun t => .tup (nd ((cls (tell h sk) h.length).getD t []))) (by rw [ql, sizeLine_eq]; have := cls_len (tell h sk) h.length; omega) ?_ ?_ ?_
    · intro t acc g ht
      have hq : qs[t] ∈ qs := List.getElem_mem ht
      have e1 : (Src.vals θ.length).at (θ ++ .dTf (kvT θ.length (tell h sk) qs) :: R ++ .lst acc :: g) t = some (some (.obj (θ.length + 1 + qs[t].2))) := by
        simp only [Src.at, th_left th_mid, vlAt]
        unfold kvT
        simp [ht]
      refine ⟨_, _, e1, rfl, fun K hK => ?_⟩
      simp only [x_var0, x_varS, x_c, x_bin, x_un, x_and, x_or, x_andK, x_orK, x_not, x_if, x_tup, x_lst, x_sl, x_call, x_callU, x_mth, x_isi, x_chain, x_chK, x_k1, x_tupRg, x_lstRg, x_lc, x_addI, x_addS, x_addT, x_subI, x_mulI, x_fdiv, x_mod, x_pow, x_lt, x_le, x_gt, x_ge, x_eqI, x_eqB, x_eqS, x_neI, x_neB, x_isB, x_isnB, x_neg, x_int, x_intB, x_lenT, x_lenS, x_tupT, x_lstT, x_ixT, x_ixR, x_optW, x_nil, x_cons, x_bB, x_boolK, x_bAnd, x_bOr, x_bNot, x_bYes, x_pNo, x_pSo, x_part, x_rng1, x_rng2, x_rng3, x_rk1, x_rk2, x_rk3, x_srcEn, x_srcZp, x_ekT, x_zkT, x_srcV, x_srcT, x_seq, x_seqN, x_seqR, x_seqB, x_seqC, x_sNil, x_set, x_drop, x_ret, x_retN, x_sIf, x_brk, x_ct, x_put, x_for, x_def, x_defR, x_defN, x_ixP, x_ixL, x_lenP, x_lenL, x_tupP, x_tupL, x_tupKK, x_lstP, x_lstL, x_appP, x_appL, x_tyP, x_tyL, x_tyK, x_tyT, x_putP, x_putL, x_putI, x_putKK, x_srcP, x_srcL, List.map_cons, List.map_nil, List.replicate, List.cons_append, List.nil_append, List.set_cons_zero, List.set_cons_succ]
      refine hK g fun _ K2 h2 => ?_
      have e2 : ∀ gg : Th, (θ ++ .dTf (kvT θ.length (tell h sk) qs) :: R ++ gg)[θ.length + 1 + qs[t].2]? = some (.lst (nd qs[t].1)) := fun gg => th_left (by rw [th_off]; exact (ci.at' _ hq).2)
      simp only [x_var0, x_varS, x_c, x_bin, x_un, x_and, x_or, x_andK, x_orK, x_not, x_if, x_tup, x_lst, x_sl, x_call, x_callU, x_mth, x_isi, x_chain, x_chK, x_k1, x_tupRg, x_lstRg, x_lc, x_addI, x_addS, x_addT, x_subI, x_mulI, x_fdiv, x_mod, x_pow, x_lt, x_le, x_gt, x_ge, x_eqI, x_eqB, x_eqS, x_neI, x_neB, x_isB, x_isnB, x_neg, x_int, x_intB, x_lenT, x_lenS, x_tupT, x_lstT, x_ixT, x_ixR, x_optW, x_nil, x_cons, x_bB, x_boolK, x_bAnd, x_bOr, x_bNot, x_bYes, x_pNo, x_pSo, x_part, x_rng1, x_rng2, x_rng3, x_rk1, x_rk2, x_rk3, x_srcEn, x_srcZp, x_ekT, x_zkT, x_srcV, x_srcT, x_seq, x_seqR, x_seqB, x_seqC, x_sNil, x_set, x_drop, x_ret, x_retN, x_sIf, x_brk, x_ct, x_put, x_for, x_def, x_defR, x_defN, x_ixP, x_ixL, x_lenP, x_lenL, x_tupP, x_tupL, x_tupKK, x_lstP, x_lstL, x_appP, x_appL, x_tyP, x_tyL, x_tyK, x_tyT, x_putP, x_putL, x_putI, x_putKK, x_srcP, x_srcL, List.map_cons, List.map_nil, List.replicate, List.cons_append, List.nil_append, List.set_cons_zero, List.set_cons_succ, e2]
      have e3 : (cls (tell h sk) h.length).getD t [] = qs[t].1 := by
        rw [← hqs]
        simp [List.getD, ht]
      rw [e3] at h2
      exact h2 g
    · intro acc g
      simp only [Src.at, th_left th_mid, vlAt]
      unfold kvT
      simp
    · intro g
      refine ⟨th_left th_mid, ?_⟩
      have e3 : ((List.range qs.length).filter fun _ => true).map (fun t => Dv.tup (nd ((cls (tell h sk) h.length).getD t []))) = (cls (tell h sk) h.length).map fun p => .tup (nd p) := by
        rw [List.filter_eq_self.mpr fun _ _ => rfl, ql]
        apply List.ext_getElem?
        intro i
        by_cases hi : i < (cls (tell h sk) h.length).length
        · simp [hi, List.getD]
        · rw [List.getElem?_eq_none (by simp; omega), List.getElem?_eq_none (by simp; omega)]
      rw [e3]
      have eN : (θ ++ Ob.dTf (kvT θ.length (tell h sk) qs) :: R).length = θ.length + 1 + R.length := by
        rw [List.length_append, List.length_cons]
        omega
      rw [eN, List.append_assoc, List.cons_append, th_set_mid, th_off, th_mid, x_tupL]
      exact end_drop hQ fun n => rows_low _ n
end Sp

/-! Sp8: equal by repr. -/
namespace Sp
open PySem PySem.Spec PyProof.Rows L2 Mn
variable {E : Exn → Th → Prop} {θ : Th} {ρ : DEnv} {Q : Dv → Th → Prop}
def pyN (l : List Nat) : PyData := .tuple (l.map fun m : Nat => .int (m : Int))
def pyR (ps : List (List Nat)) : PyData := .tuple (ps.map pyN)
theorem allSome_map {β γ δ : Type} {f : γ → Option δ} {g : β → γ} {k : β → δ} (h : ∀ x, f (g x) = some (k x)) : ∀ l : List β, allSome f (l.map g) = some (l.map k)
  | [] => rfl
  | x :: l => by
    rw [List.map_cons]
    unfold allSome
    rw [h, allSome_map h l]
    rfl
theorem toPy_nd {n : Nat} (l : List Nat) : toPy θ (n + 1) (.tup (nd l)) = some (pyN l) := by
  unfold toPy
  rw [allSome_map (k := fun m : Nat => PyData.int (m : Int)) (fun x => by cases n <;> rfl)]
  rfl
theorem toPy_rows {n : Nat} (ps : List (List Nat)) : toPy θ (n + 2) (rows ps) = some (pyR ps) := by
  unfold rows toPy
  rw [allSome_map (k := pyN) (fun l => toPy_nd l)]
  rfl
theorem s_same {x y : Dv} {d e : PyData} (hx : toPy θ 66 x = some d) (hy : toPy θ 66 y = some e) (sx : shows d) (sy : shows e) (hQ : Q (.bl (decide (d.shown = e.shown))) θ) : Cm.c__law_same [x, y] E θ Q := by
  unfold Cm.c__law_same Cm.m__law_same
  simp only [x_var0, x_varS, x_c, x_bin, x_un, x_and, x_or, x_andK, x_orK, x_not, x_if, x_tup, x_lst, x_sl, x_call, x_callU, x_mth, x_isi, x_chain, x_chK, x_k1, x_tupRg, x_lstRg, x_lc, x_addI, x_addS, x_addT, x_subI, x_mulI, x_fdiv, x_mod, x_pow, x_lt, x_le, x_gt, x_ge, x_eqI, x_eqB, x_eqS, x_neI, x_neB, x_isB, x_isnB, x_neg, x_int, x_intB, x_lenT, x_lenS, x_tupT, x_lstT, x_ixT, x_ixR, x_optW, x_nil, x_cons, x_bB, x_boolK, x_bAnd, x_bOr, x_bNot, x_bYes, x_pNo, x_pSo, x_part, x_rng1, x_rng2, x_rng3, x_rk1, x_rk2, x_rk3, x_srcEn, x_srcZp, x_ekT, x_zkT, x_srcV, x_srcT, x_seq, x_seqN, x_seqR, x_seqB, x_seqC, x_sNil, x_set, x_drop, x_ret, x_retN, x_sIf, x_brk, x_ct, x_put, x_for, x_def, x_defR, x_defN, x_ixP, x_ixL, x_lenP, x_lenL, x_tupP, x_tupL, x_tupKK, x_lstP, x_lstL, x_appP, x_appL, x_tyP, x_tyL, x_tyK, x_tyT, x_putP, x_putL, x_putI, x_putKK, x_srcP, x_srcL, List.map_cons, List.map_nil, List.replicate, List.cons_append, List.nil_append, List.set_cons_zero, List.set_cons_succ]
  unfold reprD
  simp only [hx]
  refine ⟨sx, ?_⟩
  simp only [hy]
  refine ⟨sy, ?_⟩
  simp only [x_var0, x_varS, x_c, x_bin, x_un, x_and, x_or, x_andK, x_orK, x_not, x_if, x_tup, x_lst, x_sl, x_call, x_callU, x_mth, x_isi, x_chain, x_chK, x_k1, x_tupRg, x_lstRg, x_lc, x_addI, x_addS, x_addT, x_subI, x_mulI, x_fdiv, x_mod, x_pow, x_lt, x_le, x_gt, x_ge, x_eqI, x_eqB, x_eqS, x_neI, x_neB, x_isB, x_isnB, x_neg, x_int, x_intB, x_lenT, x_lenS, x_tupT, x_lstT, x_ixT, x_ixR, x_optW, x_nil, x_cons, x_bB, x_boolK, x_bAnd, x_bOr, x_bNot, x_bYes, x_pNo, x_pSo, x_part, x_rng1, x_rng2, x_rng3, x_rk1, x_rk2, x_rk3, x_srcEn, x_srcZp, x_ekT, x_zkT, x_srcV, x_srcT, x_seq, x_seqN, x_seqR, x_seqB, x_seqC, x_sNil, x_set, x_drop, x_ret, x_retN, x_sIf, x_brk, x_ct, x_put, x_for, x_def, x_defR, x_defN, x_ixP, x_ixL, x_lenP, x_lenL, x_tupP, x_tupL, x_tupKK, x_lstP, x_lstL, x_appP, x_appL, x_tyP, x_tyL, x_tyK, x_tyT, x_putP, x_putL, x_putI, x_putKK, x_srcP, x_srcL, List.map_cons, List.map_nil, List.replicate, List.cons_append, List.nil_append, List.set_cons_zero, List.set_cons_succ]
  exact end_same hQ
/-! what is small is shown -/
def Small (l : List Nat) : Prop := ∀ m, m ∈ l → m < 1000
theorem nat_log {m : Nat} (h : m < 1000) : ((m : Int).natAbs.log2 < 1920) := by
  have e : (m : Int).natAbs = m := by omega
  rw [e]
  have := Nat.log2_le_self m
  omega
theorem ints_ok : ∀ (l : List Nat), Small l → PyData.showableAll (l.map fun m : Nat => .int (m : Int)) = true ∧ PyData.hasDictAll (l.map fun m : Nat => .int (m : Int)) = false ∧ PyData.depthAll (l.map fun m : Nat => .int (m : Int)) = 0 ∧
    PyData.leavesShortAll 13 (l.map fun m : Nat => .int (m : Int)) = true ∧ PyData.weightAll (l.map fun m : Nat => .int (m : Int)) ≤ 12 * l.length
  | [], _ => ⟨by simp [PyData.showableAll], by simp [PyData.hasDictAll], by simp [PyData.depthAll], by simp [PyData.leavesShortAll], by simp [PyData.weightAll]⟩
  | m :: l, h => by
    obtain ⟨h1, h2, h3, h4, h5⟩ := ints_ok l fun x hx => h x (List.mem_cons_of_mem _ hx)
    have hm := h m List.mem_cons_self
    have hs : (PyData.shown (.int (m : Int))).length ≤ 13 := PyData.shown_int_le (by omega)
    rw [List.map_cons]
    refine ⟨?_, ?_, ?_, ?_, ?_⟩
    · simp only [PyData.showableAll, PyData.showable, h1, Bool.and_true]
      exact decide_eq_true (nat_log hm)
    · simp only [PyData.hasDictAll, PyData.hasDict, h2, Bool.or_false]
    · simp only [PyData.depthAll, PyData.depth, h3]
      rfl
    · simp only [PyData.leavesShortAll, PyData.leavesShort, h4, Bool.and_true]
      exact decide_eq_true hs
    · have hw : PyData.weight (.int (m : Int)) ≤ 11 := by
        show (if ((m : Int) == 0) = true then 0 else (m : Int).natAbs.log2 + 1) ≤ 11
        split
        · omega
        · rename_i hz
          have e : (m : Int).natAbs = m := by omega
          rw [e]
          have h0 : m ≠ 0 := fun z => hz (by rw [z]; rfl)
          have := (Nat.log2_lt h0 (k := 10)).mpr (by omega)
          omega
      simp only [PyData.weightAll, List.length_cons]
      omega
theorem shows_nd {l : List Nat} (h : Small l) (hl : l.length ≤ 1000) : shows (pyN l) := by
  obtain ⟨h1, h2, h3, h4, h5⟩ := ints_ok l h
  unfold pyN
  refine ⟨by simpa only [PyData.showable] using h1, by simpa only [PyData.hasDict] using h2, by simp only [PyData.depth, h3]; omega, PyData.shown_fits (B := 13) (by decide) (by decide) (by simpa only [PyData.leavesShort] using h4) ?_⟩
  simp only [PyData.weight]
  omega
theorem rows_ok {b : Nat} : ∀ (ps : List (List Nat)), (∀ p, p ∈ ps → Small p ∧ p.length ≤ b) → PyData.showableAll (ps.map pyN) = true ∧ PyData.hasDictAll (ps.map pyN) = false ∧ PyData.depthAll (ps.map pyN) ≤ 1 ∧
    PyData.leavesShortAll 13 (ps.map pyN) = true ∧ PyData.weightAll (ps.map pyN) ≤ (12 * b + 1) * ps.length
  | [], _ => ⟨by simp [PyData.showableAll], by simp [PyData.hasDictAll], by simp [PyData.depthAll], by simp [PyData.leavesShortAll], by simp [PyData.weightAll]⟩
  | p :: ps, h => by
    obtain ⟨h1, h2, h3, h4, h5⟩ := rows_ok ps fun x hx => h x (List.mem_cons_of_mem _ hx)
    obtain ⟨hm, hb⟩ := h p List.mem_cons_self
    obtain ⟨k1, k2, k3, k4, k5⟩ := ints_ok p hm
    rw [List.map_cons]
    have e : pyN p = .tuple (p.map fun m : Nat => .int (m : Int)) := rfl
    refine ⟨?_, ?_, ?_, ?_, ?_⟩
    · simp only [PyData.showableAll, e, PyData.showable, h1, k1, Bool.and_true]
    · simp only [PyData.hasDictAll, e, PyData.hasDict, h2, k2, Bool.or_false]
    · simp only [PyData.depthAll, e, PyData.depth, k3]
      omega
    · simp only [PyData.leavesShortAll, e, PyData.leavesShort, h4, k4, Bool.and_true]
    · simp only [PyData.weightAll, e, PyData.weight, List.length_cons]
      rw [Nat.mul_add]
      omega
theorem shows_rows {ps : List (List Nat)} (h : ∀ p, p ∈ ps → Small p ∧ p.length ≤ 100) (hl : ps.length ≤ 100) : shows (pyR ps) := by
  obtain ⟨h1, h2, h3, h4, h5⟩ := rows_ok ps h
  unfold pyR
  refine ⟨by simpa only [PyData.showable] using h1, by simpa only [PyData.hasDict] using h2, by simp only [PyData.depth]; omega, PyData.shown_fits (B := 13) (by decide) (by decide) (by simpa only [PyData.leavesShort] using h4) ?_⟩
  simp only [PyData.weight]
  have : (12 * 100 + 1) * ps.length ≤ 1201 * 100 := Nat.mul_le_mul_left _ hl
  omega
/-- equal rows are the same -/
theorem same_rows {ps : List (List Nat)} (h : ∀ p, p ∈ ps → Small p ∧ p.length ≤ 100) (hl : ps.length ≤ 100) (hQ : Q (.bl true) θ) : Cm.c__law_same [rows ps, rows ps] E θ Q :=
  s_same (toPy_rows ps) (toPy_rows ps) (shows_rows h hl) (shows_rows h hl) (by rw [decide_eq_true rfl]; exact hQ)
theorem same_nd {l : List Nat} (h : Small l) (hl : l.length ≤ 1000) (hQ : Q (.bl true) θ) : Cm.c__law_same [.tup (nd l), .tup (nd l)] E θ Q :=
  s_same (toPy_nd l) (toPy_nd l) (shows_nd h hl) (shows_nd h hl) (by rw [decide_eq_true rfl]; exact hQ)
end Sp

/-! Sp9: equal lists; the law's classes. -/
namespace Sp
open PySem PySem.Spec PyProof.Rows L2 Mn
variable {E : Exn → Th → Prop} {θ : Th} {ρ : DEnv} {Q : Dv → Th → Prop}
theorem canLay_bools : ∀ bs : List Bool, PyData.canLayAll0 (bs.map PyData.bool) = true
  | [] => by simp [PyData.canLayAll0]
  | b :: bs => by
    rw [List.map_cons]
    simp [PyData.canLayAll0, PyData.canLay0, canLay_bools bs]
theorem depth_bools : ∀ bs : List Bool, PyData.depthAll (bs.map PyData.bool) = 0
  | [] => by simp [PyData.depthAll]
  | b :: bs => by
    rw [List.map_cons]
    simp [PyData.depthAll, PyData.depth, depth_bools bs]
theorem eqv_bools : ∀ bs cs : List Bool, PyData.eqvAll (bs.map PyData.bool) (cs.map PyData.bool) = decide (bs = cs)
  | [], [] => by simp [PyData.eqvAll]
  | [], _ :: _ => by simp [PyData.eqvAll]
  | _ :: _, [] => by simp [PyData.eqvAll]
  | b :: bs, c :: cs => by
    rw [List.map_cons, List.map_cons]
    simp only [PyData.eqvAll, PyData.eqv, eqv_bools bs cs, List.cons.injEq]
    cases b <;> cases c <;> simp
theorem toPy_bools {n k : Nat} {bs : List Bool} (h : θ[k]? = some (.lst (bs.map Dv.bl))) : toPy θ (n + 1) (.obj k) = some (.list (bs.map PyData.bool)) := by
  unfold toPy
  simp only [h]
  rw [allSome_map (k := PyData.bool) (fun x => by cases n <;> rfl)]
  rfl
theorem shaped_bools (bs : List Bool) : SeqAt.shaped (.list (bs.map PyData.bool)) = true := by
  unfold SeqAt.shaped
  rw [Bool.and_eq_true]
  refine ⟨by simpa [PyData.canLay0] using canLay_bools bs, decide_eq_true ?_⟩
  simp only [PyData.depth, depth_bools]
  omega
theorem eq_bools {j k : Nat} {bs cs : List Bool} (h1 : θ[j]? = some (.lst (bs.map Dv.bl))) (h2 : θ[k]? = some (.lst (cs.map Dv.bl))) (hQ : Q (.bl (decide (bs = cs))) θ) : oEq (.obj j) (.obj k) E θ Q := by
  show eqPy (.obj j) (.obj k) id E θ Q
  unfold eqPy
  simp only [toPy_bools h1, toPy_bools h2]
  refine ⟨shaped_bools bs, shaped_bools cs, ?_⟩
  simp only [PyData.eqv, eqv_bools]
  exact hQ
end Sp

/-! Sp10: the law's classes. -/
namespace Sp
open PySem PySem.Spec PyProof.Rows L2 Mn
variable {E : Exn → Th → Prop} {θ : Th} {ρ : DEnv} {Q : Dv → Th → Prop}
/-- the makes that can be tested -/
def Ts (n : Nat) (sk : List Nat) : List Nat := (List.range n).filter fun m => !decide (m ∈ sk)
theorem tell_eq (h : Hist) (sk : List Nat) (c : Nat) : tell h sk c = (Ts h.length sk).filter fun t => anc h t c := by
  unfold tell offs Ts
  rw [List.filter_filter, List.filter_filter]
  apply List.filter_congr
  intro x _
  exact Bool.and_comm _ _
theorem map_filter {β : Type} (f g : β → Bool) : ∀ {l : List β}, l.Nodup → (l.map f = l.map g ↔ l.filter f = l.filter g)
  | [], _ => by simp
  | x :: l, n => by
    rw [List.nodup_cons] at n
    have ih := map_filter f g n.2
    rw [List.map_cons, List.map_cons, List.filter_cons, List.filter_cons, List.cons.injEq, ih]
    have nf : ∀ p : β → Bool, x ∉ l.filter p := fun p z => n.1 (List.mem_filter.mp z).1
    cases hf : f x <;> cases hg : g x
    · simp
    · simp
      intro e
      exact nf f (by rw [e]; exact List.mem_cons_self)
    · simp
      intro e
      exact nf g (by rw [← e]; exact List.mem_cons_self)
    · simp
theorem key_tell (h : Hist) (sk : List Nat) (a b : Nat) : ((Ts h.length sk).map (fun t => anc h t a) = (Ts h.length sk).map fun t => anc h t b) ↔ tell h sk a = tell h sk b := by
  rw [tell_eq, tell_eq]
  exact map_filter _ _ (List.nodup_range.filter _)
/-- rows: a make and the place of its list -/
abbrev RQ := Nat × Nat
def ro (L : Nat) (qs : List RQ) : List Dv := qs.map fun q => .obj (L + 1 + q.2)
def RI (n : Nat) (h : Hist) (qs : List RQ) (R : Th) : Prop := ∀ q, q ∈ qs → R[q.2]? = some (.lst (bl n (anc h q.1)))
theorem RI.more {n : Nat} {h : Hist} {qs : List RQ} {R g : Th} (r : RI n h qs R) : RI n h qs (R ++ g) := fun q hq => th_left (r q hq)
/-- the first half: the rows -/
theorem s_rows {h : Hist} {sk : List Nat} {ρ : DEnv} {T : Th → Prop} (a : Ahead h) (hl : h.length ≤ 1000) (h0 : ρ.length = 9) (e0 : ρ[0]? = some (some (hD h))) (e1 : ρ[1]? = some (some (.tup (nd sk))))
    (hT : ∀ qs g, qs.map (·.1) = Ts h.length sk → RI h.length h qs g → T (θ ++ .lst (ro θ.length qs) :: g)) :
    ∃ m, lcGo (.rng 0 1 h.length) (.nm 3) (bB (mBin oNotIn (mVar 3) (mVar 1))) (mCallU 2 Cm.c__law_above (msCons (mVar 0) (msCons (mVar 3) msNil))) θ.length ρ m 0 (θ ++ [.lst []]) T := by
  obtain ⟨x0, x1, x2, x3, x4, x5, x6, x7, x8, rfl⟩ : ∃ x0 x1 x2 x3 x4 x5 x6 x7 x8, ρ = [x0, x1, x2, x3, x4, x5, x6, x7, x8] := by
    match ρ, h0 with
    | [x0, x1, x2, x3, x4, x5, x6, x7, x8], _ => exact ⟨_, _, _, _, _, _, _, _, _, rfl⟩
  cases e0
  cases e1
  refine lc_rule h.length (fun i θ' => ∃ qs g, θ' = θ ++ .lst (ro θ.length qs) :: g ∧ qs.map (·.1) = Ts i sk ∧ RI h.length h qs g) ⟨[], [], rfl, rfl, fun q hq => by simp at hq⟩ ?_ ?_
  · rintro i θ' hi ⟨qs, g, rfl, hq, ri⟩
    have e : (0 : Int) + (i : Nat) * 1 = ((i : Nat) : Int) := by omega
    refine ⟨.int (i : Nat), _, by rw [rng_at hi, e], rfl, fun K k0 k1 => ?_⟩
    simp only [x_var0, x_varS, x_c, x_bin, x_un, x_and, x_or, x_andK, x_orK, x_not, x_if, x_tup, x_lst, x_sl, x_call, x_callU, x_mth, x_isi, x_chain, x_chK, x_k1, x_tupRg, x_lstRg, x_lc, x_addI, x_addS, x_addT, x_subI, x_mulI, x_fdiv, x_mod, x_pow, x_lt, x_le, x_gt, x_ge, x_eqI, x_eqB, x_eqS, x_neI, x_neB, x_isB, x_isnB, x_neg, x_int, x_intB, x_lenT, x_lenS, x_tupT, x_lstT, x_ixT, x_ixR, x_optW, x_nil, x_cons, x_bB, x_boolK, x_bAnd, x_bOr, x_bNot, x_bYes, x_pNo, x_pSo, x_part, x_rng1, x_rng2, x_rng3, x_rk1, x_rk2, x_rk3, x_srcEn, x_srcZp, x_ekT, x_zkT, x_srcV, x_srcT, x_seq, x_seqN, x_seqR, x_seqB, x_seqC, x_sNil, x_set, x_drop, x_ret, x_retN, x_sIf, x_brk, x_ct, x_put, x_for, x_def, x_defR, x_defN, x_ixP, x_ixL, x_lenP, x_lenL, x_tupP, x_tupL, x_tupKK, x_lstP, x_lstL, x_appP, x_appL, x_tyP, x_tyL, x_tyK, x_tyT, x_putP, x_putL, x_putI, x_putKK, x_srcP, x_srcL, List.map_cons, List.map_nil, List.replicate, List.cons_append, List.nil_append, List.set_cons_zero, List.set_cons_succ]
    refine notin_intsT ?_
    rw [x_boolK]
    have es : Ts (i + 1) sk = Ts i sk ++ (if i ∈ sk then [] else [i]) := by
      unfold Ts
      rw [List.range_succ, List.filter_append]
      congr 1
      by_cases z : i ∈ sk <;> simp [z]
    have ql : qs.length ≤ i := by
      have := congrArg List.length hq
      rw [List.length_map] at this
      rw [this]
      unfold Ts
      have := List.length_filter_le (fun m => !decide (m ∈ sk)) (List.range i)
      rw [List.length_range] at this
      exact this
    by_cases z : i ∈ sk
    · rw [decide_eq_true z]
      refine k0 _ ⟨qs, g, rfl, ?_, ri⟩
      rw [es, if_pos z, List.append_nil, hq]
    · rw [decide_eq_false z]
      refine k1 _ fun K2 h2 => ?_
      simp only [x_var0, x_varS, x_c, x_bin, x_un, x_and, x_or, x_andK, x_orK, x_not, x_if, x_tup, x_lst, x_sl, x_call, x_callU, x_mth, x_isi, x_chain, x_chK, x_k1, x_tupRg, x_lstRg, x_lc, x_addI, x_addS, x_addT, x_subI, x_mulI, x_fdiv, x_mod, x_pow, x_lt, x_le, x_gt, x_ge, x_eqI, x_eqB, x_eqS, x_neI, x_neB, x_isB, x_isnB, x_neg, x_int, x_intB, x_lenT, x_lenS, x_tupT, x_lstT, x_ixT, x_ixR, x_optW, x_nil, x_cons, x_bB, x_boolK, x_bAnd, x_bOr, x_bNot, x_bYes, x_pNo, x_pSo, x_part, x_rng1, x_rng2, x_rng3, x_rk1, x_rk2, x_rk3, x_srcEn, x_srcZp, x_ekT, x_zkT, x_srcV, x_srcT, x_seq, x_seqN, x_seqR, x_seqB, x_seqC, x_sNil, x_set, x_drop, x_ret, x_retN, x_sIf, x_brk, x_ct, x_put, x_for, x_def, x_defR, x_defN, x_ixP, x_ixL, x_lenP, x_lenL, x_tupP, x_tupL, x_tupKK, x_lstP, x_lstL, x_appP, x_appL, x_tyP, x_tyL, x_tyK, x_tyT, x_putP, x_putL, x_putI, x_putKK, x_srcP, x_srcL, List.map_cons, List.map_nil, List.replicate, List.cons_append, List.nil_append, List.set_cons_zero, List.set_cons_succ]
      refine ⟨rfl, s_above a hi hl ?_⟩
      have eN : (θ ++ .lst (ro θ.length qs) :: g).length = θ.length + 1 + g.length := by
        rw [List.length_append, List.length_cons]
        omega
      rw [eN, List.append_assoc, List.cons_append]
      refine h2 _ _ (ro θ.length qs) th_mid ?_ ?_
      · unfold ro
        rw [List.length_map, sizeLine_eq]
        omega
      · rw [th_set_mid]
        refine ⟨qs ++ [(i, g.length)], g ++ [.lst (bl h.length (anc h i))], ?_, ?_, fun q hq' => ?_⟩
        · unfold ro
          rw [List.map_append]
          rfl
        · rw [List.map_append, es, if_neg z, hq]
          rfl
        · rcases List.mem_append.mp hq' with hq' | hq'
          · exact th_left (ri q hq')
          · obtain rfl := List.mem_singleton.mp hq'
            exact th_last
  · rintro θ' ⟨qs, g, rfl, hq, ri⟩
    exact ⟨rng_end, hT qs g hq ri⟩
theorem sdL_at {k i : Nat} {ds : List Dv} {d : Dv} (h : θ[k]? = some (.lst ds)) (e : ds[i]? = some d) : (Src.sd (.L k)).at θ i = some (some d) := by
  show ((Sd.L k).items θ).map (·[i]?) = _
  show (lstAt θ k).map (·[i]?) = _
  unfold lstAt
  simp only [h, Option.map_some, e]
theorem sdL_end {k n : Nat} {ds : List Dv} (h : θ[k]? = some (.lst ds)) (e : n = ds.length) : (Src.sd (.L k)).at θ n = some none := by
  show (lstAt θ k).map (·[n]?) = _
  unfold lstAt
  simp only [h, Option.map_some, e, List.getElem?_eq_none (Nat.le_refl _)]
/-- [row[x] for row in rows], x known: a new list of bools -/
theorem lc_key {h : Hist} {sk : List Nat} {qs : List RQ} {θ θ1 : Th} {R g : Th} {ρ : DEnv} {j i : Nat} {elt : ME} {T : Th → Prop} (hθ : θ1 = θ ++ .lst (ro θ.length qs) :: R ++ g) (hq : qs.map (·.1) = Ts h.length sk) (ri : RI h.length h qs R) (hn : h.length ≤ 1000) (hj : j < h.length)
    (he : ∀ (r : Nat) (t : Nat) (G : Th) (K : Dv → Th → Prop), (θ1 ++ G)[r]? = some (.lst (bl h.length (anc h t))) → K (.bl (anc h t j)) (θ1 ++ G) → elt (ρ.set i (some (.obj r))) (fun _ _ => False) (θ1 ++ G) K)
    (hT : ∀ G, T (θ1 ++ .lst (((Ts h.length sk).map fun t => anc h t j).map Dv.bl) :: G)) :
    ∃ m, lcGo (.sd (.L θ.length)) (.nm i) bYes elt θ1.length ρ m 0 (θ1 ++ [.lst []]) T := by
  subst hθ
  have ql : qs.length = (Ts h.length sk).length := by rw [← hq, List.length_map]
  have tl : (Ts h.length sk).length ≤ h.length := by
    unfold Ts
    have := List.length_filter_le (fun m => !decide (m ∈ sk)) (List.range h.length)
    rw [List.length_range] at this
    exact this
  refine lc_pure qs.length (fun _ => true) (fun t => .bl (anc h ((qs.getD t (0, 0)).1) j)) (by rw [sizeLine_eq]; omega) ?_ ?_ ?_
  · intro t acc G ht
    have hm : qs[t] ∈ qs := List.getElem_mem ht
    have e1 : (ro θ.length qs)[t]? = some (.obj (θ.length + 1 + qs[t].2)) := by unfold ro; simp [ht]
    refine ⟨_, _, sdL_at (th_left (th_left th_mid)) e1, rfl, fun K hK => ?_⟩
    simp only [x_var0, x_varS, x_c, x_bin, x_un, x_and, x_or, x_andK, x_orK, x_not, x_if, x_tup, x_lst, x_sl, x_call, x_callU, x_mth, x_isi, x_chain, x_chK, x_k1, x_tupRg, x_lstRg, x_lc, x_addI, x_addS, x_addT, x_subI, x_mulI, x_fdiv, x_mod, x_pow, x_lt, x_le, x_gt, x_ge, x_eqI, x_eqB, x_eqS, x_neI, x_neB, x_isB, x_isnB, x_neg, x_int, x_intB, x_lenT, x_lenS, x_tupT, x_lstT, x_ixT, x_ixR, x_optW, x_nil, x_cons, x_bB, x_boolK, x_bAnd, x_bOr, x_bNot, x_bYes, x_pNo, x_pSo, x_part, x_rng1, x_rng2, x_rng3, x_rk1, x_rk2, x_rk3, x_srcEn, x_srcZp, x_ekT, x_zkT, x_srcV, x_srcT, x_seq, x_seqN, x_seqR, x_seqB, x_seqC, x_sNil, x_set, x_drop, x_ret, x_retN, x_sIf, x_brk, x_ct, x_put, x_for, x_def, x_defR, x_defN, x_ixP, x_ixL, x_lenP, x_lenL, x_tupP, x_tupL, x_tupKK, x_lstP, x_lstL, x_appP, x_appL, x_tyP, x_tyL, x_tyK, x_tyT, x_putP, x_putL, x_putI, x_putKK, x_srcP, x_srcL, List.map_cons, List.map_nil, List.replicate, List.cons_append, List.nil_append, List.set_cons_zero, List.set_cons_succ]
    refine hK G fun _ K2 h2 => ?_
    have e2 : qs.getD t (0, 0) = qs[t] := by simp [List.getD, ht]
    rw [e2] at h2
    exact he _ qs[t].1 _ K2 (th_left (th_left (by rw [th_off]; exact ri _ hm))) (h2 G)
  · intro acc G
    exact sdL_end (th_left (th_left th_mid)) (by unfold ro; simp)
  · intro G
    have e3 : ((List.range qs.length).filter fun _ => true).map (fun t => Dv.bl (anc h ((qs.getD t (0, 0)).1) j)) = ((Ts h.length sk).map fun t => anc h t j).map Dv.bl := by
      rw [List.filter_eq_self.mpr fun _ _ => rfl, ← hq, List.map_map, List.map_map]
      apply List.ext_getElem?
      intro u
      by_cases hu : u < qs.length
      · simp [hu, List.getD]
      · rw [List.getElem?_eq_none (by simp; omega), List.getElem?_eq_none (by simp; omega)]
    rw [e3]
    exact hT G
theorem cls_mem (tl : Nat → List Nat) : ∀ n p, p ∈ cls tl n → ∀ x, x ∈ p → x < n
  | 0, p, h, _, _ => by simp [cls] at h
  | n + 1, p, h, x, hx => by
    rw [cls_succ] at h
    unfold addP at h
    split at h
    · obtain ⟨q, hq, rfl⟩ := List.mem_map.mp h
      split at hx
      · rcases List.mem_append.mp hx with hx | hx
        · have := cls_mem tl n q hq x hx; omega
        · have := List.mem_singleton.mp hx; omega
      · have := cls_mem tl n q hq x hx; omega
    · rcases List.mem_append.mp h with h | h
      · have := cls_mem tl n p h x hx; omega
      · obtain rfl := List.mem_singleton.mp h
        have := List.mem_singleton.mp hx; omega
theorem head_mem {p : List Nat} (h : p ≠ []) : p.headD 0 ∈ p := by
  cases p with
  | nil => exact absurd rfl h
  | cons x p => exact List.mem_cons_self
theorem head_at {p : List Nat} (h : p ≠ []) : atI (nd p) 0 = some (.int (p.headD 0 : Nat)) := by
  cases p with
  | nil => exact absurd rfl h
  | cons x p => exact at_0
/-- one alone fits -/
theorem filter_one {β γ : Type} [DecidableEq γ] {f : β → γ} {t : γ} : ∀ {l : List β} {q : β}, (l.map f).Nodup → q ∈ l → f q = t → l.filter (fun x => decide (f x = t)) = [q]
  | [], _, _, h, _ => by simp at h
  | x :: l, q, n, h, e => by
    rw [List.map_cons, List.nodup_cons] at n
    rw [List.filter_cons]
    rcases List.mem_cons.mp h with h | h
    · subst h
      rw [if_pos (decide_eq_true e)]
      congr 1
      rw [List.filter_eq_nil_iff]
      intro y hy z
      exact n.1 (List.mem_map.mpr ⟨y, hy, (of_decide_eq_true z).trans e.symm⟩)
    · rw [if_neg]
      · exact filter_one n.2 h e
      · intro z
        exact n.1 (List.mem_map.mpr ⟨q, h, e.trans (of_decide_eq_true z).symm⟩)
theorem filt_rangeP (l : List Part) (p : Part → Bool) : ((List.range l.length).filter fun t => p (l.getD t ([], 0))).map (fun t => l.getD t ([], 0)) = l.filter p := by
  have e : (List.range l.length).map (fun t => l.getD t ([], 0)) = l := by
    apply List.ext_getElem?
    intro i
    by_cases hi : i < l.length
    · simp [hi, List.getD]
    · rw [List.getElem?_eq_none (by simp; omega), List.getElem?_eq_none (by omega)]
  conv => rhs; rw [← e]
  rw [List.filter_map]
  rfl
theorem eq_nilnil {j k : Nat} (h1 : θ[j]? = some (.lst [])) (h2 : θ[k]? = some (.lst [])) (hQ : Q (.bl true) θ) : oEq (.obj j) (.obj k) E θ Q :=
  eq_bools (bs := []) (cs := []) h1 h2 hQ
theorem canLay_ints : ∀ l : List Nat, PyData.canLayAll0 (l.map fun m : Nat => PyData.int (m : Int)) = true
  | [] => by simp [PyData.canLayAll0]
  | b :: bs => by
    rw [List.map_cons]
    simp [PyData.canLayAll0, PyData.canLay0, canLay_ints bs]
theorem depth_ints : ∀ l : List Nat, PyData.depthAll (l.map fun m : Nat => PyData.int (m : Int)) = 0
  | [] => by simp [PyData.depthAll]
  | b :: bs => by
    rw [List.map_cons]
    simp [PyData.depthAll, PyData.depth, depth_ints bs]
theorem eq_onenil {j k m : Nat} {l : List Nat} (h1 : θ[j]? = some (.lst [.obj m])) (h2 : θ[k]? = some (.lst [])) (h3 : θ[m]? = some (.lst (nd l))) (hQ : Q (.bl false) θ) : oEq (.obj j) (.obj k) E θ Q := by
  show eqPy (.obj j) (.obj k) id E θ Q
  unfold eqPy
  have e3 : toPy θ 65 (.obj m) = some (.list (l.map fun m : Nat => .int (m : Int))) := by
    unfold toPy
    simp only [h3]
    rw [allSome_map (f := toPy θ 64) (g := fun p : Nat => Dv.int (p : Nat)) (k := fun m : Nat => PyData.int (m : Int)) (fun x => rfl)]
    rfl
  have e1 : toPy θ 66 (.obj j) = some (.list [.list (l.map fun m : Nat => .int (m : Int))]) := by
    unfold toPy
    simp only [h1]
    unfold allSome
    rw [e3]
    rfl
  have e2 : toPy θ 66 (.obj k) = some (.list []) := by
    unfold toPy
    simp only [h2]
    rfl
  simp only [e1, e2]
  refine ⟨?_, by decide, ?_⟩
  · unfold SeqAt.shaped
    rw [Bool.and_eq_true]
    refine ⟨by simp [PyData.canLay0, PyData.canLayAll0, canLay_ints], decide_eq_true ?_⟩
    simp only [PyData.depth, PyData.depthAll, depth_ints]
    omega
  · simp only [PyData.eqv, PyData.eqvAll]
    exact hQ
def po (L : Nat) (ps : List Part) : List Dv := ps.map fun q => .obj (L + 1 + q.2)
theorem bl_po {n L : Nat} {f : Nat → Bool} {ps : List Part} (hn : 0 < n) (e : bl n f = po L ps) : False := by
  obtain ⟨m, rfl⟩ : ∃ m, n = m + 1 := ⟨n - 1, by omega⟩
  have h := congrArg (fun l => l[0]?) e
  simp only [bl_get (show 0 < m + 1 by omega)] at h
  unfold po at h
  cases ps with
  | nil => simp at h
  | cons q ps => simp at h
theorem bl_nd {n : Nat} {f : Nat → Bool} {p : List Nat} (hn : 0 < n) (e : bl n f = nd p) : False := by
  obtain ⟨m, rfl⟩ : ∃ m, n = m + 1 := ⟨n - 1, by omega⟩
  have h := congrArg (fun l => l[0]?) e
  simp only [bl_get (show 0 < m + 1 by omega)] at h
  cases p with
  | nil => simp at h
  | cons q ps => simp at h
theorem nd_po {L : Nat} {p : List Nat} {ps : List Part} (hp : p ≠ []) (e : nd p = po L ps) : False := by
  cases p with
  | nil => exact hp rfl
  | cons x p => cases ps with
    | nil => simp [po] at e
    | cons q ps => simp [po] at e
theorem ob_inj {R : Th} {i j : Nat} {ds es : List Dv} (h1 : R[i]? = some (.lst ds)) (h2 : R[j]? = some (.lst es)) (e : i = j) : ds = es := by
  subst e
  rw [h1] at h2
  cases h2
  rfl
theorem RI.setf {n L f : Nat} {h : Hist} {qs : List RQ} {ps : List Part} {R : Th} {o : Ob} (r : RI n h qs R) (hn : 0 < n) (hf : R[f]? = some (.lst (po L ps))) : RI n h qs (R.set f o) := fun q hq => by
  rw [List.getElem?_set_ne fun e => bl_po hn (ob_inj (r q hq) hf e.symm)]
  exact r q hq
theorem RI.setq {n k : Nat} {h : Hist} {qs : List RQ} {p : List Nat} {R : Th} {o : Ob} (r : RI n h qs R) (hn : 0 < n) (hf : R[k]? = some (.lst (nd p))) : RI n h qs (R.set k o) := fun q hq => by
  rw [List.getElem?_set_ne fun e => bl_nd hn (ob_inj (r q hq) hf e.symm)]
  exact r q hq
theorem CI.setf {tl : Nat → List Nat} {L f : Nat} {ps ps' : List Part} {R : Th} {o : Ob} (r : CI tl ps' R) (hf : R[f]? = some (.lst (po L ps))) : CI tl ps' (R.set f o) := ⟨fun q hq => by
  obtain ⟨h1, h2⟩ := r.at' q hq
  rw [List.getElem?_set_ne fun e => nd_po h1 (ob_inj h2 hf e.symm)]
  exact ⟨h1, h2⟩, r.nd, r.kn⟩
theorem s_lclasses {h : Hist} {sk : List Nat} (a : Ahead h) (hl : h.length ≤ 1000) (hQ : Q (rows (cls (tell h sk) h.length)) θ) : Cm.c__law_classes [hD h, .tup (nd sk)] E θ Q := by
  unfold Cm.c__law_classes Cm.m__law_classes
  simp only [x_var0, x_varS, x_c, x_bin, x_un, x_and, x_or, x_andK, x_orK, x_not, x_if, x_tup, x_lst, x_sl, x_call, x_callU, x_mth, x_isi, x_chain, x_chK, x_k1, x_tupRg, x_lstRg, x_lc, x_addI, x_addS, x_addT, x_subI, x_mulI, x_fdiv, x_mod, x_pow, x_lt, x_le, x_gt, x_ge, x_eqI, x_eqB, x_eqS, x_neI, x_neB, x_isB, x_isnB, x_neg, x_int, x_intB, x_lenT, x_lenS, x_tupT, x_lstT, x_ixT, x_ixR, x_optW, x_nil, x_cons, x_bB, x_boolK, x_bAnd, x_bOr, x_bNot, x_bYes, x_pNo, x_pSo, x_part, x_rng1, x_rng2, x_rng3, x_rk1, x_rk2, x_rk3, x_srcEn, x_srcZp, x_ekT, x_zkT, x_srcV, x_srcT, x_seq, x_seqR, x_seqB, x_seqC, x_sNil, x_set, x_drop, x_ret, x_retN, x_sIf, x_brk, x_ct, x_put, x_for, x_def, x_defR, x_defN, x_ixP, x_ixL, x_lenP, x_lenL, x_tupP, x_tupL, x_tupKK, x_lstP, x_lstL, x_appP, x_appL, x_tyP, x_tyL, x_tyK, x_tyT, x_putP, x_putL, x_putI, x_putKK, x_srcP, x_srcL, List.map_cons, List.map_nil, List.replicate, List.cons_append, List.nil_append, List.set_cons_zero, List.set_cons_succ, wipeE, x_h1, List.length_map]
  refine ⟨⟨by omega, by omega⟩, ?_⟩
  rw [show ((h.length : Nat) : Int).toNat = h.length from rfl]
  refine s_rows a hl rfl rfl rfl fun qs g hq ri => ?_
  rw [x_seqN]
  simp only [x_var0, x_varS, x_c, x_bin, x_un, x_and, x_or, x_andK, x_orK, x_not, x_if, x_tup, x_lst, x_sl, x_call, x_callU, x_mth, x_isi, x_chain, x_chK, x_k1, x_tupRg, x_lstRg, x_lc, x_addI, x_addS, x_addT, x_subI, x_mulI, x_fdiv, x_mod, x_pow, x_lt, x_le, x_gt, x_ge, x_eqI, x_eqB, x_eqS, x_neI, x_neB, x_isB, x_isnB, x_neg, x_int, x_intB, x_lenT, x_lenS, x_tupT, x_lstT, x_ixT, x_ixR, x_optW, x_nil, x_cons, x_bB, x_boolK, x_bAnd, x_bOr, x_bNot, x_bYes, x_pNo, x_pSo, x_part, x_rng1, x_rng2, x_rng3, x_rk1, x_rk2, x_rk3, x_srcEn, x_srcZp, x_ekT, x_zkT, x_srcV, x_srcT, x_seq, x_seqR, x_seqB, x_seqC, x_sNil, x_set, x_drop, x_ret, x_retN, x_sIf, x_brk, x_ct, x_put, x_for, x_def, x_defR, x_defN, x_ixP, x_ixL, x_lenP, x_lenL, x_tupP, x_tupL, x_tupKK, x_lstP, x_lstL, x_appP, x_appL, x_tyP, x_tyL, x_tyK, x_tyT, x_putP, x_putL, x_putI, x_putKK, x_srcP, x_srcL, List.map_cons, List.map_nil, List.replicate, List.cons_append, List.nil_append, List.set_cons_zero, List.set_cons_succ]
  refine ⟨by rw [sizeLine_eq]; simp, ?_⟩
  have eN : (θ ++ .lst (ro θ.length qs) :: g).length = θ.length + 1 + g.length := by
    rw [List.length_append, List.length_cons]
    omega
  rw [eN, List.append_assoc, List.cons_append, x_seqN]
  simp only [x_var0, x_varS, x_c, x_bin, x_un, x_and, x_or, x_andK, x_orK, x_not, x_if, x_tup, x_lst, x_sl, x_call, x_callU, x_mth, x_isi, x_chain, x_chK, x_k1, x_tupRg, x_lstRg, x_lc, x_addI, x_addS, x_addT, x_subI, x_mulI, x_fdiv, x_mod, x_pow, x_lt, x_le, x_gt, x_ge, x_eqI, x_eqB, x_eqS, x_neI, x_neB, x_isB, x_isnB, x_neg, x_int, x_intB, x_lenT, x_lenS, x_tupT, x_lstT, x_ixT, x_ixR, x_optW, x_nil, x_cons, x_bB, x_boolK, x_bAnd, x_bOr, x_bNot, x_bYes, x_pNo, x_pSo, x_part, x_rng1, x_rng2, x_rng3, x_rk1, x_rk2, x_rk3, x_srcEn, x_srcZp, x_ekT, x_zkT, x_srcV, x_srcT, x_seq, x_seqR, x_seqB, x_seqC, x_sNil, x_set, x_drop, x_ret, x_retN, x_sIf, x_brk, x_ct, x_put, x_for, x_def, x_defR, x_defN, x_ixP, x_ixL, x_lenP, x_lenL, x_tupP, x_tupL, x_tupKK, x_lstP, x_lstL, x_appP, x_appL, x_tyP, x_tyL, x_tyK, x_tyT, x_putP, x_putL, x_putI, x_putKK, x_srcP, x_srcL, List.map_cons, List.map_nil, List.replicate, List.cons_append, List.nil_append, List.set_cons_zero, List.set_cons_succ, wipeE, x_h1, List.length_map]
  refine ⟨⟨by omega, by omega⟩, ?_⟩
  rw [show ((h.length : Nat) : Int).toNat = h.length from rfl]
  generalize hf : g.length = f
  refine for_rule h.length (fun i ρ θ' => ∃ x3 x5 x6 x7 x8 R ps, ρ = [some (hD h), some (.tup (nd sk)), some (.obj θ.length), x3, some (.obj (θ.length + 1 + f)), x5, x6, x7, x8] ∧ θ' = θ ++ .lst (ro θ.length qs) :: R ∧ RI h.length h qs R ∧ R[f]? = some (.lst (po θ.length ps)) ∧ CI (tell h sk) ps R ∧ ps.map (·.1) = cls (tell h sk) i) ⟨none, none, none, none, none, _, [], rfl, rfl, ri.more, by rw [← hf]; exact th_last, ⟨fun q hq => (by simp at hq), by simp, by simp⟩, rfl⟩ ?_ ?_
  · rintro c ρ θ' hc ⟨x3, x5, x6, x7, x8, R, ps, rfl, rfl, ri2, ef, ci, hps⟩
    have e : (0 : Int) + (c : Nat) * 1 = ((c : Nat) : Int) := by omega
    refine ⟨.int (c : Nat), _, by rw [rng_at hc, e], rfl, fun K LK => ?_⟩
    simp only [x_var0, x_varS, x_c, x_bin, x_un, x_and, x_or, x_andK, x_orK, x_not, x_if, x_tup, x_lst, x_sl, x_call, x_callU, x_mth, x_isi, x_chain, x_chK, x_k1, x_tupRg, x_lstRg, x_lc, x_addI, x_addS, x_addT, x_subI, x_mulI, x_fdiv, x_mod, x_pow, x_lt, x_le, x_gt, x_ge, x_eqI, x_eqB, x_eqS, x_neI, x_neB, x_isB, x_isnB, x_neg, x_int, x_intB, x_lenT, x_lenS, x_tupT, x_lstT, x_ixT, x_ixR, x_optW, x_nil, x_cons, x_bB, x_boolK, x_bAnd, x_bOr, x_bNot, x_bYes, x_pNo, x_pSo, x_part, x_rng1, x_rng2, x_rng3, x_rk1, x_rk2, x_rk3, x_srcEn, x_srcZp, x_ekT, x_zkT, x_srcV, x_srcT, x_seq, x_seqR, x_seqB, x_seqC, x_sNil, x_set, x_drop, x_ret, x_retN, x_sIf, x_brk, x_ct, x_put, x_for, x_def, x_defR, x_defN, x_ixP, x_ixL, x_lenP, x_lenL, x_tupP, x_tupL, x_tupKK, x_lstP, x_lstL, x_appP, x_appL, x_tyP, x_tyL, x_tyK, x_tyT, x_putP, x_putL, x_putI, x_putKK, x_srcP, x_srcL, List.map_cons, List.map_nil, List.replicate, List.cons_append, List.nil_append, List.set_cons_zero, List.set_cons_succ, wipeE, th_off, ef]
    have pm : ∀ q, q ∈ ps → ∀ x, x ∈ q.1 → x < c := fun q hq => cls_mem (tell h sk) c q.1 (by rw [← hps]; exact List.mem_map.mpr ⟨q, hq, rfl⟩)
    have ql : ps.length ≤ 1000 := by
      have e := cls_len (tell h sk) c
      rw [← hps, List.length_map] at e
      omega
    refine lc_pure ps.length (fun t => decide (tell h sk ((ps.getD t ([], 0)).1.headD 0) = tell h sk c)) (fun t => .obj (θ.length + 1 + (ps.getD t ([], 0)).2)) (by rw [sizeLine_eq]; omega) ?_ ?_ ?_
    · intro t acc g2 ht
      have hm : ps[t] ∈ ps := List.getElem_mem ht
      have eg : ps.getD t ([], 0) = ps[t] := by simp [List.getD, ht]
      rw [eg]
      generalize hqt : ps[t] = q at hm
      obtain ⟨hne, hR⟩ := ci.at' q hm
      have hh := pm q hm _ (head_mem hne)
      have e1 : (po θ.length ps)[t]? = some (.obj (θ.length + 1 + q.2)) := by unfold po; simp [ht, hqt]
      refine ⟨_, _, sdL_at (th_left (th_off.trans ef)) e1, rfl, fun K2 hK => ?_⟩
      simp only [x_var0, x_varS, x_c, x_bin, x_un, x_and, x_or, x_andK, x_orK, x_not, x_if, x_tup, x_lst, x_sl, x_call, x_callU, x_mth, x_isi, x_chain, x_chK, x_k1, x_tupRg, x_lstRg, x_lc, x_addI, x_addS, x_addT, x_subI, x_mulI, x_fdiv, x_mod, x_pow, x_lt, x_le, x_gt, x_ge, x_eqI, x_eqB, x_eqS, x_neI, x_neB, x_isB, x_isnB, x_neg, x_int, x_intB, x_lenT, x_lenS, x_tupT, x_lstT, x_ixT, x_ixR, x_optW, x_nil, x_cons, x_bB, x_boolK, x_bAnd, x_bOr, x_bNot, x_bYes, x_pNo, x_pSo, x_part, x_rng1, x_rng2, x_rng3, x_rk1, x_rk2, x_rk3, x_srcEn, x_srcZp, x_ekT, x_zkT, x_srcV, x_srcT, x_seq, x_seqR, x_seqB, x_seqC, x_sNil, x_set, x_drop, x_ret, x_retN, x_sIf, x_brk, x_ct, x_put, x_for, x_def, x_defR, x_defN, x_ixP, x_ixL, x_lenP, x_lenL, x_tupP, x_tupL, x_tupKK, x_lstP, x_lstL, x_appP, x_appL, x_tyP, x_tyL, x_tyK, x_tyT, x_putP, x_putL, x_putI, x_putKK, x_srcP, x_srcL, List.map_cons, List.map_nil, List.replicate, List.cons_append, List.nil_append, List.set_cons_zero, List.set_cons_succ, wipeE, th_left th_mid]
      refine lc_key (j := q.1.headD 0) (g := .lst acc :: g2) rfl hq ri2 hl (by omega) ?_ ?_
      · intro r t2 G K3 hr hk
        have e2 : (θ ++ .lst (ro θ.length qs) :: R ++ .lst acc :: g2 ++ G)[θ.length + 1 + q.2]? = some (.lst (nd q.1)) := th_left (th_left (by rw [th_off]; exact hR))
        simp only [x_var0, x_varS, x_c, x_bin, x_un, x_and, x_or, x_andK, x_orK, x_not, x_if, x_tup, x_lst, x_sl, x_call, x_callU, x_mth, x_isi, x_chain, x_chK, x_k1, x_tupRg, x_lstRg, x_lc, x_addI, x_addS, x_addT, x_subI, x_mulI, x_fdiv, x_mod, x_pow, x_lt, x_le, x_gt, x_ge, x_eqI, x_eqB, x_eqS, x_neI, x_neB, x_isB, x_isnB, x_neg, x_int, x_intB, x_lenT, x_lenS, x_tupT, x_lstT, x_ixT, x_ixR, x_optW, x_nil, x_cons, x_bB, x_boolK, x_bAnd, x_bOr, x_bNot, x_bYes, x_pNo, x_pSo, x_part, x_rng1, x_rng2, x_rng3, x_rk1, x_rk2, x_rk3, x_srcEn, x_srcZp, x_ekT, x_zkT, x_srcV, x_srcT, x_seq, x_seqR, x_seqB, x_seqC, x_sNil, x_set, x_drop, x_ret, x_retN, x_sIf, x_brk, x_ct, x_put, x_for, x_def, x_defR, x_defN, x_ixP, x_ixL, x_lenP, x_lenL, x_tupP, x_tupL, x_tupKK, x_lstP, x_lstL, x_appP, x_appL, x_tyP, x_tyL, x_tyK, x_tyT, x_putP, x_putL, x_putI, x_putKK, x_srcP, x_srcL, List.map_cons, List.map_nil, List.replicate, List.cons_append, List.nil_append, List.set_cons_zero, List.set_cons_succ, e2, head_at hne, hr]
        rw [at_nat (bl_get (by omega))]
        exact hk
      · intro G
        rw [th_left (th_left th_mid), x_srcL]
        refine lc_key (j := c) (R := R) (g := .lst acc :: g2 ++ .lst (((Ts h.length sk).map fun t => anc h t (q.1.headD 0)).map Dv.bl) :: G) (by simp) hq ri2 hl hc ?_ ?_
        · intro r t2 G2 K3 hr hk
          simp only [x_var0, x_varS, x_c, x_bin, x_un, x_and, x_or, x_andK, x_orK, x_not, x_if, x_tup, x_lst, x_sl, x_call, x_callU, x_mth, x_isi, x_chain, x_chK, x_k1, x_tupRg, x_lstRg, x_lc, x_addI, x_addS, x_addT, x_subI, x_mulI, x_fdiv, x_mod, x_pow, x_lt, x_le, x_gt, x_ge, x_eqI, x_eqB, x_eqS, x_neI, x_neB, x_isB, x_isnB, x_neg, x_int, x_intB, x_lenT, x_lenS, x_tupT, x_lstT, x_ixT, x_ixR, x_optW, x_nil, x_cons, x_bB, x_boolK, x_bAnd, x_bOr, x_bNot, x_bYes, x_pNo, x_pSo, x_part, x_rng1, x_rng2, x_rng3, x_rk1, x_rk2, x_rk3, x_srcEn, x_srcZp, x_ekT, x_zkT, x_srcV, x_srcT, x_seq, x_seqR, x_seqB, x_seqC, x_sNil, x_set, x_drop, x_ret, x_retN, x_sIf, x_brk, x_ct, x_put, x_for, x_def, x_defR, x_defN, x_ixP, x_ixL, x_lenP, x_lenL, x_tupP, x_tupL, x_tupKK, x_lstP, x_lstL, x_appP, x_appL, x_tyP, x_tyL, x_tyK, x_tyT, x_putP, x_putL, x_putI, x_putKK, x_srcP, x_srcL, List.map_cons, List.map_nil, List.replicate, List.cons_append, List.nil_append, List.set_cons_zero, List.set_cons_succ, hr]
          rw [at_nat (bl_get (by omega))]
          exact hk
        · intro G2
          refine eq_bools (th_left th_mid) th_mid ?_
          rw [x_boolK, decide_eq_decide.mpr (key_tell h sk (q.1.headD 0) c)]
          rw [List.append_assoc, List.append_assoc, List.cons_append]
          refine hK _ fun _ K3 h3 => ?_
          simp only [x_var0, x_varS, x_c, x_bin, x_un, x_and, x_or, x_andK, x_orK, x_not, x_if, x_tup, x_lst, x_sl, x_call, x_callU, x_mth, x_isi, x_chain, x_chK, x_k1, x_tupRg, x_lstRg, x_lc, x_addI, x_addS, x_addT, x_subI, x_mulI, x_fdiv, x_mod, x_pow, x_lt, x_le, x_gt, x_ge, x_eqI, x_eqB, x_eqS, x_neI, x_neB, x_isB, x_isnB, x_neg, x_int, x_intB, x_lenT, x_lenS, x_tupT, x_lstT, x_ixT, x_ixR, x_optW, x_nil, x_cons, x_bB, x_boolK, x_bAnd, x_bOr, x_bNot, x_bYes, x_pNo, x_pSo, x_part, x_rng1, x_rng2, x_rng3, x_rk1, x_rk2, x_rk3, x_srcEn, x_srcZp, x_ekT, x_zkT, x_srcV, x_srcT, x_seq, x_seqN, x_seqR, x_seqB, x_seqC, x_sNil, x_set, x_drop, x_ret, x_retN, x_sIf, x_brk, x_ct, x_put, x_for, x_def, x_defR, x_defN, x_ixP, x_ixL, x_lenP, x_lenL, x_tupP, x_tupL, x_tupKK, x_lstP, x_lstL, x_appP, x_appL, x_tyP, x_tyL, x_tyK, x_tyT, x_putP, x_putL, x_putI, x_putKK, x_srcP, x_srcL, List.map_cons, List.map_nil, List.replicate, List.cons_append, List.nil_append, List.set_cons_zero, List.set_cons_succ]
          exact h3 _
    · intro acc g2
      exact sdL_end (th_left (th_off.trans ef)) (by unfold po; simp)
    · intro g2
      have e3 : ((List.range ps.length).filter fun t => decide (tell h sk ((ps.getD t ([], 0)).1.headD 0) = tell h sk c)).map (fun t => Dv.obj (θ.length + 1 + (ps.getD t ([], 0)).2)) = po θ.length (ps.filter fun q => decide (tell h sk (q.1.headD 0) = tell h sk c)) := by
        unfold po
        rw [← filt_rangeP ps (fun q => decide (tell h sk (q.1.headD 0) = tell h sk c)), List.map_map]
        rfl
      have eH : (θ ++ .lst (ro θ.length qs) :: R).length = θ.length + 1 + R.length := by
        rw [List.length_append, List.length_cons]
        omega
      rw [e3, eH, List.append_assoc, List.cons_append]
      generalize hh : ps.filter (fun q => decide (tell h sk (q.1.headD 0) = tell h sk c)) = hs
      have ri3 := ri2.more (g := .lst (po θ.length hs) :: g2)
      have ci3 := ci.more (g := .lst (po θ.length hs) :: g2)
      have ef3 : (R ++ .lst (po θ.length hs) :: g2)[f]? = some (.lst (po θ.length ps)) := th_left ef
      have eh3 : (R ++ .lst (po θ.length hs) :: g2)[R.length]? = some (.lst (po θ.length hs)) := th_mid
      generalize (R ++ .lst (po θ.length hs) :: g2) = R3 at ri3 ci3 ef3 eh3
      rw [x_seqN]
      simp only [x_var0, x_varS, x_c, x_bin, x_un, x_and, x_or, x_andK, x_orK, x_not, x_if, x_tup, x_lst, x_sl, x_call, x_callU, x_mth, x_isi, x_chain, x_chK, x_k1, x_tupRg, x_lstRg, x_lc, x_addI, x_addS, x_addT, x_subI, x_mulI, x_fdiv, x_mod, x_pow, x_lt, x_le, x_gt, x_ge, x_eqI, x_eqB, x_eqS, x_neI, x_neB, x_isB, x_isnB, x_neg, x_int, x_intB, x_lenT, x_lenS, x_tupT, x_lstT, x_ixT, x_ixR, x_optW, x_nil, x_cons, x_bB, x_boolK, x_bAnd, x_bOr, x_bNot, x_bYes, x_pNo, x_pSo, x_part, x_rng1, x_rng2, x_rng3, x_rk1, x_rk2, x_rk3, x_srcEn, x_srcZp, x_ekT, x_zkT, x_srcV, x_srcT, x_seq, x_seqR, x_seqB, x_seqC, x_sNil, x_set, x_drop, x_ret, x_retN, x_sIf, x_brk, x_ct, x_put, x_for, x_def, x_defR, x_defN, x_ixP, x_ixL, x_lenP, x_lenL, x_tupP, x_tupL, x_tupKK, x_lstP, x_lstL, x_appP, x_appL, x_tyP, x_tyL, x_tyK, x_tyT, x_putP, x_putL, x_putI, x_putKK, x_srcP, x_srcL, List.map_cons, List.map_nil, List.replicate, List.cons_append, List.nil_append, List.set_cons_zero, List.set_cons_succ]
      refine ⟨by rw [sizeLine_eq]; simp, ?_⟩
      cases hf : ps.find? fun q => decide (tell h sk (q.1.headD 0) = tell h sk c) with
      | none =>
        have : hs = [] := by
          rw [← hh, List.filter_eq_nil_iff]
          exact fun q hq => List.find?_eq_none.mp hf q hq
        subst this
        refine eq_nilnil (th_left (th_off.trans eh3)) th_last ?_
        rw [x_boolK, if_pos rfl]
        rw [List.append_assoc, List.cons_append]
        have ef4 : (R3 ++ [.lst []])[f]? = some (.lst (po θ.length ps)) := th_left ef3
        simp only [x_var0, x_varS, x_c, x_bin, x_un, x_and, x_or, x_andK, x_orK, x_not, x_if, x_tup, x_lst, x_sl, x_call, x_callU, x_mth, x_isi, x_chain, x_chK, x_k1, x_tupRg, x_lstRg, x_lc, x_addI, x_addS, x_addT, x_subI, x_mulI, x_fdiv, x_mod, x_pow, x_lt, x_le, x_gt, x_ge, x_eqI, x_eqB, x_eqS, x_neI, x_neB, x_isB, x_isnB, x_neg, x_int, x_intB, x_lenT, x_lenS, x_tupT, x_lstT, x_ixT, x_ixR, x_optW, x_nil, x_cons, x_bB, x_boolK, x_bAnd, x_bOr, x_bNot, x_bYes, x_pNo, x_pSo, x_part, x_rng1, x_rng2, x_rng3, x_rk1, x_rk2, x_rk3, x_srcEn, x_srcZp, x_ekT, x_zkT, x_srcV, x_srcT, x_seq, x_seqR, x_seqB, x_seqC, x_sNil, x_set, x_drop, x_ret, x_retN, x_sIf, x_brk, x_ct, x_put, x_for, x_def, x_defR, x_defN, x_ixP, x_ixL, x_lenP, x_lenL, x_tupP, x_tupL, x_tupKK, x_lstP, x_lstL, x_appP, x_appL, x_tyP, x_tyL, x_tyK, x_tyT, x_putP, x_putL, x_putI, x_putKK, x_srcP, x_srcL, List.map_cons, List.map_nil, List.replicate, List.cons_append, List.nil_append, List.set_cons_zero, List.set_cons_succ, th_off, ef4]
        refine ⟨trivial, by rw [sizeLine_eq]; simp, ?_⟩
        have eN2 : (θ ++ Ob.lst (ro θ.length qs) :: (R3 ++ [.lst []])).length = θ.length + 1 + (R3 ++ [Ob.lst []]).length := by
          rw [List.length_append, List.length_cons]
          omega
        have ci4 : CI (tell h sk) ps (R3 ++ [.lst []]) := ci3.more
        have ri4 : RI h.length h qs (R3 ++ [.lst []]) := ri3.more
        rw [eN2, List.append_assoc, List.cons_append]
        generalize (R3 ++ [Ob.lst []]) = R4 at ef4 ci4 ri4
        have ef5 : (R4 ++ [.lst (nd [c])])[f]? = some (.lst (po θ.length ps)) := th_left ef4
        have ci5 := ci4.new hf
        have ri5 : RI h.length h qs (R4 ++ [.lst (nd [c])]) := ri4.more
        show appK (θ ++ Ob.lst (ro θ.length qs) :: (R4 ++ [.lst (nd [c])]))[θ.length + 1 + f]? _ _ _ _
        rw [th_off, ef5, x_appL, th_set_off]
        refine ⟨by unfold po; rw [List.length_map, sizeLine_eq]; omega, LK.nx _ _ ⟨_, rfl, _, _, _, _, _, _, ps ++ [([c], R4.length)], rfl, rfl, ri5.setf (by omega) ef5, ?_, ci5.setf ef5, ?_⟩⟩
        · show ((R4 ++ [Ob.lst (nd [c])]).set f _)[f]? = _
          rw [List.getElem?_set_self (List.getElem?_eq_some_iff.mp ef5).1]
          unfold po
          rw [List.map_append]
          rfl
        · rw [cls_succ, ← hps, addP_new hf]
      | some q =>
        have hqm := List.mem_of_find?_eq_some hf
        have hk : tell h sk (q.1.headD 0) = tell h sk c := of_decide_eq_true (List.find?_some (p := fun q : Part => decide (tell h sk (q.1.headD 0) = tell h sk c)) hf)
        have : hs = [q] := by rw [← hh]; exact filter_one ci.kn hqm hk
        subst this
        have eq3 := (ci3.at' q hqm).2
        refine eq_onenil (th_left (th_off.trans eh3)) th_last (th_left (th_off.trans eq3)) ?_
        rw [x_boolK, if_neg Bool.false_ne_true]
        rw [List.append_assoc, List.cons_append]
        have eh4 : (R3 ++ [.lst []])[R.length]? = some (.lst (po θ.length [q])) := th_left eh3
        have eq4 : (R3 ++ [.lst []])[q.2]? = some (.lst (nd q.1)) := th_left eq3
        simp only [x_var0, x_varS, x_c, x_bin, x_un, x_and, x_or, x_andK, x_orK, x_not, x_if, x_tup, x_lst, x_sl, x_call, x_callU, x_mth, x_isi, x_chain, x_chK, x_k1, x_tupRg, x_lstRg, x_lc, x_addI, x_addS, x_addT, x_subI, x_mulI, x_fdiv, x_mod, x_pow, x_lt, x_le, x_gt, x_ge, x_eqI, x_eqB, x_eqS, x_neI, x_neB, x_isB, x_isnB, x_neg, x_int, x_intB, x_lenT, x_lenS, x_tupT, x_lstT, x_ixT, x_ixR, x_optW, x_nil, x_cons, x_bB, x_boolK, x_bAnd, x_bOr, x_bNot, x_bYes, x_pNo, x_pSo, x_part, x_rng1, x_rng2, x_rng3, x_rk1, x_rk2, x_rk3, x_srcEn, x_srcZp, x_ekT, x_zkT, x_srcV, x_srcT, x_seq, x_seqR, x_seqB, x_seqC, x_sNil, x_set, x_drop, x_ret, x_retN, x_sIf, x_brk, x_ct, x_put, x_for, x_def, x_defR, x_defN, x_ixP, x_ixL, x_lenP, x_lenL, x_tupP, x_tupL, x_tupKK, x_lstP, x_lstL, x_appP, x_appL, x_tyP, x_tyL, x_tyK, x_tyT, x_putP, x_putL, x_putI, x_putKK, x_srcP, x_srcL, List.map_cons, List.map_nil, List.replicate, List.cons_append, List.nil_append, List.set_cons_zero, List.set_cons_succ, th_off, eh4]
        have ci4 : CI (tell h sk) ps (R3 ++ [.lst []]) := ci3.more
        have ri4 : RI h.length h qs (R3 ++ [.lst []]) := ri3.more
        have ef4 : (R3 ++ [.lst []])[f]? = some (.lst (po θ.length ps)) := th_left ef3
        show optW (atI [Dv.obj (θ.length + 1 + q.2)] 0) _ _
        rw [at_0, x_optW, x_tyP, th_off, eq4]
        refine ⟨rfl, ?_⟩
        rw [x_appP, th_off, eq4, x_appL, th_set_off]
        have en : nd q.1 ++ [Dv.int (c : Nat)] = nd (q.1 ++ [c]) := by simp
        rw [en]
        refine ⟨?_, LK.nx _ _ ⟨_, rfl, _, _, _, _, _, _, ps.map (upP (tell h sk) c), rfl, rfl, ri4.setq (by omega) eq4, ?_, ci4.found hqm hk, ?_⟩⟩
        · rw [List.length_map, sizeLine_eq]
          have : q.1.length ≤ c := cls_part (tell h sk) c q.1 (by rw [← hps]; exact List.mem_map.mpr ⟨q, hqm, rfl⟩)
          omega
        · rw [List.getElem?_set_ne fun e => nd_po (ci4.at' q hqm).1 (ob_inj eq4 ef4 e), ef4]
          unfold po
          rw [List.map_map]
          congr 2
          apply List.map_congr_left
          intro u _
          show _ = Dv.obj (θ.length + 1 + (upP (tell h sk) c u).2)
          rw [upP_2]
        · rw [cls_succ, ← hps, addP_found hqm hk]
  · rintro ρ θ' ⟨x3, x5, x6, x7, x8, R, ps, rfl, rfl, ri2, ef, ci, hps⟩
    refine ⟨rng_end, ?_⟩
    rw [x_seqN]
    simp only [x_var0, x_varS, x_c, x_bin, x_un, x_and, x_or, x_andK, x_orK, x_not, x_if, x_tup, x_lst, x_sl, x_call, x_callU, x_mth, x_isi, x_chain, x_chK, x_k1, x_tupRg, x_lstRg, x_lc, x_addI, x_addS, x_addT, x_subI, x_mulI, x_fdiv, x_mod, x_pow, x_lt, x_le, x_gt, x_ge, x_eqI, x_eqB, x_eqS, x_neI, x_neB, x_isB, x_isnB, x_neg, x_int, x_intB, x_lenT, x_lenS, x_tupT, x_lstT, x_ixT, x_ixR, x_optW, x_nil, x_cons, x_bB, x_boolK, x_bAnd, x_bOr, x_bNot, x_bYes, x_pNo, x_pSo, x_part, x_rng1, x_rng2, x_rng3, x_rk1, x_rk2, x_rk3, x_srcEn, x_srcZp, x_ekT, x_zkT, x_srcV, x_srcT, x_seq, x_seqR, x_seqB, x_seqC, x_sNil, x_set, x_drop, x_ret, x_retN, x_sIf, x_brk, x_ct, x_put, x_for, x_def, x_defR, x_defN, x_ixP, x_ixL, x_lenP, x_lenL, x_tupP, x_tupL, x_tupKK, x_lstP, x_lstL, x_appP, x_appL, x_tyP, x_tyL, x_tyK, x_tyT, x_putP, x_putL, x_putI, x_putKK, x_srcP, x_srcL, List.map_cons, List.map_nil, List.replicate, List.cons_append, List.nil_append, List.set_cons_zero, List.set_cons_succ, wipeE, th_off, ef]
    have ql : ps.length = (cls (tell h sk) h.length).length := by rw [← hps, List.length_map]
    refine lc_pure ps.length (fun _ => true) (fun t => .tup (nd ((cls (tell h sk) h.length).getD t []))) (by rw [ql, sizeLine_eq]; have := cls_len (tell h sk) h.length; omega) ?_ ?_ ?_
    · intro t acc g2 ht
      have hm : ps[t] ∈ ps := List.getElem_mem ht
      have e1 : (po θ.length ps)[t]? = some (.obj (θ.length + 1 + ps[t].2)) := by unfold po; simp [ht]
      refine ⟨_, _, sdL_at (th_left (th_off.trans ef)) e1, rfl, fun K hK => ?_⟩
      simp only [x_var0, x_varS, x_c, x_bin, x_un, x_and, x_or, x_andK, x_orK, x_not, x_if, x_tup, x_lst, x_sl, x_call, x_callU, x_mth, x_isi, x_chain, x_chK, x_k1, x_tupRg, x_lstRg, x_lc, x_addI, x_addS, x_addT, x_subI, x_mulI, x_fdiv, x_mod, x_pow, x_lt, x_le, x_gt, x_ge, x_eqI, x_eqB, x_eqS, x_neI, x_neB, x_isB, x_isnB, x_neg, x_int, x_intB, x_lenT, x_lenS, x_tupT, x_lstT, x_ixT, x_ixR, x_optW, x_nil, x_cons, x_bB, x_boolK, x_bAnd, x_bOr, x_bNot, x_bYes, x_pNo, x_pSo, x_part, x_rng1, x_rng2, x_rng3, x_rk1, x_rk2, x_rk3, x_srcEn, x_srcZp, x_ekT, x_zkT, x_srcV, x_srcT, x_seq, x_seqN, x_seqR, x_seqB, x_seqC, x_sNil, x_set, x_drop, x_ret, x_retN, x_sIf, x_brk, x_ct, x_put, x_for, x_def, x_defR, x_defN, x_ixP, x_ixL, x_lenP, x_lenL, x_tupP, x_tupL, x_tupKK, x_lstP, x_lstL, x_appP, x_appL, x_tyP, x_tyL, x_tyK, x_tyT, x_putP, x_putL, x_putI, x_putKK, x_srcP, x_srcL, List.map_cons, List.map_nil, List.replicate, List.cons_append, List.nil_append, List.set_cons_zero, List.set_cons_succ]
      refine hK g2 fun _ K2 h2 => ?_
      have e2 : ∀ gg : Th, (θ ++ .lst (ro θ.length qs) :: R ++ gg)[θ.length + 1 + ps[t].2]? = some (.lst (nd ps[t].1)) := fun gg => th_left (by rw [th_off]; exact (ci.at' _ hm).2)
      simp only [x_var0, x_varS, x_c, x_bin, x_un, x_and, x_or, x_andK, x_orK, x_not, x_if, x_tup, x_lst, x_sl, x_call, x_callU, x_mth, x_isi, x_chain, x_chK, x_k1, x_tupRg, x_lstRg, x_lc, x_addI, x_addS, x_addT, x_subI, x_mulI, x_fdiv, x_mod, x_pow, x_lt, x_le, x_gt, x_ge, x_eqI, x_eqB, x_eqS, x_neI, x_neB, x_isB, x_isnB, x_neg, x_int, x_intB, x_lenT, x_lenS, x_tupT, x_lstT, x_ixT, x_ixR, x_optW, x_nil, x_cons, x_bB, x_boolK, x_bAnd, x_bOr, x_bNot, x_bYes, x_pNo, x_pSo, x_part, x_rng1, x_rng2, x_rng3, x_rk1, x_rk2, x_rk3, x_srcEn, x_srcZp, x_ekT, x_zkT, x_srcV, x_srcT, x_seq, x_seqR, x_seqB, x_seqC, x_sNil, x_set, x_drop, x_ret, x_retN, x_sIf, x_brk, x_ct, x_put, x_for, x_def, x_defR, x_defN, x_ixP, x_ixL, x_lenP, x_lenL, x_tupP, x_tupL, x_tupKK, x_lstP, x_lstL, x_appP, x_appL, x_tyP, x_tyL, x_tyK, x_tyT, x_putP, x_putL, x_putI, x_putKK, x_srcP, x_srcL, List.map_cons, List.map_nil, List.replicate, List.cons_append, List.nil_append, List.set_cons_zero, List.set_cons_succ, e2]
      have e3 : (cls (tell h sk) h.length).getD t [] = ps[t].1 := by
        rw [← hps]
        simp [List.getD, ht]
      rw [e3] at h2
      exact h2 g2
    · intro acc g2
      exact sdL_end (th_left (th_off.trans ef)) (by unfold po; simp)
    · intro g2
      have e3 : ((List.range ps.length).filter fun _ => true).map (fun t => Dv.tup (nd ((cls (tell h sk) h.length).getD t []))) = (cls (tell h sk) h.length).map fun p => .tup (nd p) := by
        rw [List.filter_eq_self.mpr fun _ _ => rfl, ql]
        apply List.ext_getElem?
        intro i
        by_cases hi : i < (cls (tell h sk) h.length).length
        · simp [hi, List.getD]
        · rw [List.getElem?_eq_none (by simp; omega), List.getElem?_eq_none (by simp; omega)]
      rw [e3, th_mid, x_tupL, List.append_assoc]
      exact end_drop hQ fun n => rows_low _ n
end Sp

/-! Sp11: what is known of drawn histories, of classes. -/
namespace Sp
open PySem PySem.Spec PyProof.Rows L2 Mn
theorem mem_srt {l : List Nat} {p : Nat} : p ∈ srt l ↔ p ∈ l := by
  have h : (p : Int) ∈ (srt l).map (fun p : Nat => (p : Int)) ↔ p ∈ srt l := by
    rw [List.mem_map]
    constructor
    · rintro ⟨q, hq, e⟩
      have : q = p := by omega
      rw [← this]; exact hq
    · exact fun h => ⟨p, h, rfl⟩
  rw [← h, srt_ints, (PySem.W.sortI_perm _).mem_iff, List.mem_map]
  constructor
  · rintro ⟨q, hq, e⟩
    have : q = p := by omega
    rw [← this]; exact hq
  · exact fun h => ⟨p, h, rfl⟩
theorem srt_len (l : List Nat) : (srt l).length = l.length := by
  have := congrArg List.length (srt_ints l)
  rw [List.length_map, (PySem.W.sortI_perm _).length_eq, List.length_map] at this
  exact this
section
variable {n w : Nat} {P : Nat → List Nat}
theorem hist_len : (hist n P w).length = n := by unfold hist; simp
theorem hist_par {k : Nat} (hk : k < n) : par (hist n P w) k = srt (P k) := by
  unfold par hist
  simp [hk]
theorem hist_par0 {k : Nat} (hk : n ≤ k) : par (hist n P w) k = [] := by
  unfold par hist
  simp [hk]
theorem hist_ahead (g : G2 n P) : Ahead (hist n P w) := fun k p hp => by
  by_cases hk : k < n
  · rw [hist_par hk] at hp
    exact g.lt k p hk (mem_srt.mp hp)
  · rw [hist_par0 (by omega)] at hp
    cases hp
theorem hist_pl (g : G2 n P) (k : Nat) : (par (hist n P w) k).length ≤ 4 := by
  by_cases hk : k < n
  · rw [hist_par hk, srt_len]
    exact g.l4 k hk
  · rw [hist_par0 (by omega)]
    simp
/-- every make comes into the last one -/
theorem hist_last (g : G2 n P) : ∀ d j, j + d + 1 = n → Anc (hist n P w) (n - 1) j := by
  intro d
  induction d using Nat.strongRecOn with
  | _ d ih =>
    intro j hj
    by_cases e : j + 1 < n
    · obtain ⟨k, hk, hm⟩ := g.up j e
      have := g.lt k j hk hm
      have r := ih (n - 1 - k) (by omega) k (by omega)
      exact .step r (Nat.zero_le _) (by rw [hist_par hk]; exact mem_srt.mpr hm)
    · have : j = n - 1 := by omega
      subst this
      exact .self
end
/-- each make has its class -/
theorem cls_has (tl : Nat → List Nat) : ∀ n m, m < n → ∃ p, p ∈ cls tl n ∧ p ≠ [] ∧ tl (p.headD 0) = tl m
  | 0, _, h => absurd h (Nat.not_lt_zero _)
  | n + 1, m, h => by
    rw [cls_succ]
    unfold addP
    by_cases e : m < n
    · obtain ⟨p, hp, hne, ht⟩ := cls_has tl n m e
      split
      · by_cases z : tl (p.headD 0) = tl n
        · exact ⟨p ++ [n], List.mem_map.mpr ⟨p, hp, by rw [if_pos z]⟩, by simp, by rw [headD_snoc hne]; exact ht⟩
        · exact ⟨p, List.mem_map.mpr ⟨p, hp, by rw [if_neg z]⟩, hne, ht⟩
      · exact ⟨p, List.mem_append_left _ hp, hne, ht⟩
    · have e : m = n := by omega
      subst e
      split
      · rename_i ha
        rw [List.any_eq_true] at ha
        obtain ⟨p, hp, hd⟩ := ha
        have hd := of_decide_eq_true hd
        refine ⟨p ++ [m], List.mem_map.mpr ⟨p, hp, by rw [if_pos hd]⟩, by simp, ?_⟩
        cases p with
        | nil =>
          exact rfl
        | cons x p => exact hd
      · exact ⟨[m], List.mem_append_right _ List.mem_cons_self, by simp, rfl⟩
theorem cls_ne (tl : Nat → List Nat) : ∀ n p, p ∈ cls tl n → p ≠ []
  | 0, p, h => by simp [cls] at h
  | n + 1, p, h => by
    rw [cls_succ] at h
    unfold addP at h
    split at h
    · obtain ⟨q, hq, rfl⟩ := List.mem_map.mp h
      split
      · simp
      · exact cls_ne tl n q hq
    · rcases List.mem_append.mp h with h | h
      · exact cls_ne tl n p h
      · obtain rfl := List.mem_singleton.mp h
        simp
end Sp

/-! Sp12: the law's tests. -/
namespace Sp
open PySem PySem.Spec PyProof.Rows L2 Mn
variable {E : Exn → Th → Prop} {θ : Th} {ρ : DEnv} {Q : Dv → Th → Prop}
theorem inF_bools {v : Bool} (l : List Bool) : inF (.bl v) (l.map Dv.bl) = decide (v ∈ l) := by
  unfold inF
  rw [List.any_map, Bool.eq_iff_iff, List.any_eq_true, decide_eq_true_eq]
  constructor
  · rintro ⟨x, hx, e⟩
    have : (x == v) = true := e
    have := eq_of_beq this
    rw [← this]
    exact hx
  · exact fun h => ⟨v, h, by show (v == v) = true; simp⟩
theorem in_bools {v : Bool} {k : Nat} {l : List Bool} (h : θ[k]? = some (.lst (l.map Dv.bl))) (hq : Q (.bl (decide (v ∈ l))) θ) : oIn (.bl v) (.obj k) E θ Q := by
  unfold oIn inO
  simp only [h]
  refine .inl ⟨?_, rfl, by rw [inF_bools]; exact hq⟩
  rw [List.all_map, List.all_eq_true]
  intro x _
  rfl
/-- a list of lists of bools -/
theorem notin_rows {j k : Nat} {b : List Bool} {qs : List RQ} {L : Nat} {f : Nat → List Bool} (h1 : θ[j]? = some (.lst (b.map Dv.bl))) (h2 : θ[k]? = some (.lst (qs.map fun q => Dv.obj (L + q.2)))) (h3 : ∀ q, q ∈ qs → θ[L + q.2]? = some (.lst ((f q.1).map Dv.bl)))
    (hQ : Q (.bl (!(qs.any fun q => decide (f q.1 = b)))) θ) : oNotIn (.obj j) (.obj k) E θ Q := by
  unfold oNotIn inO
  simp only [h2]
  refine .inr ?_
  have e1 : toPy θ 66 (.obj j) = some (.list (b.map PyData.bool)) := toPy_bools h1
  have ea : ∀ ps : List RQ, (∀ q, q ∈ ps → q ∈ qs) → allSome (toPy θ 65) (ps.map fun q => Dv.obj (L + q.2)) = some (ps.map fun q => PyData.list ((f q.1).map PyData.bool)) := by
    intro ps
    induction ps with
    | nil => exact fun _ => rfl
    | cons q ps ih =>
      intro hs
      rw [List.map_cons]
      unfold allSome
      rw [toPy_bools (h3 q (hs q List.mem_cons_self)), ih fun x hx => hs x (List.mem_cons_of_mem _ hx)]
      rfl
  have e2 : toPy θ 66 (.obj k) = some (.list (qs.map fun q => PyData.list ((f q.1).map PyData.bool))) := by
    unfold toPy
    simp only [h2]
    rw [ea qs fun _ h => h]
    rfl
  simp only [e1, e2]
  refine ⟨shaped_bools b, ?_, ?_⟩
  · unfold SeqAt.shaped
    have c1 : ∀ ps : List RQ, PyData.canLayAll0 (ps.map fun q => PyData.list ((f q.1).map PyData.bool)) = true ∧ PyData.depthAll (ps.map fun q => PyData.list ((f q.1).map PyData.bool)) ≤ 1 := by
      intro ps
      induction ps with
      | nil => exact ⟨by simp [PyData.canLayAll0], by simp [PyData.depthAll]⟩
      | cons q ps ih =>
        rw [List.map_cons]
        refine ⟨by simp [PyData.canLayAll0, PyData.canLay0, canLay_bools, ih.1], ?_⟩
        simp only [PyData.depthAll, PyData.depth, depth_bools]
        omega
    rw [Bool.and_eq_true]
    refine ⟨by simpa [PyData.canLay0] using (c1 qs).1, decide_eq_true ?_⟩
    simp only [PyData.depth]
    have := (c1 qs).2
    omega
  · have e3 : (qs.map fun q => PyData.list ((f q.1).map PyData.bool)).any (fun z => PyData.eqv z (.list (b.map PyData.bool))) = qs.any fun q => decide (f q.1 = b) := by
      rw [List.any_map]
      congr 1
      funext q
      show PyData.eqv _ _ = _
      simp only [PyData.eqv, eqv_bools]
    rw [e3]
    exact hQ
/-- a make's answers, class by class -/
noncomputable def keyR (h : Hist) (sk : List Nat) (m : Nat) : List Bool := (cls (tell h sk) h.length).map fun p => anc h m (p.headD 0)
section
variable {h : Hist} {sk : List Nat}
theorem keyR_true {m : Nat} (hm : m < h.length) (hs : m ∉ sk) : true ∈ keyR h sk m := by
  obtain ⟨p, hp, _, ht⟩ := cls_has (tell h sk) h.length m hm
  refine List.mem_map.mpr ⟨p, hp, ?_⟩
  have : m ∈ tell h sk m := by
    rw [tell_eq, List.mem_filter]
    exact ⟨by unfold Ts; rw [List.mem_filter]; exact ⟨List.mem_range.mpr hm, by simp [hs]⟩, anc_iff.mpr .self⟩
  rw [← ht, tell_eq, List.mem_filter] at this
  exact this.2
theorem keyR_at {m c : Nat} (hm : m < h.length) (hs : m ∉ sk) (hc : c < h.length) (b : Bool) (e : anc h m c = b) : ∃ p, p ∈ cls (tell h sk) h.length ∧ tell h sk (p.headD 0) = tell h sk c ∧ anc h m (p.headD 0) = b := by
  obtain ⟨p, hp, _, ht⟩ := cls_has (tell h sk) h.length c hc
  refine ⟨p, hp, ht, ?_⟩
  have hT : m ∈ Ts h.length sk := by unfold Ts; rw [List.mem_filter]; exact ⟨List.mem_range.mpr hm, by simp [hs]⟩
  have i1 : anc h m (p.headD 0) = true ↔ m ∈ tell h sk (p.headD 0) := by rw [tell_eq, List.mem_filter]; exact ⟨fun z => ⟨hT, z⟩, fun z => z.2⟩
  have i2 : anc h m c = true ↔ m ∈ tell h sk c := by rw [tell_eq, List.mem_filter]; exact ⟨fun z => ⟨hT, z⟩, fun z => z.2⟩
  rw [← e, Bool.eq_iff_iff, i1, i2, ht]
theorem keyR_false {m : Nat} (a : Ahead h) (hm : m + 1 < h.length) (hs : m ∉ sk) : false ∈ keyR h sk m := by
  have e : anc h m (h.length - 1) = false := by
    rw [Bool.eq_false_iff]
    intro z
    have := Rc.le a (anc_iff.mp z)
    omega
  obtain ⟨p, hp, _, hb⟩ := keyR_at (by omega) hs (show h.length - 1 < h.length by omega) false e
  exact List.mem_map.mpr ⟨p, hp, hb⟩
theorem keyR_ne {m m' : Nat} (a : Ahead h) (hm : m < h.length) (hs : m ∉ sk) (hs' : m' ∉ sk) (hl : m' < m) : keyR h sk m' ≠ keyR h sk m := by
  intro e
  obtain ⟨p, hp, ht, hb⟩ := keyR_at hm hs hm true (anc_iff.mpr .self)
  have e2 := List.map_inj_left.mp e p hp
  rw [hb] at e2
  have hT : m' ∈ tell h sk (p.headD 0) := by
    rw [tell_eq, List.mem_filter]
    exact ⟨by unfold Ts; rw [List.mem_filter]; exact ⟨List.mem_range.mpr (by omega), by simp [hs']⟩, e2⟩
  rw [ht, tell_eq, List.mem_filter] at hT
  have := Rc.le a (anc_iff.mp hT.2)
  omega
theorem keyR_last (hr : ∀ j, j < h.length → Anc h (h.length - 1) j) : false ∉ keyR h sk (h.length - 1) := by
  intro z
  obtain ⟨p, hp, e⟩ := List.mem_map.mp z
  have hd := cls_mem (tell h sk) h.length p hp _ (head_mem (cls_ne (tell h sk) h.length p hp))
  rw [anc_iff.mpr (hr _ hd)] at e
  cases e
end
end Sp

/-! Sp13: the law's tests, told. -/
namespace Sp
open PySem PySem.Spec PyProof.Rows L2 Mn
variable {E : Exn → Th → Prop} {θ : Th} {ρ : DEnv} {Q : Dv → Th → Prop}
/-- the makes that part the classes -/
def Tp (n i : Nat) (sk : List Nat) : List Nat := (List.range i).filter fun m => !decide (m ∈ sk) && decide (m + 1 < n)
theorem Tp_succ (n i : Nat) (sk : List Nat) : Tp n (i + 1) sk = Tp n i sk ++ (if i ∉ sk ∧ i + 1 < n then [i] else []) := by
  unfold Tp
  rw [List.range_succ, List.filter_append]
  congr 1
  by_cases h1 : i ∈ sk <;> by_cases h2 : i + 1 < n <;> simp [h1, h2]
theorem Tp_end (n : Nat) (sk : List Nat) : Tp n n sk = (List.range (n - 1)).filter fun m => !decide (m ∈ sk) := by
  cases n with
  | zero => rfl
  | succ n =>
    rw [Tp_succ]
    simp only [Nat.lt_irrefl, and_false, if_false, List.append_nil]
    unfold Tp
    rw [Nat.add_sub_cancel]
    apply List.filter_congr
    intro m hm
    rw [List.mem_range] at hm
    simp [hm]
theorem th_1 {o o' : Ob} {R : Th} : (θ ++ o :: o' :: R)[θ.length + 1]? = some o' := th_off (j := 0)
theorem th_1set {o o' x : Ob} {R : Th} : (θ ++ o :: o' :: R).set (θ.length + 1) x = θ ++ o :: x :: R := th_set_off (j := 0)
theorem s_ltests {h : Hist} {sk : List Nat} (a : Ahead h) (hl : h.length ≤ 1000) (hr : ∀ j, j < h.length → Anc h (h.length - 1) j) (hQ : Q (.tup (nd ((List.range (h.length - 1)).filter fun m => !decide (m ∈ sk)))) θ) : Cm.c__law_tests [hD h, .tup (nd sk)] E θ Q := by
  unfold Cm.c__law_tests Cm.m__law_tests
  simp only [x_var0, x_varS, x_c, x_bin, x_un, x_and, x_or, x_andK, x_orK, x_not, x_if, x_tup, x_lst, x_sl, x_call, x_callU, x_mth, x_isi, x_chain, x_chK, x_k1, x_tupRg, x_lstRg, x_lc, x_addI, x_addS, x_addT, x_subI, x_mulI, x_fdiv, x_mod, x_pow, x_lt, x_le, x_gt, x_ge, x_eqI, x_eqB, x_eqS, x_neI, x_neB, x_isB, x_isnB, x_neg, x_int, x_intB, x_lenT, x_lenS, x_tupT, x_lstT, x_ixT, x_ixR, x_optW, x_nil, x_cons, x_bB, x_boolK, x_bAnd, x_bOr, x_bNot, x_bYes, x_pNo, x_pSo, x_part, x_rng1, x_rng2, x_rng3, x_rk1, x_rk2, x_rk3, x_srcEn, x_srcZp, x_ekT, x_zkT, x_srcV, x_srcT, x_seq, x_seqR, x_seqB, x_seqC, x_sNil, x_set, x_drop, x_ret, x_retN, x_sIf, x_brk, x_ct, x_put, x_for, x_def, x_defR, x_defN, x_ixP, x_ixL, x_lenP, x_lenL, x_tupP, x_tupL, x_tupKK, x_lstP, x_lstL, x_appP, x_appL, x_tyP, x_tyL, x_tyK, x_tyT, x_putP, x_putL, x_putI, x_putKK, x_srcP, x_srcL, List.map_cons, List.map_nil, List.replicate, List.cons_append, List.nil_append, List.set_cons_zero, List.set_cons_succ, wipeE]
  refine ⟨rfl, s_lclasses a hl ?_⟩
  rw [x_seqN]
  simp only [x_var0, x_varS, x_c, x_bin, x_un, x_and, x_or, x_andK, x_orK, x_not, x_if, x_tup, x_lst, x_sl, x_call, x_callU, x_mth, x_isi, x_chain, x_chK, x_k1, x_tupRg, x_lstRg, x_lc, x_addI, x_addS, x_addT, x_subI, x_mulI, x_fdiv, x_mod, x_pow, x_lt, x_le, x_gt, x_ge, x_eqI, x_eqB, x_eqS, x_neI, x_neB, x_isB, x_isnB, x_neg, x_int, x_intB, x_lenT, x_lenS, x_tupT, x_lstT, x_ixT, x_ixR, x_optW, x_nil, x_cons, x_bB, x_boolK, x_bAnd, x_bOr, x_bNot, x_bYes, x_pNo, x_pSo, x_part, x_rng1, x_rng2, x_rng3, x_rk1, x_rk2, x_rk3, x_srcEn, x_srcZp, x_ekT, x_zkT, x_srcV, x_srcT, x_seq, x_seqR, x_seqB, x_seqC, x_sNil, x_set, x_drop, x_ret, x_retN, x_sIf, x_brk, x_ct, x_put, x_for, x_def, x_defR, x_defN, x_ixP, x_ixL, x_lenP, x_lenL, x_tupP, x_tupL, x_tupKK, x_lstP, x_lstL, x_appP, x_appL, x_tyP, x_tyL, x_tyK, x_tyT, x_putP, x_putL, x_putI, x_putKK, x_srcP, x_srcL, List.map_cons, List.map_nil, List.replicate, List.cons_append, List.nil_append, List.set_cons_zero, List.set_cons_succ, wipeE]
  refine ⟨by rw [sizeLine_eq]; simp, ?_⟩
  rw [x_seqN]
  simp only [x_var0, x_varS, x_c, x_bin, x_un, x_and, x_or, x_andK, x_orK, x_not, x_if, x_tup, x_lst, x_sl, x_call, x_callU, x_mth, x_isi, x_chain, x_chK, x_k1, x_tupRg, x_lstRg, x_lc, x_addI, x_addS, x_addT, x_subI, x_mulI, x_fdiv, x_mod, x_pow, x_lt, x_le, x_gt, x_ge, x_eqI, x_eqB, x_eqS, x_neI, x_neB, x_isB, x_isnB, x_neg, x_int, x_intB, x_lenT, x_lenS, x_tupT, x_lstT, x_ixT, x_ixR, x_optW, x_nil, x_cons, x_bB, x_boolK, x_bAnd, x_bOr, x_bNot, x_bYes, x_pNo, x_pSo, x_part, x_rng1, x_rng2, x_rng3, x_rk1, x_rk2, x_rk3, x_srcEn, x_srcZp, x_ekT, x_zkT, x_srcV, x_srcT, x_seq, x_seqR, x_seqB, x_seqC, x_sNil, x_set, x_drop, x_ret, x_retN, x_sIf, x_brk, x_ct, x_put, x_for, x_def, x_defR, x_defN, x_ixP, x_ixL, x_lenP, x_lenL, x_tupP, x_tupL, x_tupKK, x_lstP, x_lstL, x_appP, x_appL, x_tyP, x_tyL, x_tyK, x_tyT, x_putP, x_putL, x_putI, x_putKK, x_srcP, x_srcL, List.map_cons, List.map_nil, List.replicate, List.cons_append, List.nil_append, List.set_cons_zero, List.set_cons_succ, wipeE]
  refine ⟨by rw [sizeLine_eq]; simp, ?_⟩
  rw [x_seqN]
  simp only [x_var0, x_varS, x_c, x_bin, x_un, x_and, x_or, x_andK, x_orK, x_not, x_if, x_tup, x_lst, x_sl, x_call, x_callU, x_mth, x_isi, x_chain, x_chK, x_k1, x_tupRg, x_lstRg, x_lc, x_addI, x_addS, x_addT, x_subI, x_mulI, x_fdiv, x_mod, x_pow, x_lt, x_le, x_gt, x_ge, x_eqI, x_eqB, x_eqS, x_neI, x_neB, x_isB, x_isnB, x_neg, x_int, x_intB, x_lenT, x_lenS, x_tupT, x_lstT, x_ixT, x_ixR, x_optW, x_nil, x_cons, x_bB, x_boolK, x_bAnd, x_bOr, x_bNot, x_bYes, x_pNo, x_pSo, x_part, x_rng1, x_rng2, x_rng3, x_rk1, x_rk2, x_rk3, x_srcEn, x_srcZp, x_ekT, x_zkT, x_srcV, x_srcT, x_seq, x_seqR, x_seqB, x_seqC, x_sNil, x_set, x_drop, x_ret, x_retN, x_sIf, x_brk, x_ct, x_put, x_for, x_def, x_defR, x_defN, x_ixP, x_ixL, x_lenP, x_lenL, x_tupP, x_tupL, x_tupKK, x_lstP, x_lstL, x_appP, x_appL, x_tyP, x_tyL, x_tyK, x_tyT, x_putP, x_putL, x_putI, x_putKK, x_srcP, x_srcL, List.map_cons, List.map_nil, List.replicate, List.cons_append, List.nil_append, List.set_cons_zero, List.set_cons_succ, wipeE, x_h1, List.length_map]
  refine ⟨⟨by omega, by omega⟩, ?_⟩
  rw [show ((h.length : Nat) : Int).toNat = h.length from rfl]
  have eN : (θ ++ [Ob.lst []]).length = θ.length + 1 := by rw [List.length_append, List.length_singleton]
  rw [eN]
  refine for_rule h.length (fun i ρ θ' => ∃ x5 x6 x7 R, ∃ qs : List RQ, ρ = [some (hD h), some (.tup (nd sk)), some (rows (cls (tell h sk) h.length)), some (.obj θ.length), some (.obj (θ.length + 1)), x5, x6, x7] ∧ θ' = θ ++ .lst (qs.map fun q => .obj (θ.length + 1 + q.2)) :: .lst (nd (qs.map (·.1))) :: R ∧ (∀ q, q ∈ qs → (Ob.lst (nd (qs.map (·.1))) :: R)[q.2]? = some (.lst ((keyR h sk q.1).map Dv.bl)) ∧ 0 < q.2) ∧ qs.map (·.1) = Tp h.length i sk) ⟨none, none, none, [], [], rfl, by simp [nd], fun q hq => (by simp at hq), rfl⟩ ?_ ?_
  · rintro m ρ θ' hm ⟨x5, x6, x7, R, qs, rfl, rfl, hR, hq⟩
    have e : (0 : Int) + (m : Nat) * 1 = ((m : Nat) : Int) := by omega
    refine ⟨.int (m : Nat), _, by rw [rng_at hm, e], rfl, fun K LK => ?_⟩
    simp only [x_var0, x_varS, x_c, x_bin, x_un, x_and, x_or, x_andK, x_orK, x_not, x_if, x_tup, x_lst, x_sl, x_call, x_callU, x_mth, x_isi, x_chain, x_chK, x_k1, x_tupRg, x_lstRg, x_lc, x_addI, x_addS, x_addT, x_subI, x_mulI, x_fdiv, x_mod, x_pow, x_lt, x_le, x_gt, x_ge, x_eqI, x_eqB, x_eqS, x_neI, x_neB, x_isB, x_isnB, x_neg, x_int, x_intB, x_lenT, x_lenS, x_tupT, x_lstT, x_ixT, x_ixR, x_optW, x_nil, x_cons, x_bB, x_boolK, x_bAnd, x_bOr, x_bNot, x_bYes, x_pNo, x_pSo, x_part, x_rng1, x_rng2, x_rng3, x_rk1, x_rk2, x_rk3, x_srcEn, x_srcZp, x_ekT, x_zkT, x_srcV, x_srcT, x_seq, x_seqR, x_seqB, x_seqC, x_sNil, x_set, x_drop, x_ret, x_retN, x_sIf, x_brk, x_ct, x_put, x_for, x_def, x_defR, x_defN, x_ixP, x_ixL, x_lenP, x_lenL, x_tupP, x_tupL, x_tupKK, x_lstP, x_lstL, x_appP, x_appL, x_tyP, x_tyL, x_tyK, x_tyT, x_putP, x_putL, x_putI, x_putKK, x_srcP, x_srcL, List.map_cons, List.map_nil, List.replicate, List.cons_append, List.nil_append, List.set_cons_zero, List.set_cons_succ, wipeE]
    show srcK E _ (.tup ((cls (tell h sk) h.length).map fun p => .tup (nd p))) _
    rw [x_srcT]
    refine lc_pure (cls (tell h sk) h.length).length (fun _ => true) (fun t => .bl (anc h m (((cls (tell h sk) h.length).getD t []).headD 0))) (by rw [sizeLine_eq]; have := cls_len (tell h sk) h.length; omega) ?_ ?_ ?_
    · intro t acc g ht
      have hp : (cls (tell h sk) h.length)[t] ∈ cls (tell h sk) h.length := List.getElem_mem ht
      have hne := cls_ne (tell h sk) h.length _ hp
      have hh := cls_mem (tell h sk) h.length _ hp _ (head_mem hne)
      have eg : (cls (tell h sk) h.length).getD t [] = (cls (tell h sk) h.length)[t] := by simp [List.getD, ht]
      rw [eg]
      generalize (cls (tell h sk) h.length)[t] = p at hp hne hh eg
      have e1 : ((cls (tell h sk) h.length).map fun p => Dv.tup (nd p))[t]? = some (.tup (nd p)) := by rw [List.getElem?_map, List.getElem?_eq_getElem ht]; rw [← eg]; simp [List.getD, ht]
      refine ⟨_, _, sdT_at e1, rfl, fun K2 hK => ?_⟩
      simp only [x_var0, x_varS, x_c, x_bin, x_un, x_and, x_or, x_andK, x_orK, x_not, x_if, x_tup, x_lst, x_sl, x_call, x_callU, x_mth, x_isi, x_chain, x_chK, x_k1, x_tupRg, x_lstRg, x_lc, x_addI, x_addS, x_addT, x_subI, x_mulI, x_fdiv, x_mod, x_pow, x_lt, x_le, x_gt, x_ge, x_eqI, x_eqB, x_eqS, x_neI, x_neB, x_isB, x_isnB, x_neg, x_int, x_intB, x_lenT, x_lenS, x_tupT, x_lstT, x_ixT, x_ixR, x_optW, x_nil, x_cons, x_bB, x_boolK, x_bAnd, x_bOr, x_bNot, x_bYes, x_pNo, x_pSo, x_part, x_rng1, x_rng2, x_rng3, x_rk1, x_rk2, x_rk3, x_srcEn, x_srcZp, x_ekT, x_zkT, x_srcV, x_srcT, x_seq, x_seqN, x_seqR, x_seqB, x_seqC, x_sNil, x_set, x_drop, x_ret, x_retN, x_sIf, x_brk, x_ct, x_put, x_for, x_def, x_defR, x_defN, x_ixP, x_ixL, x_lenP, x_lenL, x_tupP, x_tupL, x_tupKK, x_lstP, x_lstL, x_appP, x_appL, x_tyP, x_tyL, x_tyK, x_tyT, x_putP, x_putL, x_putI, x_putKK, x_srcP, x_srcL, List.map_cons, List.map_nil, List.replicate, List.cons_append, List.nil_append, List.set_cons_zero, List.set_cons_succ]
      refine hK g fun _ K3 h3 => ?_
      simp only [x_var0, x_varS, x_c, x_bin, x_un, x_and, x_or, x_andK, x_orK, x_not, x_if, x_tup, x_lst, x_sl, x_call, x_callU, x_mth, x_isi, x_chain, x_chK, x_k1, x_tupRg, x_lstRg, x_lc, x_addI, x_addS, x_addT, x_subI, x_mulI, x_fdiv, x_mod, x_pow, x_lt, x_le, x_gt, x_ge, x_eqI, x_eqB, x_eqS, x_neI, x_neB, x_isB, x_isnB, x_neg, x_int, x_intB, x_lenT, x_lenS, x_tupT, x_lstT, x_ixT, x_ixR, x_optW, x_nil, x_cons, x_bB, x_boolK, x_bAnd, x_bOr, x_bNot, x_bYes, x_pNo, x_pSo, x_part, x_rng1, x_rng2, x_rng3, x_rk1, x_rk2, x_rk3, x_srcEn, x_srcZp, x_ekT, x_zkT, x_srcV, x_srcT, x_seq, x_seqR, x_seqB, x_seqC, x_sNil, x_set, x_drop, x_ret, x_retN, x_sIf, x_brk, x_ct, x_put, x_for, x_def, x_defR, x_defN, x_ixP, x_ixL, x_lenP, x_lenL, x_tupP, x_tupL, x_tupKK, x_lstP, x_lstL, x_appP, x_appL, x_tyP, x_tyL, x_tyK, x_tyT, x_putP, x_putL, x_putI, x_putKK, x_srcP, x_srcL, List.map_cons, List.map_nil, List.replicate, List.cons_append, List.nil_append, List.set_cons_zero, List.set_cons_succ]
      refine ⟨rfl, s_above a hm hl ?_⟩
      simp only [x_var0, x_varS, x_c, x_bin, x_un, x_and, x_or, x_andK, x_orK, x_not, x_if, x_tup, x_lst, x_sl, x_call, x_callU, x_mth, x_isi, x_chain, x_chK, x_k1, x_tupRg, x_lstRg, x_lc, x_addI, x_addS, x_addT, x_subI, x_mulI, x_fdiv, x_mod, x_pow, x_lt, x_le, x_gt, x_ge, x_eqI, x_eqB, x_eqS, x_neI, x_neB, x_isB, x_isnB, x_neg, x_int, x_intB, x_lenT, x_lenS, x_tupT, x_lstT, x_ixT, x_ixR, x_optW, x_nil, x_cons, x_bB, x_boolK, x_bAnd, x_bOr, x_bNot, x_bYes, x_pNo, x_pSo, x_part, x_rng1, x_rng2, x_rng3, x_rk1, x_rk2, x_rk3, x_srcEn, x_srcZp, x_ekT, x_zkT, x_srcV, x_srcT, x_seq, x_seqR, x_seqB, x_seqC, x_sNil, x_set, x_drop, x_ret, x_retN, x_sIf, x_brk, x_ct, x_put, x_for, x_def, x_defR, x_defN, x_ixP, x_ixL, x_lenP, x_lenL, x_tupP, x_tupL, x_tupKK, x_lstP, x_lstL, x_appP, x_appL, x_tyP, x_tyL, x_tyK, x_tyT, x_putP, x_putL, x_putI, x_putKK, x_srcP, x_srcL, List.map_cons, List.map_nil, List.replicate, List.cons_append, List.nil_append, List.set_cons_zero, List.set_cons_succ, head_at hne, th_last]
      rw [at_nat (bl_get hh)]
      rw [x_optW, List.append_assoc, List.cons_append]
      exact h3 _
    · intro acc g
      have el : ((cls (tell h sk) h.length).map fun p => Dv.tup (nd p)).length = (cls (tell h sk) h.length).length := by simp
      rw [← el]
      exact sdT_end
    · intro g
      have e3 : ((List.range (cls (tell h sk) h.length).length).filter fun _ => true).map (fun t => Dv.bl (anc h m (((cls (tell h sk) h.length).getD t []).headD 0))) = (keyR h sk m).map Dv.bl := by
        rw [List.filter_eq_self.mpr fun _ _ => rfl]
        unfold keyR
        rw [List.map_map]
        apply List.ext_getElem?
        intro i
        by_cases hi : i < (cls (tell h sk) h.length).length
        · simp [hi, List.getD]
        · rw [List.getElem?_eq_none (by simp; omega), List.getElem?_eq_none (by simp; omega)]
      rw [e3]
      have eH : (θ ++ .lst (qs.map fun q => .obj (θ.length + 1 + q.2)) :: .lst (nd (qs.map (·.1))) :: R).length = θ.length + 1 + (R.length + 1) := by
        rw [List.length_append, List.length_cons, List.length_cons]
        omega
      rw [eH, List.append_assoc, List.cons_append, List.cons_append, x_seqN]
      simp only [x_var0, x_varS, x_c, x_bin, x_un, x_and, x_or, x_andK, x_orK, x_not, x_if, x_tup, x_lst, x_sl, x_call, x_callU, x_mth, x_isi, x_chain, x_chK, x_k1, x_tupRg, x_lstRg, x_lc, x_addI, x_addS, x_addT, x_subI, x_mulI, x_fdiv, x_mod, x_pow, x_lt, x_le, x_gt, x_ge, x_eqI, x_eqB, x_eqS, x_neI, x_neB, x_isB, x_isnB, x_neg, x_int, x_intB, x_lenT, x_lenS, x_tupT, x_lstT, x_ixT, x_ixR, x_optW, x_nil, x_cons, x_bB, x_boolK, x_bAnd, x_bOr, x_bNot, x_bYes, x_pNo, x_pSo, x_part, x_rng1, x_rng2, x_rng3, x_rk1, x_rk2, x_rk3, x_srcEn, x_srcZp, x_ekT, x_zkT, x_srcV, x_srcT, x_seq, x_seqR, x_seqB, x_seqC, x_sNil, x_set, x_drop, x_ret, x_retN, x_sIf, x_brk, x_ct, x_put, x_for, x_def, x_defR, x_defN, x_ixP, x_ixL, x_lenP, x_lenL, x_tupP, x_tupL, x_tupKK, x_lstP, x_lstL, x_appP, x_appL, x_tyP, x_tyL, x_tyK, x_tyT, x_putP, x_putL, x_putI, x_putKK, x_srcP, x_srcL, List.map_cons, List.map_nil, List.replicate, List.cons_append, List.nil_append, List.set_cons_zero, List.set_cons_succ]
      have ek : ∀ o o' : Ob, (θ ++ o :: o' :: (R ++ .lst ((keyR h sk m).map Dv.bl) :: g))[θ.length + 1 + (R.length + 1)]? = some (.lst ((keyR h sk m).map Dv.bl)) := fun o o' => by
        rw [th_off, List.getElem?_cons_succ]
        exact th_mid
      have hR2 : ∀ q, q ∈ qs → (Ob.lst (nd (qs.map (·.1))) :: (R ++ .lst ((keyR h sk m).map Dv.bl) :: g))[q.2]? = some (.lst ((keyR h sk q.1).map Dv.bl)) ∧ 0 < q.2 := fun q hq' => by
        obtain ⟨h1, h2⟩ := hR q hq'
        refine ⟨?_, h2⟩
        have : (Ob.lst (nd (qs.map (·.1))) :: (R ++ .lst ((keyR h sk m).map Dv.bl) :: g)) = (Ob.lst (nd (qs.map (·.1))) :: R) ++ .lst ((keyR h sk m).map Dv.bl) :: g := rfl
        rw [this]
        exact th_left h1
      have ql : qs.length ≤ m := by
        have := congrArg List.length hq
        rw [List.length_map] at this
        rw [this]
        unfold Tp
        have := List.length_filter_le (fun x => !decide (x ∈ sk) && decide (x + 1 < h.length)) (List.range m)
        rw [List.length_range] at this
        exact this
      refine notin_intsT ?_
      rw [x_boolK]
      by_cases hs : m ∈ sk
      · rw [if_neg (by simp [hs]), if_neg Bool.false_ne_true]
        refine LK.nx _ _ ⟨_, rfl, _, _, _, _, qs, rfl, rfl, hR2, ?_⟩
        rw [Tp_succ, if_neg (fun z => z.1 hs), List.append_nil, hq]
      · rw [if_pos (by simp [hs])]
        refine in_bools (ek _ _) ?_
        rw [x_boolK, decide_eq_true (keyR_true hm hs), if_pos rfl]
        refine in_bools (ek _ _) ?_
        rw [x_boolK]
        by_cases hl2 : m + 1 < h.length
        · rw [decide_eq_true (keyR_false a hl2 hs), if_pos rfl]
          refine notin_rows (L := θ.length + 1) (f := keyR h sk) (ek _ _) th_mid (fun q hq' => by rw [th_off]; exact (hR2 q hq').1) ?_
          have hany : (qs.any fun q => decide (keyR h sk q.1 = keyR h sk m)) = false := by
            rw [List.any_eq_false]
            intro q hq' z
            have hm' : q.1 ∈ Tp h.length m sk := by rw [← hq]; exact List.mem_map.mpr ⟨q, hq', rfl⟩
            unfold Tp at hm'
            rw [List.mem_filter, List.mem_range, Bool.and_eq_true] at hm'
            exact keyR_ne a hm hs (by simpa using hm'.2.1) hm'.1 (of_decide_eq_true z)
          rw [x_boolK, hany, Bool.not_false, if_pos rfl, th_mid]
          refine ⟨rfl, ?_⟩
          rw [x_appL, th_set_mid]
          refine ⟨by rw [List.length_map, sizeLine_eq]; omega, ?_⟩
          rw [x_seqN]
          simp only [x_var0, x_varS, x_c, x_bin, x_un, x_and, x_or, x_andK, x_orK, x_not, x_if, x_tup, x_lst, x_sl, x_call, x_callU, x_mth, x_isi, x_chain, x_chK, x_k1, x_tupRg, x_lstRg, x_lc, x_addI, x_addS, x_addT, x_subI, x_mulI, x_fdiv, x_mod, x_pow, x_lt, x_le, x_gt, x_ge, x_eqI, x_eqB, x_eqS, x_neI, x_neB, x_isB, x_isnB, x_neg, x_int, x_intB, x_lenT, x_lenS, x_tupT, x_lstT, x_ixT, x_ixR, x_optW, x_nil, x_cons, x_bB, x_boolK, x_bAnd, x_bOr, x_bNot, x_bYes, x_pNo, x_pSo, x_part, x_rng1, x_rng2, x_rng3, x_rk1, x_rk2, x_rk3, x_srcEn, x_srcZp, x_ekT, x_zkT, x_srcV, x_srcT, x_seq, x_seqR, x_seqB, x_seqC, x_sNil, x_set, x_drop, x_ret, x_retN, x_sIf, x_brk, x_ct, x_put, x_for, x_def, x_defR, x_defN, x_ixP, x_ixL, x_lenP, x_lenL, x_tupP, x_tupL, x_tupKK, x_lstP, x_lstL, x_appP, x_appL, x_tyP, x_tyL, x_tyK, x_tyT, x_putP, x_putL, x_putI, x_putKK, x_srcP, x_srcL, List.map_cons, List.map_nil, List.replicate, List.cons_append, List.nil_append, List.set_cons_zero, List.set_cons_succ, th_1, th_1set]
          refine ⟨trivial, by rw [List.length_map, List.length_map, sizeLine_eq]; omega, ?_⟩
          have e8 : (qs.map fun q => Dv.obj (θ.length + 1 + q.2)) ++ [Dv.obj (θ.length + 1 + (R.length + 1))] = (qs ++ [(m, R.length + 1)]).map fun q => Dv.obj (θ.length + 1 + q.2) := by
            rw [List.map_append]
            rfl
          have e9 : nd (qs.map (·.1)) ++ [Dv.int (m : Nat)] = nd ((qs ++ [(m, R.length + 1)]).map (·.1)) := by simp
          rw [e8, e9]
          refine LK.nx _ _ ⟨_, rfl, _, _, _, _, qs ++ [(m, R.length + 1)], rfl, rfl, fun q hq' => ?_, ?_⟩
          · rcases List.mem_append.mp hq' with hq' | hq'
            · obtain ⟨h1, h2⟩ := hR2 q hq'
              refine ⟨?_, h2⟩
              obtain ⟨k, hk⟩ : ∃ k, q.2 = k + 1 := ⟨q.2 - 1, by omega⟩
              rw [hk, List.getElem?_cons_succ] at h1 ⊢
              exact h1
            · obtain rfl := List.mem_singleton.mp hq'
              refine ⟨?_, Nat.succ_pos _⟩
              show (_ :: _)[R.length + 1]? = _
              rw [List.getElem?_cons_succ]
              exact th_mid
          · rw [List.map_append, Tp_succ, if_pos ⟨hs, hl2⟩, hq]
            rfl
        · have em : m = h.length - 1 := by omega
          have kl : false ∉ keyR h sk m := by rw [em]; exact keyR_last hr
          rw [decide_eq_false kl, if_neg Bool.false_ne_true, if_neg Bool.false_ne_true]
          refine LK.nx _ _ ⟨_, rfl, _, _, _, _, qs, rfl, rfl, hR2, ?_⟩
          rw [Tp_succ, if_neg (fun z => hl2 z.2), List.append_nil, hq]
  · rintro ρ θ' ⟨x5, x6, x7, R, qs, rfl, rfl, hR, hq⟩
    refine ⟨rng_end, ?_⟩
    rw [x_seqN]
    rw [hq, Tp_end]
    simp only [x_var0, x_varS, x_c, x_bin, x_un, x_and, x_or, x_andK, x_orK, x_not, x_if, x_tup, x_lst, x_sl, x_call, x_callU, x_mth, x_isi, x_chain, x_chK, x_k1, x_tupRg, x_lstRg, x_lc, x_addI, x_addS, x_addT, x_subI, x_mulI, x_fdiv, x_mod, x_pow, x_lt, x_le, x_gt, x_ge, x_eqI, x_eqB, x_eqS, x_neI, x_neB, x_isB, x_isnB, x_neg, x_int, x_intB, x_lenT, x_lenS, x_tupT, x_lstT, x_ixT, x_ixR, x_optW, x_nil, x_cons, x_bB, x_boolK, x_bAnd, x_bOr, x_bNot, x_bYes, x_pNo, x_pSo, x_part, x_rng1, x_rng2, x_rng3, x_rk1, x_rk2, x_rk3, x_srcEn, x_srcZp, x_ekT, x_zkT, x_srcV, x_srcT, x_seq, x_seqR, x_seqB, x_seqC, x_sNil, x_set, x_drop, x_ret, x_retN, x_sIf, x_brk, x_ct, x_put, x_for, x_def, x_defR, x_defN, x_ixP, x_ixL, x_lenP, x_lenL, x_tupP, x_tupL, x_tupKK, x_lstP, x_lstL, x_appP, x_appL, x_tyP, x_tyL, x_tyK, x_tyT, x_putP, x_putL, x_putI, x_putKK, x_srcP, x_srcL, List.map_cons, List.map_nil, List.replicate, List.cons_append, List.nil_append, List.set_cons_zero, List.set_cons_succ, th_1]
    exact end_drop hQ fun n => low_nats _ n
end Sp

/-! Sp14: without skipped makes, with all of them; right and wrong rows of skipped makes. -/
namespace Sp
open PySem PySem.Spec PyProof.Rows L2 Mn
theorem tell_nil_inj {h : Hist} (a : Ahead h) {c d : Nat} (hc : c < h.length) (hd : d < h.length) (e : tell h [] c = tell h [] d) : c = d := by
  have key : ∀ x y, x < h.length → tell h [] x = tell h [] y → y ≤ x := fun x y hx e => by
    have : x ∈ tell h [] x := by
      rw [tell_eq, List.mem_filter]
      exact ⟨by unfold Ts; simp [hx], anc_iff.mpr .self⟩
    rw [e, tell_eq, List.mem_filter] at this
    exact Rc.le a (anc_iff.mp this.2)
  have h1 := key c d hc e
  have h2 := key d c hd e.symm
  omega
theorem cls_one {tl : Nat → List Nat} {N : Nat} (inj : ∀ c d, c < N → d < N → tl c = tl d → c = d) : ∀ n, n ≤ N → cls tl n = (List.range n).map fun c => [c]
  | 0, _ => rfl
  | n + 1, h => by
    rw [cls_succ, cls_one inj n (by omega)]
    unfold addP
    rw [if_neg]
    · rw [List.range_succ, List.map_append]
      rfl
    · intro e
      rw [List.any_eq_true] at e
      obtain ⟨p, hp, hd⟩ := e
      obtain ⟨c, hc, rfl⟩ := List.mem_map.mp hp
      rw [List.mem_range] at hc
      have := inj c n (by omega) (by omega) (of_decide_eq_true hd)
      omega
theorem cls_nil {h : Hist} (a : Ahead h) : cls (tell h []) h.length = (List.range h.length).map fun c => [c] := cls_one (fun _ _ => tell_nil_inj a) _ (Nat.le_refl _)
theorem tell_all (h : Hist) (c : Nat) : tell h (List.range h.length) c = [] := by
  rw [tell_eq]
  have : Ts h.length (List.range h.length) = [] := by
    unfold Ts
    rw [List.filter_eq_nil_iff]
    intro x hx
    simp [List.mem_range.mp hx]
  rw [this]
  rfl
theorem cls_const {tl : Nat → List Nat} (hc : ∀ c, tl c = []) : ∀ n, cls tl (n + 1) = [List.range (n + 1)]
  | 0 => rfl
  | n + 1 => by
    rw [cls_succ, cls_const hc n]
    unfold addP
    rw [if_pos (by simp [hc])]
    simp only [List.map_cons, List.map_nil, hc, if_true]
    rw [← List.range_succ]
theorem cls_all {h : Hist} (hn : 0 < h.length) : cls (tell h (List.range h.length)) h.length = [List.range h.length] := by
  obtain ⟨n, e⟩ : ∃ n, h.length = n + 1 := ⟨h.length - 1, by omega⟩
  have := cls_const (tell_all h) n
  rw [e] at this ⊢
  rw [← e] at this ⊢
  exact this
/-! rows of skipped makes -/
theorem asc_of {ns : List Int} (h : ns.Pairwise (· < ·)) : asc ns = true := by
  unfold asc
  rw [List.all_map, List.all_eq_true]
  intro i hi
  rw [List.mem_range] at hi
  have h1 : i < ns.length := by omega
  have h2 : i + 1 < ns.length := by omega
  have := List.pairwise_iff_getElem.mp h i (i + 1) h1 h2 (Nat.lt_succ_self i)
  simp [List.getD, h1, h2, this]
theorem ck_right {n : Nat} {p : Nat → Bool} : ckS n (nd ((List.range n).filter p)) = true := by
  unfold ckS
  rw [ints_nat]
  show (asc _ && inR n _) = true
  rw [Bool.and_eq_true]
  constructor
  · apply asc_of
    rw [List.pairwise_map]
    exact (List.pairwise_lt_range.filter p).imp fun h => by omega
  · unfold inR
    rw [List.all_map, List.all_map, List.all_eq_true]
    intro x hx
    have := List.mem_range.mp (List.mem_filter.mp hx).1
    simp
    omega
theorem ck_nil {n : Nat} : ckS n [] = true := rfl
theorem ck_out {n : Nat} {l : List Int} (h : (n : Int) ∈ l) : ckS n (l.map Dv.int) = false := by
  unfold ckS
  rw [intsD_map]
  show (asc _ && inR n _) = false
  have : inR n l = false := by
    unfold inR
    rw [List.all_map, List.all_eq_false]
    exact ⟨(n : Int), h, by simp⟩
  rw [this, Bool.and_false]
theorem ck_neg {n : Nat} : ckS n [.int (-1)] = false := by
  show (asc [-1] && inR n [-1]) = false
  have : inR n [-1] = false := rfl
  rw [this, Bool.and_false]
theorem ck_two {n : Nat} {i : Int} (h : 0 ≤ i) : ckS n [.int i, .int 0] = false := by
  show (asc [i, 0] && inR n [i, 0]) = false
  have : asc [i, 0] = false := by
    unfold asc
    simp [List.range, List.range.loop]
    omega
  rw [this, Bool.false_and]
end Sp

set_option maxHeartbeats 1000000
namespace K01
open PySem PySem.Spec PyProof.Rows L2 Mn
def topS (i : Nat) : Stmt := PySem.Challenge.pw_firstbreak_k01_classes_and_tests.main.body.getD i (.Pass ⟨0, 0, 0, 0⟩)
abbrev stm_ascends : Stmt := topS 3
abbrev N_ascends : List Str := ["row", "low", "high"]
theorem sc_ascends : FnScope N_ascends ["row"] (defScope stm_ascends) := ⟨rfl, rfl, rfl, by decide +kernel, rfl, by decide +kernel, by decide +kernel⟩
abbrev stm_is_integer : Stmt := topS 1
abbrev N_is_integer : List Str := ["thing"]
theorem sc_is_integer : FnScope N_is_integer ["thing"] (defScope stm_is_integer) := ⟨rfl, rfl, rfl, by decide +kernel, rfl, by decide +kernel, by decide +kernel⟩
abbrev stm_are_integers : Stmt := topS 2
abbrev N_are_integers : List Str := ["thing", "one"]
theorem sc_are_integers : FnScope N_are_integers ["thing"] (defScope stm_are_integers) := ⟨rfl, rfl, rfl, by decide +kernel, rfl, by decide +kernel, by decide +kernel⟩
abbrev stm_check_skipped : Stmt := topS 7
abbrev N_check_skipped : List Str := ["history", "skipped", "m"]
theorem sc_check_skipped : FnScope N_check_skipped ["history", "skipped"] (defScope stm_check_skipped) := ⟨rfl, rfl, rfl, by decide +kernel, rfl, by decide +kernel, by decide +kernel⟩
abbrev stm__law_same : Stmt := topS 15
abbrev N__law_same : List Str := ["actual", "due"]
theorem sc__law_same : FnScope N__law_same ["actual", "due"] (defScope stm__law_same) := ⟨rfl, rfl, rfl, by decide +kernel, rfl, by decide +kernel, by decide +kernel⟩
abbrev stm_tests : Stmt := topS 9
abbrev N_tests : List Str := ["history", "skipped", "m"]
theorem sc_tests : FnScope N_tests ["history", "skipped"] (defScope stm_tests) := ⟨rfl, rfl, rfl, by decide +kernel, rfl, by decide +kernel, by decide +kernel⟩
abbrev stm_offspring : Stmt := topS 5
abbrev N_offspring : List Str := ["history", "m", "found", "at", "_", "parents", "parent"]
theorem sc_offspring : FnScope N_offspring ["history", "m"] (defScope stm_offspring) := ⟨rfl, rfl, rfl, by decide +kernel, rfl, by decide +kernel, by decide +kernel⟩
abbrev stm_classes : Stmt := topS 8
abbrev N_classes : List Str := ["history", "skipped", "rows", "c", "telling", "m", "row"]
theorem sc_classes : FnScope N_classes ["history", "skipped"] (defScope stm_classes) := ⟨rfl, rfl, rfl, by decide +kernel, rfl, by decide +kernel, by decide +kernel⟩
abbrev stm__law_above : Stmt := topS 18
abbrev N__law_above : List Str := ["history", "m", "marks", "k", "parent"]
theorem sc__law_above : FnScope N__law_above ["history", "m"] (defScope stm__law_above) := ⟨rfl, rfl, rfl, by decide +kernel, rfl, by decide +kernel, by decide +kernel⟩
abbrev stm__law_classes : Stmt := topS 22
abbrev N__law_classes : List Str := ["history", "skipped", "rows", "m", "found", "c", "homes", "part", "row"]
theorem sc__law_classes : FnScope N__law_classes ["history", "skipped"] (defScope stm__law_classes) := ⟨rfl, rfl, rfl, by decide +kernel, rfl, by decide +kernel, by decide +kernel⟩
abbrev stm__law_tests : Stmt := topS 23
abbrev N__law_tests : List Str := ["history", "skipped", "found", "rows", "makes", "m", "row", "part"]
theorem sc__law_tests : FnScope N__law_tests ["history", "skipped"] (defScope stm__law_tests) := ⟨rfl, rfl, rfl, by decide +kernel, rfl, by decide +kernel, by decide +kernel⟩
abbrev stm__law_draw : Stmt := topS 13
abbrev N__law_draw : List Str := ["box", "many", "at"]
theorem sc__law_draw : FnScope N__law_draw ["box", "many"] (defScope stm__law_draw) := ⟨rfl, rfl, rfl, by decide +kernel, rfl, by decide +kernel, by decide +kernel⟩
abbrev stm__law_skipped : Stmt := topS 21
abbrev N__law_skipped : List Str := ["box", "history", "m"]
theorem sc__law_skipped : FnScope N__law_skipped ["box", "history"] (defScope stm__law_skipped) := ⟨rfl, rfl, rfl, by decide +kernel, rfl, by decide +kernel, by decide +kernel⟩
abbrev stm__law_word : Stmt := topS 16
abbrev N__law_word : List Str := ["box", "k", "at"]
theorem sc__law_word : FnScope N__law_word ["box", "k", "at"] (defScope stm__law_word) := ⟨rfl, rfl, rfl, by decide +kernel, rfl, by decide +kernel, by decide +kernel⟩
abbrev stm__law_history : Stmt := topS 17
abbrev N__law_history : List Str := ["box", "most", "many", "parents", "k", "child", "turn", "parent", "at"]
theorem sc__law_history : FnScope N__law_history ["box", "most"] (defScope stm__law_history) := ⟨rfl, rfl, rfl, by decide +kernel, rfl, by decide +kernel, by decide +kernel⟩
abbrev stm__law_cell : Stmt := topS 11
abbrev N__law_cell : List Str := ["script", "k"]
theorem sc__law_cell : FnScope N__law_cell ["script", "k"] (defScope stm__law_cell) := ⟨rfl, rfl, rfl, by decide +kernel, rfl, by decide +kernel, by decide +kernel⟩
abbrev stm__law_digits : Stmt := topS 12
abbrev N__law_digits : List Str := ["script", "first", "last", "digits", "k", "cell", "turn", "seed"]
theorem sc__law_digits : FnScope N__law_digits ["script", "first", "last"] (defScope stm__law_digits) := ⟨rfl, rfl, rfl, by decide +kernel, rfl, by decide +kernel, by decide +kernel⟩
abbrev stm_law : Stmt := topS 24
abbrev N_law : List Str := ["script", "box", "turn", "history", "many", "skipped", "c", "whole", "right", "bad", "wrong"]
theorem sc_law : FnScope N_law ["script"] (defScope stm_law) := ⟨rfl, rfl, rfl, by decide +kernel, rfl, by decide +kernel, by decide +kernel⟩
def m_law : MS := (sSeq (sSet 1 (mLst (msCons (mCallU 3 Cm.c__law_digits (msCons (mVar 0) (msCons (mC (.int 0)) (msCons (mC (.int 60)) msNil)))) (msCons (mC (.int 0)) msNil)))) (sSeq (sFor (rng1 (msCons (mC (.int 3)) msNil)) (.nm 2) (sCut (sSeq (sSet 3 (mCallU 2 Cm.c__law_history (msCons (mVar 1) (msCons (mC (.int 12)) msNil)))) (sSeq (sSet 4 (mCall (k1 lenD) (msCons (mBin oIx (mVar 3) (mC (.int 1))) msNil))) (sSeq (sSet 5 (mCallU 2 Cm.c__law_skipped (msCons (mVar 1) (msCons (mVar 3) msNil)))) (sSeq (sIf (bNot (bB (mCallU 2 Cm.c__law_same (msCons (mCallU 2 Cm.c_classes (msCons (mVar 3) (msCons (mVar 5) msNil))) (msCons (mCallU 2 Cm.c__law_classes (msCons (mVar 3) (msCons (mVar 5) msNil))) msNil))))) (sRet (mC (.bl false))) sNil) (sSeq (sIf (bNot (bB (mCallU 2 Cm.c__law_same (msCons (mCallU 2 Cm.c_tests (msCons (mVar 3) (msCons (mVar 5) msNil))) (msCons (mCallU 2 Cm.c__law_tests (msCons (mVar 3) (msCons (mVar 5) msNil))) msNil))))) (sRet (mC (.bl false))) sNil) (sSeq (sIf (bOr (bNot (bB (mCallU 2 Cm.c__law_same (msCons (mCallU 2 Cm.c_classes (msCons (mVar 3) (msCons (mTup msNil) msNil))) (msCons (mCall (k1 tupD) (msCons (mLc (rng1 (msCons (mVar 4) msNil)) (.nm 6) bYes (mTup (msCons (mVar 6) msNil)) [6]) msNil)) msNil))))) (bNot (bB (mCallU 2 Cm.c__law_same (msCons (mCallU 2 Cm.c_tests (msCons (mVar 3) (msCons (mTup msNil) msNil))) (msCons (mTupRg (mRg1 (mBin oSub (mVar 4) (mC (.int 1))))) msNil)))))) (sRet (mC (.bl false))) sNil) (sSeq (sSet 7 (mTupRg (mRg1 (mVar 4)))) (sSeq (sIf (bOr (bNot (bB (mCallU 2 Cm.c__law_same (msCons (mCallU 2 Cm.c_classes (msCons (mVar 3) (msCons (mVar 7) msNil))) (msCons (mTup (msCons (mVar 7) msNil)) msNil))))) (bNot (bB (mCallU 2 Cm.c__law_same (msCons (mCallU 2 Cm.c_tests (msCons (mVar 3) (msCons (mVar 7) msNil))) (msCons (mTup msNil) msNil)))))) (sRet (mC (.bl false))) sNil) (sSeq (sFor (srcV (mLst (msCons (mTup msNil) (msCons (mVar 5) (msCons (mVar 7) msNil))))) (.nm 8) (sCut (sIf (bB (mBin oIsNot (mCallU 2 Cm.c_check_skipped (msCons (mVar 3) (msCons (mVar 8) msNil))) (mC (.bl true)))) (sRet (mC (.bl false))) sNil))) (sSeq (sSet 9 (mLst (msCons (mC .non) (msCons (mC (.int 0)) (msCons (mCall (k1 lstD) (msCons (mVar 5) msNil)) (msCons (mTup (msCons (mVar 4) msNil)) (msCons (mTup (msCons (mUn oNeg (mC (.int 1))) msNil)) (msCons (mTup (msCons (mC (.int 0)) (msCons (mC (.int 0)) msNil))) (msCons (mTup (msCons (mC (.bl true)) msNil)) (msCons (mTup (msCons (mC (.str "a")) msNil)) (msCons (mTup (msCons (mBin oSub (mVar 4) (mC (.int 1))) (msCons (mC (.int 0)) msNil))) (msCons (mBin oAdd (mVar 5) (mTup (msCons (mVar 4) msNil))) (msCons (mTup (msCons (mC (.int 0)) (msCons (mC (.bl true)) msNil))) msNil))))))))))))) (sFor (srcV (mVar 9)) (.nm 10) (sCut (sIf (bB (mBin oIsNot (mCallU 2 Cm.c_check_skipped (msCons (mVar 3) (msCons (mVar 10) msNil))) (mC (.bl false)))) (sRet (mC (.bl false))) sNil))))))))))))))) (sRet (mC (.bl true)))))
def c_law : List Dv → MX Dv := defM 10 m_law
section
variable {P : Program} {w : World} {K : PySem.W.Frag} {mg : Str → Option Value} {base : Heap}
theorem ok_ascends {f : Addr} {fd : FuncData} (F : Fun K "ascends" "ascends" stm_ascends f fd) (z_all : mg "all" = none) (z_zip : mg "zip" = none) : FnG P w K mg base CX0 1 f fd ["row"] (spM K mg 1 Cm.c_ascends) :=
  fnM0 (k := 0) (m := Cm.m_ascends) F sc_ascends rfl rfl fun cdv A outer s H E W hr c => (
    (sm_one (sm_ret (pm_bf (cm_all c) z_all b_all (am_cons (pm_lc1 [("low", 1), ("high", 2)] c (pim_zp (by rfl) z_zip (am_cons (pm_v 0) (am_cons (pm_sl (pm_v 0) (pom_some pm_int) pom_none) am_nil))) (blkOk_by (own := [("low", 1), ("high", 2)]) (N := N_ascends) (sc := (defScope stm_ascends)) (by decide +kernel)) (fun _ _ _ _ _ => (gm_t (Cf.blk c) (gms_cons (gm_v 1 (Cf.blk c)) (gms_cons (gm_v 2 (Cf.blk c)) gms_nil)))) (fun _ _ _ _ _ => btm_nil) (fun _ _ _ _ _ => (pm_cmp om_lt (pm_v 1) (pm_v 2) (nomark _)))) am_nil)))))
theorem ok_is_integer {f : Addr} {fd : FuncData} (F : Fun K "is_integer" "is_integer" stm_is_integer f fd) (z_bool : mg "bool" = none) (z_int : mg "int" = none) (z_isinstance : mg "isinstance" = none) : FnG P w K mg base CX0 1 f fd ["thing"] (spM K mg 1 Cm.c_is_integer) :=
  fnM0 (k := 0) (m := Cm.m_is_integer) F sc_is_integer rfl rfl fun cdv A outer s H E W hr c => (
    (sm_one (sm_ret (pm_and (pm_is z_isinstance z_int b_int (pm_v 0)) (pm_one (pm_not (pm_is z_isinstance z_bool b_bool (pm_v 0))))))))
theorem ok_are_integers {f : Addr} {fd : FuncData} (F : Fun K "are_integers" "are_integers" stm_are_integers f fd) {f_is_integer : Addr} {fd_is_integer : FuncData} (F_is_integer : Fun K "is_integer" "is_integer" stm_is_integer f_is_integer fd_is_integer) (G_is_integer : FnG P w K mg base CX0 1 f_is_integer fd_is_integer ["thing"] (spM K mg 1 Cm.c_is_integer)) (g_is_integer : mg "is_integer" = some (.ref f_is_integer)) (b_is_integer : L2.Binds K fd_is_integer ["thing"] []) (z_all : mg "all" = none) (z_isinstance : mg "isinstance" = none) (z_tuple : mg "tuple" = none) : FnG P w K mg base CX0 2 f fd ["thing"] (spM K mg 1 Cm.c_are_integers) :=
  fnM0 (k := 1) (m := Cm.m_are_integers) F sc_are_integers rfl rfl fun cdv A outer s H E W hr c => (
    (sm_one (sm_ret (pm_and (pm_is z_isinstance z_tuple b_tuple (pm_v 0)) (pm_one (pm_bf (cm_all c) z_all b_all (am_cons (pm_lc1 [("one", 1)] c (pim_seq (pm_v 0)) (blkOk_by (own := [("one", 1)]) (N := N_are_integers) (sc := (defScope stm_are_integers)) (by decide +kernel)) (fun _ _ _ _ _ => (gm_v 1 (Cf.blk c))) (fun _ _ _ _ _ => btm_nil) (fun _ _ _ _ _ => (pm_call G_is_integer (Cf.blk c) (hr.mono (by decide)) (by rfl) g_is_integer F_is_integer.kp b_is_integer pass (am_cons (pm_v 1) am_nil)))) am_nil)))))))
theorem ok_check_skipped {f : Addr} {fd : FuncData} (F : Fun K "check_skipped" "check_skipped" stm_check_skipped f fd) {f_ascends : Addr} {fd_ascends : FuncData} (F_ascends : Fun K "ascends" "ascends" stm_ascends f_ascends fd_ascends) (G_ascends : FnG P w K mg base CX0 1 f_ascends fd_ascends ["row"] (spM K mg 1 Cm.c_ascends)) (g_ascends : mg "ascends" = some (.ref f_ascends)) (b_ascends : L2.Binds K fd_ascends ["row"] []) {f_are_integers : Addr} {fd_are_integers : FuncData} (F_are_integers : Fun K "are_integers" "are_integers" stm_are_integers f_are_integers fd_are_integers) (G_are_integers : FnG P w K mg base CX0 2 f_are_integers fd_are_integers ["thing"] (spM K mg 1 Cm.c_are_integers)) (g_are_integers : mg "are_integers" = some (.ref f_are_integers)) (b_are_integers : L2.Binds K fd_are_integers ["thing"] []) (z_all : mg "all" = none) (z_len : mg "len" = none) : FnG P w K mg base CX0 3 f fd ["history", "skipped"] (spM K mg 2 Cm.c_check_skipped) :=
  fnM0 (k := 2) (m := Cm.m_check_skipped) F sc_check_skipped rfl rfl fun cdv A outer s H E W hr c => (
    (sm_cons (sm_if (PW.pt (bm_or (bm_not (bm_val (pm_call G_are_integers c (hr.mono (by decide)) (by rfl) g_are_integers F_are_integers.kp b_are_integers pass (am_cons (pm_v 1) am_nil)))) (bm_or1 (bm_not (bm_val (pm_call G_ascends c (hr.mono (by decide)) (by rfl) g_ascends F_ascends.kp b_ascends pass (am_cons (pm_v 1) am_nil))))))) (sm_one (sm_ret pm_bl)) sm_nil)
    (sm_one (sm_ret (pm_bf (cm_all c) z_all b_all (am_cons (pm_lc1 [("m", 2)] c (pim_seq (pm_v 1)) (blkOk_by (own := [("m", 2)]) (N := N_check_skipped) (sc := (defScope stm_check_skipped)) (by decide +kernel)) (fun _ _ _ _ _ => (gm_v 2 (Cf.blk c))) (fun _ _ _ _ _ => btm_nil) (fun _ _ _ _ _ => (pm_chain om_le om_lt pm_int (pm_v 2) (pm_bf cm_len z_len b_len (am_cons (pm_ix (Cf.blk c) (pm_v 0) pm_int) am_nil))))) am_nil))))))
theorem ok__law_same {f : Addr} {fd : FuncData} (F : Fun K "_law_same" "_law_same" stm__law_same f fd) (z_repr : mg "repr" = none) : FnG P w K mg base CX0 1 f fd ["actual", "due"] (spM K mg 2 Cm.c__law_same) :=
  fnM0 (k := 0) (m := Cm.m__law_same) F sc__law_same rfl rfl fun cdv A outer s H E W hr c => (
    (sm_one (sm_ret (pm_cmp (om_eq c) (pm_bf (cm_repr c) z_repr b_repr (am_cons (pm_v 0) am_nil)) (pm_bf (cm_repr c) z_repr b_repr (am_cons (pm_v 1) am_nil)) (nomark _)))))
theorem ok_tests {f : Addr} {fd : FuncData} (F : Fun K "tests" "tests" stm_tests f fd) (z_len : mg "len" = none) (z_range : mg "range" = none) (z_tuple : mg "tuple" = none) : FnG P w K mg base CX0 1 f fd ["history", "skipped"] (spM K mg 2 Cm.c_tests) :=
  fnM0 (k := 0) (m := Cm.m_tests) F sc_tests rfl rfl fun cdv A outer s H E W hr c => (
    (sm_one (sm_ret (pm_bt (cm_tup c) z_tuple b_tuple (am_cons (pm_lc1 [("m", 2)] c (pim_rng1 (by rfl) z_range (am_cons (pm_bin om_sub (pm_bf cm_len z_len b_len (am_cons (pm_ix c (pm_v 0) pm_int) am_nil)) pm_int) am_nil)) (blkOk_by (own := [("m", 2)]) (N := N_tests) (sc := (defScope stm_tests)) (by decide +kernel)) (fun _ _ _ _ _ => (gm_v 2 (Cf.blk c))) (fun _ _ _ _ _ => (btm_one (bm_cmp (om_notin (Cf.blk c)) (pm_v 2) (pm_v 1) (by with_unfolding_all rfl)))) (fun _ _ _ _ _ => (pm_v 2))) am_nil)))))
theorem ok_offspring {f : Addr} {fd : FuncData} (F : Fun K "offspring" "offspring" stm_offspring f fd) (z_any : mg "any" = none) (z_enumerate : mg "enumerate" = none) (z_tuple : mg "tuple" = none) : FnG P w K mg base CX0 1 f fd ["history", "m"] (spM K mg 2 Cm.c_offspring) :=
  fnM0 (k := 0) (m := Cm.m_offspring) F sc_offspring rfl rfl fun cdv A outer s H E W hr c => (
    (sm_cons (sm_st 2 c (pm_dict1 (pm_v 1) pm_bl))
    (sm_cons (sm_for PassesOwn.never c (pim_en (by rfl) z_enumerate (am_cons (pm_ix c (pm_v 0) pm_int) am_nil)) (gm_t c (gms_cons (gm_v 3 c) (gms_cons (gm_t c (gms_cons (gm_v 4 c) (gms_cons (gm_v 5 c) gms_nil))) gms_nil))) (sm_one (sm_if (bm_val (pm_bf (cm_any c) z_any b_any (am_cons (pm_lc1 [("parent", 6)] c (pim_seq (pm_v 5)) (blkOk_by (own := [("parent", 6)]) (N := N_offspring) (sc := (defScope stm_offspring)) (by decide +kernel)) (fun _ _ _ _ _ => (gm_v 6 (Cf.blk c))) (fun _ _ _ _ _ => btm_nil) (fun _ _ _ _ _ => (pm_cmp (om_in (Cf.blk c)) (pm_v 6) (pm_v 2) (by with_unfolding_all rfl)))) am_nil))) (sm_one (sm_pt c pm_bl (pm_v 2) (pm_v 3))) sm_nil)))
    (sm_one (sm_ret (pm_bt (cm_tup c) z_tuple b_tuple (am_cons (pm_v 2) am_nil)))))))
theorem ok_classes {f : Addr} {fd : FuncData} (F : Fun K "classes" "classes" stm_classes f fd) {f_offspring : Addr} {fd_offspring : FuncData} (F_offspring : Fun K "offspring" "offspring" stm_offspring f_offspring fd_offspring) (G_offspring : FnG P w K mg base CX0 1 f_offspring fd_offspring ["history", "m"] (spM K mg 2 Cm.c_offspring)) (g_offspring : mg "offspring" = some (.ref f_offspring)) (b_offspring : L2.Binds K fd_offspring ["history", "m"] []) (z_len : mg "len" = none) (z_range : mg "range" = none) (z_tuple : mg "tuple" = none) : FnG P w K mg base CX0 2 f fd ["history", "skipped"] (spM K mg 2 Cm.c_classes) :=
  fnM0 (k := 1) (m := Cm.m_classes) F sc_classes rfl rfl fun cdv A outer s H E W hr c => (
    (sm_cons (sm_st 2 c pm_dT)
    (sm_cons (sm_for PassesOwn.never c (pim_rng1 (by rfl) z_range (am_cons (pm_bf cm_len z_len b_len (am_cons (pm_ix c (pm_v 0) pm_int) am_nil)) am_nil)) (gm_v 3 c) (sm_cons (sm_st 4 c (pm_bt (cm_tup c) z_tuple b_tuple (am_cons (pm_lc1 [("m", 5)] c (pim_seq (pm_call G_offspring c (hr.mono (by decide)) (by rfl) g_offspring F_offspring.kp b_offspring pass (am_cons (pm_v 0) (am_cons (pm_v 3) am_nil)))) (blkOk_by (own := [("m", 5)]) (N := N_classes) (sc := (defScope stm_classes)) (by decide +kernel)) (fun _ _ _ _ _ => (gm_v 5 (Cf.blk c))) (fun _ _ _ _ _ => (btm_one (bm_cmp (om_notin (Cf.blk c)) (pm_v 5) (pm_v 1) (by with_unfolding_all rfl)))) (fun _ _ _ _ _ => (pm_v 5))) am_nil)))
    (sm_one (sm_ex (pm_mth (.inl rfl) (pe_bm PySem.F.plainAttrs_list PySem.F.slot_list_append PySem.F.type_list_append mm_append (pm_mth (.inr (.inl rfl)) (pe_bm PySem.F.plainAttrs_dict PySem.F.slot_dict_setdefault PySem.F.type_dict_setdefault (mm_setd c) (pm_v 2) (am_cons (pm_v 4) (am_cons (pm_lst am_nil) am_nil)))) (am_cons (pm_v 3) am_nil)))))))
    (sm_one (sm_ret (pm_bt (cm_tup c) z_tuple b_tuple (am_cons (pm_lock (i := 2) (pm_lc1 [("row", 6)] c (pim_vals (pm_v 2)) (blkOk_by (own := [("row", 6)]) (N := N_classes) (sc := (defScope stm_classes)) (by decide +kernel)) (fun _ _ _ _ _ => (gm_v 6 (Cf.blk c))) (fun _ _ _ _ _ => btm_nil) (fun _ _ _ _ _ => (pm_bt (cm_tup (Cf.blk c)) z_tuple b_tuple (am_cons (pm_v 6) am_nil))))) am_nil)))))))
theorem ok__law_above {f : Addr} {fd : FuncData} (F : Fun K "_law_above" "_law_above" stm__law_above f fd) (z_len : mg "len" = none) (z_range : mg "range" = none) : FnG P w K mg base CX0 1 f fd ["history", "m"] (spM K mg 2 Cm.c__law_above) :=
  fnM0 (k := 0) (m := Cm.m__law_above) F sc__law_above rfl rfl fun cdv A outer s H E W hr c => (
    (sm_cons (sm_lc1 (i := 2) [("k", 3)] c rfl rfl (sw_true rfl rfl rfl (by decide +kernel)) (pim_rng1 (by rfl) z_range (am_cons (pm_bf cm_len z_len b_len (am_cons (pm_ix c (pm_v 0) pm_int) am_nil)) am_nil)) (blkOk_by (own := [("k", 3)]) (N := N__law_above) (sc := (defScope stm__law_above)) (by decide +kernel)) (fun _ _ _ _ _ => (gm_v 3 (Cf.blk c))) (fun _ _ _ _ _ => btm_nil) (fun _ _ _ _ _ => (pm_cmp (om_eq (Cf.blk c)) (pm_v 3) (pm_v 1) (nomark _))))
    (sm_cons (sm_for PassesOwn.never c (pim_rng3 (by rfl) z_range (am_cons (pm_v 1) (am_cons (pm_un um_neg pm_int) (am_cons (pm_un um_neg pm_int) am_nil)))) (gm_v 3 c) (sm_one (sm_for PassesOwn.never c (pim_seq (pm_ix c (pm_ix c (pm_ix c (pm_v 0) pm_int) (pm_v 3)) pm_int)) (gm_v 4 c) (sm_one (sm_pt c (pm_or (pm_ix c (pm_v 2) (pm_v 4)) (pm_one (pm_ix c (pm_v 2) (pm_v 3)))) (pm_v 2) (pm_v 4))))))
    (sm_one (sm_ret (pm_v 2))))))
theorem ok__law_classes {f : Addr} {fd : FuncData} (F : Fun K "_law_classes" "_law_classes" stm__law_classes f fd) {f__law_above : Addr} {fd__law_above : FuncData} (F__law_above : Fun K "_law_above" "_law_above" stm__law_above f__law_above fd__law_above) (G__law_above : FnG P w K mg base CX0 1 f__law_above fd__law_above ["history", "m"] (spM K mg 2 Cm.c__law_above)) (g__law_above : mg "_law_above" = some (.ref f__law_above)) (b__law_above : L2.Binds K fd__law_above ["history", "m"] []) (z_len : mg "len" = none) (z_range : mg "range" = none) (z_tuple : mg "tuple" = none) : FnG P w K mg base CX0 2 f fd ["history", "skipped"] (spM K mg 2 Cm.c__law_classes) :=
  fnM0 (k := 1) (m := Cm.m__law_classes) F sc__law_classes rfl rfl fun cdv A outer s H E W hr c => (
    (sm_cons (sm_st 2 c (pm_lc1 [("m", 3)] c (pim_rng1 (by rfl) z_range (am_cons (pm_bf cm_len z_len b_len (am_cons (pm_ix c (pm_v 0) pm_int) am_nil)) am_nil)) (blkOk_by (own := [("m", 3)]) (N := N__law_classes) (sc := (defScope stm__law_classes)) (by decide +kernel)) (fun _ _ _ _ _ => (gm_v 3 (Cf.blk c))) (fun _ _ _ _ _ => (btm_one (bm_cmp (om_notin (Cf.blk c)) (pm_v 3) (pm_v 1) (by with_unfolding_all rfl)))) (fun _ _ _ _ _ => (pm_call G__law_above (Cf.blk c) (hr.mono (by decide)) (by rfl) g__law_above F__law_above.kp b__law_above pass (am_cons (pm_v 0) (am_cons (pm_v 3) am_nil))))))
    (sm_cons (sm_st 4 c (pm_lst am_nil))
    (sm_cons (sm_for PassesOwn.never c (pim_rng1 (by rfl) z_range (am_cons (pm_bf cm_len z_len b_len (am_cons (pm_ix c (pm_v 0) pm_int) am_nil)) am_nil)) (gm_v 5 c) (sm_cons (sm_lc1 (i := 6) [("part", 7)] c rfl rfl (sw_true rfl rfl rfl (by decide +kernel)) (pim_seq (pm_v 4)) (blkOk_by (own := [("part", 7)]) (N := N__law_classes) (sc := (defScope stm__law_classes)) (by decide +kernel)) (fun _ _ _ _ _ => (gm_v 7 (Cf.blk c))) (fun _ _ _ _ _ => (btm_one (bm_cmp (om_eq (Cf.blk c)) (pm_lc1 [("row", 8)] (Cf.blk c) (pim_seq (pm_v 2)) (blkOk_by (own := [("row", 8)]) (N := N__law_classes) (sc := (relS _ (defScope stm__law_classes))) (by decide +kernel)) (fun _ _ _ _ _ => (gm_v 8 (Cf.blk (Cf.blk c)))) (fun _ _ _ _ _ => btm_nil) (fun _ _ _ _ _ => (pm_ix (Cf.blk (Cf.blk c)) (pm_v 8) (pm_ix (Cf.blk (Cf.blk c)) (pm_v 7) pm_int)))) (pm_lc1 [("row", 8)] (Cf.blk c) (pim_seq (pm_v 2)) (blkOk_by (own := [("row", 8)]) (N := N__law_classes) (sc := (relS _ (defScope stm__law_classes))) (by decide +kernel)) (fun _ _ _ _ _ => (gm_v 8 (Cf.blk (Cf.blk c)))) (fun _ _ _ _ _ => btm_nil) (fun _ _ _ _ _ => (pm_ix (Cf.blk (Cf.blk c)) (pm_v 8) (pm_v 5)))) (nomark _)))) (fun _ _ _ _ _ => (pm_v 7)))
    (sm_one (sm_if (bm_cmp (om_eq c) (pm_v 6) (pm_lst am_nil) (nomark _)) (sm_one (sm_ex (pm_mth (.inl rfl) (pe_bm PySem.F.plainAttrs_list PySem.F.slot_list_append PySem.F.type_list_append mm_append (pm_v 4) (am_cons (pm_lst (am_cons (pm_v 5) am_nil)) am_nil))))) (sm_one (sm_ex (pm_mth (.inl rfl) (pe_bm PySem.F.plainAttrs_list PySem.F.slot_list_append PySem.F.type_list_append mm_append (pm_ix c (pm_v 6) pm_int) (am_cons (pm_v 5) am_nil)))))))))
    (sm_one (sm_ret (pm_bt (cm_tup c) z_tuple b_tuple (am_cons (pm_lc1 [("part", 7)] c (pim_seq (pm_v 4)) (blkOk_by (own := [("part", 7)]) (N := N__law_classes) (sc := (defScope stm__law_classes)) (by decide +kernel)) (fun _ _ _ _ _ => (gm_v 7 (Cf.blk c))) (fun _ _ _ _ _ => btm_nil) (fun _ _ _ _ _ => (pm_bt (cm_tup (Cf.blk c)) z_tuple b_tuple (am_cons (pm_v 7) am_nil)))) am_nil))))))))
theorem ok__law_tests {f : Addr} {fd : FuncData} (F : Fun K "_law_tests" "_law_tests" stm__law_tests f fd) {f__law_above : Addr} {fd__law_above : FuncData} (F__law_above : Fun K "_law_above" "_law_above" stm__law_above f__law_above fd__law_above) (G__law_above : FnG P w K mg base CX0 1 f__law_above fd__law_above ["history", "m"] (spM K mg 2 Cm.c__law_above)) (g__law_above : mg "_law_above" = some (.ref f__law_above)) (b__law_above : L2.Binds K fd__law_above ["history", "m"] []) {f__law_classes : Addr} {fd__law_classes : FuncData} (F__law_classes : Fun K "_law_classes" "_law_classes" stm__law_classes f__law_classes fd__law_classes) (G__law_classes : FnG P w K mg base CX0 2 f__law_classes fd__law_classes ["history", "skipped"] (spM K mg 2 Cm.c__law_classes)) (g__law_classes : mg "_law_classes" = some (.ref f__law_classes)) (b__law_classes : L2.Binds K fd__law_classes ["history", "skipped"] []) (z_len : mg "len" = none) (z_range : mg "range" = none) (z_tuple : mg "tuple" = none) : FnG P w K mg base CX0 3 f fd ["history", "skipped"] (spM K mg 2 Cm.c__law_tests) :=
  fnM0 (k := 2) (m := Cm.m__law_tests) F sc__law_tests rfl rfl fun cdv A outer s H E W hr c => (
    (sm_cons (sm_st 2 c (pm_call G__law_classes c (hr.mono (by decide)) (by rfl) g__law_classes F__law_classes.kp b__law_classes pass (am_cons (pm_v 0) (am_cons (pm_v 1) am_nil))))
    (sm_cons (sm_st 3 c (pm_lst am_nil))
    (sm_cons (sm_st 4 c (pm_lst am_nil))
    (sm_cons (sm_for PassesOwn.never c (pim_rng1 (by rfl) z_range (am_cons (pm_bf cm_len z_len b_len (am_cons (pm_ix c (pm_v 0) pm_int) am_nil)) am_nil)) (gm_v 5 c) (sm_cons (sm_lc1 (i := 6) [("part", 7)] c rfl rfl (sw_true rfl rfl rfl (by decide +kernel)) (pim_seq (pm_v 2)) (blkOk_by (own := [("part", 7)]) (N := N__law_tests) (sc := (defScope stm__law_tests)) (by decide +kernel)) (fun _ _ _ _ _ => (gm_v 7 (Cf.blk c))) (fun _ _ _ _ _ => btm_nil) (fun _ _ _ _ _ => (pm_ix (Cf.blk c) (pm_call G__law_above (Cf.blk c) (hr.mono (by decide)) (by rfl) g__law_above F__law_above.kp b__law_above pass (am_cons (pm_v 0) (am_cons (pm_v 5) am_nil))) (pm_ix (Cf.blk c) (pm_v 7) pm_int))))
    (sm_one (sm_if (PW.pt (bm_and (bm_cmp (om_notin c) (pm_v 5) (pm_v 1) (by with_unfolding_all rfl)) (bm_and (bm_cmp (om_in c) pm_bl (pm_v 6) (by with_unfolding_all rfl)) (bm_and (bm_cmp (om_in c) pm_bl (pm_v 6) (by with_unfolding_all rfl)) (bm_and1 (bm_cmp (om_notin c) (pm_v 6) (pm_v 3) (by with_unfolding_all rfl))))))) (sm_cons (sm_ex (pm_mth (.inl rfl) (pe_bm PySem.F.plainAttrs_list PySem.F.slot_list_append PySem.F.type_list_append mm_append (pm_v 3) (am_cons (pm_v 6) am_nil))))
    (sm_one (sm_ex (pm_mth (.inl rfl) (pe_bm PySem.F.plainAttrs_list PySem.F.slot_list_append PySem.F.type_list_append mm_append (pm_v 4) (am_cons (pm_v 5) am_nil)))))) sm_nil))))
    (sm_one (sm_ret (pm_bt (cm_tup c) z_tuple b_tuple (am_cons (pm_v 4) am_nil)))))))))
theorem ok__law_draw {f : Addr} {fd : FuncData} (F : Fun K "_law_draw" "_law_draw" stm__law_draw f fd) (z_int : mg "int" = none) (z_len : mg "len" = none) : FnG P w K mg base CX0 1 f fd ["box", "many"] (spM K mg 2 Cm.c__law_draw) :=
  fnM0 (k := 0) (m := Cm.m__law_draw) F sc__law_draw rfl rfl fun cdv A outer s H E W hr c => (
    (sm_cons (sm_st 2 c (pm_ix c (pm_v 0) pm_int))
    (sm_cons (sm_pt c (pm_bin om_add (pm_v 2) pm_int) (pm_v 0) pm_int)
    (sm_cons (sm_if (bm_cmp om_lt (pm_v 2) (pm_bf cm_len z_len b_len (am_cons (pm_ix c (pm_v 0) pm_int) am_nil)) (nomark _)) (sm_one (sm_ret (pm_bin om_mod (pm_bt cm_int z_int b_int (am_cons (pm_ix c (pm_ix c (pm_v 0) pm_int) (pm_v 2)) am_nil)) (pm_v 1)))) sm_nil)
    (sm_one (sm_ret pm_int))))))
theorem ok__law_skipped {f : Addr} {fd : FuncData} (F : Fun K "_law_skipped" "_law_skipped" stm__law_skipped f fd) {f__law_draw : Addr} {fd__law_draw : FuncData} (F__law_draw : Fun K "_law_draw" "_law_draw" stm__law_draw f__law_draw fd__law_draw) (G__law_draw : FnG P w K mg base CX0 1 f__law_draw fd__law_draw ["box", "many"] (spM K mg 2 Cm.c__law_draw)) (g__law_draw : mg "_law_draw" = some (.ref f__law_draw)) (b__law_draw : L2.Binds K fd__law_draw ["box", "many"] []) (z_len : mg "len" = none) (z_range : mg "range" = none) (z_tuple : mg "tuple" = none) : FnG P w K mg base CX0 2 f fd ["box", "history"] (spM K mg 2 Cm.c__law_skipped) :=
  fnM0 (k := 1) (m := Cm.m__law_skipped) F sc__law_skipped rfl rfl fun cdv A outer s H E W hr c => (
    (sm_one (sm_ret (pm_bt (cm_tup c) z_tuple b_tuple (am_cons (pm_lc1 [("m", 2)] c (pim_rng1 (by rfl) z_range (am_cons (pm_bf cm_len z_len b_len (am_cons (pm_ix c (pm_v 1) pm_int) am_nil)) am_nil)) (blkOk_by (own := [("m", 2)]) (N := N__law_skipped) (sc := (defScope stm__law_skipped)) (by decide +kernel)) (fun _ _ _ _ _ => (gm_v 2 (Cf.blk c))) (fun _ _ _ _ _ => (btm_one (bm_cmp (om_eq (Cf.blk c)) (pm_call G__law_draw (Cf.blk c) (hr.mono (by decide)) (by rfl) g__law_draw F__law_draw.kp b__law_draw pass (am_cons (pm_v 0) (am_cons pm_int am_nil))) pm_int (nomark _)))) (fun _ _ _ _ _ => (pm_v 2))) am_nil)))))
theorem ok__law_word {f : Addr} {fd : FuncData} (F : Fun K "_law_word" "_law_word" stm__law_word f fd) (z_int : mg "int" = none) : FnG P w K mg base CX0 1 f fd ["box", "k", "at"] (spM K mg 3 Cm.c__law_word) :=
  fnM0 (k := 0) (m := Cm.m__law_word) F sc__law_word rfl rfl fun cdv A outer s H E W hr c => (
    (sm_cons (sm_if (PW.pt (bm_and (bm_cmp (om_eq c) (pm_v 1) pm_int (nomark _)) (bm_and1 (bm_cmp (om_eq c) (pm_v 2) pm_int (nomark _))))) (sm_one (sm_ret pm_str)) sm_nil)
    (sm_cons (sm_if (PW.pt (bm_and (bm_cmp (om_eq c) (pm_v 1) pm_int (nomark _)) (bm_and1 (bm_cmp (om_eq c) (pm_v 2) pm_int (nomark _))))) (sm_one (sm_ret pm_str)) sm_nil)
    (sm_one (sm_ret (pm_bin om_add (pm_ix c pm_str (pm_bin om_mod (pm_bt cm_int z_int b_int (am_cons (pm_bin om_add (pm_v 2) (pm_v 1)) am_nil)) pm_int)) (pm_ix c (pm_lst (am_cons pm_str (am_cons pm_str (am_cons pm_str am_nil)))) (pm_bin om_mod (pm_bt cm_int z_int b_int (am_cons (pm_v 2) am_nil)) pm_int))))))))
theorem ok__law_history {f : Addr} {fd : FuncData} (F : Fun K "_law_history" "_law_history" stm__law_history f fd) {f__law_word : Addr} {fd__law_word : FuncData} (F__law_word : Fun K "_law_word" "_law_word" stm__law_word f__law_word fd__law_word) (G__law_word : FnG P w K mg base CX0 1 f__law_word fd__law_word ["box", "k", "at"] (spM K mg 3 Cm.c__law_word)) (g__law_word : mg "_law_word" = some (.ref f__law_word)) (b__law_word : L2.Binds K fd__law_word ["box", "k", "at"] []) {f__law_draw : Addr} {fd__law_draw : FuncData} (F__law_draw : Fun K "_law_draw" "_law_draw" stm__law_draw f__law_draw fd__law_draw) (G__law_draw : FnG P w K mg base CX0 1 f__law_draw fd__law_draw ["box", "many"] (spM K mg 2 Cm.c__law_draw)) (g__law_draw : mg "_law_draw" = some (.ref f__law_draw)) (b__law_draw : L2.Binds K fd__law_draw ["box", "many"] []) (z_int : mg "int" = none) (z_len : mg "len" = none) (z_range : mg "range" = none) (z_sorted : mg "sorted" = none) (z_tuple : mg "tuple" = none) : FnG P w K mg base CX0 2 f fd ["box", "most"] (spM K mg 2 Cm.c__law_history) :=
  fnM0 (k := 1) (m := Cm.m__law_history) F sc__law_history rfl rfl fun cdv A outer s H E W hr c => (
    (sm_cons (sm_st 2 c (pm_bin om_add pm_int (pm_call G__law_draw c (hr.mono (by decide)) (by rfl) g__law_draw F__law_draw.kp b__law_draw pass (am_cons (pm_v 0) (am_cons (pm_v 1) am_nil)))))
    (sm_cons (sm_st 3 c (pm_lc1 [("k", 4)] c (pim_rng1 (by rfl) z_range (am_cons (pm_v 2) am_nil)) (blkOk_by (own := [("k", 4)]) (N := N__law_history) (sc := (defScope stm__law_history)) (by decide +kernel)) (fun _ _ _ _ _ => (gm_v 4 (Cf.blk c))) (fun _ _ _ _ _ => btm_nil) (fun _ _ _ _ _ => (pm_lst am_nil))))
    (sm_cons (sm_for PassesOwn.never c (pim_rng1 (by rfl) z_range (am_cons (pm_bin om_sub (pm_v 2) pm_int) am_nil)) (gm_v 4 c) (sm_cons (sm_st 5 c (pm_bin om_add (pm_bin om_add (pm_v 4) pm_int) (pm_bin om_mul (pm_call G__law_draw c (hr.mono (by decide)) (by rfl) g__law_draw F__law_draw.kp b__law_draw pass (am_cons (pm_v 0) (am_cons (pm_bin om_sub (pm_bin om_sub (pm_v 2) pm_int) (pm_v 4)) am_nil))) (pm_bt cm_int z_int b_int (am_cons (pm_cmp (om_eq c) (pm_call G__law_draw c (hr.mono (by decide)) (by rfl) g__law_draw F__law_draw.kp b__law_draw pass (am_cons (pm_v 0) (am_cons pm_int am_nil))) pm_int (nomark _)) am_nil)))))
    (sm_cons (sm_if (bm_cmp om_ge (pm_bf cm_len z_len b_len (am_cons (pm_ix c (pm_v 3) (pm_v 5)) am_nil)) pm_int (nomark _)) (sm_one (sm_st 5 c (pm_bin om_add (pm_v 4) pm_int))) sm_nil)
    (sm_one (sm_ex (pm_mth (.inl rfl) (pe_bm PySem.F.plainAttrs_list PySem.F.slot_list_append PySem.F.type_list_append mm_append (pm_ix c (pm_v 3) (pm_v 5)) (am_cons (pm_v 4) am_nil))))))))
    (sm_cons (sm_for PassesOwn.never c (pim_rng1 (by rfl) z_range (am_cons (pm_bin om_mul (pm_call G__law_draw c (hr.mono (by decide)) (by rfl) g__law_draw F__law_draw.kp b__law_draw pass (am_cons (pm_v 0) (am_cons pm_int am_nil))) (pm_bt cm_int z_int b_int (am_cons (pm_cmp om_gt (pm_v 2) pm_int (nomark _)) am_nil))) am_nil)) (gm_v 6 c) (sm_cons (sm_st 5 c (pm_bin om_add pm_int (pm_call G__law_draw c (hr.mono (by decide)) (by rfl) g__law_draw F__law_draw.kp b__law_draw pass (am_cons (pm_v 0) (am_cons (pm_bin om_sub (pm_v 2) pm_int) am_nil)))))
    (sm_cons (sm_st 7 c (pm_call G__law_draw c (hr.mono (by decide)) (by rfl) g__law_draw F__law_draw.kp b__law_draw pass (am_cons (pm_v 0) (am_cons (pm_v 5) am_nil))))
    (sm_one (sm_if (PW.pt (bm_and (bm_cmp (om_notin c) (pm_v 7) (pm_ix c (pm_v 3) (pm_v 5)) (by with_unfolding_all rfl)) (bm_and1 (bm_cmp om_lt (pm_bf cm_len z_len b_len (am_cons (pm_ix c (pm_v 3) (pm_v 5)) am_nil)) pm_int (nomark _))))) (sm_one (sm_ex (pm_mth (.inl rfl) (pe_bm PySem.F.plainAttrs_list PySem.F.slot_list_append PySem.F.type_list_append mm_append (pm_ix c (pm_v 3) (pm_v 5)) (am_cons (pm_v 7) am_nil))))) sm_nil)))))
    (sm_cons (sm_st 8 c (pm_call G__law_draw c (hr.mono (by decide)) (by rfl) g__law_draw F__law_draw.kp b__law_draw pass (am_cons (pm_v 0) (am_cons pm_int am_nil))))
    (sm_one (sm_ret (pm_tup (am_cons pm_str (am_cons (pm_bt (cm_tup c) z_tuple b_tuple (am_cons (pm_lc1 [("k", 4)] c (pim_rng1 (by rfl) z_range (am_cons (pm_v 2) am_nil)) (blkOk_by (own := [("k", 4)]) (N := N__law_history) (sc := (defScope stm__law_history)) (by decide +kernel)) (fun _ _ _ _ _ => (gm_v 4 (Cf.blk c))) (fun _ _ _ _ _ => btm_nil) (fun _ _ _ _ _ => (pm_tup (am_cons (pm_call G__law_word (Cf.blk c) (hr.mono (by decide)) (by rfl) g__law_word F__law_word.kp b__law_word pass (am_cons (pm_v 0) (am_cons (pm_v 4) (am_cons (pm_v 8) am_nil)))) (am_cons (pm_bt (cm_tup (Cf.blk c)) z_tuple b_tuple (am_cons (pm_bf cm_sort z_sorted b_sorted (am_cons (pm_ix (Cf.blk c) (pm_v 3) (pm_v 4)) am_nil)) am_nil)) am_nil))))) am_nil)) am_nil)))))))))))
theorem ok__law_cell {f : Addr} {fd : FuncData} (F : Fun K "_law_cell" "_law_cell" stm__law_cell f fd) (z_len : mg "len" = none) : FnG P w K mg base CX0 1 f fd ["script", "k"] (spM K mg 2 Cm.c__law_cell) :=
  fnM0 (k := 0) (m := Cm.m__law_cell) F sc__law_cell rfl rfl fun cdv A outer s H E W hr c => (
    (sm_cons (sm_if (bm_cmp om_lt (pm_v 1) (pm_bf cm_len z_len b_len (am_cons (pm_v 0) am_nil)) (nomark _)) (sm_one (sm_ret (pm_ix c (pm_v 0) (pm_v 1)))) sm_nil)
    (sm_one (sm_ret pm_int))))
theorem ok__law_digits {f : Addr} {fd : FuncData} (F : Fun K "_law_digits" "_law_digits" stm__law_digits f fd) {f__law_cell : Addr} {fd__law_cell : FuncData} (F__law_cell : Fun K "_law_cell" "_law_cell" stm__law_cell f__law_cell fd__law_cell) (G__law_cell : FnG P w K mg base CX0 1 f__law_cell fd__law_cell ["script", "k"] (spM K mg 2 Cm.c__law_cell)) (g__law_cell : mg "_law_cell" = some (.ref f__law_cell)) (b__law_cell : L2.Binds K fd__law_cell ["script", "k"] []) (z_int : mg "int" = none) (z_range : mg "range" = none) : FnG P w K mg base CX0 2 f fd ["script", "first", "last"] (spM K mg 3 Cm.c__law_digits) :=
  fnM0 (k := 1) (m := Cm.m__law_digits) F sc__law_digits rfl rfl fun cdv A outer s H E W hr c => (
    (sm_cons (sm_st 3 c (pm_lst am_nil))
    (sm_cons (sm_for PassesOwn.never c (pim_rng2 (by rfl) z_range (am_cons (pm_v 1) (am_cons (pm_v 2) am_nil))) (gm_v 4 c) (sm_cons (sm_st 5 c (pm_call G__law_cell c (hr.mono (by decide)) (by rfl) g__law_cell F__law_cell.kp b__law_cell pass (am_cons (pm_v 0) (am_cons (pm_v 4) am_nil))))
    (sm_cons (sm_if (bm_cmp om_lt (pm_v 5) pm_int (nomark _)) (sm_one (sm_st 5 c (pm_bin om_sub pm_int (pm_bin om_mul pm_int (pm_v 5))))) sm_nil)
    (sm_one (sm_if (bm_cmp om_ge (pm_v 5) (pm_bin om_pow pm_int pm_int) (nomark _)) (sm_one (sm_for PassesOwn.never c (pim_rng1 (by rfl) z_range (am_cons pm_int am_nil)) (gm_v 6 c) (sm_one (sm_if (bm_cmp om_gt (pm_v 5) pm_int (nomark _)) (sm_cons (sm_ex (pm_mth (.inl rfl) (pe_bm PySem.F.plainAttrs_list PySem.F.slot_list_append PySem.F.type_list_append mm_append (pm_v 3) (am_cons (pm_bin om_mod (pm_bt cm_int z_int b_int (am_cons (pm_v 5) am_nil)) pm_int) am_nil))))
    (sm_one (sm_st 5 c (pm_bin om_fdiv (pm_v 5) pm_int)))) sm_nil)))) (sm_cons (sm_st 7 c (pm_bin om_mod (pm_bt cm_int z_int b_int (am_cons (pm_bin om_add (pm_bin om_add (pm_bin om_mul (pm_v 5) pm_int) (pm_bin om_mul (pm_v 4) pm_int)) pm_int) am_nil)) pm_int))
    (sm_one (sm_for PassesOwn.never c (pim_rng1 (by rfl) z_range (am_cons pm_int am_nil)) (gm_v 6 c) (sm_cons (sm_st 7 c (pm_bin om_mod (pm_bt cm_int z_int b_int (am_cons (pm_bin om_add (pm_bin om_add (pm_bin om_mul (pm_v 7) pm_int) (pm_bin om_mul pm_int (pm_v 6))) pm_int) am_nil)) pm_int))
    (sm_one (sm_ex (pm_mth (.inl rfl) (pe_bm PySem.F.plainAttrs_list PySem.F.slot_list_append PySem.F.type_list_append mm_append (pm_v 3) (am_cons (pm_bin om_mod (pm_bt cm_int z_int b_int (am_cons (pm_bin om_fdiv (pm_v 7) pm_int) am_nil)) pm_int) am_nil))))))))))))))
    (sm_one (sm_ret (pm_v 3))))))
theorem ok_law {f : Addr} {fd : FuncData} (F : Fun K "law" "law" stm_law f fd) {f_check_skipped : Addr} {fd_check_skipped : FuncData} (F_check_skipped : Fun K "check_skipped" "check_skipped" stm_check_skipped f_check_skipped fd_check_skipped) (G_check_skipped : FnG P w K mg base CX0 3 f_check_skipped fd_check_skipped ["history", "skipped"] (spM K mg 2 Cm.c_check_skipped)) (g_check_skipped : mg "check_skipped" = some (.ref f_check_skipped)) (b_check_skipped : L2.Binds K fd_check_skipped ["history", "skipped"] []) {f__law_same : Addr} {fd__law_same : FuncData} (F__law_same : Fun K "_law_same" "_law_same" stm__law_same f__law_same fd__law_same) (G__law_same : FnG P w K mg base CX0 1 f__law_same fd__law_same ["actual", "due"] (spM K mg 2 Cm.c__law_same)) (g__law_same : mg "_law_same" = some (.ref f__law_same)) (b__law_same : L2.Binds K fd__law_same ["actual", "due"] []) {f_tests : Addr} {fd_tests : FuncData} (F_tests : Fun K "tests" "tests" stm_tests f_tests fd_tests) (G_tests : FnG P w K mg base CX0 1 f_tests fd_tests ["history", "skipped"] (spM K mg 2 Cm.c_tests)) (g_tests : mg "tests" = some (.ref f_tests)) (b_tests : L2.Binds K fd_tests ["history", "skipped"] []) {f_classes : Addr} {fd_classes : FuncData} (F_classes : Fun K "classes" "classes" stm_classes f_classes fd_classes) (G_classes : FnG P w K mg base CX0 2 f_classes fd_classes ["history", "skipped"] (spM K mg 2 Cm.c_classes)) (g_classes : mg "classes" = some (.ref f_classes)) (b_classes : L2.Binds K fd_classes ["history", "skipped"] []) {f__law_tests : Addr} {fd__law_tests : FuncData} (F__law_tests : Fun K "_law_tests" "_law_tests" stm__law_tests f__law_tests fd__law_tests) (G__law_tests : FnG P w K mg base CX0 3 f__law_tests fd__law_tests ["history", "skipped"] (spM K mg 2 Cm.c__law_tests)) (g__law_tests : mg "_law_tests" = some (.ref f__law_tests)) (b__law_tests : L2.Binds K fd__law_tests ["history", "skipped"] []) {f__law_classes : Addr} {fd__law_classes : FuncData} (F__law_classes : Fun K "_law_classes" "_law_classes" stm__law_classes f__law_classes fd__law_classes) (G__law_classes : FnG P w K mg base CX0 2 f__law_classes fd__law_classes ["history", "skipped"] (spM K mg 2 Cm.c__law_classes)) (g__law_classes : mg "_law_classes" = some (.ref f__law_classes)) (b__law_classes : L2.Binds K fd__law_classes ["history", "skipped"] []) {f__law_skipped : Addr} {fd__law_skipped : FuncData} (F__law_skipped : Fun K "_law_skipped" "_law_skipped" stm__law_skipped f__law_skipped fd__law_skipped) (G__law_skipped : FnG P w K mg base CX0 2 f__law_skipped fd__law_skipped ["box", "history"] (spM K mg 2 Cm.c__law_skipped)) (g__law_skipped : mg "_law_skipped" = some (.ref f__law_skipped)) (b__law_skipped : L2.Binds K fd__law_skipped ["box", "history"] []) {f__law_history : Addr} {fd__law_history : FuncData} (F__law_history : Fun K "_law_history" "_law_history" stm__law_history f__law_history fd__law_history) (G__law_history : FnG P w K mg base CX0 2 f__law_history fd__law_history ["box", "most"] (spM K mg 2 Cm.c__law_history)) (g__law_history : mg "_law_history" = some (.ref f__law_history)) (b__law_history : L2.Binds K fd__law_history ["box", "most"] []) {f__law_digits : Addr} {fd__law_digits : FuncData} (F__law_digits : Fun K "_law_digits" "_law_digits" stm__law_digits f__law_digits fd__law_digits) (G__law_digits : FnG P w K mg base CX0 2 f__law_digits fd__law_digits ["script", "first", "last"] (spM K mg 3 Cm.c__law_digits)) (g__law_digits : mg "_law_digits" = some (.ref f__law_digits)) (b__law_digits : L2.Binds K fd__law_digits ["script", "first", "last"] []) (z_len : mg "len" = none) (z_list : mg "list" = none) (z_range : mg "range" = none) (z_tuple : mg "tuple" = none) : FnG P w K mg base CX0 4 f fd ["script"] (spM K mg 1 c_law) :=
  fnM0 (k := 3) (m := m_law) F sc_law rfl rfl fun cdv A outer s H E W hr c => (
    (sm_cons (sm_st 1 c (pm_lst (am_cons (pm_call G__law_digits c (hr.mono (by decide)) (by rfl) g__law_digits F__law_digits.kp b__law_digits pass (am_cons (pm_v 0) (am_cons pm_int (am_cons pm_int am_nil)))) (am_cons pm_int am_nil))))
    (sm_cons (sm_for PassesOwn.never c (pim_rng1 (by rfl) z_range (am_cons pm_int am_nil)) (gm_v 2 c) (sm_cut (sm_cons (sm_st 3 c (pm_call G__law_history c (hr.mono (by decide)) (by rfl) g__law_history F__law_history.kp b__law_history pass (am_cons (pm_v 1) (am_cons pm_int am_nil))))
    (sm_cons (sm_st 4 c (pm_bf cm_len z_len b_len (am_cons (pm_ix c (pm_v 3) pm_int) am_nil)))
    (sm_cons (sm_st 5 c (pm_call G__law_skipped c (hr.mono (by decide)) (by rfl) g__law_skipped F__law_skipped.kp b__law_skipped pass (am_cons (pm_v 1) (am_cons (pm_v 3) am_nil))))
    (sm_cons (sm_if (bm_not (bm_val (pm_call G__law_same c (hr.mono (by decide)) (by rfl) g__law_same F__law_same.kp b__law_same pass (am_cons (pm_call G_classes c (hr.mono (by decide)) (by rfl) g_classes F_classes.kp b_classes pass (am_cons (pm_v 3) (am_cons (pm_v 5) am_nil))) (am_cons (pm_call G__law_classes c (hr.mono (by decide)) (by rfl) g__law_classes F__law_classes.kp b__law_classes pass (am_cons (pm_v 3) (am_cons (pm_v 5) am_nil))) am_nil))))) (sm_one (sm_ret pm_bl)) sm_nil)
    (sm_cons (sm_if (bm_not (bm_val (pm_call G__law_same c (hr.mono (by decide)) (by rfl) g__law_same F__law_same.kp b__law_same pass (am_cons (pm_call G_tests c (hr.mono (by decide)) (by rfl) g_tests F_tests.kp b_tests pass (am_cons (pm_v 3) (am_cons (pm_v 5) am_nil))) (am_cons (pm_call G__law_tests c (hr.mono (by decide)) (by rfl) g__law_tests F__law_tests.kp b__law_tests pass (am_cons (pm_v 3) (am_cons (pm_v 5) am_nil))) am_nil))))) (sm_one (sm_ret pm_bl)) sm_nil)
    (sm_cons (sm_if (PW.pt (bm_or (bm_not (bm_val (pm_call G__law_same c (hr.mono (by decide)) (by rfl) g__law_same F__law_same.kp b__law_same pass (am_cons (pm_call G_classes c (hr.mono (by decide)) (by rfl) g_classes F_classes.kp b_classes pass (am_cons (pm_v 3) (am_cons (pm_tup am_nil) am_nil))) (am_cons (pm_bt (cm_tup c) z_tuple b_tuple (am_cons (pm_lc1 [("c", 6)] c (pim_rng1 (by rfl) z_range (am_cons (pm_v 4) am_nil)) (blkOk_by (own := [("c", 6)]) (N := N_law) (sc := (defScope stm_law)) (by decide +kernel)) (fun _ _ _ _ _ => (gm_v 6 (Cf.blk c))) (fun _ _ _ _ _ => btm_nil) (fun _ _ _ _ _ => (pm_tup (am_cons (pm_v 6) am_nil)))) am_nil)) am_nil))))) (bm_or1 (bm_not (bm_val (pm_call G__law_same c (hr.mono (by decide)) (by rfl) g__law_same F__law_same.kp b__law_same pass (am_cons (pm_call G_tests c (hr.mono (by decide)) (by rfl) g_tests F_tests.kp b_tests pass (am_cons (pm_v 3) (am_cons (pm_tup am_nil) am_nil))) (am_cons (pm_tupRg (pe_tupRg c.calm (by rfl) z_tuple (rgm_1 (prg_1 (by rfl) z_range (pm_bin om_sub (pm_v 4) pm_int))))) am_nil)))))))) (sm_one (sm_ret pm_bl)) sm_nil)
    (sm_cons (sm_st 7 c (pm_tupRg (pe_tupRg c.calm (by rfl) z_tuple (rgm_1 (prg_1 (by rfl) z_range (pm_v 4))))))
    (sm_cons (sm_if (PW.pt (bm_or (bm_not (bm_val (pm_call G__law_same c (hr.mono (by decide)) (by rfl) g__law_same F__law_same.kp b__law_same pass (am_cons (pm_call G_classes c (hr.mono (by decide)) (by rfl) g_classes F_classes.kp b_classes pass (am_cons (pm_v 3) (am_cons (pm_v 7) am_nil))) (am_cons (pm_tup (am_cons (pm_v 7) am_nil)) am_nil))))) (bm_or1 (bm_not (bm_val (pm_call G__law_same c (hr.mono (by decide)) (by rfl) g__law_same F__law_same.kp b__law_same pass (am_cons (pm_call G_tests c (hr.mono (by decide)) (by rfl) g_tests F_tests.kp b_tests pass (am_cons (pm_v 3) (am_cons (pm_v 7) am_nil))) (am_cons (pm_tup am_nil) am_nil)))))))) (sm_one (sm_ret pm_bl)) sm_nil)
    (sm_cons (sm_for PassesOwn.never c (pim_seq (pm_lst (am_cons (pm_tup am_nil) (am_cons (pm_v 5) (am_cons (pm_v 7) am_nil))))) (gm_v 8 c) (sm_cut (sm_one (sm_if (bm_cmp om_isnot (pm_call G_check_skipped c (hr.mono (by decide)) (by rfl) g_check_skipped F_check_skipped.kp b_check_skipped pass (am_cons (pm_v 3) (am_cons (pm_v 8) am_nil))) pm_bl (nomark _)) (sm_one (sm_ret pm_bl)) sm_nil))))
    (sm_cons (sm_st 9 c (pm_lst (am_cons pm_non (am_cons pm_int (am_cons (pm_bt (cm_list c) z_list b_list (am_cons (pm_v 5) am_nil)) (am_cons (pm_tup (am_cons (pm_v 4) am_nil)) (am_cons (pm_tup (am_cons (pm_un um_neg pm_int) am_nil)) (am_cons (pm_tup (am_cons pm_int (am_cons pm_int am_nil))) (am_cons (pm_tup (am_cons pm_bl am_nil)) (am_cons (pm_tup (am_cons pm_str am_nil)) (am_cons (pm_tup (am_cons (pm_bin om_sub (pm_v 4) pm_int) (am_cons pm_int am_nil))) (am_cons (pm_bin om_add (pm_v 5) (pm_tup (am_cons (pm_v 4) am_nil))) (am_cons (pm_tup (am_cons pm_int (am_cons pm_bl am_nil))) am_nil)))))))))))))
    (sm_one (sm_for PassesOwn.never c (pim_seq (pm_v 9)) (gm_v 10 c) (sm_cut (sm_one (sm_if (bm_cmp om_isnot (pm_call G_check_skipped c (hr.mono (by decide)) (by rfl) g_check_skipped F_check_skipped.kp b_check_skipped pass (am_cons (pm_v 3) (am_cons (pm_v 10) am_nil))) pm_bl (nomark _)) (sm_one (sm_ret pm_bl)) sm_nil)))))))))))))))))
    (sm_one (sm_ret pm_bl)))))
end
/-- what is left to show -/
def Goal : Prop := ∀ ns : List Int, ns.length ≤ 63 → c_law [.scr ns] (fun _ _ => False) [] (fun d _ => d = .bl true)
theorem all_mk {l : PySem.W.OpenLaw} {w : World} {K : PySem.W.Frag} {h : Heap} {mg : Str → Option Value} {fa f_ascends f_is_integer f_are_integers f_check_skipped f__law_same f_tests f_offspring f_classes f__law_above f__law_classes f__law_tests f__law_draw f__law_skipped f__law_word f__law_history f__law_cell f__law_digits f_law : Addr} (X : K.In h) (G : h.Ns mainGlobals mg) (hfa : mg "law" = some (.ref fa))
    {od_ascends an_ascends : Option Addr} {sl_ascends : Array (Option Value)} {oc_ascends kV_ascends dc_ascends pm_ascends cd_ascends ct_ascends : Value}
    {od_is_integer an_is_integer : Option Addr} {sl_is_integer : Array (Option Value)} {oc_is_integer kV_is_integer dc_is_integer pm_is_integer cd_is_integer ct_is_integer : Value}
    {od_are_integers an_are_integers : Option Addr} {sl_are_integers : Array (Option Value)} {oc_are_integers kV_are_integers dc_are_integers pm_are_integers cd_are_integers ct_are_integers : Value}
    {od_check_skipped an_check_skipped : Option Addr} {sl_check_skipped : Array (Option Value)} {oc_check_skipped kV_check_skipped dc_check_skipped pm_check_skipped cd_check_skipped ct_check_skipped : Value}
    {od__law_same an__law_same : Option Addr} {sl__law_same : Array (Option Value)} {oc__law_same kV__law_same dc__law_same pm__law_same cd__law_same ct__law_same : Value}
    {od_tests an_tests : Option Addr} {sl_tests : Array (Option Value)} {oc_tests kV_tests dc_tests pm_tests cd_tests ct_tests : Value}
    {od_offspring an_offspring : Option Addr} {sl_offspring : Array (Option Value)} {oc_offspring kV_offspring dc_offspring pm_offspring cd_offspring ct_offspring : Value}
    {od_classes an_classes : Option Addr} {sl_classes : Array (Option Value)} {oc_classes kV_classes dc_classes pm_classes cd_classes ct_classes : Value}
    {od__law_above an__law_above : Option Addr} {sl__law_above : Array (Option Value)} {oc__law_above kV__law_above dc__law_above pm__law_above cd__law_above ct__law_above : Value}
    {od__law_classes an__law_classes : Option Addr} {sl__law_classes : Array (Option Value)} {oc__law_classes kV__law_classes dc__law_classes pm__law_classes cd__law_classes ct__law_classes : Value}
    {od__law_tests an__law_tests : Option Addr} {sl__law_tests : Array (Option Value)} {oc__law_tests kV__law_tests dc__law_tests pm__law_tests cd__law_tests ct__law_tests : Value}
    {od__law_draw an__law_draw : Option Addr} {sl__law_draw : Array (Option Value)} {oc__law_draw kV__law_draw dc__law_draw pm__law_draw cd__law_draw ct__law_draw : Value}
    {od__law_skipped an__law_skipped : Option Addr} {sl__law_skipped : Array (Option Value)} {oc__law_skipped kV__law_skipped dc__law_skipped pm__law_skipped cd__law_skipped ct__law_skipped : Value}
    {od__law_word an__law_word : Option Addr} {sl__law_word : Array (Option Value)} {oc__law_word kV__law_word dc__law_word pm__law_word cd__law_word ct__law_word : Value}
    {od__law_history an__law_history : Option Addr} {sl__law_history : Array (Option Value)} {oc__law_history kV__law_history dc__law_history pm__law_history cd__law_history ct__law_history : Value}
    {od__law_cell an__law_cell : Option Addr} {sl__law_cell : Array (Option Value)} {oc__law_cell kV__law_cell dc__law_cell pm__law_cell cd__law_cell ct__law_cell : Value}
    {od__law_digits an__law_digits : Option Addr} {sl__law_digits : Array (Option Value)} {oc__law_digits kV__law_digits dc__law_digits pm__law_digits cd__law_digits ct__law_digits : Value}
    {od_law an_law : Option Addr} {sl_law : Array (Option Value)} {oc_law kV_law dc_law pm_law cd_law ct_law : Value}
    (a_ascends : PySem.W.nsIn K mainGlobals "ascends" = some (some (.ref f_ascends))) (l_ascends : K.lookup f_ascends = some ⟨oc_ascends, od_ascends, .func (PySem.W.fnOf "ascends" "ascends" (defArgs stm_ascends) (defBody stm_ascends) (defScope stm_ascends) .none kV_ascends dc_ascends pm_ascends an_ascends cd_ascends ct_ascends), sl_ascends⟩) (c_ascends : PySem.W.codeIn K cd_ascends "ascends" = true) (k_ascends : PySem.W.keepIn K (.ref f_ascends) = true)
    (a_is_integer : PySem.W.nsIn K mainGlobals "is_integer" = some (some (.ref f_is_integer))) (l_is_integer : K.lookup f_is_integer = some ⟨oc_is_integer, od_is_integer, .func (PySem.W.fnOf "is_integer" "is_integer" (defArgs stm_is_integer) (defBody stm_is_integer) (defScope stm_is_integer) .none kV_is_integer dc_is_integer pm_is_integer an_is_integer cd_is_integer ct_is_integer), sl_is_integer⟩) (c_is_integer : PySem.W.codeIn K cd_is_integer "is_integer" = true) (k_is_integer : PySem.W.keepIn K (.ref f_is_integer) = true)
    (a_are_integers : PySem.W.nsIn K mainGlobals "are_integers" = some (some (.ref f_are_integers))) (l_are_integers : K.lookup f_are_integers = some ⟨oc_are_integers, od_are_integers, .func (PySem.W.fnOf "are_integers" "are_integers" (defArgs stm_are_integers) (defBody stm_are_integers) (defScope stm_are_integers) .none kV_are_integers dc_are_integers pm_are_integers an_are_integers cd_are_integers ct_are_integers), sl_are_integers⟩) (c_are_integers : PySem.W.codeIn K cd_are_integers "are_integers" = true) (k_are_integers : PySem.W.keepIn K (.ref f_are_integers) = true)
    (a_check_skipped : PySem.W.nsIn K mainGlobals "check_skipped" = some (some (.ref f_check_skipped))) (l_check_skipped : K.lookup f_check_skipped = some ⟨oc_check_skipped, od_check_skipped, .func (PySem.W.fnOf "check_skipped" "check_skipped" (defArgs stm_check_skipped) (defBody stm_check_skipped) (defScope stm_check_skipped) .none kV_check_skipped dc_check_skipped pm_check_skipped an_check_skipped cd_check_skipped ct_check_skipped), sl_check_skipped⟩) (c_check_skipped : PySem.W.codeIn K cd_check_skipped "check_skipped" = true) (k_check_skipped : PySem.W.keepIn K (.ref f_check_skipped) = true)
    (a__law_same : PySem.W.nsIn K mainGlobals "_law_same" = some (some (.ref f__law_same))) (l__law_same : K.lookup f__law_same = some ⟨oc__law_same, od__law_same, .func (PySem.W.fnOf "_law_same" "_law_same" (defArgs stm__law_same) (defBody stm__law_same) (defScope stm__law_same) .none kV__law_same dc__law_same pm__law_same an__law_same cd__law_same ct__law_same), sl__law_same⟩) (c__law_same : PySem.W.codeIn K cd__law_same "_law_same" = true) (k__law_same : PySem.W.keepIn K (.ref f__law_same) = true)
    (a_tests : PySem.W.nsIn K mainGlobals "tests" = some (some (.ref f_tests))) (l_tests : K.lookup f_tests = some ⟨oc_tests, od_tests, .func (PySem.W.fnOf "tests" "tests" (defArgs stm_tests) (defBody stm_tests) (defScope stm_tests) .none kV_tests dc_tests pm_tests an_tests cd_tests ct_tests), sl_tests⟩) (c_tests : PySem.W.codeIn K cd_tests "tests" = true) (k_tests : PySem.W.keepIn K (.ref f_tests) = true)
    (a_offspring : PySem.W.nsIn K mainGlobals "offspring" = some (some (.ref f_offspring))) (l_offspring : K.lookup f_offspring = some ⟨oc_offspring, od_offspring, .func (PySem.W.fnOf "offspring" "offspring" (defArgs stm_offspring) (defBody stm_offspring) (defScope stm_offspring) .none kV_offspring dc_offspring pm_offspring an_offspring cd_offspring ct_offspring), sl_offspring⟩) (c_offspring : PySem.W.codeIn K cd_offspring "offspring" = true) (k_offspring : PySem.W.keepIn K (.ref f_offspring) = true)
    (a_classes : PySem.W.nsIn K mainGlobals "classes" = some (some (.ref f_classes))) (l_classes : K.lookup f_classes = some ⟨oc_classes, od_classes, .func (PySem.W.fnOf "classes" "classes" (defArgs stm_classes) (defBody stm_classes) (defScope stm_classes) .none kV_classes dc_classes pm_classes an_classes cd_classes ct_classes), sl_classes⟩) (c_classes : PySem.W.codeIn K cd_classes "classes" = true) (k_classes : PySem.W.keepIn K (.ref f_classes) = true)
    (a__law_above : PySem.W.nsIn K mainGlobals "_law_above" = some (some (.ref f__law_above))) (l__law_above : K.lookup f__law_above = some ⟨oc__law_above, od__law_above, .func (PySem.W.fnOf "_law_above" "_law_above" (defArgs stm__law_above) (defBody stm__law_above) (defScope stm__law_above) .none kV__law_above dc__law_above pm__law_above an__law_above cd__law_above ct__law_above), sl__law_above⟩) (c__law_above : PySem.W.codeIn K cd__law_above "_law_above" = true) (k__law_above : PySem.W.keepIn K (.ref f__law_above) = true)
    (a__law_classes : PySem.W.nsIn K mainGlobals "_law_classes" = some (some (.ref f__law_classes))) (l__law_classes : K.lookup f__law_classes = some ⟨oc__law_classes, od__law_classes, .func (PySem.W.fnOf "_law_classes" "_law_classes" (defArgs stm__law_classes) (defBody stm__law_classes) (defScope stm__law_classes) .none kV__law_classes dc__law_classes pm__law_classes an__law_classes cd__law_classes ct__law_classes), sl__law_classes⟩) (c__law_classes : PySem.W.codeIn K cd__law_classes "_law_classes" = true) (k__law_classes : PySem.W.keepIn K (.ref f__law_classes) = true)
    (a__law_tests : PySem.W.nsIn K mainGlobals "_law_tests" = some (some (.ref f__law_tests))) (l__law_tests : K.lookup f__law_tests = some ⟨oc__law_tests, od__law_tests, .func (PySem.W.fnOf "_law_tests" "_law_tests" (defArgs stm__law_tests) (defBody stm__law_tests) (defScope stm__law_tests) .none kV__law_tests dc__law_tests pm__law_tests an__law_tests cd__law_tests ct__law_tests), sl__law_tests⟩) (c__law_tests : PySem.W.codeIn K cd__law_tests "_law_tests" = true) (k__law_tests : PySem.W.keepIn K (.ref f__law_tests) = true)
    (a__law_draw : PySem.W.nsIn K mainGlobals "_law_draw" = some (some (.ref f__law_draw))) (l__law_draw : K.lookup f__law_draw = some ⟨oc__law_draw, od__law_draw, .func (PySem.W.fnOf "_law_draw" "_law_draw" (defArgs stm__law_draw) (defBody stm__law_draw) (defScope stm__law_draw) .none kV__law_draw dc__law_draw pm__law_draw an__law_draw cd__law_draw ct__law_draw), sl__law_draw⟩) (c__law_draw : PySem.W.codeIn K cd__law_draw "_law_draw" = true) (k__law_draw : PySem.W.keepIn K (.ref f__law_draw) = true)
    (a__law_skipped : PySem.W.nsIn K mainGlobals "_law_skipped" = some (some (.ref f__law_skipped))) (l__law_skipped : K.lookup f__law_skipped = some ⟨oc__law_skipped, od__law_skipped, .func (PySem.W.fnOf "_law_skipped" "_law_skipped" (defArgs stm__law_skipped) (defBody stm__law_skipped) (defScope stm__law_skipped) .none kV__law_skipped dc__law_skipped pm__law_skipped an__law_skipped cd__law_skipped ct__law_skipped), sl__law_skipped⟩) (c__law_skipped : PySem.W.codeIn K cd__law_skipped "_law_skipped" = true) (k__law_skipped : PySem.W.keepIn K (.ref f__law_skipped) = true)
    (a__law_word : PySem.W.nsIn K mainGlobals "_law_word" = some (some (.ref f__law_word))) (l__law_word : K.lookup f__law_word = some ⟨oc__law_word, od__law_word, .func (PySem.W.fnOf "_law_word" "_law_word" (defArgs stm__law_word) (defBody stm__law_word) (defScope stm__law_word) .none kV__law_word dc__law_word pm__law_word an__law_word cd__law_word ct__law_word), sl__law_word⟩) (c__law_word : PySem.W.codeIn K cd__law_word "_law_word" = true) (k__law_word : PySem.W.keepIn K (.ref f__law_word) = true)
    (a__law_history : PySem.W.nsIn K mainGlobals "_law_history" = some (some (.ref f__law_history))) (l__law_history : K.lookup f__law_history = some ⟨oc__law_history, od__law_history, .func (PySem.W.fnOf "_law_history" "_law_history" (defArgs stm__law_history) (defBody stm__law_history) (defScope stm__law_history) .none kV__law_history dc__law_history pm__law_history an__law_history cd__law_history ct__law_history), sl__law_history⟩) (c__law_history : PySem.W.codeIn K cd__law_history "_law_history" = true) (k__law_history : PySem.W.keepIn K (.ref f__law_history) = true)
    (a__law_cell : PySem.W.nsIn K mainGlobals "_law_cell" = some (some (.ref f__law_cell))) (l__law_cell : K.lookup f__law_cell = some ⟨oc__law_cell, od__law_cell, .func (PySem.W.fnOf "_law_cell" "_law_cell" (defArgs stm__law_cell) (defBody stm__law_cell) (defScope stm__law_cell) .none kV__law_cell dc__law_cell pm__law_cell an__law_cell cd__law_cell ct__law_cell), sl__law_cell⟩) (c__law_cell : PySem.W.codeIn K cd__law_cell "_law_cell" = true) (k__law_cell : PySem.W.keepIn K (.ref f__law_cell) = true)
    (a__law_digits : PySem.W.nsIn K mainGlobals "_law_digits" = some (some (.ref f__law_digits))) (l__law_digits : K.lookup f__law_digits = some ⟨oc__law_digits, od__law_digits, .func (PySem.W.fnOf "_law_digits" "_law_digits" (defArgs stm__law_digits) (defBody stm__law_digits) (defScope stm__law_digits) .none kV__law_digits dc__law_digits pm__law_digits an__law_digits cd__law_digits ct__law_digits), sl__law_digits⟩) (c__law_digits : PySem.W.codeIn K cd__law_digits "_law_digits" = true) (k__law_digits : PySem.W.keepIn K (.ref f__law_digits) = true)
    (a_law : PySem.W.nsIn K mainGlobals "law" = some (some (.ref f_law))) (l_law : K.lookup f_law = some ⟨oc_law, od_law, .func (PySem.W.fnOf "law" "law" (defArgs stm_law) (defBody stm_law) (defScope stm_law) .none kV_law dc_law pm_law an_law cd_law ct_law), sl_law⟩) (c_law : PySem.W.codeIn K cd_law "law" = true) (k_law : PySem.W.keepIn K (.ref f_law) = true)
    (z_all : PySem.W.nsIn K mainGlobals "all" = some none) (z_any : PySem.W.nsIn K mainGlobals "any" = some none) (z_bool : PySem.W.nsIn K mainGlobals "bool" = some none) (z_enumerate : PySem.W.nsIn K mainGlobals "enumerate" = some none) (z_int : PySem.W.nsIn K mainGlobals "int" = some none) (z_isinstance : PySem.W.nsIn K mainGlobals "isinstance" = some none) (z_len : PySem.W.nsIn K mainGlobals "len" = some none) (z_list : PySem.W.nsIn K mainGlobals "list" = some none) (z_range : PySem.W.nsIn K mainGlobals "range" = some none) (z_repr : PySem.W.nsIn K mainGlobals "repr" = some none) (z_sorted : PySem.W.nsIn K mainGlobals "sorted" = some none) (z_tuple : PySem.W.nsIn K mainGlobals "tuple" = some none) (z_zip : PySem.W.nsIn K mainGlobals "zip" = some none) :
    ∃ fd : FuncData, (∀ (s : Shared) (v : Value), BindsTo s fd ⟨[v], []⟩ [("script", v)]) ∧ ∀ base : Heap, K.In base → base.Ns mainGlobals mg → FnG l.prog w K mg base CX0 4 fa fd ["script"] (spTop K K01.c_law) := by
  have e := hfa.symm.trans (PySem.W.mg_of X G a_law)
  cases e
  have F_ascends := fun_mk (st := stm_ascends) l_ascends c_ascends k_ascends
  have b_ascends := F_ascends.binds (ps := ["row"]) fun _ _ _ _ _ _ us hl => match us, hl with | [_], _ => rfl
  have g_ascends := PySem.W.mg_of X G a_ascends
  have F_is_integer := fun_mk (st := stm_is_integer) l_is_integer c_is_integer k_is_integer
  have b_is_integer := F_is_integer.binds (ps := ["thing"]) fun _ _ _ _ _ _ us hl => match us, hl with | [_], _ => rfl
  have g_is_integer := PySem.W.mg_of X G a_is_integer
  have F_are_integers := fun_mk (st := stm_are_integers) l_are_integers c_are_integers k_are_integers
  have b_are_integers := F_are_integers.binds (ps := ["thing"]) fun _ _ _ _ _ _ us hl => match us, hl with | [_], _ => rfl
  have g_are_integers := PySem.W.mg_of X G a_are_integers
  have F_check_skipped := fun_mk (st := stm_check_skipped) l_check_skipped c_check_skipped k_check_skipped
  have b_check_skipped := F_check_skipped.binds (ps := ["history", "skipped"]) fun _ _ _ _ _ _ us hl => match us, hl with | [_, _], _ => rfl
  have g_check_skipped := PySem.W.mg_of X G a_check_skipped
  have F__law_same := fun_mk (st := stm__law_same) l__law_same c__law_same k__law_same
  have b__law_same := F__law_same.binds (ps := ["actual", "due"]) fun _ _ _ _ _ _ us hl => match us, hl with | [_, _], _ => rfl
  have g__law_same := PySem.W.mg_of X G a__law_same
  have F_tests := fun_mk (st := stm_tests) l_tests c_tests k_tests
  have b_tests := F_tests.binds (ps := ["history", "skipped"]) fun _ _ _ _ _ _ us hl => match us, hl with | [_, _], _ => rfl
  have g_tests := PySem.W.mg_of X G a_tests
  have F_offspring := fun_mk (st := stm_offspring) l_offspring c_offspring k_offspring
  have b_offspring := F_offspring.binds (ps := ["history", "m"]) fun _ _ _ _ _ _ us hl => match us, hl with | [_, _], _ => rfl
  have g_offspring := PySem.W.mg_of X G a_offspring
  have F_classes := fun_mk (st := stm_classes) l_classes c_classes k_classes
  have b_classes := F_classes.binds (ps := ["history", "skipped"]) fun _ _ _ _ _ _ us hl => match us, hl with | [_, _], _ => rfl
  have g_classes := PySem.W.mg_of X G a_classes
  have F__law_above := fun_mk (st := stm__law_above) l__law_above c__law_above k__law_above
  have b__law_above := F__law_above.binds (ps := ["history", "m"]) fun _ _ _ _ _ _ us hl => match us, hl with | [_, _], _ => rfl
  have g__law_above := PySem.W.mg_of X G a__law_above
  have F__law_classes := fun_mk (st := stm__law_classes) l__law_classes c__law_classes k__law_classes
  have b__law_classes := F__law_classes.binds (ps := ["history", "skipped"]) fun _ _ _ _ _ _ us hl => match us, hl with | [_, _], _ => rfl
  have g__law_classes := PySem.W.mg_of X G a__law_classes
  have F__law_tests := fun_mk (st := stm__law_tests) l__law_tests c__law_tests k__law_tests
  have b__law_tests := F__law_tests.binds (ps := ["history", "skipped"]) fun _ _ _ _ _ _ us hl => match us, hl with | [_, _], _ => rfl
  have g__law_tests := PySem.W.mg_of X G a__law_tests
  have F__law_draw := fun_mk (st := stm__law_draw) l__law_draw c__law_draw k__law_draw
  have b__law_draw := F__law_draw.binds (ps := ["box", "many"]) fun _ _ _ _ _ _ us hl => match us, hl with | [_, _], _ => rfl
  have g__law_draw := PySem.W.mg_of X G a__law_draw
  have F__law_skipped := fun_mk (st := stm__law_skipped) l__law_skipped c__law_skipped k__law_skipped
  have b__law_skipped := F__law_skipped.binds (ps := ["box", "history"]) fun _ _ _ _ _ _ us hl => match us, hl with | [_, _], _ => rfl
  have g__law_skipped := PySem.W.mg_of X G a__law_skipped
  have F__law_word := fun_mk (st := stm__law_word) l__law_word c__law_word k__law_word
  have b__law_word := F__law_word.binds (ps := ["box", "k", "at"]) fun _ _ _ _ _ _ us hl => match us, hl with | [_, _, _], _ => rfl
  have g__law_word := PySem.W.mg_of X G a__law_word
  have F__law_history := fun_mk (st := stm__law_history) l__law_history c__law_history k__law_history
  have b__law_history := F__law_history.binds (ps := ["box", "most"]) fun _ _ _ _ _ _ us hl => match us, hl with | [_, _], _ => rfl
  have g__law_history := PySem.W.mg_of X G a__law_history
  have F__law_cell := fun_mk (st := stm__law_cell) l__law_cell c__law_cell k__law_cell
  have b__law_cell := F__law_cell.binds (ps := ["script", "k"]) fun _ _ _ _ _ _ us hl => match us, hl with | [_, _], _ => rfl
  have g__law_cell := PySem.W.mg_of X G a__law_cell
  have F__law_digits := fun_mk (st := stm__law_digits) l__law_digits c__law_digits k__law_digits
  have b__law_digits := F__law_digits.binds (ps := ["script", "first", "last"]) fun _ _ _ _ _ _ us hl => match us, hl with | [_, _, _], _ => rfl
  have g__law_digits := PySem.W.mg_of X G a__law_digits
  have F_law := fun_mk (st := stm_law) l_law c_law k_law
  have b_law := F_law.binds (ps := ["script"]) fun _ _ _ _ _ _ us hl => match us, hl with | [_], _ => rfl
  have y_all := PySem.W.mg_none_of X G z_all
  have y_any := PySem.W.mg_none_of X G z_any
  have y_bool := PySem.W.mg_none_of X G z_bool
  have y_enumerate := PySem.W.mg_none_of X G z_enumerate
  have y_int := PySem.W.mg_none_of X G z_int
  have y_isinstance := PySem.W.mg_none_of X G z_isinstance
  have y_len := PySem.W.mg_none_of X G z_len
  have y_list := PySem.W.mg_none_of X G z_list
  have y_range := PySem.W.mg_none_of X G z_range
  have y_repr := PySem.W.mg_none_of X G z_repr
  have y_sorted := PySem.W.mg_none_of X G z_sorted
  have y_tuple := PySem.W.mg_none_of X G z_tuple
  have y_zip := PySem.W.mg_none_of X G z_zip
  refine ⟨PySem.W.fnOf "law" "law" (defArgs stm_law) (defBody stm_law) (defScope stm_law) .none kV_law dc_law pm_law an_law cd_law ct_law, fun s v => .of_eq rfl, fun base _ _ => ?_⟩
  have G_ascends := ok_ascends (P := l.prog) (w := w) (K := K) (mg := mg) (base := base) F_ascends y_all y_zip
  have G_is_integer := ok_is_integer (P := l.prog) (w := w) (K := K) (mg := mg) (base := base) F_is_integer y_bool y_int y_isinstance
  have G_are_integers := ok_are_integers (P := l.prog) (w := w) (K := K) (mg := mg) (base := base) F_are_integers F_is_integer G_is_integer g_is_integer b_is_integer y_all y_isinstance y_tuple
  have G_check_skipped := ok_check_skipped (P := l.prog) (w := w) (K := K) (mg := mg) (base := base) F_check_skipped F_ascends G_ascends g_ascends b_ascends F_are_integers G_are_integers g_are_integers b_are_integers y_all y_len
  have G__law_same := ok__law_same (P := l.prog) (w := w) (K := K) (mg := mg) (base := base) F__law_same y_repr
  have G_tests := ok_tests (P := l.prog) (w := w) (K := K) (mg := mg) (base := base) F_tests y_len y_range y_tuple
  have G_offspring := ok_offspring (P := l.prog) (w := w) (K := K) (mg := mg) (base := base) F_offspring y_any y_enumerate y_tuple
  have G_classes := ok_classes (P := l.prog) (w := w) (K := K) (mg := mg) (base := base) F_classes F_offspring G_offspring g_offspring b_offspring y_len y_range y_tuple
  have G__law_above := ok__law_above (P := l.prog) (w := w) (K := K) (mg := mg) (base := base) F__law_above y_len y_range
  have G__law_classes := ok__law_classes (P := l.prog) (w := w) (K := K) (mg := mg) (base := base) F__law_classes F__law_above G__law_above g__law_above b__law_above y_len y_range y_tuple
  have G__law_tests := ok__law_tests (P := l.prog) (w := w) (K := K) (mg := mg) (base := base) F__law_tests F__law_above G__law_above g__law_above b__law_above F__law_classes G__law_classes g__law_classes b__law_classes y_len y_range y_tuple
  have G__law_draw := ok__law_draw (P := l.prog) (w := w) (K := K) (mg := mg) (base := base) F__law_draw y_int y_len
  have G__law_skipped := ok__law_skipped (P := l.prog) (w := w) (K := K) (mg := mg) (base := base) F__law_skipped F__law_draw G__law_draw g__law_draw b__law_draw y_len y_range y_tuple
  have G__law_word := ok__law_word (P := l.prog) (w := w) (K := K) (mg := mg) (base := base) F__law_word y_int
  have G__law_history := ok__law_history (P := l.prog) (w := w) (K := K) (mg := mg) (base := base) F__law_history F__law_word G__law_word g__law_word b__law_word F__law_draw G__law_draw g__law_draw b__law_draw y_int y_len y_range y_sorted y_tuple
  have G__law_cell := ok__law_cell (P := l.prog) (w := w) (K := K) (mg := mg) (base := base) F__law_cell y_len
  have G__law_digits := ok__law_digits (P := l.prog) (w := w) (K := K) (mg := mg) (base := base) F__law_digits F__law_cell G__law_cell g__law_cell b__law_cell y_int y_range
  have G_law := ok_law (P := l.prog) (w := w) (K := K) (mg := mg) (base := base) F_law F_check_skipped G_check_skipped g_check_skipped b_check_skipped F__law_same G__law_same g__law_same b__law_same F_tests G_tests g_tests b_tests F_classes G_classes g_classes b_classes F__law_tests G__law_tests g__law_tests b__law_tests F__law_classes G__law_classes g__law_classes b__law_classes F__law_skipped G__law_skipped g__law_skipped b__law_skipped F__law_history G__law_history g__law_history b__law_history F__law_digits G__law_digits g__law_digits b__law_digits y_len y_list y_range y_tuple
  exact fnG_top G_law
section
open Sp

theorem rgD_nd (k : Nat) : rgD 0 (k : Int) = nd (List.range k) := by
  unfold rgD nd
  rw [show ((k : Int) - 0).toNat = k by omega]
  apply List.map_congr_left
  intro i _
  rw [Int.zero_add]
theorem rg_ok (k : Nat) (h : k ≤ 1000) : RgOk 0 (k : Int) := RgOk.of_le (by omega) (by omega) (by omega) (by omega)
theorem nd_plain {l : List Nat} : ∀ d, d ∈ nd l → ∀ θ', Plain θ' d := fun d hd θ' => by
  obtain ⟨x, _, rfl⟩ := List.mem_map.mp hd
  exact .int _
theorem flat_plain {d : Dv} (h : isFlat d = true) (θ' : Th) : Plain θ' d := by
  cases d with
  | non => exact .non
  | bl b => exact .bl b
  | int i => exact .int i
  | str z => exact .str z
  | _ => cases h
theorem alls {ds : List Dv} (h : ds.all isFlat = true) : ∀ d, d ∈ ds → ∀ θ', Plain θ' d := fun d hd θ' => flat_plain (List.all_eq_true.mp h d hd) θ'
def rgK (Q : Int × Int → Th → Prop) : Dv → Th → Prop := fun x θ => match x with
  | .int n => Q (0, n) θ
  | _ => False
theorem x_mRg1 {a : ME} {ρ : DEnv} {E : Exn → Th → Prop} {θ : Th} {Q : Int × Int → Th → Prop} : mRg1 a ρ E θ Q = a ρ E θ (rgK Q) := by
  show (a ρ E θ fun x θ1 => _) = _
  congr 1
  funext x θ1
  unfold rgK
  cases x <;> rfl
theorem x_rgK {n : Int} {θ : Th} {Q : Int × Int → Th → Prop} : rgK Q (.int n) θ = Q (0, n) θ := (rfl)
theorem goal : ∀ ns : List Int, ns.length ≤ 63 → c_law [.scr ns] (fun _ _ => False) [] (fun d _ => d = .bl true) := by
  intro ns _
  unfold c_law m_law
  simp only [x_var0, x_varS, x_c, x_bin, x_un, x_and, x_or, x_andK, x_orK, x_not, x_if, x_tup, x_lst, x_sl, x_call, x_callU, x_mth, x_isi, x_chain, x_chK, x_k1, x_tupRg, x_lstRg, x_lc, x_addI, x_addS, x_addT, x_subI, x_mulI, x_fdiv, x_mod, x_pow, x_lt, x_le, x_gt, x_ge, x_eqI, x_eqB, x_eqS, x_neI, x_neB, x_isB, x_isnB, x_neg, x_int, x_intB, x_lenT, x_lenS, x_tupT, x_lstT, x_ixT, x_ixR, x_optW, x_nil, x_cons, x_bB, x_boolK, x_bAnd, x_bOr, x_bNot, x_bYes, x_pNo, x_pSo, x_part, x_rng1, x_rng2, x_rng3, x_rk1, x_rk2, x_rk3, x_srcEn, x_srcZp, x_ekT, x_zkT, x_srcV, x_srcT, x_seq, x_seqR, x_seqB, x_seqC, x_sNil, x_set, x_drop, x_ret, x_retN, x_sIf, x_brk, x_ct, x_put, x_for, x_def, x_defR, x_defN, x_ixP, x_ixL, x_lenP, x_lenL, x_tupP, x_tupL, x_tupKK, x_lstP, x_lstL, x_appP, x_appL, x_tyP, x_tyL, x_tyK, x_tyT, x_putP, x_putL, x_putI, x_putKK, x_srcP, x_srcL, List.map_cons, List.map_nil, List.replicate, List.cons_append, List.nil_append, List.set_cons_zero, List.set_cons_succ, wipeE]
  refine ⟨rfl, s_digits (a := 0) (b := 60) (by omega) (by omega) fun ds => ?_⟩
  refine ⟨by rw [sizeLine_eq]; simp, ?_⟩
  rw [x_seqN]
  simp only [x_var0, x_varS, x_c, x_bin, x_un, x_and, x_or, x_andK, x_orK, x_not, x_if, x_tup, x_lst, x_sl, x_call, x_callU, x_mth, x_isi, x_chain, x_chK, x_k1, x_tupRg, x_lstRg, x_lc, x_addI, x_addS, x_addT, x_subI, x_mulI, x_fdiv, x_mod, x_pow, x_lt, x_le, x_gt, x_ge, x_eqI, x_eqB, x_eqS, x_neI, x_neB, x_isB, x_isnB, x_neg, x_int, x_intB, x_lenT, x_lenS, x_tupT, x_lstT, x_ixT, x_ixR, x_optW, x_nil, x_cons, x_bB, x_boolK, x_bAnd, x_bOr, x_bNot, x_bYes, x_pNo, x_pSo, x_part, x_rng1, x_rng2, x_rng3, x_rk1, x_rk2, x_rk3, x_srcEn, x_srcZp, x_ekT, x_zkT, x_srcV, x_srcT, x_seq, x_seqR, x_seqB, x_seqC, x_sNil, x_set, x_drop, x_ret, x_retN, x_sIf, x_brk, x_ct, x_put, x_for, x_def, x_defR, x_defN, x_ixP, x_ixL, x_lenP, x_lenL, x_tupP, x_tupL, x_tupKK, x_lstP, x_lstL, x_appP, x_appL, x_tyP, x_tyL, x_tyK, x_tyT, x_putP, x_putL, x_putI, x_putKK, x_srcP, x_srcL, List.map_cons, List.map_nil, List.replicate, List.cons_append, List.nil_append, List.set_cons_zero, List.set_cons_succ, wipeE]
  refine ⟨⟨by omega, by omega⟩, ?_⟩
  refine for_rule 3 (fun i ρ θ => ∃ x2 x3 x4 x5 x6 x7 x8 x9 x10 a, ρ = [some (.scr ns), some (.obj 1), x2, x3, x4, x5, x6, x7, x8, x9, x10] ∧ θ = bx ds a) ⟨none, none, none, none, none, none, none, none, none, 0, rfl, rfl⟩ ?_ ?_
  · rintro turn ρ θ ht ⟨x2, x3, x4, x5, x6, x7, x8, x9, x10, a, rfl, rfl⟩
    refine ⟨_, _, rng_at ht, rfl, fun K LK => ?_⟩
    rw [x_cut]
    have fin : ∀ (a' : Nat) (g : Th) (y2 y3 y4 y5 y6 y7 y8 y9 y10 : Option Dv), outCut (bx ds a) K (.nx [some (.scr ns), some (.obj 1), y2, y3, y4, y5, y6, y7, y8, y9, y10]) (bx ds a' ++ g) := fun a' g y2 y3 y4 y5 y6 y7 y8 y9 y10 =>
      .inr ⟨_, bx ds a', g, [some (.scr ns), some (.obj 1), none, none, none, none, none, none, none, none, none], rfl, rfl, Nat.le_refl _, fun _ => bx_clo ds a', fun i d e => by
        match i, e with
        | 0, e => cases e; rfl
        | 1, e => cases e; rfl
        | i + 2, e =>
          have : ([none, none, none, none, none, none, none, none, none] : List (Option Dv))[i]? = some (some d) := e
          have h := List.mem_of_getElem? this
          simp at h, ⟨rfl, fun i d e => by
        match i, e with
        | 0, e => exact e
        | 1, e => exact e
        | i + 2, e =>
          have : ([none, none, none, none, none, none, none, none, none] : List (Option Dv))[i]? = some (some d) := e
          have h := List.mem_of_getElem? this
          simp at h⟩, LK.nx _ _ ⟨_, rfl, _, _, _, _, _, _, _, _, _, a', rfl, rfl⟩⟩
    generalize outCut (bx ds a) K = K' at fin
    simp only [x_var0, x_varS, x_c, x_bin, x_un, x_and, x_or, x_andK, x_orK, x_not, x_if, x_tup, x_lst, x_sl, x_call, x_callU, x_mth, x_isi, x_chain, x_chK, x_k1, x_tupRg, x_lstRg, x_lc, x_addI, x_addS, x_addT, x_subI, x_mulI, x_fdiv, x_mod, x_pow, x_lt, x_le, x_gt, x_ge, x_eqI, x_eqB, x_eqS, x_neI, x_neB, x_isB, x_isnB, x_neg, x_int, x_intB, x_lenT, x_lenS, x_tupT, x_lstT, x_ixT, x_ixR, x_optW, x_nil, x_cons, x_bB, x_boolK, x_bAnd, x_bOr, x_bNot, x_bYes, x_pNo, x_pSo, x_part, x_rng1, x_rng2, x_rng3, x_rk1, x_rk2, x_rk3, x_srcEn, x_srcZp, x_ekT, x_zkT, x_srcV, x_srcT, x_seq, x_seqR, x_seqB, x_seqC, x_sNil, x_set, x_drop, x_ret, x_retN, x_sIf, x_brk, x_ct, x_put, x_for, x_def, x_defR, x_defN, x_ixP, x_ixL, x_lenP, x_lenL, x_tupP, x_tupL, x_tupKK, x_lstP, x_lstL, x_appP, x_appL, x_tyP, x_tyL, x_tyK, x_tyT, x_putP, x_putL, x_putI, x_putKK, x_srcP, x_srcL, List.map_cons, List.map_nil, List.replicate, List.cons_append, List.nil_append, List.set_cons_zero, List.set_cons_succ, wipeE]
    refine ⟨rfl, s_history (most := 12) (by omega) (by omega) fun n P w a1 n0 n1 g2 _ => ?_⟩
    have ah := hist_ahead (w := w) g2
    have pl := hist_pl (w := w) g2
    have la := hist_last (w := w) g2
    have hn : (hist n P w).length = n := hist_len
    generalize hist n P w = h at ah pl la hn
    rw [x_seqN]
    simp only [x_var0, x_varS, x_c, x_bin, x_un, x_and, x_or, x_andK, x_orK, x_not, x_if, x_tup, x_lst, x_sl, x_call, x_callU, x_mth, x_isi, x_chain, x_chK, x_k1, x_tupRg, x_lstRg, x_lc, x_addI, x_addS, x_addT, x_subI, x_mulI, x_fdiv, x_mod, x_pow, x_lt, x_le, x_gt, x_ge, x_eqI, x_eqB, x_eqS, x_neI, x_neB, x_isB, x_isnB, x_neg, x_int, x_intB, x_lenT, x_lenS, x_tupT, x_lstT, x_ixT, x_ixR, x_optW, x_nil, x_cons, x_bB, x_boolK, x_bAnd, x_bOr, x_bNot, x_bYes, x_pNo, x_pSo, x_part, x_rng1, x_rng2, x_rng3, x_rk1, x_rk2, x_rk3, x_srcEn, x_srcZp, x_ekT, x_zkT, x_srcV, x_srcT, x_seq, x_seqR, x_seqB, x_seqC, x_sNil, x_set, x_drop, x_ret, x_retN, x_sIf, x_brk, x_ct, x_put, x_for, x_def, x_defR, x_defN, x_ixP, x_ixL, x_lenP, x_lenL, x_tupP, x_tupL, x_tupKK, x_lstP, x_lstL, x_appP, x_appL, x_tyP, x_tyL, x_tyK, x_tyT, x_putP, x_putL, x_putI, x_putKK, x_srcP, x_srcL, List.map_cons, List.map_nil, List.replicate, List.cons_append, List.nil_append, List.set_cons_zero, List.set_cons_succ, wipeE, x_h1, List.length_map]
    rw [x_seqN]
    simp only [x_var0, x_varS, x_c, x_bin, x_un, x_and, x_or, x_andK, x_orK, x_not, x_if, x_tup, x_lst, x_sl, x_call, x_callU, x_mth, x_isi, x_chain, x_chK, x_k1, x_tupRg, x_lstRg, x_lc, x_addI, x_addS, x_addT, x_subI, x_mulI, x_fdiv, x_mod, x_pow, x_lt, x_le, x_gt, x_ge, x_eqI, x_eqB, x_eqS, x_neI, x_neB, x_isB, x_isnB, x_neg, x_int, x_intB, x_lenT, x_lenS, x_tupT, x_lstT, x_ixT, x_ixR, x_optW, x_nil, x_cons, x_bB, x_boolK, x_bAnd, x_bOr, x_bNot, x_bYes, x_pNo, x_pSo, x_part, x_rng1, x_rng2, x_rng3, x_rk1, x_rk2, x_rk3, x_srcEn, x_srcZp, x_ekT, x_zkT, x_srcV, x_srcT, x_seq, x_seqR, x_seqB, x_seqC, x_sNil, x_set, x_drop, x_ret, x_retN, x_sIf, x_brk, x_ct, x_put, x_for, x_def, x_defR, x_defN, x_ixP, x_ixL, x_lenP, x_lenL, x_tupP, x_tupL, x_tupKK, x_lstP, x_lstL, x_appP, x_appL, x_tyP, x_tyL, x_tyK, x_tyT, x_putP, x_putL, x_putI, x_putKK, x_srcP, x_srcL, List.map_cons, List.map_nil, List.replicate, List.cons_append, List.nil_append, List.set_cons_zero, List.set_cons_succ, wipeE]
    refine ⟨rfl, s_skipped (by omega) fun p a2 => ?_⟩
    generalize hsk : (List.range h.length).filter p = sk
    rw [x_seqN]
    simp only [x_var0, x_varS, x_c, x_bin, x_un, x_and, x_or, x_andK, x_orK, x_not, x_if, x_tup, x_lst, x_sl, x_call, x_callU, x_mth, x_isi, x_chain, x_chK, x_k1, x_tupRg, x_lstRg, x_lc, x_addI, x_addS, x_addT, x_subI, x_mulI, x_fdiv, x_mod, x_pow, x_lt, x_le, x_gt, x_ge, x_eqI, x_eqB, x_eqS, x_neI, x_neB, x_isB, x_isnB, x_neg, x_int, x_intB, x_lenT, x_lenS, x_tupT, x_lstT, x_ixT, x_ixR, x_optW, x_nil, x_cons, x_bB, x_boolK, x_bAnd, x_bOr, x_bNot, x_bYes, x_pNo, x_pSo, x_part, x_rng1, x_rng2, x_rng3, x_rk1, x_rk2, x_rk3, x_srcEn, x_srcZp, x_ekT, x_zkT, x_srcV, x_srcT, x_seq, x_seqR, x_seqB, x_seqC, x_sNil, x_set, x_drop, x_ret, x_retN, x_sIf, x_brk, x_ct, x_put, x_for, x_def, x_defR, x_defN, x_ixP, x_ixL, x_lenP, x_lenL, x_tupP, x_tupL, x_tupKK, x_lstP, x_lstL, x_appP, x_appL, x_tyP, x_tyL, x_tyK, x_tyT, x_putP, x_putL, x_putI, x_putKK, x_srcP, x_srcL, List.map_cons, List.map_nil, List.replicate, List.cons_append, List.nil_append, List.set_cons_zero, List.set_cons_succ, wipeE]
    have hl : h.length ≤ 1000 := by omega
    have hw : ∀ k, (par h k).length ≤ 1000 := fun k => by have := pl k; omega
    have hr : ∀ j, j < h.length → Anc h (h.length - 1) j := fun j hj => by rw [hn]; exact la (n - 1 - j) j (by omega)
    have sm : ∀ tl : Nat → List Nat, ∀ q, q ∈ cls tl h.length → Small q ∧ q.length ≤ 100 := fun tl q hq => ⟨fun x hx => by have := cls_mem tl _ q hq x hx; omega, by have := cls_part tl _ q hq; omega⟩
    have sl : ∀ tl : Nat → List Nat, (cls tl h.length).length ≤ 100 := fun tl => by have := cls_len tl h.length; omega
    have fl : ∀ (m : Nat) (f : Nat → Bool), m ≤ 12 → Small ((List.range m).filter f) ∧ ((List.range m).filter f).length ≤ 1000 := fun m f hm => ⟨fun x hx => by have := List.mem_range.mp (List.mem_filter.mp hx).1; omega, by have := List.length_filter_le f (List.range m); rw [List.length_range] at this; omega⟩
    refine ⟨rfl, s_classes ah hl hw ⟨rfl, s_lclasses ah hl ⟨rfl, same_rows (sm _) (sl _) ?_⟩⟩⟩
    rw [x_boolK, Bool.not_true, if_neg Bool.false_ne_true, x_seqN]
    simp only [x_var0, x_varS, x_c, x_bin, x_un, x_and, x_or, x_andK, x_orK, x_not, x_if, x_tup, x_lst, x_sl, x_call, x_callU, x_mth, x_isi, x_chain, x_chK, x_k1, x_tupRg, x_lstRg, x_lc, x_addI, x_addS, x_addT, x_subI, x_mulI, x_fdiv, x_mod, x_pow, x_lt, x_le, x_gt, x_ge, x_eqI, x_eqB, x_eqS, x_neI, x_neB, x_isB, x_isnB, x_neg, x_int, x_intB, x_lenT, x_lenS, x_tupT, x_lstT, x_ixT, x_ixR, x_optW, x_nil, x_cons, x_bB, x_boolK, x_bAnd, x_bOr, x_bNot, x_bYes, x_pNo, x_pSo, x_part, x_rng1, x_rng2, x_rng3, x_rk1, x_rk2, x_rk3, x_srcEn, x_srcZp, x_ekT, x_zkT, x_srcV, x_srcT, x_seq, x_seqR, x_seqB, x_seqC, x_sNil, x_set, x_drop, x_ret, x_retN, x_sIf, x_brk, x_ct, x_put, x_for, x_def, x_defR, x_defN, x_ixP, x_ixL, x_lenP, x_lenL, x_tupP, x_tupL, x_tupKK, x_lstP, x_lstL, x_appP, x_appL, x_tyP, x_tyL, x_tyK, x_tyT, x_putP, x_putL, x_putI, x_putKK, x_srcP, x_srcL, List.map_cons, List.map_nil, List.replicate, List.cons_append, List.nil_append, List.set_cons_zero, List.set_cons_succ, wipeE]
    refine ⟨rfl, s_tests hl ⟨rfl, s_ltests ah hl hr ⟨rfl, same_nd (fl _ _ (by omega)).1 (fl _ _ (by omega)).2 ?_⟩⟩⟩
    rw [x_boolK, Bool.not_true, if_neg Bool.false_ne_true, x_seqN]
    simp only [x_var0, x_varS, x_c, x_bin, x_un, x_and, x_or, x_andK, x_orK, x_not, x_if, x_tup, x_lst, x_sl, x_call, x_callU, x_mth, x_isi, x_chain, x_chK, x_k1, x_tupRg, x_lstRg, x_lc, x_addI, x_addS, x_addT, x_subI, x_mulI, x_fdiv, x_mod, x_pow, x_lt, x_le, x_gt, x_ge, x_eqI, x_eqB, x_eqS, x_neI, x_neB, x_isB, x_isnB, x_neg, x_int, x_intB, x_lenT, x_lenS, x_tupT, x_lstT, x_ixT, x_ixR, x_optW, x_nil, x_cons, x_bB, x_boolK, x_bAnd, x_bOr, x_bNot, x_bYes, x_pNo, x_pSo, x_part, x_rng1, x_rng2, x_rng3, x_rk1, x_rk2, x_rk3, x_srcEn, x_srcZp, x_ekT, x_zkT, x_srcV, x_srcT, x_seq, x_seqR, x_seqB, x_seqC, x_sNil, x_set, x_drop, x_ret, x_retN, x_sIf, x_brk, x_ct, x_put, x_for, x_def, x_defR, x_defN, x_ixP, x_ixL, x_lenP, x_lenL, x_tupP, x_tupL, x_tupKK, x_lstP, x_lstL, x_appP, x_appL, x_tyP, x_tyL, x_tyK, x_tyT, x_putP, x_putL, x_putI, x_putKK, x_srcP, x_srcL, List.map_cons, List.map_nil, List.replicate, List.cons_append, List.nil_append, List.set_cons_zero, List.set_cons_succ, wipeE]
    refine ⟨by rw [sizeLine_eq]; simp, rfl, s_classes (sk := []) ah hl hw ⟨⟨by omega, by omega⟩, ?_⟩⟩
    rw [show ((h.length : Nat) : Int).toNat = h.length from rfl]
    refine lc_pure h.length (fun _ => true) (fun c => .tup (nd [c])) (by rw [sizeLine_eq]; omega) ?_ ?_ ?_
    · intro i acc g hi
      have e : (0 : Int) + (i : Nat) * 1 = ((i : Nat) : Int) := by omega
      refine ⟨.int (i : Nat), _, by rw [rng_at hi, e], rfl, fun K2 hK => ?_⟩
      simp only [x_var0, x_varS, x_c, x_bin, x_un, x_and, x_or, x_andK, x_orK, x_not, x_if, x_tup, x_lst, x_sl, x_call, x_callU, x_mth, x_isi, x_chain, x_chK, x_k1, x_tupRg, x_lstRg, x_lc, x_addI, x_addS, x_addT, x_subI, x_mulI, x_fdiv, x_mod, x_pow, x_lt, x_le, x_gt, x_ge, x_eqI, x_eqB, x_eqS, x_neI, x_neB, x_isB, x_isnB, x_neg, x_int, x_intB, x_lenT, x_lenS, x_tupT, x_lstT, x_ixT, x_ixR, x_optW, x_nil, x_cons, x_bB, x_boolK, x_bAnd, x_bOr, x_bNot, x_bYes, x_pNo, x_pSo, x_part, x_rng1, x_rng2, x_rng3, x_rk1, x_rk2, x_rk3, x_srcEn, x_srcZp, x_ekT, x_zkT, x_srcV, x_srcT, x_seq, x_seqN, x_seqR, x_seqB, x_seqC, x_sNil, x_set, x_drop, x_ret, x_retN, x_sIf, x_brk, x_ct, x_put, x_for, x_def, x_defR, x_defN, x_ixP, x_ixL, x_lenP, x_lenL, x_tupP, x_tupL, x_tupKK, x_lstP, x_lstL, x_appP, x_appL, x_tyP, x_tyL, x_tyK, x_tyT, x_putP, x_putL, x_putI, x_putKK, x_srcP, x_srcL, List.map_cons, List.map_nil, List.replicate, List.cons_append, List.nil_append, List.set_cons_zero, List.set_cons_succ]
      refine hK g fun _ K3 h3 => ?_
      simp only [x_var0, x_varS, x_c, x_bin, x_un, x_and, x_or, x_andK, x_orK, x_not, x_if, x_tup, x_lst, x_sl, x_call, x_callU, x_mth, x_isi, x_chain, x_chK, x_k1, x_tupRg, x_lstRg, x_lc, x_addI, x_addS, x_addT, x_subI, x_mulI, x_fdiv, x_mod, x_pow, x_lt, x_le, x_gt, x_ge, x_eqI, x_eqB, x_eqS, x_neI, x_neB, x_isB, x_isnB, x_neg, x_int, x_intB, x_lenT, x_lenS, x_tupT, x_lstT, x_ixT, x_ixR, x_optW, x_nil, x_cons, x_bB, x_boolK, x_bAnd, x_bOr, x_bNot, x_bYes, x_pNo, x_pSo, x_part, x_rng1, x_rng2, x_rng3, x_rk1, x_rk2, x_rk3, x_srcEn, x_srcZp, x_ekT, x_zkT, x_srcV, x_srcT, x_seq, x_seqN, x_seqR, x_seqB, x_seqC, x_sNil, x_set, x_drop, x_ret, x_retN, x_sIf, x_brk, x_ct, x_put, x_for, x_def, x_defR, x_defN, x_ixP, x_ixL, x_lenP, x_lenL, x_tupP, x_tupL, x_tupKK, x_lstP, x_lstL, x_appP, x_appL, x_tyP, x_tyL, x_tyK, x_tyT, x_putP, x_putL, x_putI, x_putKK, x_srcP, x_srcL, List.map_cons, List.map_nil, List.replicate, List.cons_append, List.nil_append, List.set_cons_zero, List.set_cons_succ]
      exact ⟨by rw [sizeLine_eq]; simp, h3 g⟩
    · intro acc g
      exact rng_end
    · intro g
      rw [th_mid, x_tupL, List.filter_eq_self.mpr fun _ _ => rfl]
      have er : Dv.tup ((List.range h.length).map fun c => .tup (nd [c])) = rows (cls (tell h []) h.length) := by
        rw [cls_nil ah]
        unfold rows
        rw [List.map_map]
        rfl
      rw [er]
      generalize (Ob.lst ((List.range h.length).map fun c => Dv.tup (nd [c])) :: g) = G1
      refine ⟨rfl, same_rows (sm _) (sl _) ?_⟩
      rw [x_boolK, Bool.not_true, if_neg Bool.false_ne_true]
      refine ⟨by rw [sizeLine_eq]; simp, rfl, s_tests (sk := []) hl ?_⟩
      have e1 : ((h.length : Int) - 1) = ((h.length - 1 : Nat) : Int) := by omega
      simp only [x_var0, x_varS, x_c, x_bin, x_un, x_and, x_or, x_andK, x_orK, x_not, x_if, x_tup, x_lst, x_sl, x_call, x_callU, x_mth, x_isi, x_chain, x_chK, x_k1, x_tupRg, x_lstRg, x_lc, x_addI, x_addS, x_addT, x_subI, x_mulI, x_fdiv, x_mod, x_pow, x_lt, x_le, x_gt, x_ge, x_eqI, x_eqB, x_eqS, x_neI, x_neB, x_isB, x_isnB, x_neg, x_int, x_intB, x_lenT, x_lenS, x_tupT, x_lstT, x_ixT, x_ixR, x_optW, x_nil, x_cons, x_bB, x_boolK, x_bAnd, x_bOr, x_bNot, x_bYes, x_pNo, x_pSo, x_part, x_rng1, x_rng2, x_rng3, x_rk1, x_rk2, x_rk3, x_srcEn, x_srcZp, x_ekT, x_zkT, x_srcV, x_srcT, x_seq, x_seqR, x_seqB, x_seqC, x_sNil, x_set, x_drop, x_ret, x_retN, x_sIf, x_brk, x_ct, x_put, x_for, x_def, x_defR, x_defN, x_ixP, x_ixL, x_lenP, x_lenL, x_tupP, x_tupL, x_tupKK, x_lstP, x_lstL, x_appP, x_appL, x_tyP, x_tyL, x_tyK, x_tyT, x_putP, x_putL, x_putI, x_putKK, x_srcP, x_srcL, List.map_cons, List.map_nil, List.replicate, List.cons_append, List.nil_append, List.set_cons_zero, List.set_cons_succ, x_mRg1, x_rgK, e1, rgD_nd]
      refine ⟨rg_ok _ (by omega), rfl, ?_⟩
      have e2 : (List.range (h.length - 1)).filter (fun m => !decide (m ∈ ([] : List Nat))) = List.range (h.length - 1) := List.filter_eq_self.mpr fun _ _ => by simp
      rw [e2]
      refine same_nd (fun x hx => by have := List.mem_range.mp hx; omega) (by rw [List.length_range]; omega) ?_
      rw [x_boolK, Bool.not_true, if_neg Bool.false_ne_true, x_seqN]
      simp only [x_var0, x_varS, x_c, x_bin, x_un, x_and, x_or, x_andK, x_orK, x_not, x_if, x_tup, x_lst, x_sl, x_call, x_callU, x_mth, x_isi, x_chain, x_chK, x_k1, x_tupRg, x_lstRg, x_lc, x_addI, x_addS, x_addT, x_subI, x_mulI, x_fdiv, x_mod, x_pow, x_lt, x_le, x_gt, x_ge, x_eqI, x_eqB, x_eqS, x_neI, x_neB, x_isB, x_isnB, x_neg, x_int, x_intB, x_lenT, x_lenS, x_tupT, x_lstT, x_ixT, x_ixR, x_optW, x_nil, x_cons, x_bB, x_boolK, x_bAnd, x_bOr, x_bNot, x_bYes, x_pNo, x_pSo, x_part, x_rng1, x_rng2, x_rng3, x_rk1, x_rk2, x_rk3, x_srcEn, x_srcZp, x_ekT, x_zkT, x_srcV, x_srcT, x_seq, x_seqR, x_seqB, x_seqC, x_sNil, x_set, x_drop, x_ret, x_retN, x_sIf, x_brk, x_ct, x_put, x_for, x_def, x_defR, x_defN, x_ixP, x_ixL, x_lenP, x_lenL, x_tupP, x_tupL, x_tupKK, x_lstP, x_lstL, x_appP, x_appL, x_tyP, x_tyL, x_tyK, x_tyT, x_putP, x_putL, x_putI, x_putKK, x_srcP, x_srcL, List.map_cons, List.map_nil, List.replicate, List.cons_append, List.nil_append, List.set_cons_zero, List.set_cons_succ, x_mRg1, x_rgK, rgD_nd]
      refine ⟨rg_ok _ hl, ?_⟩
      rw [x_seqN]
      simp only [x_var0, x_varS, x_c, x_bin, x_un, x_and, x_or, x_andK, x_orK, x_not, x_if, x_tup, x_lst, x_sl, x_call, x_callU, x_mth, x_isi, x_chain, x_chK, x_k1, x_tupRg, x_lstRg, x_lc, x_addI, x_addS, x_addT, x_subI, x_mulI, x_fdiv, x_mod, x_pow, x_lt, x_le, x_gt, x_ge, x_eqI, x_eqB, x_eqS, x_neI, x_neB, x_isB, x_isnB, x_neg, x_int, x_intB, x_lenT, x_lenS, x_tupT, x_lstT, x_ixT, x_ixR, x_optW, x_nil, x_cons, x_bB, x_boolK, x_bAnd, x_bOr, x_bNot, x_bYes, x_pNo, x_pSo, x_part, x_rng1, x_rng2, x_rng3, x_rk1, x_rk2, x_rk3, x_srcEn, x_srcZp, x_ekT, x_zkT, x_srcV, x_srcT, x_seq, x_seqR, x_seqB, x_seqC, x_sNil, x_set, x_drop, x_ret, x_retN, x_sIf, x_brk, x_ct, x_put, x_for, x_def, x_defR, x_defN, x_ixP, x_ixL, x_lenP, x_lenL, x_tupP, x_tupL, x_tupKK, x_lstP, x_lstL, x_appP, x_appL, x_tyP, x_tyL, x_tyK, x_tyT, x_putP, x_putL, x_putI, x_putKK, x_srcP, x_srcL, List.map_cons, List.map_nil, List.replicate, List.cons_append, List.nil_append, List.set_cons_zero, List.set_cons_succ, wipeE]
      refine ⟨rfl, s_classes ah hl hw ⟨by rw [sizeLine_eq]; simp, rfl, ?_⟩⟩
      have e3 : Dv.tup [.tup (nd (List.range h.length))] = rows (cls (tell h (List.range h.length)) h.length) := by
        rw [cls_all (by omega)]
        rfl
      rw [e3]
      refine same_rows (sm _) (sl _) ?_
      rw [x_boolK, Bool.not_true, if_neg Bool.false_ne_true]
      refine ⟨rfl, s_tests hl ⟨by rw [sizeLine_eq]; simp, rfl, ?_⟩⟩
      have e4 : (List.range (h.length - 1)).filter (fun m => !decide (m ∈ List.range h.length)) = [] := by
        rw [List.filter_eq_nil_iff]
        intro x hx
        have := List.mem_range.mp hx
        simp
        omega
      rw [e4]
      refine same_nd (l := []) (fun x hx => by cases hx) (by simp) ?_
      rw [x_boolK, Bool.not_true, if_neg Bool.false_ne_true, x_seqN]
      simp only [x_var0, x_varS, x_c, x_bin, x_un, x_and, x_or, x_andK, x_orK, x_not, x_if, x_tup, x_lst, x_sl, x_call, x_callU, x_mth, x_isi, x_chain, x_chK, x_k1, x_tupRg, x_lstRg, x_lc, x_addI, x_addS, x_addT, x_subI, x_mulI, x_fdiv, x_mod, x_pow, x_lt, x_le, x_gt, x_ge, x_eqI, x_eqB, x_eqS, x_neI, x_neB, x_isB, x_isnB, x_neg, x_int, x_intB, x_lenT, x_lenS, x_tupT, x_lstT, x_ixT, x_ixR, x_optW, x_nil, x_cons, x_bB, x_boolK, x_bAnd, x_bOr, x_bNot, x_bYes, x_pNo, x_pSo, x_part, x_rng1, x_rng2, x_rng3, x_rk1, x_rk2, x_rk3, x_srcEn, x_srcZp, x_ekT, x_zkT, x_srcV, x_srcT, x_seq, x_seqR, x_seqB, x_seqC, x_sNil, x_set, x_drop, x_ret, x_retN, x_sIf, x_brk, x_ct, x_put, x_for, x_def, x_defR, x_defN, x_ixP, x_ixL, x_lenP, x_lenL, x_tupP, x_tupL, x_tupKK, x_lstP, x_lstL, x_appP, x_appL, x_tyP, x_tyL, x_tyK, x_tyT, x_putP, x_putL, x_putI, x_putKK, x_srcP, x_srcL, List.map_cons, List.map_nil, List.replicate, List.cons_append, List.nil_append, List.set_cons_zero, List.set_cons_succ, wipeE]
      refine ⟨by simp, by rw [sizeLine_eq]; simp, ?_⟩
      rw [th_last, x_srcL]
      have ckw : ckS h.length (nd (List.range h.length)) = true := by
        have := ck_right (n := h.length) (p := fun _ => true)
        rw [List.filter_eq_self.mpr fun _ _ => rfl] at this
        exact this
      have cks : ckS h.length (nd sk) = true := by rw [← hsk]; exact ck_right
      have sll : sk.length ≤ 12 := by
        rw [← hsk]
        have := List.length_filter_le p (List.range h.length)
        rw [List.length_range] at this
        omega
      rw [List.append_assoc]
      have hk : (bx ds a2 ++ (G1 ++ [Ob.lst [.tup [], .tup (nd sk), .tup (nd (List.range h.length))]]))[(bx ds a2 ++ G1).length]? = some (.lst [.tup [], .tup (nd sk), .tup (nd (List.range h.length))]) := by
        rw [← List.append_assoc]
        exact th_last
      generalize (G1 ++ [Ob.lst [.tup [], .tup (nd sk), .tup (nd (List.range h.length))]]) = G2 at hk
      generalize (bx ds a2 ++ G1).length = k at hk
      refine for_rule 3 (fun i ρ θ => ∃ y8, ρ = [some (.scr ns), some (.obj 1), some (.int (0 + (turn : Int) * 1)), some (hD h), some (.int h.length), some (.tup (nd sk)), x6, some (.tup (nd (List.range h.length))), y8, x9, x10] ∧ θ = bx ds a2 ++ G2) ⟨x8, rfl, rfl⟩ ?_ ?_
      · rintro i ρ θ hi ⟨y8, rfl, rfl⟩
        have item : ∃ l, ([.tup [], .tup (nd sk), .tup (nd (List.range h.length))] : List Dv)[i]? = some (.tup (nd l)) ∧ ckS h.length (nd l) = true ∧ l.length ≤ 1000 := by
          match i, hi with
          | 0, _ => exact ⟨[], rfl, rfl, by simp⟩
          | 1, _ => exact ⟨sk, rfl, cks, by omega⟩
          | 2, _ => exact ⟨_, rfl, ckw, by rw [List.length_range]; omega⟩
        obtain ⟨l, il, ck, ll⟩ := item
        refine ⟨_, _, sdL_at hk il, rfl, fun K2 LK2 => ?_⟩
        rw [x_cut]
        simp only [x_var0, x_varS, x_c, x_bin, x_un, x_and, x_or, x_andK, x_orK, x_not, x_if, x_tup, x_lst, x_sl, x_call, x_callU, x_mth, x_isi, x_chain, x_chK, x_k1, x_tupRg, x_lstRg, x_lc, x_addI, x_addS, x_addT, x_subI, x_mulI, x_fdiv, x_mod, x_pow, x_lt, x_le, x_gt, x_ge, x_eqI, x_eqB, x_eqS, x_neI, x_neB, x_isB, x_isnB, x_neg, x_int, x_intB, x_lenT, x_lenS, x_tupT, x_lstT, x_ixT, x_ixR, x_optW, x_nil, x_cons, x_bB, x_boolK, x_bAnd, x_bOr, x_bNot, x_bYes, x_pNo, x_pSo, x_part, x_rng1, x_rng2, x_rng3, x_rk1, x_rk2, x_rk3, x_srcEn, x_srcZp, x_ekT, x_zkT, x_srcV, x_srcT, x_seq, x_seqR, x_seqB, x_seqC, x_sNil, x_set, x_drop, x_ret, x_retN, x_sIf, x_brk, x_ct, x_put, x_for, x_def, x_defR, x_defN, x_ixP, x_ixL, x_lenP, x_lenL, x_tupP, x_tupL, x_tupKK, x_lstP, x_lstL, x_appP, x_appL, x_tyP, x_tyL, x_tyK, x_tyT, x_putP, x_putL, x_putI, x_putKK, x_srcP, x_srcL, List.map_cons, List.map_nil, List.replicate, List.cons_append, List.nil_append, List.set_cons_zero, List.set_cons_succ]
        refine ⟨rfl, s_check (by rw [List.length_map]; exact ll) nd_plain ?_⟩
        rw [ck]
        simp only [x_var0, x_varS, x_c, x_bin, x_un, x_and, x_or, x_andK, x_orK, x_not, x_if, x_tup, x_lst, x_sl, x_call, x_callU, x_mth, x_isi, x_chain, x_chK, x_k1, x_tupRg, x_lstRg, x_lc, x_addI, x_addS, x_addT, x_subI, x_mulI, x_fdiv, x_mod, x_pow, x_lt, x_le, x_gt, x_ge, x_eqI, x_eqB, x_eqS, x_neI, x_neB, x_isB, x_isnB, x_neg, x_int, x_intB, x_lenT, x_lenS, x_tupT, x_lstT, x_ixT, x_ixR, x_optW, x_nil, x_cons, x_bB, x_boolK, x_bAnd, x_bOr, x_bNot, x_bYes, x_pNo, x_pSo, x_part, x_rng1, x_rng2, x_rng3, x_rk1, x_rk2, x_rk3, x_srcEn, x_srcZp, x_ekT, x_zkT, x_srcV, x_srcT, x_seq, x_seqR, x_seqB, x_seqC, x_sNil, x_set, x_drop, x_ret, x_retN, x_sIf, x_brk, x_ct, x_put, x_for, x_def, x_defR, x_defN, x_ixP, x_ixL, x_lenP, x_lenL, x_tupP, x_tupL, x_tupKK, x_lstP, x_lstL, x_appP, x_appL, x_tyP, x_tyL, x_tyK, x_tyT, x_putP, x_putL, x_putI, x_putKK, x_srcP, x_srcL, List.map_cons, List.map_nil, List.replicate, List.cons_append, List.nil_append, List.set_cons_zero, List.set_cons_succ]
        rw [if_neg (by decide)]
        exact cut_same (LK2.nx _ _ ⟨_, rfl, _, rfl, rfl⟩)
      · rintro ρ θ ⟨y8, rfl, rfl⟩
        refine ⟨sdL_end hk rfl, ?_⟩
        rw [x_seqN]
        simp only [x_var0, x_varS, x_c, x_bin, x_un, x_and, x_or, x_andK, x_orK, x_not, x_if, x_tup, x_lst, x_sl, x_call, x_callU, x_mth, x_isi, x_chain, x_chK, x_k1, x_tupRg, x_lstRg, x_lc, x_addI, x_addS, x_addT, x_subI, x_mulI, x_fdiv, x_mod, x_pow, x_lt, x_le, x_gt, x_ge, x_eqI, x_eqB, x_eqS, x_neI, x_neB, x_isB, x_isnB, x_neg, x_int, x_intB, x_lenT, x_lenS, x_tupT, x_lstT, x_ixT, x_ixR, x_optW, x_nil, x_cons, x_bB, x_boolK, x_bAnd, x_bOr, x_bNot, x_bYes, x_pNo, x_pSo, x_part, x_rng1, x_rng2, x_rng3, x_rk1, x_rk2, x_rk3, x_srcEn, x_srcZp, x_ekT, x_zkT, x_srcV, x_srcT, x_seq, x_seqR, x_seqB, x_seqC, x_sNil, x_set, x_drop, x_ret, x_retN, x_sIf, x_brk, x_ct, x_put, x_for, x_def, x_defR, x_defN, x_ixP, x_ixL, x_lenP, x_lenL, x_tupP, x_tupL, x_tupKK, x_lstP, x_lstL, x_appP, x_appL, x_tyP, x_tyL, x_tyK, x_tyT, x_putP, x_putL, x_putI, x_putKK, x_srcP, x_srcL, List.map_cons, List.map_nil, List.replicate, List.cons_append, List.nil_append, List.set_cons_zero, List.set_cons_succ, wipeE]
        have z : ∀ k : Nat, k ≤ 100 → k ≤ sizeLine := fun k h => by rw [sizeLine_eq]; omega
        refine ⟨z _ (by simp), z _ (by simp), z _ (by simp), z _ (by simp), z _ (by simp), z _ (by simp), z _ (by simp), z _ (by simp; omega), z _ (by simp), z _ (by simp), ?_⟩
        rw [x_seqN]
        simp only [x_var0, x_varS, x_c, x_bin, x_un, x_and, x_or, x_andK, x_orK, x_not, x_if, x_tup, x_lst, x_sl, x_call, x_callU, x_mth, x_isi, x_chain, x_chK, x_k1, x_tupRg, x_lstRg, x_lc, x_addI, x_addS, x_addT, x_subI, x_mulI, x_fdiv, x_mod, x_pow, x_lt, x_le, x_gt, x_ge, x_eqI, x_eqB, x_eqS, x_neI, x_neB, x_isB, x_isnB, x_neg, x_int, x_intB, x_lenT, x_lenS, x_tupT, x_lstT, x_ixT, x_ixR, x_optW, x_nil, x_cons, x_bB, x_boolK, x_bAnd, x_bOr, x_bNot, x_bYes, x_pNo, x_pSo, x_part, x_rng1, x_rng2, x_rng3, x_rk1, x_rk2, x_rk3, x_srcEn, x_srcZp, x_ekT, x_zkT, x_srcV, x_srcT, x_seq, x_seqR, x_seqB, x_seqC, x_sNil, x_set, x_drop, x_ret, x_retN, x_sIf, x_brk, x_ct, x_put, x_for, x_def, x_defR, x_defN, x_ixP, x_ixL, x_lenP, x_lenL, x_tupP, x_tupL, x_tupKK, x_lstP, x_lstL, x_appP, x_appL, x_tyP, x_tyL, x_tyK, x_tyT, x_putP, x_putL, x_putI, x_putKK, x_srcP, x_srcL, List.map_cons, List.map_nil, List.replicate, List.cons_append, List.nil_append, List.set_cons_zero, List.set_cons_succ]
        rw [th_last, x_srcL]
        generalize hB : ([.non, .int 0, .obj (bx ds a2 ++ G2).length, .tup [.int h.length], .tup [.int (-1)], .tup [.int 0, .int 0], .tup [.bl true], .tup [.str "a"], .tup [.int ((h.length : Int) - 1), .int 0], .tup (nd sk ++ [.int h.length]), .tup [.int 0, .bl true]] : List Dv) = B
        have hk2 : (bx ds a2 ++ G2 ++ [Ob.lst (nd sk)] ++ [Ob.lst B])[(bx ds a2 ++ G2 ++ [Ob.lst (nd sk)]).length]? = some (.lst B) := th_last
        have ho : (bx ds a2 ++ G2 ++ [Ob.lst (nd sk)] ++ [Ob.lst B])[(bx ds a2 ++ G2).length]? = some (.lst (nd sk)) := th_left th_last
        generalize hθb : (bx ds a2 ++ G2 ++ [Ob.lst (nd sk)] ++ [Ob.lst B]) = θb at hk2 ho
        have chk : ∀ d, d ∈ B → ∀ (Q : Dv → Th → Prop), Q (.bl false) θb → Cm.c_check_skipped [hD h, d] (fun _ _ => False) θb Q := by
          intro d hd Q hQ
          rw [← hB] at hd
          simp only [List.mem_cons, List.not_mem_nil, or_false] at hd
          rcases hd with rfl | rfl | rfl | rfl | rfl | rfl | rfl | rfl | rfl | rfl | rfl
          · exact s_check0 .non rfl hQ
          · exact s_check0 (.int 0) rfl hQ
          · exact s_check0 (.lst _ _ ho) rfl hQ
          · refine s_check (by simp) (alls rfl) ?_
            show Q (.bl (ckS h.length ([(h.length : Int)].map Dv.int))) θb
            rw [ck_out (by simp)]
            exact hQ
          · refine s_check (by simp) (alls rfl) ?_
            rw [ck_neg]
            exact hQ
          · refine s_check (by simp) (alls rfl) ?_
            rw [ck_two (by omega)]
            exact hQ
          · exact s_check (by simp) (alls rfl) hQ
          · exact s_check (by simp) (alls rfl) hQ
          · refine s_check (by simp) (alls rfl) ?_
            rw [ck_two (by omega)]
            exact hQ
          · have e : nd sk ++ [Dv.int h.length] = ((sk.map fun m : Nat => (m : Int)) ++ [(h.length : Int)]).map Dv.int := by simp
            rw [e]
            refine s_check (by simp; omega) (alls ?_) ?_
            · rw [List.all_map, List.all_eq_true]
              intro x _
              rfl
            · rw [ck_out (by simp)]
              exact hQ
          · exact s_check (by simp) (alls rfl) hQ
        have hBl : B.length = 11 := by rw [← hB]; rfl
        refine for_rule 11 (fun i ρ θ => ∃ y10, ρ = [some (.scr ns), some (.obj 1), some (.int (0 + (turn : Int) * 1)), some (hD h), some (.int h.length), some (.tup (nd sk)), x6, some (.tup (nd (List.range h.length))), y8, some (.obj (bx ds a2 ++ G2 ++ [Ob.lst (nd sk)]).length), y10] ∧ θ = θb) ⟨x10, rfl, rfl⟩ ?_ ?_
        · rintro i ρ θ hi ⟨y10, rfl, rfl⟩
          have hi2 : i < B.length := by omega
          refine ⟨_, _, sdL_at hk2 (List.getElem?_eq_getElem hi2), rfl, fun K2 LK2 => ?_⟩
          rw [x_cut]
          simp only [x_var0, x_varS, x_c, x_bin, x_un, x_and, x_or, x_andK, x_orK, x_not, x_if, x_tup, x_lst, x_sl, x_call, x_callU, x_mth, x_isi, x_chain, x_chK, x_k1, x_tupRg, x_lstRg, x_lc, x_addI, x_addS, x_addT, x_subI, x_mulI, x_fdiv, x_mod, x_pow, x_lt, x_le, x_gt, x_ge, x_eqI, x_eqB, x_eqS, x_neI, x_neB, x_isB, x_isnB, x_neg, x_int, x_intB, x_lenT, x_lenS, x_tupT, x_lstT, x_ixT, x_ixR, x_optW, x_nil, x_cons, x_bB, x_boolK, x_bAnd, x_bOr, x_bNot, x_bYes, x_pNo, x_pSo, x_part, x_rng1, x_rng2, x_rng3, x_rk1, x_rk2, x_rk3, x_srcEn, x_srcZp, x_ekT, x_zkT, x_srcV, x_srcT, x_seq, x_seqR, x_seqB, x_seqC, x_sNil, x_set, x_drop, x_ret, x_retN, x_sIf, x_brk, x_ct, x_put, x_for, x_def, x_defR, x_defN, x_ixP, x_ixL, x_lenP, x_lenL, x_tupP, x_tupL, x_tupKK, x_lstP, x_lstL, x_appP, x_appL, x_tyP, x_tyL, x_tyK, x_tyT, x_putP, x_putL, x_putI, x_putKK, x_srcP, x_srcL, List.map_cons, List.map_nil, List.replicate, List.cons_append, List.nil_append, List.set_cons_zero, List.set_cons_succ]
          refine ⟨rfl, chk _ (List.getElem_mem hi2) _ ?_⟩
          simp only [x_var0, x_varS, x_c, x_bin, x_un, x_and, x_or, x_andK, x_orK, x_not, x_if, x_tup, x_lst, x_sl, x_call, x_callU, x_mth, x_isi, x_chain, x_chK, x_k1, x_tupRg, x_lstRg, x_lc, x_addI, x_addS, x_addT, x_subI, x_mulI, x_fdiv, x_mod, x_pow, x_lt, x_le, x_gt, x_ge, x_eqI, x_eqB, x_eqS, x_neI, x_neB, x_isB, x_isnB, x_neg, x_int, x_intB, x_lenT, x_lenS, x_tupT, x_lstT, x_ixT, x_ixR, x_optW, x_nil, x_cons, x_bB, x_boolK, x_bAnd, x_bOr, x_bNot, x_bYes, x_pNo, x_pSo, x_part, x_rng1, x_rng2, x_rng3, x_rk1, x_rk2, x_rk3, x_srcEn, x_srcZp, x_ekT, x_zkT, x_srcV, x_srcT, x_seq, x_seqR, x_seqB, x_seqC, x_sNil, x_set, x_drop, x_ret, x_retN, x_sIf, x_brk, x_ct, x_put, x_for, x_def, x_defR, x_defN, x_ixP, x_ixL, x_lenP, x_lenL, x_tupP, x_tupL, x_tupKK, x_lstP, x_lstL, x_appP, x_appL, x_tyP, x_tyL, x_tyK, x_tyT, x_putP, x_putL, x_putI, x_putKK, x_srcP, x_srcL, List.map_cons, List.map_nil, List.replicate, List.cons_append, List.nil_append, List.set_cons_zero, List.set_cons_succ]
          rw [if_neg (by decide)]
          exact cut_same (LK2.nx _ _ ⟨_, rfl, _, rfl, rfl⟩)
        · rintro ρ θ ⟨y10, rfl, rfl⟩
          refine ⟨sdL_end hk2 hBl.symm, ?_⟩
          rw [← hθb, List.append_assoc, List.append_assoc]
          exact fin a2 _ _ _ _ _ _ _ _ _ _
  · rintro ρ θ ⟨x2, x3, x4, x5, x6, x7, x8, x9, x10, a, rfl, rfl⟩
    refine ⟨rng_end, ?_⟩
    rw [x_seqN]
    simp only [x_var0, x_varS, x_c, x_bin, x_un, x_and, x_or, x_andK, x_orK, x_not, x_if, x_tup, x_lst, x_sl, x_call, x_callU, x_mth, x_isi, x_chain, x_chK, x_k1, x_tupRg, x_lstRg, x_lc, x_addI, x_addS, x_addT, x_subI, x_mulI, x_fdiv, x_mod, x_pow, x_lt, x_le, x_gt, x_ge, x_eqI, x_eqB, x_eqS, x_neI, x_neB, x_isB, x_isnB, x_neg, x_int, x_intB, x_lenT, x_lenS, x_tupT, x_lstT, x_ixT, x_ixR, x_optW, x_nil, x_cons, x_bB, x_boolK, x_bAnd, x_bOr, x_bNot, x_bYes, x_pNo, x_pSo, x_part, x_rng1, x_rng2, x_rng3, x_rk1, x_rk2, x_rk3, x_srcEn, x_srcZp, x_ekT, x_zkT, x_srcV, x_srcT, x_seq, x_seqR, x_seqB, x_seqC, x_sNil, x_set, x_drop, x_ret, x_retN, x_sIf, x_brk, x_ct, x_put, x_for, x_def, x_defR, x_defN, x_ixP, x_ixL, x_lenP, x_lenL, x_tupP, x_tupL, x_tupKK, x_lstP, x_lstL, x_appP, x_appL, x_tyP, x_tyL, x_tyK, x_tyT, x_putP, x_putL, x_putI, x_putKK, x_srcP, x_srcL, List.map_cons, List.map_nil, List.replicate, List.cons_append, List.nil_append, List.set_cons_zero, List.set_cons_succ]
    exact end_same rfl

end
end K01
open PySem PySem.W PyProof.Rows
set_option maxHeartbeats 0 in
theorem PySem.Challenge.cw_firstbreak_k01_classes_and_tests_holds : PySem.Challenge.rw_firstbreak_k01_classes_and_tests.Holds := by
  w_on; o_law; k_head; (case hw => w_witness2)
  k_fill
  refine Mn.walk_ofG (l := PySem.Challenge.rw_firstbreak_k01_classes_and_tests) (n := 63) (k := 4) (x := "script") (CX := fun w => L2.CX0) (sp := fun w => Mn.spTop _ K01.c_law) rfl (by decide) rfl ⟨rfl, by decide, by decide⟩ (fun w h Y => PySem.W.kIn_of Y) ?F (fun w H a ns hl hS => Mn.top_hS K01.goal hl hS) (fun w H a ns hl h1 hS => Mn.top_hK K01.goal hl h1 hS) (fun _ _ _ _ _ h => h)
  case F =>
    intro w mg fa h KX G hmg
    refine' K01.all_mk KX G hmg ?a_ascends ?l_ascends ?c_ascends ?k_ascends ?a_is_integer ?l_is_integer ?c_is_integer ?k_is_integer ?a_are_integers ?l_are_integers ?c_are_integers ?k_are_integers ?a_check_skipped ?l_check_skipped ?c_check_skipped ?k_check_skipped ?a__law_same ?l__law_same ?c__law_same ?k__law_same ?a_tests ?l_tests ?c_tests ?k_tests ?a_offspring ?l_offspring ?c_offspring ?k_offspring ?a_classes ?l_classes ?c_classes ?k_classes ?a__law_above ?l__law_above ?c__law_above ?k__law_above ?a__law_classes ?l__law_classes ?c__law_classes ?k__law_classes ?a__law_tests ?l__law_tests ?c__law_tests ?k__law_tests ?a__law_draw ?l__law_draw ?c__law_draw ?k__law_draw ?a__law_skipped ?l__law_skipped ?c__law_skipped ?k__law_skipped ?a__law_word ?l__law_word ?c__law_word ?k__law_word ?a__law_history ?l__law_history ?c__law_history ?k__law_history ?a__law_cell ?l__law_cell ?c__law_cell ?k__law_cell ?a__law_digits ?l__law_digits ?c__law_digits ?k__law_digits ?a_law ?l_law ?c_law ?k_law ?z_all ?z_any ?z_bool ?z_enumerate ?z_int ?z_isinstance ?z_len ?z_list ?z_range ?z_repr ?z_sorted ?z_tuple ?z_zip
    (case a_ascends => k_is); (case l_ascends => k_is); (case c_ascends => k_is); (case k_ascends => k_is); (case a_is_integer => k_is); (case l_is_integer => k_is); (case c_is_integer => k_is); (case k_is_integer => k_is); (case a_are_integers => k_is); (case l_are_integers => k_is); (case c_are_integers => k_is); (case k_are_integers => k_is); (case a_check_skipped => k_is); (case l_check_skipped => k_is); (case c_check_skipped => k_is); (case k_check_skipped => k_is); (case a__law_same => k_is); (case l__law_same => k_is); (case c__law_same => k_is); (case k__law_same => k_is); (case a_tests => k_is); (case l_tests => k_is); (case c_tests => k_is); (case k_tests => k_is); (case a_offspring => k_is); (case l_offspring => k_is); (case c_offspring => k_is); (case k_offspring => k_is); (case a_classes => k_is); (case l_classes => k_is); (case c_classes => k_is); (case k_classes => k_is); (case a__law_above => k_is); (case l__law_above => k_is); (case c__law_above => k_is); (case k__law_above => k_is); (case a__law_classes => k_is); (case l__law_classes => k_is); (case c__law_classes => k_is); (case k__law_classes => k_is); (case a__law_tests => k_is); (case l__law_tests => k_is); (case c__law_tests => k_is); (case k__law_tests => k_is); (case a__law_draw => k_is); (case l__law_draw => k_is); (case c__law_draw => k_is); (case k__law_draw => k_is); (case a__law_skipped => k_is); (case l__law_skipped => k_is); (case c__law_skipped => k_is); (case k__law_skipped => k_is); (case a__law_word => k_is); (case l__law_word => k_is); (case c__law_word => k_is); (case k__law_word => k_is); (case a__law_history => k_is); (case l__law_history => k_is); (case c__law_history => k_is); (case k__law_history => k_is); (case a__law_cell => k_is); (case l__law_cell => k_is); (case c__law_cell => k_is); (case k__law_cell => k_is); (case a__law_digits => k_is); (case l__law_digits => k_is); (case c__law_digits => k_is); (case k__law_digits => k_is); (case a_law => k_is); (case l_law => k_is); (case c_law => k_is); (case k_law => k_is); (case z_all => k_is); (case z_any => k_is); (case z_bool => k_is); (case z_enumerate => k_is); (case z_int => k_is); (case z_isinstance => k_is); (case z_len => k_is); (case z_list => k_is); (case z_range => k_is); (case z_repr => k_is); (case z_sorted => k_is); (case z_tuple => k_is); (case z_zip => k_is)

