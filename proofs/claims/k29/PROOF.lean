import PyProof.Rows.All
import Wide.All
import OpenK.AllK
import Wide.FinOn
import Lean
import PyProof.EqAt
import PyProof.EqKinds
import PyProof.TupleCall
import PyProof.NeData
import PyProof.DictRoadsH
import Wide.Seal
import PyProof.CompMap
import PyProof.DictIter
import PyProof.DictWalks
import PyProof.P3In
import OpenK.KOwn
import KE.KTryMore
import PyProof.RulesAs
import PyProof.ExcArgs
import PyProof.NsDelKeeps
import KE.KIsAll
import OpenK.KDescr
import PyProof.CompUse
import PyProof.ZipIter
import PyProof.TupleIter
import KE.KRevSl
import PyProof.Rows.SortWalk
import PyProof.MeetsSeq
import KE.KDictSum
import PyProof.EnumMake
import PyProof.EnumFor
import PyProof.EnumStmt
import PySem.Challenge.RW_askring_k29_whole_wrong_from_one_place_o
def PySem.W.Fast.tw10948484504558191581 : Nat := 0
def PySem.W.Fast.tw12346598328211352510 : Nat := 0
def PySem.W.Fast.tw12421935165866957814 : Nat := 0
def PySem.W.Fast.tw12785973442741308920 : Nat := 0
def PySem.W.Fast.tw14284845042959158548 : Nat := 0
def PySem.W.Fast.tw14514997688222351136 : Nat := 0
def PySem.W.Fast.tw14697945283459315350 : Nat := 0
def PySem.W.Fast.tw16300907937317279120 : Nat := 0
def PySem.W.Fast.tw17191505885993667428 : Nat := 0
def PySem.W.Fast.tw17326409137884362074 : Nat := 0
def PySem.W.Fast.tw17410756574029586145 : Nat := 0
def PySem.W.Fast.tw4783892524312290797 : Nat := 0
def PySem.W.Fast.tw5069934920995401299 : Nat := 0
def PySem.W.Fast.tw7398254584531950185 : Nat := 0
def PySem.W.Fast.tw8773440133642747072 : Nat := 0
def PySem.W.Fast.tw9123479926342683212 : Nat := 0
set_option Elab.async false
set_option linter.all false
set_option maxRecDepth 100000
namespace L2
open PySem PySem.Spec PyProof.Rows

abbrev Key:=Sum Int Str
def keyIs:Key->Value->Bool
 | .inl k,v=>Value.isInt k v
 | .inr x,v=>Value.isStrOf x v
def keyH (w:World):Key->Int
 | .inl k=>hashInt k
 | .inr x=>hashStr w x
theorem keyIs_shape:∀ {k:Key} {v:Value},keyIs k v=true->(∃ i t,k=Sum.inl i/\v=Value.int i t)\/(∃ x t,k=Sum.inr x/\v=Value.str x t)
 | .inl i,v,h=>by
   obtain ⟨t,e⟩:=Value.isInt_shape (k:=i) (v:=v) h
   exact .inl ⟨i,t,rfl,e⟩
 | .inr x,v,h=>by
   obtain ⟨t,e⟩:=Value.isStrOf_shape (x:=x) (v:=v) h
   exact .inr ⟨x,t,rfl,e⟩
theorem keyIs_int (i:Int) (t:Tok):keyIs (.inl i) (.int i t)=true:=by simp [keyIs,Value.isInt]
theorem keyIs_str (x:Str) (t:Tok):keyIs (.inr x) (.str x t)=true:=by simp [keyIs,Value.isStrOf]
theorem key_ll (a b:Int):decide ((Sum.inl a:Key)=Sum.inl b)=(a == b):=by
 by_cases e:a=b
 · subst e;simp
 · have h:¬ (Sum.inl a:Key)=Sum.inl b:=λq=>e (Sum.inl.inj q)
   rw [decide_eq_false h]
   exact (beq_eq_false_iff_ne.mpr e).symm
theorem key_rr (a b:Str):decide ((Sum.inr a:Key)=Sum.inr b)=decide (a=b):=by
 by_cases e:a=b
 · subst e;simp
 · have h:¬ (Sum.inr a:Key)=Sum.inr b:=λq=>e (Sum.inr.inj q)
   rw [decide_eq_false h,decide_eq_false e]
theorem key_lr (a:Int) (b:Str):decide ((Sum.inl a:Key)=Sum.inr b)=false:=decide_eq_false (λq=>nomatch q)
theorem key_rl (a:Str) (b:Int):decide ((Sum.inr a:Key)=Sum.inl b)=false:=decide_eq_false (λq=>nomatch q)

def mixKind (prog:Program) (w:World):PySem.KeyKind prog w Key where
 is:=keyIs
 hash:=keyH w
 inj:=λv a b ha hb=>by
   rcases keyIs_shape ha with ⟨i,t,rfl,rfl⟩ | ⟨x,t,rfl,rfl⟩
   · rcases keyIs_shape hb with ⟨j,u,rfl,e⟩ | ⟨y,u,rfl,e⟩
     · injection e with e1 _;rw [e1]
     · exact nomatch e
   · rcases keyIs_shape hb with ⟨j,u,rfl,e⟩ | ⟨y,u,rfl,e⟩
     · exact nomatch e
     · injection e with e1 _;rw [e1]
 byValue:=λk v h=>by
   rcases keyIs_shape h with ⟨i,t,rfl,rfl⟩ | ⟨x,t,rfl,rfl⟩<;>rfl
 pyHash:=λhv h=>by
   rcases keyIs_shape hv with ⟨i,t,rfl,rfl⟩ | ⟨x,t,rfl,rfl⟩
   · exact wpAny_pyHash_int h
   · exact wpAny_pyHash_str h
 eqBool:=λhu hv h=>by
   rcases keyIs_shape hu with ⟨i,t,rfl,rfl⟩ | ⟨x,t,rfl,rfl⟩
   · rcases keyIs_shape hv with ⟨j,u,rfl,rfl⟩ | ⟨y,u,rfl,rfl⟩
     · rw [key_ll] at h;exact wpAny_eqBool_int h
     · rw [key_lr] at h;exact SeqAt.EqAt.int_str i t y u _ _ _ _ h
   · rcases keyIs_shape hv with ⟨j,u,rfl,rfl⟩ | ⟨y,u,rfl,rfl⟩
     · rw [key_rl] at h;exact SeqAt.EqAt.str_int x t j u _ _ _ _ h
     · rw [key_rr] at h;exact wpAny_eqBool_str h
 «strs»:=λk x t v h=>by
   rcases keyIs_shape h with ⟨i,u,rfl,e⟩ | ⟨y,u,rfl,e⟩
   · exact nomatch e
   · injection e with e1 _
     subst e1
     cases v<;>rfl

theorem mixKind_int (prog:Program) (w:World) (i:Int) (t:Tok):(mixKind prog w).is (.inl i) (.int i t)=true:=keyIs_int i t
theorem mixKind_str (prog:Program) (w:World) (x:Str) (t:Tok):(mixKind prog w).is (.inr x) (.str x t)=true:=keyIs_str x t
end L2

namespace L2
open PySem PySem.Spec PyProof.Rows

inductive V where
 | non | bl (b:Bool) | int (i:Int) | str (x:Str) | byt (b:Array UInt8) | flt (b:UInt64) | ref (a:Addr) | ty (n:String)
 deriving DecidableEq

def RelV:V->Value->Prop
 | .non,u=>u=Value.none
 | .bl b,u=>u=Value.bool b
 | .int i,u=>∃ t,u=Value.int i t
 | .str x,u=>∃ t,u=Value.str x t
 | .byt b,u=>∃ t,u=Value.bytes b t
 | .flt b,u=>∃ t,u=Value.float b t
 | .ref a,u=>u=Value.ref a
 | .ty n,u=>u=Value.type n

abbrev Vals:List V->List Value->Prop:=Paired RelV
theorem Vals.length {xs:List V} {us:List Value} (r:Vals xs us):xs.length=us.length:=Paired.length r
theorem Vals.get:∀ {xs:List V} {us:List Value} {i:Nat} {x:V},Vals xs us->xs[i]?=some x->∃ u,us[i]?=some u/\RelV x u
 | _,_,_,_,.nil,e=>by simp at e
 | _,_,0,_,.cons r _,e=>by simp at e;subst e;exact ⟨_,rfl,r⟩
 | _,_,i+1,x,.cons _ t,e=>by
   obtain ⟨u,h1,h2⟩:=Vals.get (i:=i) (x:=x) t (by simpa using e)
   exact ⟨u,by simpa using h1,h2⟩
theorem Vals.set {x:V} {u:Value} (r:RelV x u):∀ {xs:List V} {us:List Value} (i:Nat),Vals xs us->Vals (xs.set i x) (us.set i u)
 | _,_,_,.nil=>.nil
 | _,_,0,.cons _ t=>.cons r t
 | _,_,i+1,.cons q t=>.cons q (Vals.set r i t)
theorem Vals.append:∀ {xs ys:List V} {us ws:List Value},Vals xs us->Vals ys ws->Vals (xs++ys) (us++ws)
 | _,_,_,_,.nil,s=>s
 | _,_,_,_,.cons r t,s=>.cons r (Vals.append t s)
theorem Vals.take:∀ {xs:List V} {us:List Value} (n:Nat),Vals xs us->Vals (xs.take n) (us.take n)
 | _,_,0,_=>.nil
 | _,_,_+1,.nil=>.nil
 | _,_,n+1,.cons r t=>.cons r (Vals.take n t)
theorem Vals.drop:∀ {xs:List V} {us:List Value} (n:Nat),Vals xs us->Vals (xs.drop n) (us.drop n)
 | _,_,0,r=>r
 | _,_,_+1,.nil=>.nil
 | _,_,n+1,.cons _ t=>Vals.drop n t
theorem Vals.none_of:∀ {xs:List V} {us:List Value} {i:Nat},Vals xs us->xs[i]?=none->us[i]?=none:=λ{xs us i} r e=>by
 have h1:=r.length
 have h2:xs.length <= i:=List.getElem?_eq_none_iff.mp e
 exact List.getElem?_eq_none_iff.mpr (by omega)

def RelO:Option V->Option Value->Prop
 | some v,some u=>RelV v u
 | none,none=>True
 | _,_=>False
def KV {κ:Type}:List (κ × V)->List (κ × Value)->Prop:=Paired λ(p:κ × V) (q:κ × Value)=>p.1=q.1/\RelV p.2 q.2

def kV:Key->V
 | .inl i=>.int i
 | .inr x=>.str x

inductive HO where
 /-- a list -/
 | lst (xs:List V)
 /-- a tuple (never changes) -/
 | tup (xs:List V)
 /-- a dict whose keys are ints and texts;one whose keys are tuples of ints and texts (the empty one is both) -/
 | dK (kvs:List (Key × V)) | dT (kvs:List (List Key × V))
 /-- a set of ints: its members,its size -/
 | set (S:Int->Bool) (n:Nat)
 /-- an instance of the class at C,its dict at dx,its attributes -/
 | ins (C dx:Addr) (fs:List (Str × V))
 /-- the dict of the instance at x -/
 | own (x:Addr)
 /-- the dict of an exception -/
 | xd (fs:List (Str × V))
 /-- a bound method,f of x -/
 | met (f x:Addr)
 /-- a range object lo,lo+1,.. below hi -/
 | rng (lo hi:Int)
 /-- a thing that is known to the object (the script;a dict while a loop walks it): read,never written while it is so -/
 | frz (o:Obj) (u:HO)
 /-- a code object's table -/
 | tbl (ps:Array Value)
 /-- any other thing,by what is true of its one object (a def of one's own: SetO a S n:=HO.ext λh=>..) -/
 | ext (φ:Heap->Prop)

abbrev Hp:=Addr->Option HO
def upd (H:Hp) (a:Addr) (o:HO):Hp:=λb=>if b=a then some o else H b
theorem upd_same {H:Hp} {a:Addr} {o:HO}:upd H a o a=some o:=by unfold upd;rw [if_pos rfl]
theorem upd_ne {H:Hp} {a b:Addr} {o:HO} (h:b≠a):upd H a o b=H b:=by unfold upd;rw [if_neg h]
theorem upd_upd {H:Hp} {a:Addr} {o u:HO}:upd (upd H a o) a u=upd H a u:=by
 funext b;unfold upd;split<;>rfl
theorem ne_of {H:Hp} {a b:Addr} {o u:HO} (h:H a=some o) (h':H b=some u) (d:o≠u):a≠b:=by
 intro e;subst e;rw [h] at h';exact d (Option.some.inj h')
theorem ne_of_none {H:Hp} {a b:Addr} {o:HO} (h:H a=some o) (h':H b=none):a≠b:=by
 intro e;subst e;rw [h] at h';cases h'

section
variable (P:Program) (w:World)
def ObjOk (H:Hp) (h:Heap) (a:Addr):HO->Prop
 | .lst xs=>xs.length <= sizeLine/\∃ (its:List Value) (n:Nat),Vals xs its/\h.get? a=some { cls:=.type "list",data:=.seq its.toArray n }
 | .tup xs=>xs.length <= sizeLine/\∃ its:List Value,Vals xs its/\IsTup h a its.toArray
 | .dK kvs=>kvs.length <= sizeLine/\(a == sysModules)=false/\∃ vs,KV kvs vs/\h.DictOf (mixKind P w) a vs
 | .dT kvs=>kvs.length <= sizeLine/\(a == sysModules)=false/\∃ xs:List (List Key × Addr × Value),
     Paired (λ(p:List Key × V) (q:List Key × Addr × Value)=>p.1=q.1/\H q.2.1=some (.tup (p.1.map kV))/\RelV p.2 q.2.2) kvs xs /\
     ∃ o es ep,h.get? a=some o/\o.ExactDict/\o.data=.dict es ep/\es.toList=xs.map (entryOfKey (tupleKind (mixKind P w)))/\(xs.map (·.1)).Nodup
 | .set S n=>h.SetOf (intKind P w) a S n
 | .ins C dx fs=>H dx=some (.own a)/\fs.length <= 1000/\dx≠a/\h.get? a=some (PySem.W.instObj C dx) /\
     ∃ mA,h.Ns1 dx mA/\(∀ f,RelO (fs.lookup f) (mA f))/\PySem.Within mA (fs.map (·.1))
 | .own _=>∃ o,h.get? a=some o
 | .xd fs=>∃ mA,h.Ns1 a mA/\∀ f,RelO (fs.lookup f) (mA f)
 | .rng lo hi=>∃ t u v,h.get? a=some { cls:=.type "range",data:=.fields #[.int lo t,.int hi u,.int 1 v] }
 | .frz o u=>h.get? a=some o/\ObjOk H h a u
 | .tbl ps=>h.get? a=some { cls:=.none,data:=.fields ps }
 | .met f x=>h.get? a=some (PySem.W.methodObj (.ref f) (.ref x))
 | .ext φ=>φ h/\(∃ o,h.get? a=some o)/\∀ h1 h2:Heap,φ h1->(∀ o,h1.get? a=some o->h2.get? a=some o)->φ h2
def HOk (H:Hp) (h:Heap):Prop:=∀ a o,H a=some o->ObjOk P w H h a o
end

section
variable {P:Program} {w:World} {H H':Hp} {h h':Heap} {a:Addr} {o:HO}
theorem ObjOk.lt (x:ObjOk P w H h a o):a < h.objs.size:=by
 cases o with
 | lst xs=>obtain ⟨_,_,_,_,e⟩:=x;exact Heap.lt_size e
 | tup xs=>obtain ⟨_,_,_,p⟩:=x;exact p.lt
 | dK kvs=>obtain ⟨_,_,_,_,o,_,_,e,_⟩:=x;exact Heap.lt_size e
 | dT kvs=>obtain ⟨_,_,_,_,o,_,_,e,_⟩:=x;exact Heap.lt_size e
 | set S n=>obtain ⟨o,_,_,_,e,_⟩:=x;exact Heap.lt_size e
 | ins C dx fs=>obtain ⟨_,_,_,e,_⟩:=x;exact Heap.lt_size e
 | own y=>obtain ⟨_,e⟩:=x;exact Heap.lt_size e
 | xd fs=>obtain ⟨_,⟨_,_,_,e,_⟩,_⟩:=x;exact Heap.lt_size e
 | rng lo hi=>obtain ⟨_,_,_,e⟩:=x;exact Heap.lt_size e
 | frz ob u=>obtain ⟨e,_⟩:=x;exact Heap.lt_size e
 | tbl ps=>exact Heap.lt_size (show h.get? a=some _ from x)
 | met f y=>exact Heap.lt_size (show h.get? a=some _ from x)
 | ext φ=>obtain ⟨_,⟨_,e⟩,_⟩:=x;exact Heap.lt_size e
theorem Paired.mapP {α β:Type} {F G:α->β->Prop}:∀ {l₁:List α} {l₂:List β},Paired F l₁ l₂->(∀ a b,F a b->G a b)->Paired G l₁ l₂
 | _,_,.nil,_=>.nil
 | _,_,.cons r t,f=>.cons (f _ _ r) (Paired.mapP t f)
theorem ObjOk.stay (x:ObjOk P w H h a o) (k:∀ b u,(b=a\/H b=some (.own a))->h.get? b=some u->h'.get? b=some u)
   (ho:∀ b,H b=some (.own a)->H' b=some (.own a)) (ht:∀ b xs,H b=some (.tup xs)->H' b=some (.tup xs)):ObjOk P w H' h' a o:=by
 induction o with
 | lst xs=>obtain ⟨z,its,n,r,e⟩:=x;exact ⟨z,its,n,r,k _ _ (.inl rfl) e⟩
 | tup xs=>obtain ⟨z,its,r,ob,e,c⟩:=x;exact ⟨z,its,r,ob,k _ _ (.inl rfl) e,c⟩
 | dK kvs=>obtain ⟨z,y,vs,r,ob,es,ep,e,c⟩:=x;exact ⟨z,y,vs,r,ob,es,ep,k _ _ (.inl rfl) e,c⟩
 | dT kvs =>
   obtain ⟨z,y,xs,r,ob,es,ep,e,c⟩:=x
   exact ⟨z,y,xs,Paired.mapP r λp q z=>⟨z.1,ht _ _ z.2.1,z.2.2⟩,ob,es,ep,k _ _ (.inl rfl) e,c⟩
 | set S n=>obtain ⟨ob,es,ep,t,e,c⟩:=x;exact ⟨ob,es,ep,t,k _ _ (.inl rfl) e,c⟩
 | ins C dx fs =>
   obtain ⟨d,z,ne,e,mA,⟨od,es,ep,e2,c⟩,r⟩:=x
   exact ⟨ho _ d,z,ne,k _ _ (.inl rfl) e,mA,⟨od,es,ep,k _ _ (.inr d) e2,c⟩,r⟩
 | own y=>obtain ⟨ob,e⟩:=x;exact ⟨ob,k _ _ (.inl rfl) e⟩
 | xd fs=>obtain ⟨mA,⟨od,es,ep,e,c⟩,r⟩:=x;exact ⟨mA,⟨od,es,ep,k _ _ (.inl rfl) e,c⟩,r⟩
 | rng lo hi=>obtain ⟨t,u,v,e⟩:=x;exact ⟨t,u,v,k _ _ (.inl rfl) e⟩
 | frz ob u ih=>obtain ⟨e,q⟩:=x;exact ⟨k _ _ (.inl rfl) e,ih q⟩
 | tbl ps =>
   have e:h.get? a=some { cls:=.none,data:=.fields ps }:=x
   show h'.get? a=some { cls:=.none,data:=.fields ps }
   exact k a _ (.inl rfl) e
 | met f y =>
   have e:h.get? a=some (PySem.W.methodObj (.ref f) (.ref y)):=x
   show h'.get? a=some (PySem.W.methodObj (.ref f) (.ref y))
   exact k a _ (.inl rfl) e
 | ext φ=>obtain ⟨p,⟨o,e⟩,st⟩:=x;exact ⟨st _ _ p λo q=>k _ _ (.inl rfl) q,⟨o,k _ _ (.inl rfl) e⟩,st⟩
theorem HOk.lt (x:HOk P w H h) (e:H a=some o):a < h.objs.size:=(x a o e).lt
theorem HOk.fresh (x:HOk P w H h) (e:h.objs.size <= a):H a=none:=by
 cases q:H a with
 | none=>rfl
 | some u=>exact absurd (Nat.lt_of_lt_of_le (x.lt q) e) (Nat.lt_irrefl _)
theorem HOk.kept (x:HOk P w H h) (k:∀ b u,h.get? b=some u->h'.get? b=some u):HOk P w H h':=λa o e =>
 (x a o e).stay (λb u _ q=>k b u q) (λ_ q=>q) λ_ _ q=>q
theorem HOk.laid (x:HOk P w H h) (k:∀ b u,h.get? b=some u->h'.get? b=some u) (hp:h.objs.size <= a) (new:ObjOk P w (upd H a o) h' a o):HOk P w (upd H a o) h':=λb u e=>by
 have hn:=x.fresh hp
 by_cases hb:b=a
 · subst hb;rw [upd_same] at e;cases e;exact new
 · rw [upd_ne hb] at e
   exact (x b u e).stay (λc v _ q=>k c v q) (λc q=>by rw [upd_ne (ne_of_none q hn)];exact q) λc xs q=>by rw [upd_ne (ne_of_none q hn)];exact q
end

def Rd (H:Hp) (a:Addr) (u:HO):Prop:=H a=some u\/∃ o,H a=some (.frz o u)
theorem Rd.of {H:Hp} {a:Addr} {u:HO} (h:H a=some u):Rd H a u:=.inl h
theorem Rd.ok {P:Program} {w:World} {H:Hp} {h:Heap} {a:Addr} {u:HO} (r:Rd H a u) (x:HOk P w H h):ObjOk P w H h a u:=by
 rcases r with r | ⟨o,r⟩
 · exact x a u r
 · obtain ⟨_,q⟩:=x a _ r
   exact q
def Mut:Option HO->Prop
 | some (.lst _)=>True
 | some (.dK _)=>True
 | some (.dT _)=>True
 | some (.set _ _)=>True
 | some (.ins _ _ _)=>True
 | some (.ext _)=>True
 | _=>False
section
variable {P:Program} {w:World} {H:Hp} {h h':Heap} {x e:Addr} {o':HO}
theorem HOk.write (ok:HOk P w H h) (mu:Mut (H x)) (he:e=x\/H e=some (.own x)) (k:∀ b u,b≠e->h.get? b=some u->h'.get? b=some u) (heo:∃ u,h'.get? e=some u)
   (new:ObjOk P w (upd H x o') h' x o'):HOk P w (upd H x o') h':=λb u q=>by
 have nown:∀ c y,H c=some (.own y)->c≠x:=λc y r z=>by subst z;rw [r] at mu;exact mu
 have ntup:∀ c xs,H c=some (.tup xs)->c≠x:=λc xs r z=>by subst z;rw [r] at mu;exact mu
 by_cases hb:b=x
 · subst hb;rw [upd_same] at q;cases q;exact new
 · rw [upd_ne hb] at q
   by_cases hbe:b=e
   · have q':H b=some (.own x):=by
       rcases he with z | z
       · exact absurd (hbe.trans z) hb
       · rw [hbe];exact z
     rw [q] at q';cases q'
     obtain ⟨v,hv⟩:=heo
     exact ⟨v,by rw [hbe];exact hv⟩
   · refine (ok b u q).stay (λc v hc r=>k c v ?_ r) (λc r=>by rw [upd_ne (nown c b r)];exact r) λc xs r=>by rw [upd_ne (ntup c xs r)];exact r
     rcases hc with rfl | hc
     · exact hbe
     · rintro rfl
       rcases he with z | z
       · exact nown c b hc z
       · rw [hc] at z;cases z;exact hb rfl
end

structure Un (fs ex:List Addr) (H H':Hp) (h h':Heap):Prop where
 keep:∀ b o,h.get? b=some o->H b=none->b ∉ fs->b ∉ ex->h'.get? b=some o
 slot:∀ b o,h.get? b=some o->H b=none->b∈fs->b ∉ ex->∃ sl,h'.get? b=some { o with slots:=sl }
 free:∀ b o,h.get? b=some o->H b=none->b ∉ ex->H' b=none
 there:∀ b o,h.get? b=some o->b ∉ ex->∃ o',h'.get? b=some o'
 tups:∀ b xs,H b=some (.tup xs)->H' b=some (.tup xs)
 frzs:∀ b o u,H b=some (.frz o u)->H' b=some (.frz o u)
 tbls:∀ b ps,H b=some (.tbl ps)->∃ more,H' b=some (.tbl (ps++more))
section
variable {fs fs' ex ex':List Addr} {H H1 H2:Hp} {h h1 h2 h':Heap} {a x e:Addr} {o:HO}
theorem Un.any (u:Un fs ex H H1 h h1) {b:Addr} {ob:Obj} (q:h.get? b=some ob) (n:H b=none) (hx:b ∉ ex):∃ sl,h1.get? b=some { ob with slots:=sl }:=by
 by_cases hb:b∈fs
 · exact u.slot b ob q n hb hx
 · exact ⟨ob.slots,u.keep b ob q n hb hx⟩
theorem Un.trans (a:Un fs ex H H1 h h1) (b:Un fs ex H1 H2 h1 h2):Un fs ex H H2 h h2 where
 keep:=λc ob q n hc hx=>b.keep c ob (a.keep c ob q n hc hx) (a.free c ob q n hx) hc hx
 slot:=λc ob q n hc hx=>by
   obtain ⟨sl,e1⟩:=a.slot c ob q n hc hx
   obtain ⟨sl',e2⟩:=b.slot c _ e1 (a.free c ob q n hx) hc hx
   exact ⟨sl',e2⟩
 free:=λc ob q n hx=>by
   obtain ⟨o',e1⟩:=a.there c ob q hx
   exact b.free c o' e1 (a.free c ob q n hx) hx
 there:=λc ob q hx=>by
   obtain ⟨o',e1⟩:=a.there c ob q hx
   exact b.there c o' e1 hx
 tups:=λc xs q=>b.tups c xs (a.tups c xs q)
 frzs:=λc ob xs q=>b.frzs c ob xs (a.frzs c ob xs q)
 tbls:=λc ps q=>by
   obtain ⟨m1,e1⟩:=a.tbls c ps q
   obtain ⟨m2,e2⟩:=b.tbls c _ e1
   exact ⟨m1++m2,by rw [e2,Array.append_assoc]⟩
theorem Un.kept (k:∀ b u,h.get? b=some u->h'.get? b=some u):Un fs ex H H h h' :=
 ⟨λb ob q _ _ _=>k b ob q,λb ob q _ _ _=>⟨ob.slots,k b ob q⟩,λ_ _ _ n _=>n,λb ob q _=>⟨ob,k b ob q⟩,λ_ _ q=>q,λ_ _ _ q=>q,λ_ ps q=>⟨#[],by rw [q];simp⟩⟩
theorem Un.refl:Un fs ex H H h h:=Un.kept λ_ _ q=>q
theorem Un.laid (k:∀ b u,h.get? b=some u->h'.get? b=some u) (hp:h.objs.size <= a) (hn:H a=none):Un fs ex H (upd H a o) h h' where
 keep:=λb u q _ _ _=>k b u q
 slot:=λb u q _ _ _=>⟨u.slots,k b u q⟩
 free:=λb u q n _=>by rw [upd_ne (Nat.ne_of_lt (Nat.lt_of_lt_of_le (Heap.lt_size q) hp))];exact n
 there:=λb u q _=>⟨u,k b u q⟩
 tups:=λb xs q=>by rw [upd_ne (ne_of_none q hn)];exact q
 frzs:=λb u xs q=>by rw [upd_ne (ne_of_none q hn)];exact q
 tbls:=λb ps q=>⟨#[],by rw [upd_ne (ne_of_none q hn),q];simp⟩
theorem Un.write (mu:Mut (H x)) (he:e=x\/H e=some (.own x)) (k:∀ b u,b≠e->h.get? b=some u->h'.get? b=some u) (heo:∃ u,h'.get? e=some u):Un fs ex H (upd H x o) h h':=by
 have hx:∀ b,H b=none->b≠x:=λb n z=>by subst z;rw [n] at mu;exact mu
 have hb:∀ b,H b=none->b≠e:=λb n z=>by
   subst z
   rcases he with r | r
   · exact hx b n r
   · rw [n] at r;cases r
 have hm:∀ b u,H b=some u->¬ Mut (some u)->b≠x:=λb u q nm z=>by subst z;rw [q] at mu;exact nm mu
 refine ⟨λb u q n _ _=>k b u (hb b n) q,λb u q n _ _=>⟨u.slots,k b u (hb b n) q⟩,λb u q n _=>by rw [upd_ne (hx b n)];exact n,λb u q _=>?_,
   λb xs q=>by rw [upd_ne (hm b _ q λz=>z)];exact q,λb u xs q=>by rw [upd_ne (hm b _ q λz=>z)];exact q,λb ps q=>⟨#[],by rw [upd_ne (hm b _ q λz=>z),q];simp⟩⟩
 by_cases hbe:b=e
 · subst hbe;exact heo
 · exact ⟨u,k b u hbe q⟩
theorem Un.mono (u:Un fs ex H H1 h h1) (hs:∀ b∈fs,b∈fs') (hx:∀ b∈ex,b∈ex'):Un fs' ex' H H1 h h1 :=
 ⟨λb ob q n hb he=>u.keep b ob q n (λz=>hb (hs b z)) λz=>he (hx b z),λ_ _ q n _ he=>u.any q n λz=>he (hx _ z),λb ob q n he=>u.free b ob q n λz=>he (hx b z),λb ob q he=>u.there b ob q λz=>he (hx b z),u.tups,u.frzs,u.tbls⟩
end

def trk (h:Heap) (H:Hp):List Addr:=(List.range h.objs.size).filter λa=>(H a).isSome
def hidT (h:Heap) (H:Hp):Heap:=PySem.W.hideAll h (trk h H)
theorem hidT_size (h:Heap) (H:Hp):(hidT h H).objs.size=h.objs.size:=PySem.W.hideAll_size _ _
theorem hidT_get {h:Heap} {H:Hp} {b:Addr} {o:Obj} (e:h.get? b=some o) (n:H b=none):(hidT h H).get? b=some o :=
 PySem.W.hideAll_get _ e λhm=>by
   have q:(H b).isSome=true:=(List.mem_filter.mp hm).2
   rw [n] at q;simp at q
theorem of_hidT {h:Heap} {H:Hp} {b:Addr} {o:Obj} (e:(hidT h H).get? b=some o):h.get? b=some o/\H b=none:=by
 have e':h.get? b=some o:=PySem.W.of_hideAll (trk h H) e
 refine ⟨e',?_⟩
 cases q:H b with
 | none=>rfl
 | some x =>
   have hm:b∈trk h H:=List.mem_filter.mpr ⟨List.mem_range.mpr (Heap.lt_size e'),by simp [q]⟩
   have z:(hidT h H).get? b=none:=PySem.W.hideAll_none (trk h H) hm
   rw [z] at e;cases e

def allNews (g h:Heap) (L:Addr):List (Addr × Obj):=(List.range h.objs.size).filterMap λa=>if a=L\/(g.get? a).isSome=true then none else (h.get? a).map λo=>(a,o)
def rest (g h:Heap) (L d:Addr):List (Addr × Obj):=(allNews g h L).filter λp=>decide (p.1≠d)
end L2

namespace L2
open PySem PySem.Spec PyProof.Rows

structure Mod (K:PySem.W.Frag) (mg:Str->Option Value) (base:Heap):Prop where
 kin:K.In base
 glob:base.Ns mainGlobals mg
 blt:∃ mb,base.Ns builtinsNs mb/\∀ x:Str,x≠"__name__"->mb x=bootBuiltins x
 nolimit:base.NoLimit

structure Cx where
 prog:Program
 w:World
 K:PySem.W.Frag
 mg:Str->Option Value
 base:Heap
 A:Around
 N:List Str
 s₀:Shared
 H₀:Hp
 env:Env
 outer:List Env
 stack:List Env
 ex:List Addr
 fn:Str->Bool
 calm:Bool
 pn:List (Addr × Obj)
 xe:Value->Shared->Prop
def frs (l:List Env):List Addr:=l.filterMap (·.frame)
abbrev Cx.fs (X:Cx):List Addr:=frs X.outer

def Vis (sc:Scope) (x:Str):Prop:=sc.names.lookup x=some .local\/sc.names.lookup x=some .cell\/sc.names.lookup x=some .free
def Loc (sc:Scope) (x:Str):Prop:=sc.names.lookup x=some .local\/sc.names.lookup x=some .cell
def Look (env:Env) (h:Heap) (m:Str->Option Value) (x:Str) (u:Value):Prop :=
 (env.kindOf x=some .local/\m x=some u)\/((env.kindOf x=some .cell\/env.kindOf x=some .free)/\∃ c,env.cells.lookup x=some c/\h.IsCell c (some u))

structure Cx.Ok (X:Cx):Prop where
 mod:Mod X.K X.mg X.base
 kind:X.env.scope.kind=.function
 glob:X.env.globals=mainGlobals
 blt:X.env.builtins=builtinsNs
 above:X.s₀.heap.objs.size <= X.env.locals
 inj:∀ x y c,X.env.cells.lookup x=some c->X.env.cells.lookup y=some c->x=y
 has:∀ x,(X.env.kindOf x=some .cell\/X.env.kindOf x=some .free)->∃ c,X.env.cells.lookup x=some c
 cab:∀ x c,X.fn x=true->X.env.cells.lookup x=some c->X.s₀.heap.objs.size <= c
 hd:X.calm=true->X.A.handled=none
 frames:X.A.frames=some X.stack
 stk:X.stack=X.outer\/(X.stack=X.env :: X.outer/\X.env.frame=some X.env.locals)
 exf:∀ b∈X.ex,b≠X.env.locals/\∀ x c,X.env.cells.lookup x=some c->c≠b
 bs:∀ b o,X.base.get? b=some o->X.s₀.heap.get? b=some o/\X.H₀ b=none
 bsz:X.base.objs.size <= X.s₀.heap.objs.size
 noex:∀ b o,X.base.get? b=some o->b ∉ X.ex
 exfs:∀ b∈X.ex,b ∉ X.fs
 funs:X.s₀.heap.FunFrames X.base X.outer
 frf:∀ b∈X.fs,X.H₀ b=none

structure Inv (X:Cx) (pins:List (Addr × Obj)) (σ:List (Option V)) (H:Hp) (s:Shared):Prop where
 ok:X.Ok
 os:s.os=X.s₀.os
 bare:AllBare s.gens
 base:Un X.fs X.ex X.H₀ H X.s₀.heap s.heap
 loc:∃ m,s.heap.Ns X.env.locals m/\∀ (i:Nat) (x:Str) (v:V),X.N[i]?=some x->σ[i]?=some (some v)->Vis X.env.scope x->∃ u,RelV v u/\Look X.env s.heap m x u
 cell:∀ x c,X.env.cells.lookup x=some c->∃ v,s.heap.IsCell c v
 free:H X.env.locals=none
 freeC:∀ x c,X.env.cells.lookup x=some c->H c=none
 pin:∀ p∈X.pn++pins,s.heap.get? p.1=some p.2/\H p.1=none/\p.1≠X.env.locals/\p.1 ∉ X.fs/\∀ v,p.2.data≠.cell v
 hok:HOk X.prog X.w H s.heap
 len:σ.length=X.N.length

section
variable {X:Cx} {pins:List (Addr × Obj)} {σ:List (Option V)} {H H':Hp} {s:Shared} {h':Heap}

theorem Cx.Ok.nofr (ok:X.Ok) {b:Addr} {o:Obj} (e:X.base.get? b=some o):b ∉ X.fs:=λhb=>by
 have:=(ok.funs.mem hb).1
 rw [e] at this;cases this
theorem Inv.bs (I:Inv X pins σ H s):∀ b o,X.base.get? b=some o->s.heap.get? b=some o/\H b=none:=λb o e =>
 ⟨I.base.keep b o (I.ok.bs b o e).1 (I.ok.bs b o e).2 (I.ok.nofr e) (I.ok.noex b o e),I.base.free b o (I.ok.bs b o e).1 (I.ok.bs b o e).2 (I.ok.noex b o e)⟩
theorem Inv.bk (I:Inv X pins σ H s):∀ b o,X.base.get? b=some o->s.heap.get? b=some o:=λb o e=>(I.bs b o e).1
theorem Inv.mod (I:Inv X pins σ H s):Mod X.K X.mg X.base:=I.ok.mod
theorem Inv.kIn (I:Inv X pins σ H s):X.K.In s.heap:=I.ok.mod.kin.keeps I.bk
theorem Inv.nolimit (I:Inv X pins σ H s):s.heap.NoLimit:=I.ok.mod.nolimit.keeps I.bk
theorem Inv.fr (I:Inv X pins σ H s):∃ m,Fr X.base X.env.locals s.heap m :=
 let ⟨m,hn,_⟩:=I.loc
 ⟨m,hn,I.bk,Nat.le_trans I.ok.bsz I.ok.above⟩
theorem Inv.lt (I:Inv X pins σ H s):X.env.locals < s.heap.objs.size:=let ⟨_,hn,_⟩:=I.loc;hn.lt
theorem Inv.sz (I:Inv X pins σ H s):X.s₀.heap.objs.size <= s.heap.objs.size:=Nat.le_trans I.ok.above (Nat.le_of_lt I.lt)
theorem Inv.nofs (I:Inv X pins σ H s) {a:Addr} (h:s.heap.objs.size <= a):a ∉ X.fs:=λhb=>by
 obtain ⟨_,o,ho,_⟩:=I.ok.funs.mem hb
 exact absurd (Nat.lt_of_lt_of_le (Heap.lt_size ho) (Nat.le_trans I.sz h)) (Nat.lt_irrefl _)
theorem Inv.cne (I:Inv X pins σ H s):∀ x c,X.env.cells.lookup x=some c->c≠X.env.locals:=λx c e z=>by
 obtain ⟨v,o,ho,hd⟩:=I.cell x c e
 obtain ⟨m,⟨o',es,ep,ho',hd',_⟩,_⟩:=I.loc
 rw [z,ho'] at ho;cases ho;rw [hd'] at hd;cases hd
theorem Inv.funs (I:Inv X pins σ H s):s.heap.FunFrames X.base X.outer:=by
 have all:∀ (l:List Env),(∀ b∈frs l,b∈X.fs)->X.s₀.heap.FunFrames X.base l->s.heap.FunFrames X.base l:=by
   intro l
   induction l with
   | nil=>intro _ _;trivial
   | cons env r ih =>
     intro hs hl
     obtain ⟨hk,⟨L,o,hf,hn,ho,hd⟩,hr⟩:=hl
     have hL:L∈X.fs:=hs L (by unfold frs;rw [List.filterMap_cons,hf];exact List.mem_cons_self)
     obtain ⟨sl,e⟩:=I.base.slot L o ho (I.ok.frf L hL) hL λz=>I.ok.exfs L z hL
     exact ⟨hk,⟨L,_,hf,hn,e,hd⟩,ih (λb hb=>hs b (by unfold frs;rw [List.filterMap_cons,hf];exact List.mem_cons_of_mem _ hb)) hr⟩
 exact all X.outer (λ_ hb=>hb) I.ok.funs

theorem Inv.stack (I:Inv X pins σ H s):s.heap.FunFrames X.base X.stack:=by
 rcases I.ok.stk with e | ⟨e,hf⟩
 · rw [e];exact I.funs
 · rw [e]
   obtain ⟨m,hn,_⟩:=I.loc
   refine .cons (by rw [I.ok.kind];decide) hf hn ?_ I.funs
   exact Heap.get?_none_of_le (Nat.le_trans I.ok.bsz I.ok.above)
theorem Inv.stkSub (I:Inv X pins σ H s):∀ b∈frs X.stack,b∈X.env.locals :: X.fs:=λb hb=>by
 rcases I.ok.stk with e | ⟨e,hf⟩
 · rw [e] at hb;exact List.mem_cons_of_mem _ hb
 · rw [e] at hb
   unfold frs at hb
   rw [List.filterMap_cons,hf] at hb
   exact hb
theorem Inv.stkFree (I:Inv X pins σ H s):∀ b∈frs X.stack,H b=none:=λb hb=>by
 rcases List.mem_cons.mp (I.stkSub b hb) with e | hb
 · rw [e];exact I.free
 · obtain ⟨_,o,ho,_⟩:=I.ok.funs.mem hb
   exact I.base.free b o ho (I.ok.frf b hb) λz=>I.ok.exfs b z hb

theorem Inv.step {g':Array GenState} {t':Nat} {d':Drawn} {ch:List Addr} (I:Inv X pins σ H s)
   (hch:∀ b∈ch,(b∈X.ex\/X.s₀.heap.objs.size <= b)/\b≠X.env.locals/\(∀ x c,X.env.cells.lookup x=some c->c≠b)/\∀ p∈X.pn++pins,p.1≠b)
   (keep:∀ b o,b≠X.env.locals->b ∉ X.fs->b ∉ ch->s.heap.get? b=some o->H b=none->h'.get? b=some o)
   (slot:∀ b o,b≠X.env.locals->b∈X.fs->b ∉ ch->s.heap.get? b=some o->H b=none->∃ sl,h'.get? b=some { o with slots:=sl }) (free:∀ b o,b ∉ ch->s.heap.get? b=some o->H b=none->H' b=none)
   (there:∀ b o,b ∉ ch->s.heap.get? b=some o->∃ o',h'.get? b=some o')
   (tups:∀ b xs,H b=some (.tup xs)->H' b=some (.tup xs)) (frzs:∀ b o u,H b=some (.frz o u)->H' b=some (.frz o u)) (tbls:∀ b ps,H b=some (.tbl ps)->∃ more,H' b=some (.tbl (ps++more)))
   (ns:∀ m,s.heap.Ns X.env.locals m->h'.Ns X.env.locals m) (hok:HOk X.prog X.w H' h') (hg:AllBare g') :
   Inv X pins σ H' { s with heap:=h',gens:=g',drawn:=d',toks:=t' }:=by
 have neL:∀ b o,X.s₀.heap.get? b=some o->b≠X.env.locals:=λb o e=>Nat.ne_of_lt (Nat.lt_of_lt_of_le (Heap.lt_size e) I.ok.above)
 have neC:∀ b o,X.s₀.heap.get? b=some o->b ∉ X.ex->b ∉ ch:=λb o e hx hb=>by
   rcases (hch b hb).1 with z | z
   · exact hx z
   · exact absurd (Nat.lt_of_lt_of_le (Heap.lt_size e) z) (Nat.lt_irrefl _)
 have cellK:∀ x c,X.env.cells.lookup x=some c->∀ v,s.heap.IsCell c v->h'.IsCell c v:=λx c e v ⟨o,ho,hd⟩=>by
   have nch:c ∉ ch:=λz=>(hch c z).2.2.1 x c e rfl
   by_cases hc:c∈X.fs
   · obtain ⟨sl,q⟩:=slot c o (I.cne x c e) hc nch ho (I.freeC x c e)
     exact ⟨_,q,hd⟩
   · exact ⟨o,keep c o (I.cne x c e) hc nch ho (I.freeC x c e),hd⟩
 refine ⟨I.ok,I.os,hg,⟨λb o e n hb hx=>?_,λb o e n hb hx=>?_,λb o e n hx=>?_,λb o e hx=>?_,λb xs e=>tups b xs (I.base.tups b xs e),λb o xs e=>frzs b o xs (I.base.frzs b o xs e),λb ps e=>?_⟩,?_,λx c e=>?_,?_,λx c e=>?_,λp hp=>?_,hok,I.len⟩
 · exact keep b o (neL b o e) hb (neC b o e hx) (I.base.keep b o e n hb hx) (I.base.free b o e n hx)
 · obtain ⟨sl,e1⟩:=I.base.slot b o e n hb hx
   obtain ⟨sl',e2⟩:=slot b _ (neL b o e) hb (neC b o e hx) e1 (I.base.free b o e n hx)
   exact ⟨sl',e2⟩
 · obtain ⟨o',e1⟩:=I.base.there b o e hx
   exact free b o' (neC b o e hx) e1 (I.base.free b o e n hx)
 · obtain ⟨o',e1⟩:=I.base.there b o e hx
   exact there b o' (neC b o e hx) e1
 · obtain ⟨m1,e1⟩:=I.base.tbls b ps e
   obtain ⟨m2,e2⟩:=tbls b _ e1
   exact ⟨m1++m2,by rw [e2,Array.append_assoc]⟩
 · obtain ⟨m,hn,hl⟩:=I.loc
   refine ⟨m,ns m hn,λi x v e1 e2 e3=>?_⟩
   obtain ⟨u,r,l⟩:=hl i x v e1 e2 e3
   refine ⟨u,r,?_⟩
   rcases l with l | ⟨k,c,e,z⟩
   · exact .inl l
   · exact .inr ⟨k,c,e,cellK x c e _ z⟩
 · obtain ⟨v,z⟩:=I.cell x c e
   exact ⟨v,cellK x c e v z⟩
 · obtain ⟨m,⟨o,_,_,ho,_⟩,_⟩:=I.loc
   exact free _ o (λz=>(hch _ z).2.1 rfl) ho I.free
 · obtain ⟨v,o,ho,hd⟩:=I.cell x c e
   exact free c o (λz=>(hch c z).2.2.1 x c e rfl) ho (I.freeC x c e)
 · obtain ⟨e,n,ne,nf,d⟩:=I.pin p hp
   have nch:p.1 ∉ ch:=λz=>(hch p.1 z).2.2.2 p hp rfl
   exact ⟨keep p.1 p.2 ne nf nch e n,free p.1 p.2 nch e n,ne,nf,d⟩
theorem Inv.un {t':Nat} (I:Inv X pins σ H s) (u:Un X.fs [] H H' s.heap h') (hok:HOk X.prog X.w H' h'):Inv X pins σ H' { s with heap:=h',toks:=t' }:=by
 obtain ⟨m,⟨o,es,ep,ho,r⟩,_⟩:=id I.loc
 obtain ⟨sl,hL⟩:=u.any ho I.free (by simp)
 exact I.step (g':=s.gens) (d':=s.drawn) (ch:=[]) (λ_ z=>nomatch z) (λb o _ hb _ e n=>u.keep b o e n hb (by simp)) (λb o _ hb _ e n=>u.slot b o e n hb (by simp)) (λb o _ e n=>u.free b o e n (by simp)) (λb o _ e=>u.there b o e (by simp)) u.tups u.frzs u.tbls (λm' hm=>by
   obtain ⟨o',es',ep',ho',r'⟩:=hm
   rw [ho] at ho';cases ho'
   exact ⟨_,es',ep',hL,r'⟩) hok I.bare
theorem Inv.call {g':Array GenState} {t':Nat} {d':Drawn} {ch:List Addr} (I:Inv X pins σ H s) (u:Un (frs X.stack) ch H H' s.heap h') (hok:HOk X.prog X.w H' h') (hg:AllBare g')
   (hch:∀ b∈ch,(b∈X.ex\/X.s₀.heap.objs.size <= b)/\b≠X.env.locals/\(∀ x c,X.env.cells.lookup x=some c->c≠b)/\∀ p∈X.pn++pins,p.1≠b) :
   Inv X pins σ H' { s with heap:=h',gens:=g',drawn:=d',toks:=t' }:=by
 obtain ⟨m,⟨o,es,ep,ho,r⟩,_⟩:=id I.loc
 obtain ⟨sl,hL⟩:=u.any ho I.free λz=>(hch _ z).2.1 rfl
 exact I.step (ch:=ch) hch (λb o hL hb hc e n=>u.keep b o e n (λz=>(List.mem_cons.mp (I.stkSub b z)).elim hL hb) hc) (λb o _ _ hc e n=>u.any e n hc) (λb o hc e n=>u.free b o e n hc) (λb o hc e=>u.there b o e hc) u.tups u.frzs u.tbls (λm' hm=>by
   obtain ⟨o',es',ep',ho',r'⟩:=hm
   rw [ho] at ho';cases ho'
   exact ⟨_,es',ep',hL,r'⟩) hok hg
theorem Inv.turned {t':Nat} {it:Addr} (I:Inv X pins σ H s) (k:∀ b o,b≠it->s.heap.get? b=some o->h'.get? b=some o) (hn:H it=none) (hL:it≠X.env.locals)
   (h1:it∈X.ex\/X.s₀.heap.objs.size <= it) (h2:∀ x c,X.env.cells.lookup x=some c->c≠it) (h3:∀ p∈X.pn++pins,p.1≠it):Inv X pins σ H { s with heap:=h',toks:=t' }:=by
 have nit:∀ b u,H b=some u->b≠it:=λb u e z=>by rw [z,hn] at e;cases e
 refine I.step (g':=s.gens) (d':=s.drawn) (ch:=[it]) (λb hb=>?_) (λb o _ _ hc e _=>k b o (λz=>hc (by simp [z])) e) (λb o _ _ hc e _=>⟨o.slots,k b o (λz=>hc (by simp [z])) e⟩) (λ_ _ _ _ n=>n)
   (λb o hc e=>⟨o,k b o (λz=>hc (by simp [z])) e⟩) (λ_ _ e=>e) (λ_ _ _ e=>e) (λb ps e=>⟨#[],by rw [e];simp⟩) (λm hm=>?_) (λb u e=>?_) I.bare
 · have e:b=it:=by simpa using hb
   subst e
   exact ⟨h1,hL,h2,h3⟩
 · obtain ⟨o,es,ep,ho,r⟩:=hm
   exact ⟨o,es,ep,k _ o (Ne.symm hL) ho,r⟩
 · refine (I.hok b u e).stay (λc v hc q=>k c v ?_ q) (λ_ q=>q) λ_ _ q=>q
   rcases hc with z | z
   · rw [z];exact nit b u e
   · exact nit c _ z
theorem Inv.tok (I:Inv X pins σ H s) (t:Nat):Inv X pins σ H { s with toks:=t }:=I.un (h':=s.heap) (t':=t) Un.refl I.hok
theorem Inv.kept {t':Nat} (I:Inv X pins σ H s) (k:∀ b u,s.heap.get? b=some u->h'.get? b=some u):Inv X pins σ H { s with heap:=h',toks:=t' }:=I.un (Un.kept k) (I.hok.kept k)
theorem Inv.laid {a:Addr} {o:HO} {t':Nat} (I:Inv X pins σ H s) (k:∀ b u,s.heap.get? b=some u->h'.get? b=some u) (hp:s.heap.objs.size <= a) (new:ObjOk X.prog X.w (upd H a o) h' a o) :
   Inv X pins σ (upd H a o) { s with heap:=h',toks:=t' }:=I.un (Un.laid k hp (I.hok.fresh hp)) (I.hok.laid k hp new)
theorem Inv.write {x e:Addr} {o:HO} {t':Nat} (I:Inv X pins σ H s) (mu:Mut (H x)) (he:e=x\/H e=some (.own x)) (k:∀ b u,b≠e->s.heap.get? b=some u->h'.get? b=some u) (heo:∃ u,h'.get? e=some u)
   (new:ObjOk X.prog X.w (upd H x o) h' x o):Inv X pins σ (upd H x o) { s with heap:=h',toks:=t' }:=I.un (Un.write mu he k heo) (I.hok.write mu he k heo new)
theorem Inv.pins_of {pins':List (Addr × Obj)} (I:Inv X pins σ H s) (h:∀ p∈pins',s.heap.get? p.1=some p.2/\H p.1=none/\p.1≠X.env.locals/\p.1 ∉ X.fs/\∀ v,p.2.data≠.cell v):Inv X pins' σ H s :=
 ⟨I.ok,I.os,I.bare,I.base,I.loc,I.cell,I.free,I.freeC,λp hp=>(List.mem_append.mp hp).elim (λz=>I.pin p (List.mem_append_left _ z)) (h p),I.hok,I.len⟩

theorem nodup_ix {N:List Str} (hN:N.Nodup) {i j:Nat} {x:Str} (a:N[i]?=some x) (b:N[j]?=some x):i=j:=by
 obtain ⟨h1,e1⟩:=List.getElem?_eq_some_iff.mp a
 obtain ⟨h2,e2⟩:=List.getElem?_eq_some_iff.mp b
 exact (List.getElem_inj hN).mp (e1.trans e2.symm)

theorem store_ok2 {M:Model} {A:Around} {E:Value->Shared->Prop} {i:Nat} {x:Str} {v:V} {u:Value} {Q:Unit->Shared->Prop} (I:Inv X pins σ H s) (hN:X.N.Nodup) (hi:X.N[i]?=some x) (hx:Loc X.env.scope x) (r:RelV v u)
   (h:∀ s',Inv X pins (σ.set i (some v)) H s'->(∃ a,Heap.SameBut a s.heap s'.heap/\(a=X.env.locals\/X.env.cells.lookup x=some a))->Q () s') (hf:X.fn x=true\/X.env.scope.names.lookup x=some .local:=by first | exact .inl rfl | exact .inr rfl | assumption):wpAny M A (storeName X.env x u) Q E s:=by
 obtain ⟨m,hn,hl⟩:=id I.loc
 have hcls:(X.env.scope.kind == .class || (X.env.scope.kind == .module && X.env.locals != X.env.globals))=false:=by rw [I.ok.kind];rfl
 have hiσ:i < σ.length:=by rw [I.len];exact (List.getElem?_eq_some_iff.mp hi).1
 have cne:=I.cne
 have tracked:∀ {a:Addr} {h':Heap},(∃ o,s.heap.get? a=some o/\H a=none)->Heap.SameBut a s.heap h'->HOk X.prog X.w H h':=λ{a h'} ha hs b ob e=>by
   obtain ⟨_,_,hfree⟩:=ha
   refine (I.hok b ob e).stay (λc w' hc q=>(hs.2 c ?_).trans q) (λ_ q=>q) λ_ _ q=>q
   rintro rfl
   rcases hc with rfl | hc
   · rw [hfree] at e;cases e
   · rw [hfree] at hc;cases hc
 rcases hx with hk | hk
 · refine wpAny_storeName_local hk hn (λh' hn' hs=>?_) hcls
   obtain ⟨oL,_,_,hoL,_⟩:=id hn
   refine h _ ⟨I.ok,I.os,I.bare,⟨λb o e n hb hx=>?_,λb o e n hb hx=>?_,I.base.free,λb o e hx=>?_,I.base.tups,I.base.frzs,I.base.tbls⟩,⟨_,hn',λj y v' e1 e2 e3=>?_⟩,λy c e=>?_,I.free,I.freeC,λp hp=>?_,tracked ⟨oL,hoL,I.free⟩ hs,by simpa using I.len⟩ ⟨_,hs,.inl rfl⟩
   · exact (hs.2 b (Nat.ne_of_lt (Nat.lt_of_lt_of_le (Heap.lt_size e) I.ok.above))).trans (I.base.keep b o e n hb hx)
   · obtain ⟨sl,e1⟩:=I.base.slot b o e n hb hx
     exact ⟨sl,(hs.2 b (Nat.ne_of_lt (Nat.lt_of_lt_of_le (Heap.lt_size e) I.ok.above))).trans e1⟩
   · obtain ⟨o',e1⟩:=I.base.there b o e hx
     exact ⟨o',(hs.2 b (Nat.ne_of_lt (Nat.lt_of_lt_of_le (Heap.lt_size e) I.ok.above))).trans e1⟩
   · by_cases hj:j=i
     · subst hj
       rw [hi] at e1;cases e1
       rw [List.getElem?_set_self hiσ] at e2
       cases e2
       exact ⟨u,r,.inl ⟨hk,by simp⟩⟩
     · rw [List.getElem?_set_ne (Ne.symm hj)] at e2
       obtain ⟨u',r',q⟩:=hl j y v' e1 e2 e3
       refine ⟨u',r',?_⟩
       rcases q with ⟨k,e⟩ | ⟨k,c,e,z⟩
       · refine .inl ⟨k,?_⟩
         have:y≠x:=λe=>hj (nodup_ix hN e1 (e ▸ hi))
         simp [this,e]
       · exact .inr ⟨k,c,e,z.sameBut hs (cne y c e)⟩
   · obtain ⟨w',z⟩:=I.cell y c e
     exact ⟨w',z.sameBut hs (cne y c e)⟩
   · obtain ⟨e,n,ne,nf,d⟩:=I.pin p hp
     exact ⟨(hs.2 p.1 ne).trans e,n,ne,nf,d⟩
 · have hfn:X.fn x=true:=by
     rcases hf with z | z
     · exact z
     · rw [z] at hk;cases hk
   obtain ⟨c,hc⟩:=I.ok.has x (.inl hk)
   obtain ⟨w',z⟩:=I.cell x c hc
   refine wpAny_storeName_cell I.ok.kind hk hc z (λh' hc' hs=>?_)
   obtain ⟨oc,hoc,hocd⟩:=id z
   refine h { s with heap:=h' } ⟨I.ok,I.os,I.bare,⟨λb o e n hb hx=>?_,λb o e n hb hx=>?_,I.base.free,λb o e hx=>?_,I.base.tups,I.base.frzs,I.base.tbls⟩,⟨m,hn.sameBut hs (Ne.symm (cne x c hc)),λj y v' e1 e2 e3=>?_⟩,λy c' e=>?_,I.free,I.freeC,λp hp=>?_,tracked ⟨oc,hoc,I.freeC x c hc⟩ hs,by simpa using I.len⟩ ⟨c,hs,.inr hc⟩
   · exact (hs.2 b (Nat.ne_of_lt (Nat.lt_of_lt_of_le (Heap.lt_size e) (I.ok.cab x c hfn hc)))).trans (I.base.keep b o e n hb hx)
   · obtain ⟨sl,e1⟩:=I.base.slot b o e n hb hx
     exact ⟨sl,(hs.2 b (Nat.ne_of_lt (Nat.lt_of_lt_of_le (Heap.lt_size e) (I.ok.cab x c hfn hc)))).trans e1⟩
   · obtain ⟨o',e1⟩:=I.base.there b o e hx
     exact ⟨o',(hs.2 b (Nat.ne_of_lt (Nat.lt_of_lt_of_le (Heap.lt_size e) (I.ok.cab x c hfn hc)))).trans e1⟩
   · by_cases hj:j=i
     · subst hj
       rw [hi] at e1;cases e1
       rw [List.getElem?_set_self hiσ] at e2
       cases e2
       exact ⟨u,r,.inr ⟨.inl hk,c,hc,hc'⟩⟩
     · rw [List.getElem?_set_ne (Ne.symm hj)] at e2
       obtain ⟨u',r',q⟩:=hl j y v' e1 e2 e3
       refine ⟨u',r',?_⟩
       rcases q with q | ⟨k,c',e,z'⟩
       · exact .inl q
       · refine .inr ⟨k,c',e,z'.sameBut hs ?_⟩
         rintro rfl
         exact hj (nodup_ix hN e1 (I.ok.inj _ _ _ e hc ▸ hi))
   · by_cases hcc:c'=c
     · subst hcc;exact ⟨_,hc'⟩
     · obtain ⟨w2,z2⟩:=I.cell y c' e
       exact ⟨w2,z2.sameBut hs hcc⟩
   · obtain ⟨e,n,ne,nf,d⟩:=I.pin p hp
     refine ⟨(hs.2 p.1 ?_).trans e,n,ne,nf,d⟩
     intro q
     rw [q,hoc] at e
     have q':oc=p.2:=Option.some.inj e
     exact d w' (by rw [← q'];exact hocd)
theorem store_ok {M:Model} {A:Around} {E:Value->Shared->Prop} {i:Nat} {x:Str} {v:V} {u:Value} {Q:Unit->Shared->Prop} (I:Inv X pins σ H s) (hN:X.N.Nodup) (hi:X.N[i]?=some x) (hx:Loc X.env.scope x) (r:RelV v u)
   (h:∀ s',Inv X pins (σ.set i (some v)) H s'->Q () s') (hf:X.fn x=true\/X.env.scope.names.lookup x=some .local:=by first | exact .inl rfl | exact .inr rfl | assumption):wpAny M A (storeName X.env x u) Q E s :=
 store_ok2 I hN hi hx r (λs' I' _=>h s' I') hf
theorem Inv.call' {s':Shared} {ch:List Addr} (I:Inv X pins σ H s) (ho:s'.os=s.os) (u:Un (frs X.stack) ch H H' s.heap s'.heap) (hok:HOk X.prog X.w H' s'.heap) (hg:AllBare s'.gens)
   (hch:∀ b∈ch,(b∈X.ex\/X.s₀.heap.objs.size <= b)/\b≠X.env.locals/\(∀ x c,X.env.cells.lookup x=some c->c≠b)/\∀ p∈X.pn++pins,p.1≠b):Inv X pins σ H' s':=by
 obtain ⟨h',g',d',t',o'⟩:=s'
 have e:o'=s.os:=ho
 subst e
 exact I.call (g':=g') (t':=t') (d':=d') u hok hg hch
end

abbrev XK:=Value->Option Addr->Hp->Prop
abbrev St:=List (Option V)
abbrev VK:=V->Hp->Prop
abbrev TE:=St->Hp->VK->Prop
abbrev TT:=St->Hp->(Bool->Hp->Prop)->Prop
abbrev TA:=St->Hp->(List V->Hp->Prop)->Prop
structure Ends where
 nx:St->Hp->Prop
 rt:VK
 bk:St->Hp->Prop:=λ_ _=>False
 ct:St->Hp->Prop:=λ_ _=>False
abbrev TS:=Ends->St->Hp->Prop

def EP (X:Cx) (pins:List (Addr × Obj)) (σ:St) (Q:VK) (u:Value) (s':Shared):Prop:=∃ v H',Inv X pins σ H' s'/\RelV v u/\Q v H'
def TP (X:Cx) (pins:List (Addr × Obj)) (σ:St) (Q:Bool->Hp->Prop) (b:Bool) (s':Shared):Prop:=∃ H',Inv X pins σ H' s'/\Q b H'
def AP (X:Cx) (pins:List (Addr × Obj)) (σ:St) (Q:List V->Hp->Prop) (us:List Value) (s':Shared):Prop:=∃ vs H',Inv X pins σ H' s'/\Vals vs us/\Q vs H'
def SP (X:Cx) (pins:List (Addr × Obj)) (D:Ends) (f:Flow) (s':Shared):Prop :=
 match f with
 | .next=>∃ σ' H',Inv X pins σ' H' s'/\D.nx σ' H'
 | .brk=>∃ σ' H',Inv X pins σ' H' s'/\D.bk σ' H'
 | .cont=>∃ σ' H',Inv X pins σ' H' s'/\D.ct σ' H'
 | .ret u=>∃ v σ' H',Inv X pins σ' H' s'/\RelV v u/\D.rt v H'

def PE (X:Cx) (e:Expr) (t:TE):Prop :=
 ∀ (pins:List (Addr × Obj)) (s:Shared) (σ:St) (H:Hp) (Q:VK),Inv X pins σ H s->t σ H Q->wpAny (model X.prog X.w) X.A (eval e X.env) (EP X pins σ Q) X.xe s
def PT (X:Cx) (e:Expr) (t:TT):Prop :=
 ∀ (pins:List (Addr × Obj)) (s:Shared) (σ:St) (H:Hp) (Q:Bool->Hp->Prop),Inv X pins σ H s->t σ H Q->wpAny (model X.prog X.w) X.A (isTrue e X.env (eval e X.env)) (TP X pins σ Q) X.xe s
def PW (X:Cx) (e:Expr) (t:TT):Prop :=
 ∀ (whole:Sem Value) (pins:List (Addr × Obj)) (s:Shared) (σ:St) (H:Hp) (Q:Bool->Hp->Prop),Inv X pins σ H s->t σ H Q->wpAny (model X.prog X.w) X.A (isTrue e X.env whole) (TP X pins σ Q) X.xe s
theorem PW.pt {X:Cx} {e:Expr} {t:TT} (h:PW X e t):PT X e t:=h _
def PA (X:Cx) (es:List Expr) (t:TA):Prop :=
 ∀ (pos:Pos) (pins:List (Addr × Obj)) (s:Shared) (σ:St) (H:Hp) (Q:List V->Hp->Prop),Inv X pins σ H s->t σ H Q->wpAny (model X.prog X.w) X.A (spliced (backTo pos (starEach es X.env))) (AP X pins σ Q) X.xe s
def PS (X:Cx) (st:Stmt) (t:TS):Prop :=
 ∀ (pins:List (Addr × Obj)) (s:Shared) (σ:St) (H:Hp) (D:Ends),Inv X pins σ H s->t D σ H->wpAny (model X.prog X.w) X.A (exec st X.env) (SP X pins D) X.xe s
def PSs (X:Cx) (st:List Stmt) (t:TS):Prop :=
 ∀ (pins:List (Addr × Obj)) (s:Shared) (σ:St) (H:Hp) (D:Ends),Inv X pins σ H s->t D σ H->wpAny (model X.prog X.w) X.A (execs st X.env) (SP X pins D) X.xe s
theorem thn {α:Type} {t:Sem α} {Q Q':α->Shared->Prop} {M:Model} {A:Around} {E:Value->Shared->Prop} {s:Shared} (h:wpAny M A t Q E s) (hQ:∀ a s,Q a s->Q' a s):wpAny M A t Q' E s:=wpAny_mono h hQ λ_ _ x=>x
end L2

namespace L2
open PySem PySem.Spec PyProof.Rows
section
variable {X:Cx}

def tVar (i:Nat):TE:=λσ H Q=>∃ v,σ[i]?=some (some v)/\Q v H
def tC (v:V):TE:=λ_ H Q=>Q v H
theorem pe_var {i:Nat} {x:Str} {pos:Pos} (hN:X.N[i]?=some x) (hv:Vis X.env.scope x) (hd:(x == ("__debug__":Str))=false:=by decide) (hcd:(x == ("__classdict__":Str))=false:=by decide):PE X (.Name x pos) (tVar i):=by
 intro pins s σ H Q I h
 obtain ⟨v,e,h⟩:=h
 obtain ⟨m,hn,hl⟩:=I.loc
 obtain ⟨u,r,l⟩:=hl i x v hN e hv
 have fin:EP X pins σ Q u s:=⟨v,H,I,r,h⟩
 rcases l with ⟨hk,hm⟩ | ⟨hk,c,hc,hcell⟩
 · exact wpAny_Name (wpAny_loadName_local I.ok.kind hk hn hm fin) hd
 · rcases hk with hk | hk
   · exact wpAny_Name (wpAny_loadName_cell I.ok.kind hk hc hcell fin) hd
   · exact wpAny_Name (wpAny_loadName_free I.ok.kind hk hc hcell fin hcd) hd
theorem pe_int {i j pos}:PE X (.Constant (.int i) j pos) (tC (.int i)):=λ_ _ _ H _ I h=>wpAny_Constant_int ⟨.int i,H,I.tok _,⟨_,rfl⟩,h⟩
theorem pe_bl {b j pos}:PE X (.Constant (.bool b) j pos) (tC (.bl b)):=λ_ _ _ H _ I h=>Constant_bool ⟨.bl b,H,I,rfl,h⟩
theorem pe_non {j pos}:PE X (.Constant .none j pos) (tC .non):=λ_ _ _ H _ I h=>Constant_none ⟨.non,H,I,rfl,h⟩
theorem pe_str {x j pos}:PE X (.Constant (.str x) j pos) (tC (.str x)):=λ_ _ _ H _ I h=>Calls.Constant_str ⟨.str x,H,I.tok _,⟨_,rfl⟩,h⟩

def Gl (X:Cx) (x:Str):Prop:=X.env.kindOf x=some .globalImplicit
theorem ld_glob {E:Value->Shared->Prop} {pins:List (Addr × Obj)} {s:Shared} {σ:St} {H:Hp} {x:Str} {u:Value} {pos:Pos} {Q:Value->Shared->Prop} (I:Inv X pins σ H s) (hg:Gl X x) (hm:X.mg x=some u) (h:Q u s)
   (hd:(x == ("__debug__":Str))=false:=by decide):wpAny (model X.prog X.w) X.A (eval (.Name x pos) X.env) Q E s :=
 Calls.Name_function_global I.ok.kind hg (Calls.loadGlobal_global (by rw [I.ok.glob];exact I.mod.glob.keeps I.bk) hm h) hd
theorem ld_blt {E:Value->Shared->Prop} {pins:List (Addr × Obj)} {s:Shared} {σ:St} {H:Hp} {x:Str} {u:Value} {pos:Pos} {Q:Value->Shared->Prop} (I:Inv X pins σ H s) (hg:Gl X x) (hm:X.mg x=none) (hv:bootBuiltins x=some u) (h:Q u s)
   (hn:x≠"__name__":=by decide) (hd:(x == ("__debug__":Str))=false:=by decide):wpAny (model X.prog X.w) X.A (eval (.Name x pos) X.env) Q E s:=by
 obtain ⟨mb,h1,h2⟩:=I.mod.blt
 exact Calls.Name_function_global I.ok.kind hg (Calls.loadGlobal_builtin (by rw [I.ok.glob];exact I.mod.glob.keeps I.bk) hm (by rw [I.ok.blt];exact h1.keeps I.bk) ((h2 x hn).trans hv) h) hd
theorem pe_bltn {x:Str} {v:V} {u:Value} {pos:Pos} (hg:Gl X x) (hm:X.mg x=none) (hv:bootBuiltins x=some u) (r:RelV v u) (hn:x≠"__name__":=by decide) (hd:(x == ("__debug__":Str))=false:=by decide):PE X (.Name x pos) (tC v) :=
 λ_ _ _ H _ I h=>ld_blt I hg hm hv ⟨v,H,I,r,h⟩ hn hd

def t2I (ta tb:TE) (k:Int->Int->Hp->Prop):St->Hp->Prop:=λσ H=>ta σ H λx H1=>tb σ H1 λy H2=>∃ i j,x=.int i/\y=.int j/\k i j H2
def tAdd (ta tb:TE):TE:=λσ H Q=>t2I ta tb (λi j H2=>Q (.int (i+j)) H2) σ H
def tSub (ta tb:TE):TE:=λσ H Q=>t2I ta tb (λi j H2=>Q (.int (i - j)) H2) σ H
def tMul (ta tb:TE):TE:=λσ H Q=>t2I ta tb (λi j H2=>(-(2 ^ 64) < i/\i < 2 ^ 64)/\Q (.int (i * j)) H2) σ H
variable {a b:Expr} {ta tb:TE} {pos:Pos}
def PC (X:Cx) (op:CmpOp) (a b:Expr) (t:TE):Prop :=
 ∀ (pins:List (Addr × Obj)) (s:Shared) (σ:St) (H:Hp) (Q:VK),Inv X pins σ H s->t σ H Q ->
   wpAny (model X.prog X.w) X.A (eval a X.env) (λv s₁=>wpAny (model X.prog X.w) X.A (eval b X.env) (λu s₂=>wpAny (model X.prog X.w) X.A (compareOp op v u) (EP X pins σ Q) X.xe s₂) X.xe s₁) X.xe s
theorem nobehind (b:Expr) {op:CmpOp} (h:op≠.In) (h2:op≠.NotIn):behindInMarks op b=false:=by
 have e1:(op == CmpOp.In)=false:=by cases op<;>first | rfl | exact absurd rfl h
 have e2:(op == CmpOp.NotIn)=false:=by cases op<;>first | rfl | exact absurd rfl h2
 cases b<;>simp [behindInMarks,e1,e2]
def tCmp (p:Int->Int->Bool) (ta tb:TE):TE:=λσ H Q=>t2I ta tb (λi j H2=>Q (.bl (p i j)) H2) σ H
abbrev tLt:TE->TE->TE:=tCmp λi j=>decide (i < j)
abbrev tLe:TE->TE->TE:=tCmp λi j=>decide (i <= j)
abbrev tGt:TE->TE->TE:=tCmp λi j=>decide (j < i)
abbrev tGe:TE->TE->TE:=tCmp λi j=>decide (j <= i)
abbrev tEqI:TE->TE->TE:=tCmp λi j=>decide (i=j)
abbrev tNeI:TE->TE->TE:=tCmp λi j=>!decide (i=j)
def tIsN (ta:TE):TE:=λσ H Q=>ta σ H λx H1=>Q (.bl (decide (x=.non))) H1
def tNotN (ta:TE):TE:=λσ H Q=>ta σ H λx H1=>Q (.bl (!decide (x=.non))) H1
def tB (t:TE):TT:=λσ H Q=>t σ H λx H1=>∃ c,x=.bl c/\Q c H1
theorem pe_cmp {op:CmpOp} {t:TE} (h:PC X op a b t) (h1:behindInMarks op b=false:=by first | exact nobehind _ (by decide) (by decide) | rfl):PE X (.Compare a [op] [b] pos) t:=λpins s σ H Q I hw=>wpAny_Compare1 (h pins s σ H Q I hw) h1
theorem pt_val {e:Expr} {t:TE} (h:PE X e t) (he:∀ whole,isTrue e X.env whole=(do let v ← whole;standAt e.pos;holding [v] (truthy v)):=by intro _;rfl):PT X e (tB t):=by
 intro pins s σ H Q I hw
 refine isTrue_plain (thn (h pins s σ H _ I hw) λv s1 ⟨x,H1,I1,r1,q1⟩=>?_) (he _)
 obtain ⟨d,rfl,q⟩:=q1
 cases r1
 exact wpAny_truthy_bool ⟨H1,I1,q⟩

variable {tA tB':TT} {rest:List Expr}
def tAnd (t u:TT):TT:=λσ H Q=>t σ H λc H1=>if c=true then u σ H1 Q else Q false H1
def tOr (t u:TT):TT:=λσ H Q=>t σ H λc H1=>if c=true then Q true H1 else u σ H1 Q
def tNot (t:TT):TT:=λσ H Q=>t σ H λc H1=>Q (!c) H1
theorem pw_and1 (ha:PT X a tA):PW X (.BoolOp .And [a] pos) tA:=by
 intro wh pins s σ H Q I h
 refine isTrue_and (thn (ha pins s σ H Q I h) λc s1 e=>?_)
 cases c with
 | true=>exact isTrue_and_nil e
 | false=>exact e
theorem pw_or1 (ha:PT X a tA):PW X (.BoolOp .Or [a] pos) tA:=by
 intro wh pins s σ H Q I h
 refine isTrue_or (thn (ha pins s σ H Q I h) λc s1 e=>?_)
 cases c with
 | false=>exact isTrue_or_nil e
 | true=>exact e
theorem pw_and (ha:PT X a tA) (hb:PW X (.BoolOp .And (b :: rest) pos) tB'):PW X (.BoolOp .And (a :: b :: rest) pos) (tAnd tA tB'):=by
 intro wh pins s σ H Q I h
 refine isTrue_and (thn (ha pins s σ H _ I h) λc s1 ⟨H1,I1,q1⟩=>?_)
 cases c with
 | true=>exact hb wh pins s1 σ H1 Q I1 q1
 | false=>exact ⟨H1,I1,q1⟩
theorem pw_or (ha:PT X a tA) (hb:PW X (.BoolOp .Or (b :: rest) pos) tB'):PW X (.BoolOp .Or (a :: b :: rest) pos) (tOr tA tB'):=by
 intro wh pins s σ H Q I h
 refine isTrue_or (thn (ha pins s σ H _ I h) λc s1 ⟨H1,I1,q1⟩=>?_)
 cases c with
 | true=>exact ⟨H1,I1,q1⟩
 | false=>exact hb wh pins s1 σ H1 Q I1 q1
theorem pt_not (ha:PT X a tA):PT X (.UnaryOp .Not a pos) (tNot tA):=by
 intro pins s σ H Q I h
 exact isTrue_not (ha pins s σ H (λc H1=>Q (!c) H1) I h)
def tAndV (ta tb:TE):TE:=λσ H Q=>ta σ H λx H1=>∃ c,x=.bl c/\if c=true then tb σ H1 Q else Q (.bl false) H1
def tOrV (ta tb:TE):TE:=λσ H Q=>ta σ H λx H1=>∃ c,x=.bl c/\if c=true then Q (.bl true) H1 else tb σ H1 Q
def tNotV (ta:TE):TE:=λσ H Q=>ta σ H λx H1=>∃ c,x=.bl c/\Q (.bl (!c)) H1
theorem pe_one {op} {t:TE} (h:PE X a t):PE X (.BoolOp op [a] pos) t:=λpins s σ H Q I hw=>BoolOp_one (h pins s σ H Q I hw)
theorem pe_and (ha:PE X a ta) (hb:PE X (.BoolOp .And (b :: rest) pos) tb):PE X (.BoolOp .And (a :: b :: rest) pos) (tAndV ta tb):=by
 intro pins s σ H Q I h
 refine BoolOp_and (thn (ha pins s σ H _ I h) λv s1 ⟨x,H1,I1,r1,q1⟩=>?_)
 obtain ⟨c,rfl,q1⟩:=q1
 cases r1
 refine wpAny_truthy_bool ?_
 cases c with
 | true=>exact hb pins s1 σ H1 Q I1 q1
 | false=>exact ⟨.bl false,H1,I1,rfl,q1⟩
theorem pe_not (ha:PE X a ta):PE X (.UnaryOp .Not a pos) (tNotV ta):=by
 intro pins s σ H Q I h
 refine UnaryOp_ (thn (ha pins s σ H _ I h) λv s1 ⟨x,H1,I1,r1,q1⟩=>?_)
 obtain ⟨c,rfl,q1⟩:=q1
 cases r1
 exact not_of (wpAny_truthy_bool ⟨.bl (!c),H1,I1,rfl,q1⟩)
def tIf (t:TT) (ta tb:TE):TE:=λσ H Q=>t σ H λc H1=>if c=true then ta σ H1 Q else tb σ H1 Q
end
end L2

namespace L2
open PySem PySem.Spec PyProof.Rows

def SqL (K:PySem.W.Frag) (H:Hp) (a:Addr) (xs:List V):Prop :=
 Rd H a (.lst xs) \/
   ∃ (o:Obj) (its:Array Value) (n:Nat),K.lookup a=some o/\o.cls=.type "list"/\o.dict=none/\o.data=.seq its n/\its.size <= sizeLine/\Vals xs its.toList
def SqT (K:PySem.W.Frag) (H:Hp) (a:Addr) (xs:List V):Prop :=
 Rd H a (.tup xs) \/
   ∃ (o:Obj) (its:Array Value) (n:Nat),K.lookup a=some o/\o.cls=.type "tuple"/\o.data=.seq its n/\its.size <= sizeLine/\Vals xs its.toList
def absV:Value->Option V
 | .none=>some .non
 | .bool b=>some (.bl b)
 | .int i _=>some (.int i)
 | .str x _=>some (.str x)
 | .bytes b _=>some (.byt b)
 | .float b _=>some (.flt b)
 | .ref a=>some (.ref a)
 | .type n=>some (.ty n)
 | _=>none
theorem RelV.abs {x:V} {u:Value} (r:RelV x u):absV u=some x:=by
 cases x with
 | non=>cases r;rfl
 | bl _=>cases r;rfl
 | int _=>obtain ⟨t,rfl⟩:=r;rfl
 | str _=>obtain ⟨t,rfl⟩:=r;rfl
 | byt _=>obtain ⟨t,rfl⟩:=r;rfl
 | flt _=>obtain ⟨t,rfl⟩:=r;rfl
 | ref _=>cases r;rfl
 | ty _=>cases r;rfl
theorem RelV.inj {x y:V} {u:Value} (r:RelV x u) (q:RelV y u):x=y:=Option.some.inj (r.abs.symm.trans q.abs)
theorem Vals.inj:∀ {xs ys:List V} {us:List Value},Vals xs us->Vals ys us->xs=ys
 | _,_,_,.nil,.nil=>rfl
 | _,_,_,.cons r t,.cons r' t'=>by rw [r.inj r',Vals.inj t t']
section
variable {X:Cx} {pins:List (Addr × Obj)} {σ:St} {H:Hp} {s:Shared} {a:Addr} {xs ys:List V}
theorem SqL.of {K:PySem.W.Frag} (h:H a=some (.lst xs)):SqL K H a xs:=.inl (.inl h)
theorem SqT.of {K:PySem.W.Frag} (h:H a=some (.tup xs)):SqT K H a xs:=.inl (.inl h)
theorem Inv.list (I:Inv X pins σ H s) (h:SqL X.K H a xs):∃ its:List Value,Vals xs its/\PlainL s.heap a its.toArray/\xs.length <= sizeLine:=by
 rcases h with h | ⟨o,its,n,hk,hc,hd,hs,hz,r⟩
 · obtain ⟨z,its,n,r,e⟩:=h.ok I.hok
   exact ⟨its,r,⟨_,n,e,rfl,rfl,rfl⟩,z⟩
 · refine ⟨its.toList,r,⟨o,n,I.kIn a o hk,hc,hd,by simpa using hs⟩,?_⟩
   have e:=r.length
   simp only [Array.length_toList] at e
   omega
theorem Inv.tuple (I:Inv X pins σ H s) (h:SqT X.K H a xs):∃ its:List Value,Vals xs its/\IsTup s.heap a its.toArray/\xs.length <= sizeLine:=by
 rcases h with h | ⟨o,its,n,hk,hc,hs,hz,r⟩
 · obtain ⟨z,its,r,p⟩:=h.ok I.hok
   exact ⟨its,r,p,z⟩
 · refine ⟨its.toList,r,⟨o,I.kIn a o hk,hc,n,by simpa using hs⟩,?_⟩
   have e:=r.length
   simp only [Array.length_toList] at e
   omega
theorem Inv.list_inj (I:Inv X pins σ H s) (h:SqL X.K H a xs) (h':SqL X.K H a ys):xs=ys:=by
 obtain ⟨its,r,⟨o,n,e,_,_,d⟩,_⟩:=I.list h
 obtain ⟨its',r',⟨o',n',e',_,_,d'⟩,_⟩:=I.list h'
 rw [e] at e';cases e'
 rw [d] at d'
 injection d' with d1 _
 have:its=its':=by simpa using congrArg Array.toList d1
 subst this
 exact r.inj r'
end

abbrev Cx.wish (X:Cx) (E:Value->Shared->Prop):Cx:={ X with xe:=E }
abbrev Cx.nox (X:Cx):Cx:=X.wish λ_ _=>False
theorem Cx.Ok.wish {X:Cx} (ok:X.Ok) (E:Value->Shared->Prop):(X.wish E).Ok :=
 ⟨ok.mod,ok.kind,ok.glob,ok.blt,ok.above,ok.inj,ok.has,ok.cab,ok.hd,ok.frames,ok.stk,ok.exf,ok.bs,ok.bsz,ok.noex,ok.exfs,ok.funs,ok.frf⟩
theorem Cx.Ok.unwish {X:Cx} {E:Value->Shared->Prop} (ok:(X.wish E).Ok):X.Ok :=
 ⟨ok.mod,ok.kind,ok.glob,ok.blt,ok.above,ok.inj,ok.has,ok.cab,ok.hd,ok.frames,ok.stk,ok.exf,ok.bs,ok.bsz,ok.noex,ok.exfs,ok.funs,ok.frf⟩
section
variable {X:Cx} {pins:List (Addr × Obj)} {σ:St} {H:Hp} {s:Shared} {E:Value->Shared->Prop}
theorem Inv.wish (I:Inv X pins σ H s) (E:Value->Shared->Prop):Inv (X.wish E) pins σ H s:=⟨I.ok.wish E,I.os,I.bare,I.base,I.loc,I.cell,I.free,I.freeC,I.pin,I.hok,I.len⟩
theorem Inv.unwish (I:Inv (X.wish E) pins σ H s):Inv X pins σ H s:=⟨I.ok.unwish,I.os,I.bare,I.base,I.loc,I.cell,I.free,I.freeC,I.pin,I.hok,I.len⟩
theorem SP.unwish {D:Ends} {f:Flow} {s':Shared} (h:SP (X.wish E) pins D f s'):SP X pins D f s':=by
 cases f with
 | next=>obtain ⟨σ',H',I,q⟩:=h;exact ⟨σ',H',I.unwish,q⟩
 | brk=>obtain ⟨σ',H',I,q⟩:=h;exact ⟨σ',H',I.unwish,q⟩
 | cont=>obtain ⟨σ',H',I,q⟩:=h;exact ⟨σ',H',I.unwish,q⟩
 | ret u=>obtain ⟨v,σ',H',I,r,q⟩:=h;exact ⟨v,σ',H',I.unwish,r,q⟩
theorem PE.nox {e:Expr} {t:TE} (h:PE X.nox e t):PE X e t:=λpins s σ H Q I hw =>
 wpAny_mono (h pins s σ H Q (I.wish _) hw) (λ_ _ ⟨v,H',I',r,q⟩=>⟨v,H',I'.unwish,r,q⟩) λ_ _ z=>False.elim z
theorem PT.nox {e:Expr} {t:TT} (h:PT X.nox e t):PT X e t:=λpins s σ H Q I hw =>
 wpAny_mono (h pins s σ H Q (I.wish _) hw) (λ_ _ ⟨H',I',q⟩=>⟨H',I'.unwish,q⟩) λ_ _ z=>False.elim z
theorem PSs.nox {st:List Stmt} {t:TS} (h:PSs X.nox st t):PSs X st t:=λpins s σ H D I hw =>
 wpAny_mono (h pins s σ H D (I.wish _) hw) (λ_ _ q=>q.unwish) λ_ _ z=>False.elim z
end

section
variable {X:Cx} {st:Stmt} {rest:List Stmt} {t u:TS} {e:Expr} {te:TE} {pos:Pos}
def tNext:TS:=λD σ H=>D.nx σ H
def tSeq (t u:TS):TS:=λD σ H=>t { D with nx:=u D } σ H
theorem pss_nil:PSs X [] tNext:=λ_ _ σ H _ I h=>wpAny_execs_nil ⟨σ,H,I,h⟩
theorem pss_cons (h1:PS X st t) (h2:PSs X rest u):PSs X (st :: rest) (tSeq t u):=by
 intro pins s σ H D I h
 refine wpAny_execs_cons (thn (h1 pins s σ H { D with nx:=u D } I h) λf s1 q=>?_)
 cases f with
 | next =>
   obtain ⟨σ',H',I',q⟩:=q
   exact h2 pins s1 σ' H' D I' q
 | ret v=>exact q
 | brk=>exact q
 | cont=>exact q
theorem pss_one (h1:PS X st t):PSs X [st] t:=by
 intro pins s σ H D I h
 refine wpAny_execs_cons (thn (h1 pins s σ H D I h) λf s1 q=>?_)
 cases f with
 | next=>exact wpAny_execs_nil q
 | ret v=>exact q
 | brk=>exact q
 | cont=>exact q
def tBreak:TS:=λD σ H=>D.bk σ H
def tCont:TS:=λD σ H=>D.ct σ H
theorem Inv.quiet {pins:List (Addr × Obj)} {σ:St} {H:Hp} {s:Shared} (I:Inv X pins σ H s):interactive X.env=false:=by simp [interactive,I.ok.kind]
def tDrop (te:TE):TS:=λD σ H=>te σ H λ_ H1=>D.nx σ H1
theorem ps_expr (he:PE X e te) (hs:swapsWith e none pos.line X.env=pure false:=by rfl):PS X (.Expr e pos) (tDrop te):=by
 intro pins s σ H D I h
 exact wpAny_Expr_any (thn (he pins s σ H _ I h) λv s1 ⟨x,H1,I1,r1,q1⟩=>⟨σ,H1,I1,q1⟩) I.quiet hs
def tRet (te:TE):TS:=λD σ H=>te σ H D.rt
theorem ps_ret (he:PE X e te):PS X (.Return (some e) pos) (tRet te):=by
 intro pins s σ H D I h
 exact wpAny_Return_some (thn (he pins s σ H _ I h) λv s1 ⟨x,H1,I1,r1,q1⟩=>⟨x,σ,H1,I1,r1,q1⟩)
def tRetN:TS:=λD _ H=>D.rt .non H
def tIfS (c:TT) (t u:TS):TS:=λD σ H=>c σ H λb H1=>if b=true then t D σ H1 else u D σ H1
theorem ps_if {c:Expr} {a b:List Stmt} {tc:TT} (hc:PT X c tc) (ha:PSs X a t) (hb:PSs X b u):PS X (.If c a b pos) (tIfS tc t u):=by
 intro pins s σ H D I h
 refine wpAny_If (thn (hc pins s σ H _ I h) λd s1 ⟨H1,I1,q1⟩=>?_)
 cases d with
 | true=>exact ha pins s1 σ H1 D I1 q1
 | false=>exact hb pins s1 σ H1 D I1 q1
def tNever:TS:=λ_ _ _=>False
end

abbrev TG:=V->St->Hp->(St->Hp->Prop)->Prop
abbrev TGs:=List V->St->Hp->(St->Hp->Prop)->Prop
def PG (X:Cx) (target:Expr) (t:TG):Prop :=
 ∀ (pins:List (Addr × Obj)) (s:Shared) (σ:St) (H:Hp) (v:V) (u:Value) (Q:St->Hp->Prop),Inv X pins σ H s->RelV v u->t v σ H Q ->
   wpAny (model X.prog X.w) X.A (assign target X.env u) (λ_ s'=>∃ σ' H',Inv X pins σ' H' s'/\Q σ' H') X.xe s
def PGs (X:Cx) (ts:List Expr) (t:TGs):Prop :=
 ∀ (pins:List (Addr × Obj)) (s:Shared) (σ:St) (H:Hp) (vs:List V) (us:List Value) (Q:St->Hp->Prop),Inv X pins σ H s->Vals vs us->t vs σ H Q ->
   wpAny (model X.prog X.w) X.A (assignInOrder ((assignEach ts X.env).map (·.2)) us) (λ_ s'=>∃ σ' H',Inv X pins σ' H' s'/\Q σ' H') X.xe s
abbrev TSet:=V->V->V->Hp->(Hp->Prop)->Prop
def PSet (X:Cx) (t:TSet):Prop :=
 ∀ (pins:List (Addr × Obj)) (s:Shared) (σ:St) (H:Hp) (o i v:V) (ov iv u:Value) (Q:Hp->Prop),Inv X pins σ H s->RelV o ov->RelV i iv->RelV v u->t o i v H Q ->
   wpAny (model X.prog X.w) X.A (setItem ov iv u) (λ_ s'=>∃ H',Inv X pins σ H' s'/\Q H') X.xe s
abbrev TIp:=V->V->Hp->VK->Prop
def PIp (X:Cx) (op:Operator) (t:TIp):Prop :=
 ∀ (pins:List (Addr × Obj)) (s:Shared) (σ:St) (H:Hp) (x y:V) (v u:Value) (Q:VK),Inv X pins σ H s->RelV x v->RelV y u->t x y H Q ->
   wpAny (model X.prog X.w) X.A (inplaceOp op v u) (EP X pins σ Q) X.xe s
section
variable {X:Cx} {pos:Pos}
def gName (i:Nat):TG:=λv σ H Q=>Q (σ.set i (some v)) H
theorem pg_name {i:Nat} {x:Str} (hN:X.N.Nodup) (hi:X.N[i]?=some x) (hx:Loc X.env.scope x) (hf:X.fn x=true\/X.env.scope.names.lookup x=some .local:=by first | exact .inl rfl | exact .inr rfl | assumption):PG X (.Name x pos) (gName i):=by
 intro pins s σ H v u Q I r h
 exact wpAny_assign_Name (store_ok I hN hi hx r (λs' I'=>⟨_,H,I',h⟩) hf)
def gNil:TGs:=λvs σ H Q=>vs=[]/\Q σ H
def gCons (t:TG) (u:TGs):TGs:=λvs σ H Q=>∃ v r,vs=v :: r/\t v σ H λσ' H'=>u r σ' H' Q
theorem pgs_nil:PGs X [] gNil:=by
 intro pins s σ H vs us Q I r h
 obtain ⟨e,h⟩:=h
 subst e
 cases r
 exact assignInOrder_nil ⟨σ,H,I,h⟩
theorem pgs_cons {e:Expr} {es:List Expr} {t:TG} {u:TGs} (h1:PG X e t) (h2:PGs X es u)
   (hs:(assignEach (e :: es) X.env).map (·.2)=assign e X.env :: (assignEach es X.env).map (·.2):=by rfl):PGs X (e :: es) (gCons t u):=by
 intro pins s σ H vs us Q I r h
 obtain ⟨v,vr,e1,h⟩:=h
 subst e1
 cases r with
 | cons r rr =>
   rw [hs]
   refine assignInOrder_cons (thn (h1 pins s σ H _ _ _ I r h) λ_ s1 ⟨σ1,H1,I1,q1⟩=>?_)
   exact h2 pins s1 σ1 H1 _ _ Q I1 rr q1
def gTup (K:PySem.W.Frag) (n:Nat) (t:TGs):TG:=λv σ H Q=>∃ a xs,v=.ref a/\SqT K H a xs/\xs.length=n/\t xs σ H Q
theorem pg_tup {es:List Expr} {k:Nat} {t:TGs} {n:Nat} (hc:X.calm=true) (h:PGs X es t)
   (hn:(assignEach es X.env).length=n:=by rfl) (hst:(assignEach es X.env).findIdx? (·.1)=none:=by rfl):PG X (.Tuple es k pos) (gTup X.K n t):=by
 intro pins s σ H v u Q I r hw
 obtain ⟨a,xs,e1,hq,hl,hw⟩:=hw
 subst e1
 cases r
 obtain ⟨its,rv,ht,hz⟩:=I.tuple hq
 refine assign_Tuple_tuple (I.ok.hd hc) ht (by simp [hn,← hl,rv.length]) hst λh' hx=>?_
 have I1:Inv X pins σ H { s with heap:=h' }:=I.kept (t':=s.toks) λb o e=>hx b o (Nat.ne_of_lt (Heap.lt_size e)) e
 exact h pins _ σ H xs _ Q I1 (by simpa using rv) hw
def gSub (to ti:TE) (t:TSet):TG:=λv σ H Q=>to σ H λo H1=>ti σ H1 λi H2=>t o i v H2 λH3=>Q σ H3
def tAsg (te:TE) (g:TG):TS:=λD σ H=>te σ H λx H1=>g x σ H1 D.nx
theorem ps_asg {tg e:Expr} {te:TE} {g:TG} (he:PE X e te) (hg:PG X tg g) (hs:swapsWithSole [tg] e pos.line X.env=pure false:=by rfl) (hw:swappedStores [tg] e X.env=pure none:=by rfl)
   (h1:(assignEach [tg] X.env).map (·.2)=[assign tg X.env]:=by rfl):PS X (.Assign [tg] e pos) (tAsg te g):=by
 intro pins s σ H D I h
 refine wpAny_Assign_stores (thn (he pins s σ H _ I h) λv s1 ⟨x,H1,I1,r1,q1⟩=>?_) hs hw
 rw [h1]
 exact thn (hg pins s1 σ H1 x v _ I1 r1 q1) λ_ s2 q=>q
theorem ps_set {i:Nat} {x:Str} {e:Expr} {te:TE} {pos':Pos} (hN:X.N.Nodup) (hi:X.N[i]?=some x) (hx:Loc X.env.scope x) (he:PE X e te) (hs:swapsWith e (some (.Name x pos')) pos.line X.env=pure false:=by rfl) (hf:X.fn x=true\/X.env.scope.names.lookup x=some .local:=by first | exact .inl rfl | exact .inr rfl | assumption) :
   PS X (.Assign [.Name x pos'] e pos) (tAsg te (gName i)):=by
 intro pins s σ H D I h
 refine wpAny_Assign_Name (thn (he pins s σ H _ I h) λv s1 ⟨y,H1,I1,r1,q1⟩=>?_) hs
 exact store_ok I1 hN hi hx r1 (λs2 I2=>⟨_,H1,I2,q1⟩) hf
def tPar (i j:Nat) (ta:TA):TS:=λD σ H=>ta σ H λvs H1=>∃ v w,vs=[v,w]/\D.nx ((σ.set i (some v)).set j (some w)) H1
def tAug (i:Nat) (te:TE) (ti:TIp):TS:=λD σ H=>∃ x,σ[i]?=some (some x)/\te σ H λy H1=>ti x y H1 λz H2=>D.nx (σ.set i (some z)) H2
def tAugS (to ti te:TE) (tget:V->V->Hp->VK->Prop) (tip:TIp) (tset:TSet):TS:=λD σ H=>to σ H λo H1=>ti σ H1 λi H2=>tget o i H2 λx H3=>te σ H3 λy H4=>tip x y H4 λz H5=>tset o i z H5 λH6=>D.nx σ H6
def PGet (X:Cx) (t:V->V->Hp->VK->Prop):Prop :=
 ∀ (pins:List (Addr × Obj)) (s:Shared) (σ:St) (H:Hp) (o i:V) (ov iv:Value) (Q:VK),Inv X pins σ H s->RelV o ov->RelV i iv->t o i H Q ->
   wpAny (model X.prog X.w) X.A (getItem ov iv) (EP X pins σ Q) X.xe s
def ipI (f:Int->Int->Int):TIp:=λx y H Q=>∃ i j,x=.int i/\y=.int j/\Q (.int (f i j)) H
end

section
variable {X:Cx} {pos:Pos}
def tWhile (c:TT) (tb:TS):TS:=λD σ H=>∃ W:Nat->St->Hp->Prop,(∃ m,W m σ H)/\∀ m σ H,W m σ H ->
 c σ H λb H1=>if b=true then ∃ N:St->Hp->Prop,(∀ σ' H',N σ' H'->∃ m',m' < m/\W m' σ' H')/\tb { D with nx:=N,ct:=N,bk:=D.nx } σ H1 else D.nx σ H1
theorem ps_while {c:Expr} {body:List Stmt} {tc:TT} {tb:TS} (hp:PassesOwn (model X.prog X.w) X.A X.env X.xe) (hc:PT X c tc) (hb:PSs X body tb):PS X (.While c body [] pos) (tWhile tc tb):=by
 intro pins s σ H D I h
 obtain ⟨W,⟨m0,w0⟩,turn⟩:=h
 refine wpAny_While (codeAny_whileLoop (λn s'=>∃ σ' H',Inv X pins σ' H' s'/\W n σ' H') ?_ m0 ⟨σ,H,I,w0⟩)
 rintro n s1 ⟨σ1,H1,I1,w1⟩
 refine wpAny_passesOwn hp (thn (hc pins s1 σ1 H1 _ I1 (turn n σ1 H1 w1)) λb s2 ⟨H2,I2,q2⟩=>?_)
 cases b with
 | true =>
   obtain ⟨N,hN,q2⟩:=q2
   rw [if_pos rfl]
   refine wpAny_passesOwn hp (thn (hb pins s2 σ1 H2 _ I2 q2) λf s3 q3=>?_)
   cases f with
   | next =>
     obtain ⟨σ3,H3,I3,n3⟩:=q3
     obtain ⟨m',hm,w3⟩:=hN σ3 H3 n3
     exact ⟨m',hm,σ3,H3,I3,w3⟩
   | cont =>
     obtain ⟨σ3,H3,I3,n3⟩:=q3
     obtain ⟨m',hm,w3⟩:=hN σ3 H3 n3
     exact ⟨m',hm,σ3,H3,I3,w3⟩
   | brk=>exact q3
   | ret v=>exact q3
 | false =>
   rw [if_neg Bool.false_ne_true]
   exact wpAny_execs_nil ⟨σ1,H2,I2,q2⟩
end

structure It where
 go:Nat->Hp->Prop
 yld:Nat->Hp->V->Hp->Prop
 stop:Nat->Hp->Prop
def FpOk (X:Cx) (pins:List (Addr × Obj)) (H:Hp) (b:Addr):Prop :=
 H b=none/\b≠X.env.locals/\b ∉ X.fs/\(b∈X.ex\/X.s₀.heap.objs.size <= b)/\(∀ x c,X.env.cells.lookup x=some c->c≠b)/\∀ p∈X.pn++pins,p.1≠b
theorem Inv.fpOk {X:Cx} {pins:List (Addr × Obj)} {σ:St} {H H':Hp} {s:Shared} {b:Addr} (I:Inv X pins σ H s) (hb:s.heap.objs.size <= b) (hn:H' b=none):FpOk X pins H' b:=by
 refine ⟨hn,Nat.ne_of_gt (Nat.lt_of_lt_of_le I.lt hb),I.nofs hb,.inr (Nat.le_trans I.sz hb),λx c e z=>?_,λp hp z=>?_⟩
 · obtain ⟨v,q⟩:=I.cell x c e
   exact absurd (Nat.lt_of_lt_of_le q.lt (by rw [z];exact hb)) (Nat.lt_irrefl _)
 · exact absurd (Nat.lt_of_lt_of_le (Heap.lt_size (I.pin p hp).1) (by rw [z];exact hb)) (Nat.lt_irrefl _)
structure Turn (P:Program) (w:World) (K:PySem.W.Frag) (tg:Expr) (J:It) (fp:List Addr) (it:Addr) (tn:Nat->Heap->Prop):Prop where
 mem:it∈fp
 obj:∀ i h,tn i h->∀ b∈fp,∃ o,h.get? b=some o/\∀ v,o.data≠.cell v
 keep:∀ i h h',tn i h->(∀ b∈fp,∀ o,h.get? b=some o->h'.get? b=some o)->tn i h'
 item:∀ (X:Cx),X.prog=P->X.w=w->X.K=K->X.calm=true->∀ (i:Nat) (pins:List (Addr × Obj)) (s:Shared) (σ:St) (H:Hp) (E:Value->Shared->Prop),Inv X pins σ H s->(∀ b∈fp,FpOk X pins H b)->tn i s.heap->J.go i H ->
   wpAny (model P w) X.A (pyNext (.ref it)) (λr s1=>∃ u,r=some u /\
     wpAny (model P w) X.A (letOwnedTupleGo tg (.ref it) u) (λ_ s2=>∃ x H',Inv X pins σ H' s2/\RelV x u/\J.yld i H x H'/\tn (i+1) s2.heap/\∀ b∈fp,H' b=none) E s1) E s
 done:∀ (X:Cx),X.prog=P->X.w=w->X.K=K->X.calm=true->∀ (i:Nat) (pins:List (Addr × Obj)) (s:Shared) (σ:St) (H:Hp) (E:Value->Shared->Prop),Inv X pins σ H s->(∀ b∈fp,FpOk X pins H b)->tn i s.heap->J.stop i H ->
   wpAny (model P w) X.A (pyNext (.ref it)) (λr s1=>r=none/\Inv X pins σ H s1) E s
 self:∀ (A:Around) (i:Nat) (s:Shared) (Q:Value->Shared->Prop) (E:Value->Shared->Prop),tn i s.heap->Q (.ref it) s->wpAny (model P w) A (pyIter (.ref it)) Q E s
abbrev TI:=St->Hp->(It->Hp->Prop)->Prop
def PIE (X:Cx) (pins:List (Addr × Obj)) (σ:St) (tg:Expr) (R:It->Hp->Prop) (itv:Value) (s2:Shared):Prop :=
 ∃ (it:Addr) (fp:List Addr) (tn:Nat->Heap->Prop) (J:It) (H':Hp),itv=.ref it/\Inv X pins σ H' s2/\Turn X.prog X.w X.K tg J fp it tn/\tn 0 s2.heap/\(∀ b∈fp,FpOk X pins H' b)/\R J H'
def PI (X:Cx) (tg iter:Expr) (wi:TI):Prop :=
 ∀ (pins:List (Addr × Obj)) (s:Shared) (σ:St) (H:Hp) (R:It->Hp->Prop),Inv X pins σ H s->wi σ H R ->
   wpAny (model X.prog X.w) X.A (eval iter X.env) (λv s1=>wpAny (model X.prog X.w) X.A (pyIter v) (PIE X pins σ tg R) X.xe s1) X.xe s

theorem go_of {M:Model} {A:Around} {E:Value->Shared->Prop} {s:Shared} {tg:Expr} {it:Addr} {u:Value} {o:Obj} {n:String} {vs:Array Value} {Q:Unit->Shared->Prop} (ho:s.heap.get? it=some o) (hc:o.cls=.type n) (hd:o.data=.fields vs)
   (hn:["enumerate","zip","dict_itemiterator","dict_reverseitemiterator","odict_iterator","itertools.zip_longest","itertools.pairwise"].contains n=false) (hQ:Q () s):wpAny M A (letOwnedTupleGo tg (.ref it) u) Q E s:=by
 unfold letOwnedTupleGo
 cases tg<;>first
   | exact wpAny_pure hQ
   | (cases u<;>first
       | exact wpAny_pure hQ
       | (refine wpAny_bind (wpAny_load ho ?_)
          rw [hc,hd]
          show wpAny M A (if (["enumerate","zip","dict_itemiterator","dict_reverseitemiterator","odict_iterator","itertools.zip_longest","itertools.pairwise"].contains n && vs[0]? == some (rawInt _))=true then _ else _) Q E s
          rw [if_neg (by intro h;rw [hn,Bool.false_and] at h;cases h)]
          exact wpAny_pure hQ))

def Itl (K:PySem.W.Frag) (a:Addr):It :=
 ⟨λi H=>∃ xs x,SqL K H a xs/\xs[i]?=some x,λi H x H'=>H'=H/\∀ xs,SqL K H a xs->xs[i]?=some x,λi H=>∃ xs,SqL K H a xs/\xs.length <= i⟩
def Itt (K:PySem.W.Frag) (a:Addr):It :=
 ⟨λi H=>∃ xs x,SqT K H a xs/\xs[i]?=some x,λi H x H'=>H'=H/\∀ xs,SqT K H a xs->xs[i]?=some x,λi H=>∃ xs,SqT K H a xs/\xs.length <= i⟩
def Itr (lo:Int) (n:Nat):It:=⟨λi _=>i < n,λi H x H'=>H'=H/\x=.int (lo+i),λi _=>n <= i⟩
theorem turn_list {P:Program} {w:World} {K:PySem.W.Frag} {tg:Expr} (a it:Addr):Turn P w K tg (Itl K a) [it] it (λi h=>h.IsListIter it a i) where
 mem:=by simp
 obj:=λi h st b hb=>by
   have e:b=it:=by simpa using hb
   subst e
   obtain ⟨o,e,c,d⟩:=st
   exact ⟨o,e,λv z=>by rw [d] at z;cases z⟩
 keep:=λi h h' st k=>st.at λo e=>k it (by simp) o e
 item:=by
   intro X hP hw hK hc i pins s σ H E I hf st hg
   subst hP hw hK
   obtain ⟨xs,x,hq,hx⟩:=hg
   obtain ⟨its,rv,p,hz⟩:=I.list hq
   obtain ⟨u,hu,ru⟩:=rv.get hx
   obtain ⟨f0,f1,f2,f3,f4,f5⟩:=hf it (by simp)
   refine wpAny_pyNext_list_item st p.isList (x:=u) (by simpa using hu) λh' st' sb=>?_
   have I1:Inv X pins σ H { s with heap:=h' }:=I.turned (t':=s.toks) (λb o hb e=>(sb.2 b hb).trans e) f0 f1 f3 f4 f5
   obtain ⟨o,e,c,d⟩:=id st'
   exact ⟨u,rfl,go_of (s:={ s with heap:=h' }) e c d (by decide) ⟨x,H,I1,ru,⟨rfl,λys hy=>by rw [I.list_inj hy hq];exact hx⟩,st',λb hb=>(hf b hb).1⟩⟩
 done:=by
   intro X hP hw hK hc i pins s σ H E I hf st hg
   subst hP hw hK
   obtain ⟨xs,hq,hx⟩:=hg
   obtain ⟨its,rv,p,hz⟩:=I.list hq
   obtain ⟨f0,f1,f2,f3,f4,f5⟩:=hf it (by simp)
   have hl:=rv.length
   exact wpAny_pyNext_list_end (I.ok.hd hc) st p.isList (by simp;omega) λh' eb=>⟨rfl,I.turned (t':=s.toks) (λb o hb e=>eb b o hb e) f0 f1 f3 f4 f5⟩
 self:=λ_ _ _ _ _ st h=>wpAny_pyIter_listiter st h
theorem turn_range {P:Program} {w:World} {K:PySem.W.Frag} {tg:Expr} (it:Addr) (lo:Int) (n:Nat):Turn P w K tg (Itr lo n) [it] it (λi h=>IsRangeIter h it (lo+(i:Nat) * 1) ((n:Int) - (i:Nat)) 1) where
 mem:=by simp
 obj:=λi h st b hb=>by
   have e:b=it:=by simpa using hb
   subst e
   exact ⟨_,st,λv z=>by
     have z':Data.fields _=Data.cell v:=z
     cases z'⟩
 keep:=λi h h' st k=>k it (by simp) _ st
 item:=by
   intro X hP hw hK hc i pins s σ H E I hf st hg
   subst hP hw hK
   obtain ⟨f0,f1,f2,f3,f4,f5⟩:=hf it (by simp)
   have W:=Walks.range (prog:=X.prog) (w:=X.w) (I.ok.hd hc) it lo 1 n
   refine W.item i s _ _ hg st λv h' tk hv st' kk=>?_
   obtain ⟨t,rfl⟩:=hv
   have I1:Inv X pins σ H { s with heap:=h',toks:=tk }:=I.turned (λb o hb e=>kk b o (by simpa using hb) e) f0 f1 f3 f4 f5
   refine ⟨_,rfl,go_of (s:={ s with heap:=h',toks:=tk }) (n:="range_iterator") st' rfl rfl (by decide) ⟨.int (lo+i),H,I1,⟨t,?_⟩,⟨rfl,rfl⟩,st',λb hb=>(hf b hb).1⟩⟩
   rw [Int.mul_one]
 done:=by
   intro X hP hw hK hc i pins s σ H E I hf st hg
   subst hP hw hK
   obtain ⟨f0,f1,f2,f3,f4,f5⟩:=hf it (by simp)
   exact wpAny_pyNext_range_end (I.ok.hd hc) st (by have:n <= i:=hg;omega) λh' eb=>⟨rfl,I.turned (t':=s.toks) (λb o hb e=>eb b o hb e) f0 f1 f3 f4 f5⟩
 self:=λ_ _ _ _ _ st h=>wpAny_pyIter_rangeiter st h
end L2

namespace L2
open PySem PySem.Spec PyProof.Rows
section
variable {X:Cx} {tg:Expr}
def iList (K:PySem.W.Frag) (tl:TE):TI:=λσ H R=>tl σ H λx H1=>∃ a,x=.ref a/\(∃ xs,SqL K H1 a xs)/\R (Itl K a) H1
def iTup (K:PySem.W.Frag) (tl:TE):TI:=λσ H R=>tl σ H λx H1=>∃ a,x=.ref a/\(∃ xs,SqT K H1 a xs)/\R (Itt K a) H1
theorem pi_list {l:Expr} {tl:TE} (hl:PE X l tl):PI X tg l (iList X.K tl):=by
 intro pins s σ H R I h
 refine thn (hl pins s σ H _ I h) λv s1 ⟨x,H1,I1,r1,q1⟩=>?_
 obtain ⟨a,e,⟨xs,hq⟩,q⟩:=q1
 subst e
 cases r1
 obtain ⟨its,rv,p,hz⟩:=I1.list hq
 refine wpAny_pyIter_list p.isList ?_
 refine ⟨s1.heap.objs.size,[s1.heap.objs.size],_,_,H1,rfl,I1.kept (t':=s1.toks) λb o e=>Heap.get?_push_of_some _ e,turn_list a _,⟨_,Heap.get?_push_size _ rfl,rfl,rfl⟩,λb hb=>?_,q⟩
 have e:b=s1.heap.objs.size:=by simpa using hb
 subst e
 exact I1.fpOk (Nat.le_refl _) (I1.hok.fresh (Nat.le_refl _))
theorem range_it {pins:List (Addr × Obj)} {σ:St} {H:Hp} {s:Shared} {R:It->Hp->Prop} {E:Value->Shared->Prop} {lo hi:Int} {t u v:Tok} {tk:Nat} (I:Inv X pins σ H s) (h1:-(2 ^ 62) <= lo) (h2:lo < 2 ^ 62) (h3:-(2 ^ 62) <= hi) (h4:hi < 2 ^ 62)
   (q:R (Itr lo (hi - lo).toNat) H):wpAny (model X.prog X.w) X.A (pyIter (.ref s.heap.objs.size)) (PIE X pins σ tg R) E { s with heap:=s.heap.push { cls:=.type "range",data:=.fields #[.int lo t,.int hi u,.int 1 v] },toks:=tk }:=by
 refine wpAny_pyIter_range (IsRange.new ..) (small_one h1 h2 h3 h4) ?_
 have I1:Inv X pins σ H { s with heap:=s.heap.push { cls:=.type "range",data:=.fields #[.int lo t,.int hi u,.int 1 v] },toks:=tk }:=I.kept λb o e=>Heap.get?_push_of_some _ e
 refine ⟨(s.heap.push { cls:=.type "range",data:=.fields #[.int lo t,.int hi u,.int 1 v] }).objs.size,[(s.heap.push { cls:=.type "range",data:=.fields #[.int lo t,.int hi u,.int 1 v] }).objs.size],_,_,H,rfl,
   I1.kept (t':=tk) λb o e=>Heap.get?_push_of_some _ e,turn_range _ lo (hi - lo).toNat,?_,λb hb=>?_,q⟩
 · have e1:lo+((0:Nat):Int) * 1=lo:=by simp
   have e2:(((hi - lo).toNat:Nat):Int) - ((0:Nat):Int)=Builtin.Range.rangeSize lo hi 1:=by rw [rangeSize_one];split<;>omega
   show IsRangeIter _ _ (lo+((0:Nat):Int) * 1) ((((hi - lo).toNat:Nat):Int) - ((0:Nat):Int)) 1
   rw [e1,e2]
   exact Heap.get?_push_size _ rfl
 · have e:b=(s.heap.push { cls:=.type "range",data:=.fields #[.int lo t,.int hi u,.int 1 v] }).objs.size:=by simpa using hb
   subst e
   exact I1.fpOk (Nat.le_refl _) (I1.hok.fresh (Nat.le_refl _))
def iRng1 (ta:TA):TI:=λσ H R=>ta σ H λvs H1=>∃ j:Int,vs=[.int j]/\-(2 ^ 62) <= j/\j < 2 ^ 62/\R (Itr 0 j.toNat) H1
def iRng2 (ta:TA):TI:=λσ H R=>ta σ H λvs H1=>∃ i j:Int,vs=[.int i,.int j]/\(-(2 ^ 62) <= i/\i < 2 ^ 62/\-(2 ^ 62) <= j/\j < 2 ^ 62)/\R (Itr i (j - i).toNat) H1
theorem pi_range1 {a:Expr} {ta:TA} {p pos:Pos} (hg:Gl X "range") (hm:X.mg "range"=none) (ha:PA X [a] ta) (hs:starEach [a] X.env=[(false,eval a X.env)]:=by rfl):PI X tg (.Call (.Name "range" p) [a] [] pos) (iRng1 ta):=by
 intro pins s σ H R I h
 refine Call_ (ld_blt I hg hm boot_range (PyProof.Rows.callWith_type1 (thn (ha pos pins s σ H _ I h) λus s1 ⟨vs,H1,I1,r1,q1⟩=>?_) hs rfl))
 obtain ⟨j,e,q1,q2,q⟩:=q1
 subst e
 cases r1 with
 | cons r rr =>
   cases rr
   obtain ⟨t,rfl⟩:=r
   exact call_range_1 (range_it I1 (by omega) (by omega) q1 q2 (by simpa using q))
def tFor (wi:TI) (g:TG) (tb:TS):TS:=λD σ H=>wi σ H λJ H1=>∃ W:Nat->Nat->St->Hp->Prop,(∃ m,W 0 m σ H1)/\∀ i m σ H,W i m σ H ->
 (J.stop i H/\D.nx σ H)\/(J.go i H/\∃ N:St->Hp->Prop,(∀ σ' H',N σ' H'->∃ m',m' < m/\W (i+1) m' σ' H')/\∀ x H',J.yld i H x H'->g x σ H' λσ2 H2=>tb { D with nx:=N,ct:=N,bk:=D.nx } σ2 H2)
def pinsAt (fp:List Addr) (h:Heap):List (Addr × Obj):=fp.filterMap λb=>(h.get? b).map λo=>(b,o)
theorem mem_pinsAt {fp:List Addr} {h:Heap} {b:Addr} {o:Obj} (hb:b∈fp) (e:h.get? b=some o):(b,o)∈pinsAt fp h:=List.mem_filterMap.mpr ⟨b,hb,by rw [e];rfl⟩
theorem of_pinsAt {fp:List Addr} {h:Heap} {p:Addr × Obj} (hp:p∈pinsAt fp h):p.1∈fp/\h.get? p.1=some p.2:=by
 obtain ⟨b,hb,e⟩:=List.mem_filterMap.mp hp
 cases q:h.get? b with
 | none=>rw [q] at e;cases e
 | some o =>
   rw [q] at e
   have e':(b,o)=p:=Option.some.inj e
   subst e'
   exact ⟨hb,q⟩
theorem Inv.pinned {pins:List (Addr × Obj)} {σ:St} {H:Hp} {s:Shared} {fp:List Addr} (I:Inv X pins σ H s) (hf:∀ b∈fp,FpOk X pins H b) (ho:∀ b∈fp,∃ o,s.heap.get? b=some o/\∀ v,o.data≠.cell v):Inv X (pins++pinsAt fp s.heap) σ H s :=
 I.pins_of λp hp=>(List.mem_append.mp hp).elim (λz=>I.pin p (List.mem_append_right _ z)) λz=>by
   obtain ⟨hb,e⟩:=of_pinsAt z
   obtain ⟨f0,f1,f2,_⟩:=hf p.1 hb
   obtain ⟨o,e',d⟩:=ho p.1 hb
   rw [e] at e';cases e'
   exact ⟨e,f0,f1,f2,d⟩
theorem Inv.unpinned {pins pl:List (Addr × Obj)} {σ:St} {H:Hp} {s:Shared} (I:Inv X (pins++pl) σ H s):Inv X pins σ H s:=I.pins_of λp hp=>I.pin p (List.mem_append_right _ (List.mem_append_left _ hp))
theorem ps_for {iter:Expr} {body:List Stmt} {wi:TI} {g:TG} {tb:TS} {pos:Pos} (hp:PassesOwn (model X.prog X.w) X.A X.env X.xe) (hc:X.calm=true) (hi:PI X tg iter wi) (hg:PG X tg g) (hb:PSs X body tb)
   (hs:∀ x,foldedSetIterable iter X.env x=pure x:=by intro _;rfl):PS X (.For tg iter body [] pos) (tFor wi g tb):=by
 intro pins s σ H D I h
 refine wpAny_For (thn (hi pins s σ H _ I h) λv s1 h1=>thn h1 λitv s2 h2=>?_) hs
 obtain ⟨it,fp,tn,J,H2,e,I2,T,st2,f2,W,⟨m0,w0⟩,turn⟩:=h2
 subst e
 have stat:∀ {H':Hp},(∀ b∈fp,H' b=none)->∀ b∈fp,FpOk X pins H' b:=λhn b hb=>⟨hn b hb,(f2 b hb).2⟩
 refine codeAny_forLoop_any (λn s'=>∃ i σ' H',Inv X pins σ' H' s'/\tn i s'.heap/\(∀ b∈fp,H' b=none)/\W i n σ' H') ?_ m0 ⟨0,σ,H2,I2,st2,λb hb=>(f2 b hb).1,w0⟩
 rintro n s3 ⟨i,σ3,H3,I3,st3,fr3,w3⟩
 rcases turn i n σ3 H3 w3 with ⟨stop,qn⟩ | ⟨go,N,hN,step⟩
 · refine wpAny_passesOwn hp (thn (T.done X rfl rfl rfl hc i pins s3 σ3 H3 X.xe I3 (stat fr3) st3 stop) λr s4 ⟨hr,I4⟩=>?_)
   subst hr
   exact wpAny_execs_nil ⟨σ3,H3,I4,qn⟩
 · refine wpAny_passesOwn hp (thn (T.item X rfl rfl rfl hc i pins s3 σ3 H3 X.xe I3 (stat fr3) st3 go) λr s4 ⟨u,hr,h4⟩=>?_)
   subst hr
   refine wpAny_passesOwn hp (thn h4 λ_ s5 ⟨x,H5,I5,r5,y5,st5,fr5⟩=>?_)
   have I5':=I5.pinned (stat fr5) (T.obj _ _ st5)
   refine wpAny_passesOwn hp (thn (hg _ s5 σ3 H5 x u _ I5' r5 (step x H5 y5)) λ_ s6 ⟨σ6,H6,I6,q6⟩=>?_)
   refine wpAny_passesOwn hp (thn (hb _ s6 σ6 H6 _ I6 q6) λf s7 q7=>?_)
   have again:∀ {σ7:St} {H7:Hp},Inv X (pins++pinsAt fp s5.heap) σ7 H7 s7->N σ7 H7->∃ m,m < n/\∃ i σ' H',Inv X pins σ' H' s7/\tn i s7.heap/\(∀ b∈fp,H' b=none)/\W i m σ' H':=λ{σ7 H7} I7 n7=>by
     obtain ⟨m',hm,w7⟩:=hN σ7 H7 n7
     refine ⟨m',hm,i+1,σ7,H7,I7.unpinned,T.keep _ _ _ st5 λb hb o e=>(I7.pin (b,o) (List.mem_append_right _ (List.mem_append_right _ (mem_pinsAt hb e)))).1,λb hb=>?_,w7⟩
     obtain ⟨o,e,d⟩:=T.obj _ _ st5 b hb
     exact (I7.pin (b,o) (List.mem_append_right _ (List.mem_append_right _ (mem_pinsAt hb e)))).2.1
   cases f with
   | next=>obtain ⟨σ7,H7,I7,n7⟩:=q7;exact again I7 n7
   | cont=>obtain ⟨σ7,H7,I7,n7⟩:=q7;exact again I7 n7
   | brk=>obtain ⟨σ7,H7,I7,q7⟩:=q7;exact ⟨σ7,H7,I7.unpinned,q7⟩
   | ret v=>obtain ⟨x7,σ7,H7,I7,r7,q7⟩:=q7;exact ⟨x7,σ7,H7,I7.unpinned,r7,q7⟩
end

theorem for_list {K:PySem.W.Frag} {a:Addr} {xs:List V} {g:TG} {tb:TS} {D:Ends} {σ:St} {H:Hp} (Pv:Nat->St->Hp->Prop) (h0:Pv 0 σ H) (hl:∀ i σ H,i <= xs.length->Pv i σ H->SqL K H a xs)
   (hs:∀ i x σ H,xs[i]?=some x->Pv i σ H->g x σ H λσ2 H2=>tb { D with nx:=Pv (i+1),ct:=Pv (i+1),bk:=D.nx } σ2 H2) (hd:∀ σ H,Pv xs.length σ H->D.nx σ H) :
   ∃ W:Nat->Nat->St->Hp->Prop,(∃ m,W 0 m σ H)/\∀ i m σ H,W i m σ H ->
     ((Itl K a).stop i H/\D.nx σ H)\/((Itl K a).go i H/\∃ N:St->Hp->Prop,(∀ σ' H',N σ' H'->∃ m',m' < m/\W (i+1) m' σ' H')/\∀ x H',(Itl K a).yld i H x H'->g x σ H' λσ2 H2=>tb { D with nx:=N,ct:=N,bk:=D.nx } σ2 H2):=by
 refine ⟨λi m σ H=>m=xs.length - i/\i <= xs.length/\Pv i σ H,⟨xs.length,by simp,Nat.zero_le _,h0⟩,?_⟩
 rintro i m σ H ⟨rfl,hi,p⟩
 have q:=hl i σ H hi p
 by_cases hlt:i < xs.length
 · refine .inr ⟨⟨xs,xs[i],q,by simp [hlt]⟩,Pv (i+1),λσ' H' p'=>⟨xs.length - (i+1),by omega,rfl,hlt,p'⟩,λx H' y=>?_⟩
   obtain ⟨e,y⟩:=y
   subst e
   exact hs i x σ _ (y xs q) p
 · have e:i=xs.length:=by omega
   subst e
   exact .inl ⟨⟨xs,q,Nat.le_refl _⟩,hd σ H p⟩
theorem for_range {lo:Int} {n:Nat} {g:TG} {tb:TS} {D:Ends} {σ:St} {H:Hp} (Pv:Nat->St->Hp->Prop) (h0:Pv 0 σ H)
   (hs:∀ i σ H,i < n->Pv i σ H->g (.int (lo+i)) σ H λσ2 H2=>tb { D with nx:=Pv (i+1),ct:=Pv (i+1),bk:=D.nx } σ2 H2) (hd:∀ σ H,Pv n σ H->D.nx σ H) :
   ∃ W:Nat->Nat->St->Hp->Prop,(∃ m,W 0 m σ H)/\∀ i m σ H,W i m σ H ->
     ((Itr lo n).stop i H/\D.nx σ H)\/((Itr lo n).go i H/\∃ N:St->Hp->Prop,(∀ σ' H',N σ' H'->∃ m',m' < m/\W (i+1) m' σ' H')/\∀ x H',(Itr lo n).yld i H x H'->g x σ H' λσ2 H2=>tb { D with nx:=N,ct:=N,bk:=D.nx } σ2 H2):=by
 refine ⟨λi m σ H=>m=n - i/\i <= n/\Pv i σ H,⟨n,by simp,Nat.zero_le _,h0⟩,?_⟩
 rintro i m σ H ⟨rfl,hi,p⟩
 by_cases hlt:i < n
 · refine .inr ⟨hlt,Pv (i+1),λσ' H' p'=>⟨n - (i+1),by omega,rfl,hlt,p'⟩,λx H' y=>?_⟩
   obtain ⟨e,y⟩:=y
   subst e y
   exact hs i σ _ hlt p
 · have e:i=n:=by omega
   subst e
   exact .inl ⟨Nat.le_refl _,hd σ H p⟩
end L2

namespace L2
open PySem PySem.Spec PyProof.Rows

abbrev R2:=V->V->Hp->VK->Prop
def OpR (X:Cx) (f:Value->Value->Sem Value) (r:R2):Prop :=
 ∀ (pins:List (Addr × Obj)) (s:Shared) (σ:St) (H:Hp) (x y:V) (v u:Value) (Q:VK),Inv X pins σ H s->RelV x v->RelV y u->r x y H Q ->
   wpAny (model X.prog X.w) X.A (f v u) (EP X pins σ Q) X.xe s
def UnR (X:Cx) (f:Value->Sem Value) (r:V->Hp->VK->Prop):Prop :=
 ∀ (pins:List (Addr × Obj)) (s:Shared) (σ:St) (H:Hp) (x:V) (v:Value) (Q:VK),Inv X pins σ H s->RelV x v->r x H Q ->
   wpAny (model X.prog X.w) X.A (f v) (EP X pins σ Q) X.xe s
def CallR (X:Cx) (f:Value) (r:List V->Hp->VK->Prop):Prop :=
 ∀ (pins:List (Addr × Obj)) (s:Shared) (σ:St) (H:Hp) (xs:List V) (us:List Value) (Q:VK),Inv X pins σ H s->Vals xs us->r xs H Q ->
   wpAny (model X.prog X.w) X.A (call f us) (EP X pins σ Q) X.xe s
def TruR (X:Cx) (r:V->Hp->(Bool->Hp->Prop)->Prop):Prop :=
 ∀ (pins:List (Addr × Obj)) (s:Shared) (σ:St) (H:Hp) (x:V) (v:Value) (Q:Bool->Hp->Prop),Inv X pins σ H s->RelV x v->r x H Q ->
   wpAny (model X.prog X.w) X.A (truthy v) (TP X pins σ Q) X.xe s

def tOp (r:R2) (ta tb:TE):TE:=λσ H Q=>ta σ H λx H1=>tb σ H1 λy H2=>r x y H2 Q
def tUn (r:V->Hp->VK->Prop) (ta:TE):TE:=λσ H Q=>ta σ H λx H1=>r x H1 Q
def rI (C:Int->Int->Prop) (g:Int->Int->V):R2:=λx y H Q=>∃ i j,x=.int i/\y=.int j/\C i j/\Q (g i j) H
def rI0 (g:Int->Int->V):R2:=λx y H Q=>∃ i j,x=.int i/\y=.int j/\Q (g i j) H
def rU (g:Int->V):V->Hp->VK->Prop:=λx H Q=>∃ i,x=.int i/\Q (g i) H

section
variable {X:Cx} {a b c:Expr} {ta tb tc:TE} {pos:Pos}

theorem binT (ha:PE X a ta) (hb:PE X b tb) {pins:List (Addr × Obj)} {s:Shared} {σ:St} {H:Hp} {R:V->V->Hp->Prop} (I:Inv X pins σ H s)
   (h:ta σ H λx H1=>tb σ H1 λy H2=>R x y H2) {Q:Value->Shared->Prop} {f:Value->Value->Sem Value}
   (hf:∀ v u s2 x y H2,Inv X pins σ H2 s2->RelV x v->RelV y u->R x y H2->wpAny (model X.prog X.w) X.A (f v u) Q X.xe s2) :
   wpAny (model X.prog X.w) X.A (eval a X.env) (λv s₁=>wpAny (model X.prog X.w) X.A (eval b X.env) (λu s₂=>wpAny (model X.prog X.w) X.A (f v u) Q X.xe s₂) X.xe s₁) X.xe s:=by
 refine thn (ha pins s σ H _ I h) λv s1 ⟨x,H1,I1,r1,q1⟩=>?_
 refine thn (hb pins s1 σ H1 _ I1 q1) λu s2 ⟨y,H2,I2,r2,q2⟩=>?_
 exact hf v u s2 x y H2 I2 r1 r2 q2

theorem pe_op {op:Operator} {r:R2} (ho:OpR X (binaryOp op) r) (ha:PE X a ta) (hb:PE X b tb):PE X (.BinOp a op b pos) (tOp r ta tb):=by
 intro pins s σ H Q I h
 exact wpAny_BinOp (binT ha hb I h λv u s2 x y H2 I2 rx ry q=>ho pins s2 σ H2 x y v u Q I2 rx ry q)
theorem pe_un {op:UnaryOp} {r:V->Hp->VK->Prop} (ho:UnR X (unaryOp op) r) (ha:PE X a ta):PE X (.UnaryOp op a pos) (tUn r ta):=by
 intro pins s σ H Q I h
 exact UnaryOp_ (thn (ha pins s σ H _ I h) λv s1 ⟨x,H1,I1,r1,q1⟩=>ho pins s1 σ H1 x v Q I1 r1 q1)
theorem opI {f:Value->Value->Sem Value} {C:Int->Int->Prop} {g:Int->Int->Int}
   (rule:∀ (i j:Int) (t u:Tok) (s:Shared) (Q:Value->Shared->Prop) (E:Value->Shared->Prop),C i j->Q (.int (g i j) s.toks) { s with toks:=s.toks+1 }->wpAny (model X.prog X.w) X.A (f (.int i t) (.int j u)) Q E s) :
   OpR X f (rI C λi j=>.int (g i j)):=by
 intro pins s σ H x y v u Q I rx ry h
 obtain ⟨i,j,rfl,rfl,hc,q⟩:=h
 obtain ⟨t,rfl⟩:=rx
 obtain ⟨t',rfl⟩:=ry
 exact rule i j t t' s _ _ hc ⟨.int (g i j),H,I.tok _,⟨_,rfl⟩,q⟩
theorem opI0 {f:Value->Value->Sem Value} {g:Int->Int->Int}
   (rule:∀ (i j:Int) (t u:Tok) (s:Shared) (Q:Value->Shared->Prop) (E:Value->Shared->Prop),Q (.int (g i j) s.toks) { s with toks:=s.toks+1 }->wpAny (model X.prog X.w) X.A (f (.int i t) (.int j u)) Q E s) :
   OpR X f (rI0 λi j=>.int (g i j)):=by
 intro pins s σ H x y v u Q I rx ry h
 obtain ⟨i,j,rfl,rfl,q⟩:=h
 obtain ⟨t,rfl⟩:=rx
 obtain ⟨t',rfl⟩:=ry
 exact rule i j t t' s _ _ ⟨.int (g i j),H,I.tok _,⟨_,rfl⟩,q⟩
theorem opB0 {f:Value->Value->Sem Value} {g:Int->Int->Bool}
   (rule:∀ (i j:Int) (t u:Tok) (s:Shared) (Q:Value->Shared->Prop) (E:Value->Shared->Prop),Q (.bool (g i j)) s->wpAny (model X.prog X.w) X.A (f (.int i t) (.int j u)) Q E s) :
   OpR X f (rI0 λi j=>.bl (g i j)):=by
 intro pins s σ H x y v u Q I rx ry h
 obtain ⟨i,j,rfl,rfl,q⟩:=h
 obtain ⟨t,rfl⟩:=rx
 obtain ⟨t',rfl⟩:=ry
 exact rule i j t t' s _ _ ⟨.bl (g i j),H,I,rfl,q⟩

def CDiv (i j:Int):Prop:=0 < j/\j < 1073741824
def CDivN (i j:Int):Prop:=j≠0/\j.natAbs < 1073741824
def CPow (i j:Int):Prop:=0 <= j/\j <= 1000000/\i.natAbs < 2 ^ 64
def CMul (i j:Int):Prop:=(-(2 ^ 64) < i/\i < 2 ^ 64)\/(-(2 ^ 64) < j/\j < 2 ^ 64)
theorem CMul.ok {i j:Int} (h:CMul i j):IntMulOk i j:=by
 rcases h with ⟨h1,h2⟩ | ⟨h1,h2⟩
 · exact .of_left (intBits_le_64 h1 h2)
 · exact .of_right (intBits_le_64 h1 h2)
theorem op_add:OpR X (binaryOp .Add) (rI0 λi j=>.int (i+j)):=opI0 λ_ _ _ _ _ _ _ q=>add_int q
theorem op_sub:OpR X (binaryOp .Sub) (rI0 λi j=>.int (i - j)):=opI0 λ_ _ _ _ _ _ _ q=>sub_int q
theorem op_mul:OpR X (binaryOp .Mult) (rI CMul λi j=>.int (i * j)):=opI λ_ _ _ _ _ _ _ hc q=>mul_int q hc.ok
theorem op_mod:OpR X (binaryOp .Mod) (rI (λ_ j=>0 < j) λi j=>.int (i % j)):=opI λi j _ _ _ _ _ hc q=>by
 have h1:(0:Int) < j:=hc
 exact mod_int' (by omega) (by rw [Int.fmod_eq_emod_of_nonneg i (by omega)];exact q)
theorem op_pow:OpR X (binaryOp .Pow) (rI CPow λi j=>.int (i ^ j.toNat)):=opI λ_ _ _ _ _ _ _ hc q=>pow_int_small hc.1 hc.2.1 hc.2.2 q
theorem unI {f:Value->Sem Value} {g:Int->Int}
   (rule:∀ (i:Int) (t:Tok) (s:Shared) (Q:Value->Shared->Prop) (E:Value->Shared->Prop),Q (.int (g i) s.toks) { s with toks:=s.toks+1 }->wpAny (model X.prog X.w) X.A (f (.int i t)) Q E s) :
   UnR X f (rU λi=>.int (g i)):=by
 intro pins s σ H x v Q I rx h
 obtain ⟨i,rfl,q⟩:=h
 obtain ⟨t,rfl⟩:=rx
 exact rule i t s _ _ ⟨.int (g i),H,I.tok _,⟨_,rfl⟩,q⟩
theorem un_neg:UnR X (unaryOp .USub) (rU λi=>.int (-i)):=unI λ_ _ _ _ _ q=>neg_int q
end

def scal:V->V->Bool
 | .non,.non=>true | .non,.int _=>true | .int _,.non=>true | .non,.bl _=>true | .bl _,.non=>true | .non,.str _=>true | .str _,.non=>true
 | .int _,.int _=>true | .bl _,.bl _=>true | .str _,.str _=>true | .byt _,.byt _=>true
 | .int _,.str _=>true | .str _,.int _=>true | .bl _,.str _=>true | .str _,.bl _=>true
 | _,_=>false
def rEq:R2:=λx y H Q=>scal x y=true/\Q (.bl (decide (x=y))) H
def rNe:R2:=λx y H Q=>scal x y=true/\Q (.bl (!decide (x=y))) H

theorem dec_int {i j:Int}:decide (V.int i=V.int j)=(i == j):=by
 rw [Bool.eq_iff_iff]
 simp
theorem dec_bl {i j:Bool}:decide (V.bl i=V.bl j)=(i == j):=by
 rw [Bool.eq_iff_iff]
 simp
theorem dec_str {i j:Str}:decide (V.str i=V.str j)=(i == j):=by
 rw [Bool.eq_iff_iff]
 simp
theorem dec_byt {i j:Array UInt8}:decide (V.byt i=V.byt j)=(i.toList == j.toList):=by
 rw [Bool.eq_iff_iff]
 cases i
 cases j
 simp

section
variable {X:Cx} {a b c:Expr} {ta tb tc:TE} {pos:Pos}
theorem fin_bl {pins:List (Addr × Obj)} {σ:St} {H:Hp} {s:Shared} {Q:VK} {k k':Bool} (I:Inv X pins σ H s) (q:Q (.bl k) H) (e:k=k'):EP X pins σ Q (.bool k') s:=by
 subst e
 exact ⟨.bl k,H,I,rfl,q⟩
theorem op_eq:OpR X (compareOp .Eq) rEq:=by
 intro pins s σ H x y v u Q I rx ry h
 obtain ⟨hs,q⟩:=h
 cases x with
 | non =>
   cases rx
   cases y with
   | non=>cases ry;exact PySem.EqNone.eq_none_none (fin_bl I q (by simp))
   | bl j=>cases ry;exact PySem.EqNone.eq_none_bool (fin_bl I q (by simp))
   | int j=>obtain ⟨t',rfl⟩:=ry;exact PySem.EqNone.eq_none_int (fin_bl I q (by simp))
   | str j=>obtain ⟨t',rfl⟩:=ry;exact PySem.EqNone.eq_none_str (fin_bl I q (by simp))
   | _=>exact absurd (show false=true from hs) Bool.false_ne_true
 | bl i =>
   cases rx
   cases y with
   | non=>cases ry;exact PySem.EqNone.eq_bool_none (fin_bl I q (by simp))
   | bl j=>cases ry;exact eq_bool (fin_bl I q dec_bl)
   | str j=>obtain ⟨t',rfl⟩:=ry;exact PySem.EqMixed.eq_bool_str (fin_bl I q (by simp))
   | _=>exact absurd (show false=true from hs) Bool.false_ne_true
 | int i =>
   obtain ⟨t,rfl⟩:=rx
   cases y with
   | non=>cases ry;exact PySem.EqNone.eq_int_none (fin_bl I q (by simp))
   | int j=>obtain ⟨t',rfl⟩:=ry;exact eq_int (fin_bl I q dec_int)
   | str j=>obtain ⟨t',rfl⟩:=ry;exact PySem.EqMixed.eq_int_str (fin_bl I q (by simp))
   | _=>exact absurd (show false=true from hs) Bool.false_ne_true
 | str i =>
   obtain ⟨t,rfl⟩:=rx
   cases y with
   | non=>cases ry;exact PySem.EqNone.eq_str_none (fin_bl I q (by simp))
   | bl j=>cases ry;exact PySem.EqMixed.eq_str_bool (fin_bl I q (by simp))
   | int j=>obtain ⟨t',rfl⟩:=ry;exact PySem.EqMixed.eq_str_int (fin_bl I q (by simp))
   | str j=>obtain ⟨t',rfl⟩:=ry;exact eq_str (fin_bl I q dec_str)
   | _=>exact absurd (show false=true from hs) Bool.false_ne_true
 | byt i =>
   obtain ⟨t,rfl⟩:=rx
   cases y with
   | byt j=>obtain ⟨t',rfl⟩:=ry;exact PySem.W.eq_bytes (fin_bl I q dec_byt)
   | _=>exact absurd (show false=true from hs) Bool.false_ne_true
 | _=>cases y<;>exact absurd (show false=true from hs) Bool.false_ne_true
theorem op_lt:OpR X (compareOp .Lt) (rI0 λi j=>.bl (decide (i < j))):=opB0 λ_ _ _ _ _ _ _ q=>lt_int q
theorem op_le:OpR X (compareOp .LtE) (rI0 λi j=>.bl (decide (i <= j))):=opB0 λ_ _ _ _ _ _ _ q=>le_int q
theorem op_gt:OpR X (compareOp .Gt) (rI0 λi j=>.bl (decide (j < i))):=opB0 λ_ _ _ _ _ _ _ q=>gt_int q
theorem op_isN:OpR X (compareOp .Is) (λx y H Q=>y=.non/\Q (.bl (decide (x=.non))) H):=by
 intro pins s σ H x y v u Q I rx ry h
 obtain ⟨rfl,q⟩:=h
 cases ry
 refine is_none_gen (fin_bl I q ?_)
 cases x<;>first
   | (cases rx;rfl)
   | (obtain ⟨t,rfl⟩:=rx;rfl)
theorem op_notN:OpR X (compareOp .IsNot) (λx y H Q=>y=.non/\Q (.bl (!decide (x=.non))) H):=by
 intro pins s σ H x y v u Q I rx ry h
 obtain ⟨rfl,q⟩:=h
 cases ry
 refine isnot_none_gen (fin_bl I q ?_)
 cases x<;>first
   | (cases rx;rfl)
   | (obtain ⟨t,rfl⟩:=rx;rfl)

def isObj:HO->Bool
 | .lst _=>true
 | .ins _ _ _=>true
 | _=>false
theorem OpR.or {f:Value->Value->Sem Value} {r r':R2} (h:OpR X f r) (h':OpR X f r'):OpR X f (λx y H Q=>r x y H Q\/r' x y H Q):=by
 intro pins s σ H x y v u Q I rx ry q
 rcases q with q | q
 · exact h pins s σ H x y v u Q I rx ry q
 · exact h' pins s σ H x y v u Q I rx ry q

theorem nomark (b:Expr) {op:CmpOp} (h:op≠.In:=by decide) (h2:op≠.NotIn:=by decide):behindInMarks op b=false:=by
 have e1:(op == CmpOp.In)=false:=by cases op<;>first | rfl | exact absurd rfl h
 have e2:(op == CmpOp.NotIn)=false:=by cases op<;>first | rfl | exact absurd rfl h2
 cases b<;>simp [behindInMarks,e1,e2]
theorem pe_cmpR {op:CmpOp} {r:R2} (ho:OpR X (compareOp op) r) (ha:PE X a ta) (hb:PE X b tb) (hm:behindInMarks op b=false):PE X (.Compare a [op] [b] pos) (tOp r ta tb):=by
 intro pins s σ H Q I h
 exact wpAny_Compare1 (binT ha hb I h λv u s2 x y H2 I2 rx ry q=>ho pins s2 σ H2 x y v u Q I2 rx ry q) hm
def tTest (t:TE):TT:=λσ H Q=>t σ H λx H'=>∃ k,x=.bl k/\Q k H'
theorem pt_cmpR {op:CmpOp} {r:R2} (ho:OpR X (compareOp op) r) (ha:PE X a ta) (hb:PE X b tb) (hm:behindInMarks op b=false):PT X (.Compare a [op] [b] pos) (tTest (tOp r ta tb)):=by
 intro pins s σ H Q I h
 refine wpAny_isTrue_Compare1 (thn (ha pins s σ H _ I h) λv s1 ⟨x,H1,I1,r1,q1⟩=>thn (hb pins s1 σ H1 _ I1 q1) λu s2 ⟨y,H2,I2,r2,q2⟩ =>
   thn (ho pins s2 σ H2 x y v u _ I2 r1 r2 q2) λc s3 ⟨z,H3,I3,r3,k,e,q3⟩=>?_) hm
 subst e
 cases r3
 exact wpAny_truthy_bool ⟨H3,I3,q3⟩
def tChain (r r':R2) (ta tb tc:TE):TE:=λσ H Q=>ta σ H λx H1=>tb σ H1 λy H2=>r x y H2 λz H3=>∃ k,z=.bl k /\
 (if k=true then tc σ H3 λw' H4=>r' y w' H4 Q else Q (.bl false) H3)
theorem pt_chain {op op':CmpOp} {r r':R2} (ho:OpR X (compareOp op) r) (ho':OpR X (compareOp op') r') (ha:PE X a ta) (hb:PE X b tb) (hc:PE X c tc)
   (hm:lastMarks [op,op'] [b,c]=false:=by with_unfolding_all rfl):PT X (.Compare a [op,op'] [b,c] pos) (tTest (tChain r r' ta tb tc)):=by
 intro pins s σ H Q I h
 refine isTrue_chain (thn (ha pins s σ H _ I h) λv s1 ⟨x,H1,I1,r1,q1⟩=>test_link (thn (hb pins s1 σ H1 _ I1 q1) λu s2 ⟨y,H2,I2,r2,q2⟩ =>
   thn (ho pins s2 σ H2 x y v u _ I2 r1 r2 q2) λd s3 ⟨z,H3,I3,r3,k,e,q3⟩=>?_)) hm
 subst e
 cases r3
 refine wpAny_truthy_bool ?_
 cases k with
 | false =>
   obtain ⟨k',e',q'⟩:=q3
   cases e'
   exact ite_ff ⟨H3,I3,q'⟩
 | true =>
   refine ite_tt (test_last (thn (hc pins s3 σ H3 _ I3 q3) λw' s4 ⟨z',H4,I4,r4,q4⟩=>thn (ho' pins s4 σ H4 y z' u w' _ I4 r2 r4 q4) λd' s5 ⟨z2,H5,I5,r5,k2,e2,q5⟩=>?_))
   subst e2
   cases r5
   exact wpAny_truthy_bool ⟨H5,I5,q5⟩

def TruV (K:PySem.W.Frag) (x:V) (H:Hp) (k:Bool):Prop :=
 match x with
 | .non=>k=false
 | .bl b=>k=b
 | .int i=>k=(i != 0)
 | .str y=>y.length <= sizeLine/\k=((y.length:Int) != 0)
 | .byt y=>y.size <= sizeLine/\k=((y.size:Int) != 0)
 | .ref p=>(∃ xs,SqL K H p xs/\k=!xs.isEmpty)\/(∃ xs,SqT K H p xs/\k=!xs.isEmpty)\/∃ kvs,H p=some (.dK kvs)/\k=!kvs.isEmpty
 | _=>False
theorem line63:(sizeLine:Nat) < 2 ^ 63:=by rw [sizeLine_eq];decide
def PlainIxT (b:Expr):Prop:=∀ o i,subscripted b false o i=operate [o,i] (getItem o i)
theorem vals1 {x:V} {us:List Value} (r:Vals [x] us):∃ u,us=[u]/\RelV x u:=by
 cases r with
 | cons r1 r2=>cases r2;exact ⟨_,rfl,r1⟩
theorem vals2 {x y:V} {us:List Value} (r:Vals [x,y] us):∃ u w',us=[u,w']/\RelV x u/\RelV y w':=by
 cases r with
 | cons r1 r2 =>
   cases r2 with
   | cons r3 r4=>cases r4;exact ⟨_,_,rfl,r1,r3⟩
theorem call_int1:CallR X (.type "int") (λxs H Q=>(∃ i,xs=[.int i]/\Q (.int i) H)\/∃ k,xs=[.bl k]/\Q (.int (if k then 1 else 0)) H):=by
 intro pins s σ H xs us Q I r h
 rcases h with ⟨i,rfl,q⟩ | ⟨k,rfl,q⟩
 · obtain ⟨u,rfl,t,rfl⟩:=vals1 r
   exact call_int_int ⟨.int i,H,I,⟨_,rfl⟩,q⟩
 · obtain ⟨u,rfl,r1⟩:=vals1 r
   cases r1
   exact call_int_bool ⟨.int (if k then 1 else 0),H,I.tok _,⟨_,rfl⟩,q⟩
def LenV (K:PySem.W.Frag) (x:V) (H:Hp) (n:Nat):Prop :=
 match x with
 | .str y=>y.length <= sizeLine/\n=y.length
 | .byt y=>y.size <= sizeLine/\n=y.size
 | .ref p=>(∃ xs,SqL K H p xs/\n=xs.length)\/∃ xs,SqT K H p xs/\n=xs.length
 | _=>False
end
end L2

namespace L2
open PySem PySem.Spec PyProof.Rows

structure ObjM (h:Heap) (x dx C:Addr) (mA:Str->Option Value):Prop where
 obj:h.get? x=some (PySem.W.instObj C dx)
 ns:h.Ns1 dx mA
 ne:dx≠x

theorem lookIn_ns {h:Heap} {dx:Addr} {mA:Str->Option Value} (n:h.Ns1 dx mA):∃ od,h.get? dx=some od/\∀ name,PySem.W.lookIn name od=some (mA name):=by
 obtain ⟨o,es,ep,ho,hd,hk,_,hm⟩:=n
 refine ⟨o,ho,λname=>?_⟩
 have e:=hm name
 unfold nsFind findBy at e
 rw [← Array.find?_toList] at e
 unfold PySem.W.lookIn
 rw [hd]
 dsimp only
 split
 · rename_i y q
   rw [q] at e
   exact congrArg some e
 · rename_i q
   rw [q] at e
   have a:es.toList.any (·.refKey)=false:=by
     rw [List.any_eq_false]
     intro y hy
     obtain ⟨z,t,hkey⟩:=hk y (Array.mem_toList_iff.mp hy)
     simp [DictEntry.refKey,hkey]
   have a':¬ es.toList.any (·.refKey)=true:=by rw [a];exact Bool.false_ne_true
   rw [if_neg a']
   exact congrArg some e

theorem ObjM.look {h:Heap} {x dx C:Addr} {mA:Str->Option Value} (I:ObjM h x dx C mA):∃ od,PySem.W.InstAt h x (PySem.W.instObj C dx) C (some od)/\∀ name,PySem.W.lookIn name od=some (mA name) :=
 let ⟨od,ho,hl⟩:=lookIn_ns I.ns
 ⟨od,⟨I.obj,rfl,rfl,ho⟩,hl⟩

section
variable {prog:Program} {w:World} {A:Around} {E:Value->Shared->Prop} {s:Shared} {K:PySem.W.Frag} {x dx C f:Addr} {mA:Str->Option Value} {name:Str} {v:Value}

theorem get_map {expr:Bool} {Q:Value->Shared->Prop} (X:K.In s.heap) (I:ObjM s.heap x dx C mA) (hg:PySem.W.plainGet K C name=true) (hh:PySem.W.hasDictIn K C=true)
   (ha:PySem.W.findIn K (.ref C) name=some none) (hv:mA name=some v) (hv':PySem.W.handedIn v=true) (h:Q v { s with toks:=s.toks+1 }) :
   wpAny (model prog w) A (getAttr (.ref x) name expr) Q E s:=by
 obtain ⟨od,J,hl⟩:=I.look
 exact PySem.W.get_value X J (PySem.W.plainGet_of hg).1 (PySem.W.findObj_own hh ha rfl (by rw [hl,hv])) hv' h

theorem get_meth {pl:Sem Bool} {Q:Value × List Value->Shared->Prop} (X:K.In s.heap) (I:ObjM s.heap x dx C mA) (hg:PySem.W.plainGet K C name=true)
   (hf:PySem.W.findIn K (.ref C) name=some (some (.ref f))) (ht:PySem.W.isFn K (.ref f)=true) (hv:mA name=none) (h:Q (.ref f,[.ref x]) s) :
   wpAny (model prog w) A (getMethod (.ref x) name pl) Q E s:=by
 obtain ⟨od,J,hl⟩:=I.look
 exact PySem.W.method_fn X J (PySem.W.plainGet_of hg).1 (PySem.W.plainGet_of hg).2 hf (beq_iff_eq.mp ht) (by show (PySem.W.lookIn name od).map (·.isSome)=some false;rw [hl,hv];rfl) h

theorem set_map {ns:List Str} {Q:Unit->Shared->Prop} (X:K.In s.heap) (I:ObjM s.heap x dx C mA)
   (hs:PySem.W.findIn K (.ref C) "__setattr__"=some (some (.builtin "object.__setattr__"))) (hp:PySem.W.plainOver K C=true) (ht:PySem.W.takerIn K C name=some none) (hh:PySem.W.hasDictIn K C=true)
   (hw:PySem.Within mA ns) (hsz:ns.length <= sizeLine)
   (h:∀ h',ObjM h' x dx C (λy=>if y=name then some v else mA y)->Heap.SameBut dx s.heap h'->Q () { s with heap:=h',toks:=s.toks+2 }) :
   wpAny (model prog w) A (setAttr (.ref x) name v) Q E s:=by
 obtain ⟨od,J,hl⟩:=I.look
 refine PySem.W.set_plain X J hs (PySem.W.osa_open (s:={ s with toks:=s.toks+1 }) (r:=none) X J hp ht λb=>?_)
 obtain ⟨cd,hc,hd'⟩:=PySem.W.any_some hh
 have hx:s.heap.get? x=some ⟨.ref C,some dx,.plain,#[]⟩:=I.obj
 refine wpAny_bind (wpAny_pure (wpAny_bind (wpAny_bind (wpAny_loadPart hx (wpAny_bind (PySem.W.Looks.here (s:={ s with toks:=s.toks+1 }) (PySem.W.looks_clsIn X hc) ?_))))))
 rw [hd']
 refine wpAny_pure (a:=some dx) (wpAny_bind (wpAny_pure (wpAny_bind ?_)))
 refine wpAny_nsSet1 (s:={ s with toks:=s.toks+1 }) I.ns λh' hn2 hs2=>?_
 obtain ⟨oD,esD,epD,hoD,hdD,hcD⟩:=hn2.count (PySem.Within.cons name v hw)
 refine wpAny_bind (wpAny_lookBehind hoD (by rw [hdD];exact pastItsLine_dict (Nat.le_trans hcD (by rw [List.length_cons];omega))) ?_)
 exact wpAny_pure (h _ ⟨(hs2.2 _ (Ne.symm I.ne)).trans I.obj,hn2,I.ne⟩ hs2)

theorem make_map {R:Result->Shared->Prop} {vs:List Value} {kw:List (Str × Value)} (X:K.In s.heap) (hm:PySem.W.makesIn K C=true)
   (hi:PySem.W.findIn K (.ref C) "__init__"=some (some (.ref f))) (hf:PySem.W.typeIn K (.ref f)=some (.type "function"))
   (h:codeAny (model prog w) (A.under (.builtin "type.__call__" ⟨.ref C :: vs,kw⟩)) (.call (.ref f) ⟨.ref (s.heap.objs.size+1) :: vs,kw⟩) (PySem.W.InitBack (s.heap.objs.size+1) R)
     { s with heap:=(s.heap.push PySem.W.emptyDict).push (PySem.W.instObj C s.heap.objs.size) }) :
   codeAny (model prog w) A (.call (.ref C) ⟨vs,kw⟩) R s:=by
 obtain ⟨hh,g,d,t,os⟩:=s
 exact PySem.W.make_core (PySem.W.makes_of X hm) (PySem.W.looks_findIn X hi) (λself=>PySem.W.bind_fn X self hf) (.inl rfl) h
end

def putF (f:Str) (v:V):List (Str × V)->List (Str × V)
 | []=>[(f,v)]
 | (g,x) :: r=>if g=f then (g,v) :: r else (g,x) :: putF f v r
theorem lookup_putF (f g:Str) (v:V):∀ fs:List (Str × V),(putF f v fs).lookup g=if g=f then some v else fs.lookup g
 | []=>by
   show List.lookup g [(f,v)]=_
   by_cases h:g=f
   · have hb:(g == f)=true:=beq_iff_eq.mpr h
     simp only [List.lookup,hb,if_pos h]
   · have hb:(g == f)=false:=beq_eq_false_iff_ne.mpr h
     simp only [List.lookup,hb,if_neg h]
 | (k,x) :: r=>by
   have ih:=lookup_putF f g v r
   rw [show putF f v ((k,x) :: r)=(if k=f then (k,v) :: r else (k,x) :: putF f v r) from rfl]
   by_cases hk:k=f
   · rw [if_pos hk]
     by_cases h:g=k
     · have hb:(g == k)=true:=beq_iff_eq.mpr h
       simp only [List.lookup,hb,if_pos (h.trans hk)]
     · have hb:(g == k)=false:=beq_eq_false_iff_ne.mpr h
       simp only [List.lookup,hb,if_neg (λe:g=f=>h (e.trans hk.symm))]
   · rw [if_neg hk]
     by_cases h:g=k
     · have hb:(g == k)=true:=beq_iff_eq.mpr h
       simp only [List.lookup,hb,if_neg (λe:g=f=>hk (h.symm.trans e))]
     · have hb:(g == k)=false:=beq_eq_false_iff_ne.mpr h
       simp only [List.lookup,hb]
       exact ih
theorem keys_putF (f:Str) (v:V):∀ fs:List (Str × V),f∈(putF f v fs).map (·.1)/\∀ g,g∈fs.map (·.1)->g∈(putF f v fs).map (·.1)
 | []=>⟨by simp [putF],λg h=>by simp at h⟩
 | (k,x) :: r=>by
   obtain ⟨i1,i2⟩:=keys_putF f v r
   rw [show putF f v ((k,x) :: r)=(if k=f then (k,v) :: r else (k,x) :: putF f v r) from rfl]
   by_cases hk:k=f
   · rw [if_pos hk]
     subst hk
     exact ⟨by simp,λg h=>by simpa using h⟩
   · rw [if_neg hk]
     refine ⟨?_,λg h=>?_⟩
     · rw [List.map_cons]
       exact List.mem_cons_of_mem _ i1
     · rw [List.map_cons] at h ⊢
       rcases List.mem_cons.mp h with e | e
       · exact List.mem_cons.mpr (.inl e)
       · exact List.mem_cons_of_mem _ (i2 g e)
theorem length_putF (f:Str) (v:V):∀ fs:List (Str × V),(putF f v fs).length <= fs.length+1
 | []=>by simp [putF]
 | (k,x) :: r=>by
   have ih:=length_putF f v r
   rw [show putF f v ((k,x) :: r)=(if k=f then (k,v) :: r else (k,x) :: putF f v r) from rfl]
   by_cases hk:k=f
   · rw [if_pos hk,List.length_cons,List.length_cons];omega
   · rw [if_neg hk,List.length_cons,List.length_cons];omega

theorem RelO.some_of {v:V} {o:Option Value} (r:RelO (some v) o):∃ u,o=some u/\RelV v u:=by
 cases o with
 | none=>exact (show False from r).elim
 | some u=>exact ⟨u,rfl,r⟩
theorem RelO.none_of {o:Option Value} (r:RelO none o):o=none:=by
 cases o with
 | none=>rfl
 | some u=>exact (show False from r).elim
theorem handed_of {v:V} {u:Value} (r:RelV v u):PySem.W.handedIn u=true:=by
 cases v with
 | non=>cases (show u=Value.none from r);rfl
 | bl b=>cases (show u=Value.bool b from r);rfl
 | int i=>obtain ⟨t,e⟩:=(show ∃ t,u=Value.int i t from r);cases e;rfl
 | str x=>obtain ⟨t,e⟩:=(show ∃ t,u=Value.str x t from r);cases e;rfl
 | byt b=>obtain ⟨t,e⟩:=(show ∃ t,u=Value.bytes b t from r);cases e;rfl
 | flt b=>obtain ⟨t,e⟩:=(show ∃ t,u=Value.float b t from r);cases e;rfl
 | ref a=>cases (show u=Value.ref a from r);rfl
 | ty n=>cases (show u=Value.type n from r);rfl

section
variable {P:Program} {w:World} {H H':Hp} {h h':Heap} {a C dx:Addr} {fs fs':List (Str × V)}
theorem ins_get (hok:HOk P w H h) (e:H a=some (.ins C dx fs)):∃ mA,ObjM h a dx C mA/\(∀ f,RelO (fs.lookup f) (mA f))/\PySem.Within mA (fs.map (·.1))/\fs.length <= 1000/\H dx=some (.own a):=by
 obtain ⟨d,z,ne,ob,mA,n,r,q⟩:=(show ObjOk P w H h a (.ins C dx fs) from hok a _ e)
 exact ⟨mA,⟨ob,n,ne⟩,r,q,z,d⟩
end

structure Cls (K:PySem.W.Frag) (C:Addr):Prop where
 pg:PySem.W.plainGet K C Str.empty=true
 hd:PySem.W.hasDictIn K C=true
 po:PySem.W.plainOver K C=true
 sa:PySem.W.findIn K (.ref C) "__setattr__"=some (some (.builtin "object.__setattr__"))
theorem Cls.get {K:PySem.W.Frag} {C:Addr} (c:Cls K C) (f:Str):PySem.W.plainGet K C f=true:=c.pg
def NoAttr (K:PySem.W.Frag) (C:Addr) (f:Str):Prop:=PySem.W.findIn K (.ref C) f=some none
theorem NoAttr.taker {K:PySem.W.Frag} {C:Addr} {f:Str} (n:NoAttr K C f):PySem.W.takerIn K C f=some none:=by
 unfold PySem.W.takerIn
 rw [show PySem.W.findIn K (.ref C) f=some none from n]
 rfl
structure Con (K:PySem.W.Frag) (C:Addr) (f:Str) (v:V) (u:Value):Prop where
 at_:PySem.W.findIn K (.ref C) f=some (some u)
 rel:RelV v u
 get:PySem.W.specialIn K u "__get__"=some none
 cp:PySem.W.copiedNames.contains f=false
structure Meth (K:PySem.W.Frag) (C:Addr) (m:Str) (f:Addr):Prop where
 at_:PySem.W.findIn K (.ref C) m=some (some (.ref f))
 fn:PySem.W.isFn K (.ref f)=true
 kp:PySem.W.keepIn K (.ref f)=true

section
variable {X:Cx} {pins:List (Addr × Obj)} {σ:St} {H:Hp} {s:Shared} {a C dx:Addr} {fs:List (Str × V)} {f:Str} {v:V} {A:Around} {E:Value->Shared->Prop}

theorem getattr_ok {b:Bool} {Q:Value->Shared->Prop} (I:Inv X pins σ H s) (e:H a=some (.ins C dx fs)) (c:Cls X.K C) (n:NoAttr X.K C f) (l:fs.lookup f=some v)
   (h:∀ u s',Inv X pins σ H s'->RelV v u->Q u s'):wpAny (model X.prog X.w) A (getAttr (.ref a) f b) Q E s:=by
 obtain ⟨mA,O,r,_,_,_⟩:=ins_get I.hok e
 obtain ⟨u,hu,ru⟩:=RelO.some_of (v:=v) (o:=mA f) (by rw [← l];exact r f)
 exact get_map I.kIn O (c.get f) c.hd n hu (handed_of ru) (h u _ (I.tok _) ru)

theorem getmeth_ok {m:Str} {g:Addr} {pl:Sem Bool} {Q:Value × List Value->Shared->Prop} (I:Inv X pins σ H s) (e:H a=some (.ins C dx fs)) (c:Cls X.K C) (k:Meth X.K C m g) (l:fs.lookup m=none)
   (h:Q (.ref g,[.ref a]) s):wpAny (model X.prog X.w) A (getMethod (.ref a) m pl) Q E s:=by
 obtain ⟨mA,O,r,_,_,_⟩:=ins_get I.hok e
 have hn:mA m=none:=RelO.none_of (by rw [← l];exact r m)
 exact get_meth I.kIn O (c.get m) k.at_ k.fn hn h

theorem setattr_ok {y:V} {u:Value} {Q:Unit->Shared->Prop} (I:Inv X pins σ H s) (e:H a=some (.ins C dx fs)) (c:Cls X.K C) (n:NoAttr X.K C f) (hl:fs.length < 1000) (ry:RelV y u)
   (h:∀ s',Inv X pins σ (upd H a (.ins C dx (putF f y fs))) s'->Q () s'):wpAny (model X.prog X.w) A (setAttr (.ref a) f u) Q E s:=by
 obtain ⟨mA,O,r,wi,_,ho⟩:=ins_get I.hok e
 have hz:(fs.map (·.1)).length <= sizeLine:=by rw [List.length_map,sizeLine_eq];omega
 refine set_map I.kIn O c.sa c.po n.taker c.hd wi hz λh' O' sb=>h _ ?_
 have hd:∃ o,h'.get? dx=some o:=let ⟨o,_,_,e',_⟩:=O'.ns;⟨o,e'⟩
 refine I.write (x:=a) (e:=dx) (by rw [e];exact True.intro) (.inr ho) (λb q hb z=>(sb.2 b hb).trans z) hd ?_
 refine ⟨by rw [upd_ne O.ne];exact ho,?_,O.ne,O'.obj,_,O'.ns,λg=>?_,λg hg=>?_⟩
 · have:=length_putF f y fs;omega
 · show RelO ((putF f y fs).lookup g) (if g=f then some u else mA g)
   rw [lookup_putF]
   by_cases q:g=f
   · rw [if_pos q,if_pos q];exact ry
   · rw [if_neg q,if_neg q];exact r g
 · by_cases q:g=f
   · rw [q];exact (keys_putF f y fs).1
   · refine (keys_putF f y fs).2 g (wi g λz=>hg ?_)
     show (if g=f then some u else mA g)=none
     rw [if_neg q];exact z

theorem Inv.made (I:Inv X pins σ H s):Inv X pins σ (upd (upd H s.heap.objs.size (.own (s.heap.objs.size+1))) (s.heap.objs.size+1) (.ins C s.heap.objs.size []))
   { s with heap:=(s.heap.push PySem.W.emptyDict).push (PySem.W.instObj C s.heap.objs.size) }:=by
 have e1:(s.heap.push PySem.W.emptyDict).get? s.heap.objs.size=some PySem.W.emptyDict:=Heap.get?_push_size s.heap rfl
 have e2:((s.heap.push PySem.W.emptyDict).push (PySem.W.instObj C s.heap.objs.size)).get? (s.heap.objs.size+1)=some (PySem.W.instObj C s.heap.objs.size):=by
   have:=Heap.get?_push_size (s.heap.push PySem.W.emptyDict) (o:=PySem.W.instObj C s.heap.objs.size) rfl
   rwa [Heap.size_push] at this
 have e3:(s.heap.push PySem.W.emptyDict).Ns s.heap.objs.size (λ_=>none):=⟨PySem.W.emptyDict,#[],_,e1,rfl,(λe he=>absurd he (by simp)),λ_=>rfl⟩
 have I1:=I.laid (a:=s.heap.objs.size) (o:=.own (s.heap.objs.size+1)) (h':=s.heap.push PySem.W.emptyDict) (t':=s.toks) (λb u q=>Heap.get?_push_of_some _ q) (Nat.le_refl _) ⟨_,e1⟩
 refine I1.laid (a:=s.heap.objs.size+1) (o:=.ins C s.heap.objs.size []) (t':=s.toks) (λb u q=>Heap.get?_push_of_some _ q) (Nat.le_of_eq (Heap.size_push _ _)) ?_
 have ne:s.heap.objs.size≠s.heap.objs.size+1:=Nat.ne_of_lt (Nat.lt_succ_self _)
 refine ⟨by rw [upd_ne ne,upd_same],Nat.zero_le _,ne,e2,λ_=>none,(Heap.Ns1.of_empty e3).at λo q=>Heap.get?_push_of_some _ q,λ_=>True.intro,λy hy=>absurd rfl hy⟩

theorem attr_of {prog:Program} {w:World} {env:Env} {e:Expr} {f:Str} {pos:Pos} {s:Shared} {Q:Value->Shared->Prop} (hb:attributeBase e f env (eval e env)=eval e env)
   (h:wpAny (model prog w) A (eval e env) (λo s₁=>wpAny (model prog w) A (getAttr o f true) Q E s₁) E s):wpAny (model prog w) A (eval (.Attribute e f pos) env) Q E s :=
 Attribute_any_ h (by rw [arm_eval_Attribute,hb])
end

def tFld (K:PySem.W.Frag) (ta:TE) (f:Str):TE:=λσ H Q=>ta σ H λx H1=>∃ a C dx fs v,x=.ref a/\H1 a=some (.ins C dx fs)/\Cls K C/\NoAttr K C f/\fs.lookup f=some v/\Q v H1
def tCon (K:PySem.W.Frag) (ta:TE) (f:Str):TE:=λσ H Q=>ta σ H λx H1=>∃ a C dx fs v u,x=.ref a/\H1 a=some (.ins C dx fs)/\Cls K C/\Con K C f v u/\fs.lookup f=none/\Q v H1
def sFld (K:PySem.W.Frag) (ta tv:TE) (f:Str):TS:=λD σ H=>tv σ H λy H1=>ta σ H1 λx H2=>∃ a C dx fs,x=.ref a/\H2 a=some (.ins C dx fs)/\Cls K C/\NoAttr K C f/\fs.length < 1000 /\
 D.nx σ (upd H2 a (.ins C dx (putF f y fs)))
def InOp (X:Cx) (op:Operator) (rd:V->V->Hp->VK->Prop):Prop :=
 ∀ (pins:List (Addr × Obj)) (s:Shared) (σ:St) (H:Hp) (x y:V) (u v:Value) (Q:VK),Inv X pins σ H s->RelV x u->RelV y v->rd x y H Q->wpAny (model X.prog X.w) X.A (inplaceOp op u v) (EP X pins σ Q) X.xe s
def sFldAug (K:PySem.W.Frag) (ta tv:TE) (rd:V->V->Hp->VK->Prop) (f:Str):TS:=λD σ H=>ta σ H λx H1=>∃ a C dx fs v,x=.ref a/\H1 a=some (.ins C dx fs)/\Cls K C/\NoAttr K C f/\fs.lookup f=some v /\
 tv σ H1 λy H2=>rd v y H2 λz H3=>∃ dx' fs',H3 a=some (.ins C dx' fs')/\fs'.length < 1000/\D.nx σ (upd H3 a (.ins C dx' (putF f z fs')))

section
variable {X:Cx} {o e value:Expr} {f:Str} {pos pos' tpos:Pos} {ta tv:TE}
theorem pe_fld (he:PE X e ta) (hb:attributeBase e f X.env (eval e X.env)=eval e X.env):PE X (.Attribute e f pos) (tFld X.K ta f):=by
 intro pins s σ H Q I h
 refine attr_of hb (thn (he pins s σ H _ I h) λu s1 ⟨x,H1,I1,rx,a,C,dx,fs,v,ex,ea,c,n,l,q⟩=>?_)
 subst ex
 obtain rfl:u=Value.ref a:=rx
 exact getattr_ok I1 ea c n l λu' s2 I2 ru=>⟨v,H1,I2,ru,q⟩
theorem ps_fld (ha:PE X o ta) (hv:PE X value tv) (hs:swapsWith value (some (.Attribute o f pos')) pos.line X.env=pure false):PS X (.Assign [.Attribute o f pos'] value pos) (sFld X.K ta tv f):=by
 intro pins s σ H D I h
 refine plainObj_wpAny_Assign_Attribute (thn (hv pins s σ H _ I h) λu s1 ⟨y,H1,I1,ry,q⟩=>thn (ha pins s1 σ H1 _ I1 q) λov s2 ⟨x,H2,I2,rx,a,C,dx,fs,ex,ea,c,n,l,q2⟩=>?_) hs
 subst ex
 obtain rfl:ov=Value.ref a:=rx
 exact setattr_ok I2 ea c n l ry λs3 I3=>⟨σ,_,I3,q2⟩
def rAdd:V->V->Hp->VK->Prop:=λx y H Q=>∃ i j,x=.int i/\y=.int j/\Q (.int (i+j)) H
def rSub:V->V->Hp->VK->Prop:=λx y H Q=>∃ i j,x=.int i/\y=.int j/\Q (.int (i - j)) H
end

section
variable {X:Cx} {pins:List (Addr × Obj)} {σ:St} {H:Hp} {s:Shared} {A:Around} {E:Value->Shared->Prop} {Q:Value->Shared->Prop} {c:Value} {b:Bool}
inductive TyOf (K:PySem.W.Frag) (H:Hp):V->Value->Prop where
 | non:TyOf K H .non (.type "NoneType")
 | bl (x:Bool):TyOf K H (.bl x) (.type "bool")
 | int (i:Int):TyOf K H (.int i) (.type "int")
 | str (x:Str):TyOf K H (.str x) (.type "str")
 | flt (x:UInt64):TyOf K H (.flt x) (.type "float")
 | lst {a:Addr} {xs:List V} (e:H a=some (.lst xs)):TyOf K H (.ref a) (.type "list")
 | frz {a:Addr} {o:Obj} {xs:List V} (e:H a=some (.frz o (.lst xs))):TyOf K H (.ref a) (.type "list")
 | tup {a:Addr} {xs:List V} (e:H a=some (.tup xs)):TyOf K H (.ref a) (.type "tuple")
 | dK {a:Addr} {kvs:List (Key × V)} (e:H a=some (.dK kvs)):TyOf K H (.ref a) (.type "dict")
 | dT {a:Addr} {kvs:List (List Key × V)} (e:H a=some (.dT kvs)):TyOf K H (.ref a) (.type "dict")
 | ins {a C dx:Addr} {fs:List (Str × V)} (e:H a=some (.ins C dx fs)) (cl:Cls K C) (ha:PySem.W.findIn K (.ref C) "__class__"=some (some (.builtin "object.__class__")))
     (hn:PySem.W.specialIn K (.builtin "object.__class__") "__get__"=some (some (.builtin "getset_descriptor.__get__"))) (htk:PySem.W.takesIn K (.builtin "object.__class__")=some true)
     (hm:PySem.W.mroIn K C (.type "object")=some true):TyOf K H (.ref a) (.ref C)
theorem isinst_ok {x:V} {u t:Value} (I:Inv X pins σ H s) (rx:RelV x u) (ty:TyOf X.K H x t) (e:PySem.W.kitOne X.K t c=some b) (h:∀ tk,Q (.bool b) { s with toks:=tk }) :
   wpAny (model X.prog X.w) A (call (.builtin "isinstance") [u,c]) Q E s:=by
 cases ty with
 | non=>cases (show u=Value.none from rx);exact PySem.W.kia_one PySem.W.kitx_none I.kIn True.intro e (λz=>nomatch z) h
 | bl y=>cases (show u=Value.bool y from rx);exact PySem.W.kia_one PySem.W.kitx_bool I.kIn True.intro e (λz=>nomatch z) h
 | int i=>obtain ⟨t,q⟩:=(show ∃ t,u=Value.int i t from rx);cases q;exact PySem.W.kia_one PySem.W.kitx_int I.kIn True.intro e (λz=>nomatch z) h
 | str y=>obtain ⟨t,q⟩:=(show ∃ t,u=Value.str y t from rx);cases q;exact PySem.W.kia_one PySem.W.kitx_str I.kIn True.intro e (λz=>nomatch z) h
 | flt y=>obtain ⟨t,q⟩:=(show ∃ t,u=Value.float y t from rx);cases q;exact PySem.W.kia_one PySem.W.kitx_float I.kIn True.intro e (λz=>nomatch z) h
 | @lst a xs ea =>
   cases (show u=Value.ref a from rx)
   obtain ⟨_,_,n,_,h1⟩:=(show ObjOk X.prog X.w H s.heap a (.lst xs) from I.hok a _ ea)
   exact PySem.W.kia_one PySem.W.kitx_list I.kIn ⟨_,h1,rfl⟩ e (λz=>nomatch z) h
 | @frz a ob xs ea =>
   cases (show u=Value.ref a from rx)
   obtain ⟨_,_,_,n,_,h1⟩:=(show ObjOk X.prog X.w H s.heap a (.frz ob (.lst xs)) from I.hok a _ ea)
   exact PySem.W.kia_one PySem.W.kitx_list I.kIn ⟨_,h1,rfl⟩ e (λz=>nomatch z) h
 | @tup a xs ea =>
   cases (show u=Value.ref a from rx)
   obtain ⟨_,_,_,p⟩:=(show ObjOk X.prog X.w H s.heap a (.tup xs) from I.hok a _ ea)
   obtain ⟨o,h1,h2,_⟩:=p
   exact PySem.W.kia_one PySem.W.kitx_tuple I.kIn ⟨o,h1,h2⟩ e (λz=>nomatch z) h
 | @dK a kvs ea =>
   cases (show u=Value.ref a from rx)
   obtain ⟨_,_,vs,_,p⟩:=(show ObjOk X.prog X.w H s.heap a (.dK kvs) from I.hok a _ ea)
   obtain ⟨o,es,ep,h1,h2,_⟩:=p
   exact PySem.W.kia_one PySem.W.kitx_dict I.kIn ⟨o,h1,h2.1⟩ e (λz=>nomatch z) h
 | @dT a kvs ea =>
   cases (show u=Value.ref a from rx)
   obtain ⟨_,_,xs,_,o,es,ep,h1,h2,_⟩:=(show ObjOk X.prog X.w H s.heap a (.dT kvs) from I.hok a _ ea)
   exact PySem.W.kia_one PySem.W.kitx_dict I.kIn ⟨o,h1,h2.1⟩ e (λz=>nomatch z) h
 | @ins a C dx fs ea cl ha hn htk hm =>
   cases (show u=Value.ref a from rx)
   obtain ⟨mA,O,_⟩:=ins_get I.hok ea
   obtain ⟨od,J,_⟩:=O.look
   exact PySem.W.kia_one (PySem.W.kitx_own (cl.get _) cl.hd ha hn htk hm) I.kIn J e (λz=>nomatch z) h
end
end L2

namespace L2
open PySem PySem.Spec PyProof.Rows

structure Room (k:Nat) (A:Around):Prop where
 hd:A.handled=none
 dp:A.depth+3 * k+5 < recursionLimit
 un:A.units+16 * k+200 < cLine
theorem Room.mono {j k:Nat} {A:Around} (r:Room k A) (h:j <= k):Room j A:=⟨r.hd,by have:=r.dp;omega,by have:=r.un;omega⟩
theorem Room.deeper {k:Nat} {A:Around} (r:Room (k+1) A) (env:Env):Room k (A.deeper env) :=
 ⟨r.hd,by have:=r.dp;show A.depth+1+3 * k+5 < _;omega,by have:=r.un;show A.units+3+16 * k+200 < _;omega⟩
theorem Room.in1 {k:Nat} {A:Around} (r:Room (k+1) A):Room k A.in1 :=
 ⟨r.hd,by have:=r.dp;show A.depth+3 * k+5 < _;omega,by have:=r.un;show A.units+1+16 * k+200 < _;omega⟩
theorem make_depth {A:Around} {C:Addr} {us:List Value} {kw:List (Str × Value)}:(A.under (.builtin "type.__call__" ⟨.ref C :: us,kw⟩)).depth=A.depth+1:=by
 first | rfl | simp [Around.under,Code.weight,Code.isCreation,Code.isGuard,Code.isCaller,Code.frames,Code.isFrame,guardIds]
theorem make_units {A:Around} {C:Addr} {us:List Value} {kw:List (Str × Value)}:(A.under (.builtin "type.__call__" ⟨.ref C :: us,kw⟩)).units=A.units+1:=by
 first | rfl | simp [Around.under,Code.cUnits,Code.frames,Code.isFrame]
theorem Room.make {k:Nat} {A:Around} (r:Room (k+1) A) (C:Addr) (us:List Value) (kw:List (Str × Value)):Room k (A.under (.builtin "type.__call__" ⟨.ref C :: us,kw⟩)) :=
 ⟨r.hd,by have:=r.dp;rw [make_depth];omega,by have:=r.un;rw [make_units];omega⟩
theorem Room.depth {k:Nat} {A:Around} (r:Room k A):A.depth < recursionLimit:=by have:=r.dp;omega
theorem Room.units {k:Nat} {A:Around} (r:Room k A):A.units+64 < cLine:=by have:=r.un;omega
def tNil:TA:=λ_ H Q=>Q [] H
def tCons (ta:TE) (tr:TA):TA:=λσ H Q=>ta σ H λx H1=>tr σ H1 λxs H2=>Q (x :: xs) H2
section
variable {X:Cx} {e:Expr} {es:List Expr} {te:TE} {t:TA} {pos:Pos}
theorem pa_nil:PA X [] tNil:=λ_ _ _ _ H Q I h=>Calls.spliced_nil ⟨[],H,I,.nil,h⟩
theorem pa_cons (ha:PE X e te) (hr:PA X es t) (hs:starEach (e :: es) X.env=(false,eval e X.env) :: starEach es X.env:=by rfl):PA X (e :: es) (tCons te t):=by
 intro pos pins s σ H Q I h
 rw [hs]
 show wpAny _ _ (spliced ((false,eval e X.env) :: backTo pos (starEach es X.env))) _ _ s
 refine Calls.spliced_cons (thn (ha pins s σ H _ I h) λu s1 ⟨x,H1,I1,r1,q1⟩=>?_)
 exact thn (hr pos pins s1 σ H1 _ I1 q1) λus s2 ⟨xs,H2,I2,r2,q2⟩=>⟨x :: xs,H2,I2,.cons r1 r2,q2⟩

def tTup (t:TA):TE:=λσ H Q=>t σ H λxs H1=>xs.length <= sizeLine/\∀ p,H1 p=none->Q (.ref p) (upd H1 p (.tup xs))
def tLst (t:TA):TE:=λσ H Q=>t σ H λxs H1=>xs.length <= sizeLine/\∀ p,H1 p=none->Q (.ref p) (upd H1 p (.lst xs))
theorem pe_tup {x1} (h:PA X es t):PE X (.Tuple es x1 pos) (tTup t):=by
 intro pins s σ H Q I hq
 refine wpAny_Tuple_spliced (thn (h pos pins s σ H _ I hq) λus s1 ⟨xs,H1,I1,r,z,q⟩=>⟨by rw [← r.length];exact z,?_⟩)
 have hf:H1 s1.heap.objs.size=none:=I1.hok.fresh (Nat.le_refl _)
 refine ⟨.ref s1.heap.objs.size,upd H1 s1.heap.objs.size (.tup xs),I1.laid (t':=s1.toks) (λb u e=>Heap.get?_push_of_some _ e) (Nat.le_refl _) ?_,rfl,q _ hf⟩
 exact ⟨z,us,r,⟨_,Heap.get?_push_size _ rfl,rfl,_,rfl⟩⟩
theorem pe_lst (h:PA X es t):PE X (.List es pos) (tLst t):=by
 intro pins s σ H Q I hq
 refine wpAny_List_spliced (thn (h pos pins s σ H _ I hq) λus s1 ⟨xs,H1,I1,r,z,q⟩=>⟨by rw [← r.length];exact z,?_⟩)
 have hf:H1 s1.heap.objs.size=none:=I1.hok.fresh (Nat.le_refl _)
 refine ⟨.ref s1.heap.objs.size,upd H1 s1.heap.objs.size (.lst xs),I1.laid (t':=s1.toks) (λb u e=>Heap.get?_push_of_some _ e) (Nat.le_refl _) ?_,rfl,q _ hf⟩
 exact ⟨z,us,0,r,Heap.get?_push_size _ rfl⟩
end

abbrev Sp:=List V->Hp->VK->XK->Prop
abbrev CXT:=List Env->Hp->Shared->XK->Value->Shared->Prop

structure Env0 (P:Program) (w:World) (K:PySem.W.Frag) (mg:Str->Option Value) (base:Heap) (A:Around) (outer:List Env) (s:Shared) (H:Hp):Prop where
 frames:A.frames=some outer
 mod:Mod K mg base
 bs:∀ b o,base.get? b=some o->s.heap.get? b=some o/\H b=none
 bsz:base.objs.size <= s.heap.objs.size
 funs:s.heap.FunFrames base outer
 frf:∀ b∈frs outer,H b=none
 hok:HOk P w H s.heap
 bare:AllBare s.gens
def CE (outer:List Env) (P:Program) (w:World) (H:Hp) (s:Shared) (Q:VK) (u:Value) (s':Shared):Prop :=
 ∃ v H',s'.os=s.os/\AllBare s'.gens/\Un (frs outer) [] H H' s.heap s'.heap/\HOk P w H' s'.heap/\RelV v u/\Q v H'
def CR (CX:CXT) (outer:List Env) (P:Program) (w:World) (H:Hp) (s:Shared) (Q:VK) (E:XK) (r:Result) (s':Shared):Prop :=
 match r with
 | .ok (.ret u)=>CE outer P w H s Q u s'
 | .ok _=>False
 | .error e=>CX outer H s E e s'
structure FnOk (P:Program) (w:World) (K:PySem.W.Frag) (mg:Str->Option Value) (base:Heap) (CX:CXT) (k:Nat) (f:Addr) (fd:FuncData) (ps:List Str) (sp:Sp):Prop where
 len:∀ vs H Q E,sp vs H Q E->vs.length=ps.length
 run:∀ (A:Around) (outer:List Env) (s:Shared) (H:Hp) (args:Args) (us:List Value) (vs:List V) (Q:VK) (E:XK),Room k A->Env0 P w K mg base A outer s H->BindsTo s fd args (ps.zip us)->Vals vs us->sp vs H Q E ->
   codeAny (model P w) A (.call (.ref f) args) (CR CX outer P w H s Q E) s
theorem FnOk.mono {P:Program} {w:World} {K:PySem.W.Frag} {mg:Str->Option Value} {base:Heap} {CX:CXT} {j k:Nat} {f:Addr} {fd:FuncData} {ps:List Str} {sp:Sp} (F:FnOk P w K mg base CX j f fd ps sp) (h:j <= k) :
   FnOk P w K mg base CX k f fd ps sp:=⟨F.len,λA outer s H args us vs Q E hr=>F.run A outer s H args us vs Q E (hr.mono h)⟩
theorem FnOk.imp {P:Program} {w:World} {K:PySem.W.Frag} {mg:Str->Option Value} {base:Heap} {CX:CXT} {k:Nat} {f:Addr} {fd:FuncData} {ps:List Str} {sp sp':Sp} (F:FnOk P w K mg base CX k f fd ps sp)
   (h:∀ vs H Q E,sp' vs H Q E->sp vs H Q E):FnOk P w K mg base CX k f fd ps sp' :=
 ⟨λvs H Q E q=>F.len vs H Q E (h _ _ _ _ q),λA outer s H args us vs Q E hr he hb hv hs=>F.run A outer s H args us vs Q E hr he hb hv (h _ _ _ _ hs)⟩

theorem Env0.make {P:Program} {w:World} {K:PySem.W.Frag} {mg:Str->Option Value} {base:Heap} {A:Around} {outer:List Env} {s:Shared} {H:Hp} (e:Env0 P w K mg base A outer s H) (C:Addr) (us:List Value) (kw:List (Str × Value)) :
   Env0 P w K mg base (A.under (.builtin "type.__call__" ⟨.ref C :: us,kw⟩)) outer s H:=⟨by first | exact e.frames | (simpa [Around.under,Code.envs,Code.isFrame,pushEnvs] using e.frames),e.mod,e.bs,e.bsz,e.funs,e.frf,e.hok,e.bare⟩
theorem Env0.in1 {P:Program} {w:World} {K:PySem.W.Frag} {mg:Str->Option Value} {base:Heap} {A:Around} {outer:List Env} {s:Shared} {H:Hp} (e:Env0 P w K mg base A outer s H) :
   Env0 P w K mg base A.in1 outer s H:=⟨e.frames,e.mod,e.bs,e.bsz,e.funs,e.frf,e.hok,e.bare⟩

section
variable {X:Cx} {pins:List (Addr × Obj)} {σ:St} {H:Hp} {s s':Shared}
theorem Inv.env0 (I:Inv X pins σ H s):Env0 X.prog X.w X.K X.mg X.base X.A X.stack s H :=
 ⟨I.ok.frames,I.ok.mod,I.bs,Nat.le_trans I.ok.bsz I.sz,I.stack,I.stkFree,I.hok,I.bare⟩
theorem Inv.after {Q:VK} {u:Value} (I:Inv X pins σ H s) (h:CE X.stack X.prog X.w H s Q u s'):EP X pins σ Q u s':=by
 obtain ⟨v,H',os,bare,un,hok,r,q⟩:=h
 obtain ⟨hh,g,d,t,os'⟩:=s'
 obtain rfl:os'=s.os:=os
 exact ⟨v,H',I.call (h':=hh) (g':=g) (d':=d) (t':=t) (ch:=[]) un hok bare (λb z=>absurd z (by simp)),r,q⟩
end

def tCall (sp:Sp) (dvs:List V) (E:XK) (t:TA):TE:=λσ H Q=>t σ H λvs H1=>sp (vs++dvs) H1 Q E
def tMeth (C:Addr) (m:Str) (sp:Sp) (dvs:List V) (E:XK) (ta:TE) (t:TA):TE:=λσ H Q=>ta σ H λx H1=>∃ a dx fs,x=.ref a/\H1 a=some (.ins C dx fs)/\fs.lookup m=none /\
 t σ H1 λvs H2=>sp (x :: (vs++dvs)) H2 Q E
def tMake (C:Addr) (sp:Sp) (dvs:List V) (E:XK) (t:TA):TE:=λσ H Q=>t σ H λvs H1=>∀ x dx,H1 x=none->H1 dx=none->dx≠x ->
 sp (.ref x :: (vs++dvs)) (upd (upd H1 dx (.own x)) x (.ins C dx [])) (λv H2=>v=.non/\Q (.ref x) H2) E

def Binds (K:PySem.W.Frag) (fd:FuncData) (ps:List Str) (ds:List Value):Prop :=
 ∀ (s:Shared) (us:List Value),K.In s.heap->(us++ds).length=ps.length->BindsTo s fd ⟨us,[]⟩ (ps.zip (us++ds))
theorem Binds.all {K:PySem.W.Frag} {fd:FuncData} {ps:List Str} (h:∀ us:List Value,us.length=ps.length->bindArgs fd ⟨us,[]⟩=pure (ps.zip us)):Binds K fd ps []:=λs us _ hl=>by
 rw [List.append_nil] at hl ⊢
 exact .of_eq (h us hl)

def Passes (CX:CXT) (X:Cx) (E:XK):Prop:=∀ (pins:List (Addr × Obj)) (σ:St) (H:Hp) (s:Shared) (e:Value) (s':Shared),Inv X pins σ H s->CX X.stack H s E e s'->X.xe e s'

section
variable {X:Cx} {CX:CXT} {k:Nat} {f C:Addr} {fd:FuncData} {ps:List Str} {sp:Sp} {dvs:List V} {ds:List Value} {E:XK} {x m:Str} {p pos apos:Pos} {e o:Expr} {es:List Expr} {ta:TE} {t:TA}

theorem run_fn {pins:List (Addr × Obj)} {σ:St} {H:Hp} {s:Shared} {Q:VK} {us:List Value} {vs:List V} (F:FnOk X.prog X.w X.K X.mg X.base CX k f fd ps sp) (hr:Room k X.A) (hb:Binds X.K fd ps ds) (hd:Vals dvs ds) (hx:Passes CX X E)
   (I:Inv X pins σ H s) (r:Vals vs us) (h:sp (vs++dvs) H Q E):wpAny (model X.prog X.w) X.A (call (.ref f) us) (EP X pins σ Q) X.xe s:=by
 have r2:Vals (vs++dvs) (us++ds):=r.append hd
 have hl:(us++ds).length=ps.length:=by rw [← r2.length];exact F.len _ _ _ _ h
 refine wpAny_call (codeAny_mono (F.run X.A X.stack s H ⟨us,[]⟩ (us++ds) (vs++dvs) Q E hr I.env0 (hb s us I.kIn hl) r2 h) λr s' hq=>?_)
 cases r with
 | error e=>exact hx pins σ H s e s' I hq
 | ok fl =>
   cases fl with
   | ret u=>exact I.after hq
   | next=>exact False.elim hq
   | brk=>exact False.elim hq
   | cont=>exact False.elim hq

theorem pe_call (F:FnOk X.prog X.w X.K X.mg X.base CX k f fd ps sp) (hr:Room k X.A) (hg:Gl X x) (hm:X.mg x=some (.ref f)) (hk:PySem.W.keepIn X.K (.ref f)=true) (hb:Binds X.K fd ps ds) (hd:Vals dvs ds) (hx:Passes CX X E)
   (ha:PA X (e :: es) t) (hdb:(x == ("__debug__":Str))=false:=by decide) (he:starEach (e :: es) X.env=(false,eval e X.env) :: starEach es X.env:=by rfl) (hpl:(backTo pos (starEach es X.env)).any (·.1)=false:=by rfl) :
   PE X (.Call (.Name x p) (e :: es) [] pos) (tCall sp dvs E t):=by
 intro pins s σ H Q I h
 refine wpAny_Call_Name_kw (ld_glob I hg hm ?_ hdb)
 refine PySem.W.callWith_K (h₀:=X.base) I.ok.mod.kin hk (thn (ha pos pins s σ H _ I h) λus s1 ⟨vs,H1,I1,r,q⟩=>⟨I1.kIn,?_⟩) he hpl
 exact run_fn F hr hb hd hx I1 r q
theorem pe_meth {pl:Sem Bool} (he:PE X o ta) (c:Cls X.K C) (hm:Meth X.K C m f) (F:FnOk X.prog X.w X.K X.mg X.base CX k f fd ps sp) (hr:Room k X.A) (hb:Binds X.K fd ps ds) (hd:Vals dvs ds) (hx:Passes CX X E) (ha:PA X (e :: es) t)
   (hst:starEach (e :: es) X.env=(false,eval e X.env) :: starEach es X.env:=by rfl) (hpl:(backTo pos (starEach es X.env)).any (·.1)=false:=by rfl)
   (ht:eval (.Call (.Attribute o m apos) (e :: es) [] pos) X.env=(do
     let ov ← eval o X.env
     standAt apos.atName
     let (f,first) ← holding [ov] (getMethod ov m pl)
     callWith pos f first (backTo pos (starEach (e :: es) X.env)) (backToKw pos (keywordEach [] X.env))):=by rfl) :
   PE X (.Call (.Attribute o m apos) (e :: es) [] pos) (tMeth C m sp dvs E ta t):=by
 intro pins s σ H Q I h
 refine PySem.W.methodCall_KW (pl:=pl) (thn (he pins s σ H _ I h) λu s1 ⟨x,H1,I1,rx,a,dx,fs,ex,ea,l,q⟩=>?_) ht
 subst ex
 obtain rfl:u=Value.ref a:=rx
 refine getmeth_ok I1 ea c hm l ?_
 refine PySem.W.callWith_K (first:=[.ref a]) (h₀:=X.base) I.ok.mod.kin hm.kp (thn (ha pos pins s1 σ H1 _ I1 q) λus s2 ⟨vs,H2,I2,r,q2⟩=>⟨I2.kIn,?_⟩) hst hpl
 exact run_fn (us:=.ref a :: us) (vs:=.ref a :: vs) F hr hb hd hx I2 (.cons rfl r) q2
structure Mk (K:PySem.W.Frag) (C f:Addr):Prop where
 makes:PySem.W.makesIn K C=true
 init:PySem.W.findIn K (.ref C) "__init__"=some (some (.ref f))
 fn:PySem.W.isFn K (.ref f)=true
 kp:PySem.W.keepIn K (.ref C)=true

theorem run_make {pins:List (Addr × Obj)} {σ:St} {H:Hp} {s:Shared} {Q:VK} {us:List Value} {vs:List V} (M:Mk X.K C f) (F:FnOk X.prog X.w X.K X.mg X.base CX k f fd ps sp) (hr:Room (k+1) X.A) (hb:Binds X.K fd ps ds) (hd:Vals dvs ds)
   (hx:Passes CX X E) (I:Inv X pins σ H s) (r:Vals vs us)
   (h:∀ x dx,H x=none->H dx=none->dx≠x->sp (.ref x :: (vs++dvs)) (upd (upd H dx (.own x)) x (.ins C dx [])) (λv H2=>v=.non/\Q (.ref x) H2) E) :
   wpAny (model X.prog X.w) X.A (call (.ref C) us) (EP X pins σ Q) X.xe s:=by
 have hq:=h (s.heap.objs.size+1) s.heap.objs.size (I.hok.fresh (Nat.le_succ _)) (I.hok.fresh (Nat.le_refl _)) (Nat.ne_of_lt (Nat.lt_succ_self _))
 have I2:=Inv.made (C:=C) I
 have r2:Vals (V.ref (s.heap.objs.size+1) :: (vs++dvs)) (Value.ref (s.heap.objs.size+1) :: (us++ds)):=.cons rfl (r.append hd)
 have hl:(Value.ref (s.heap.objs.size+1) :: us++ds).length=ps.length:=by
   have e:=r2.length
   rw [F.len _ _ _ _ hq] at e
   exact e.symm
 refine wpAny_call (make_map (f:=f) I.kIn M.makes M.init (beq_iff_eq.mp M.fn) (codeAny_mono (F.run _ X.stack _ _ ⟨Value.ref (s.heap.objs.size+1) :: us,[]⟩ (Value.ref (s.heap.objs.size+1) :: (us++ds)) _ _ E (hr.make C us [])
   (I2.env0.make C us []) (hb _ (Value.ref (s.heap.objs.size+1) :: us) I2.kIn hl) r2 hq) λr s' hq'=>?_))
 cases r with
 | error e=>exact hx pins σ _ _ e s' I2 hq'
 | ok fl =>
   cases fl with
   | ret u =>
     obtain ⟨v,H',I3,rv,ev,q3⟩:=I2.after hq'
     subst ev
     exact ⟨rv,⟨V.ref (s.heap.objs.size+1),H',I3,rfl,q3⟩⟩
   | next=>exact False.elim hq'
   | brk=>exact False.elim hq'
   | cont=>exact False.elim hq'
theorem pe_make0 (M:Mk X.K C f) (F:FnOk X.prog X.w X.K X.mg X.base CX k f fd ps sp) (hr:Room (k+1) X.A) (hg:Gl X x) (hm:X.mg x=some (.ref C)) (hb:Binds X.K fd ps ds) (hd:Vals dvs ds) (hx:Passes CX X E)
   (hdb:(x == ("__debug__":Str))=false:=by decide):PE X (.Call (.Name x p) [] [] pos) (tMake C sp dvs E tNil):=by
 intro pins s σ H Q I h
 refine wpAny_Call_Name_kw (ld_glob I hg hm ?_ hdb)
 exact PySem.W.callWith_K0 I.kIn M.kp (run_make (us:=[]) M F hr hb hd hx I .nil h)
end

def PK (X:Cx) (kws:List Keyword) (t:TA):Prop :=
 ∀ (pos:Pos) (pins:List (Addr × Obj)) (s:Shared) (σ:St) (H:Hp) (Q:List V->Hp->Prop),Inv X pins σ H s->t σ H Q->wpAny (model X.prog X.w) X.A (evalAll ((backToKw pos (keywordEach kws X.env)).map (·.2))) (AP X pins σ Q) X.xe s
section
variable {X:Cx} {CX:CXT} {k:Nat} {f C:Addr} {fd:FuncData} {ps ks:List Str} {sp:Sp} {E:XK} {x m:Str} {p pos apos kpos:Pos} {e o:Expr} {es:List Expr} {kws:List Keyword} {te ta:TE} {t tk:TA} {nm:Option Str}
structure KBinds (K:PySem.W.Frag) (fd:FuncData) (ps ks:List Str) (g:List Value->List Value->List Value) (gV:List V->List V->List V):Prop where
 to:∀ (s:Shared) (us ws:List Value),K.In s.heap->(g us ws).length=ps.length->BindsTo s fd ⟨us,ks.zip ws⟩ (ps.zip (g us ws))
 rel:∀ {vs:List V} {us:List Value} {zs:List V} {ws:List Value},Vals vs us->Vals zs ws->Vals (gV vs zs) (g us ws)
def tCallK (sp:Sp) (gV:List V->List V->List V) (E:XK) (t tk:TA):TE:=λσ H Q=>t σ H λvs H1=>tk σ H1 λzs H2=>sp (gV vs zs) H2 Q E
variable {g:List Value->List Value->List Value} {gV:List V->List V->List V}
end

structure FnScope (N P:List Str) (sc:Scope):Prop where
 kind:sc.kind=.function
 co:sc.isCoroutine=false
 gen:sc.isGenerator=false
 nd:N.Nodup
 pre:N.take P.length=P
 par:∀ x∈P,sc.names.lookup x=some .local\/sc.names.lookup x=some .cell
 nofree:∀ y∈sc.names,y.2≠.free

theorem bindL_out {kindOf:Str->Option NameKind} {x:Str}:∀ {binds:List (Str × Value)} {m:Str->Option Value},(∀ v,(x,v) ∉ binds)->bindL kindOf binds m x=m x
 | [],_,_=>rfl
 | (n,v) :: r,m,h=>by
   unfold bindL
   rw [bindL_out λw hw=>h w (List.mem_cons_of_mem _ hw)]
   split
   · have:x≠n:=by rintro rfl;exact h v List.mem_cons_self
     simp [this]
   · rfl
theorem bindC_out {kindOf:Str->Option NameKind} {x:Str}:∀ {binds:List (Str × Value)} {m:Str->Option Value},(∀ v,(x,v) ∉ binds)->bindC kindOf binds m x=m x
 | [],_,_=>rfl
 | (n,v) :: r,m,h=>by
   unfold bindC
   rw [bindC_out λw hw=>h w (List.mem_cons_of_mem _ hw)]
   split
   · rfl
   · have:x≠n:=by rintro rfl;exact h v List.mem_cons_self
     simp [this]
theorem bindL_get {kindOf:Str->Option NameKind} {x:Str} {v:Value}:∀ {P:List Str} {vs:List Value} {i:Nat} {m:Str->Option Value},P.Nodup->P[i]?=some x->vs[i]?=some v->kindOf x=some .local ->
   bindL kindOf (P.zip vs) m x=some v
 | [],_,_,_,_,h,_,_=>by simp at h
 | _ :: _,[],_,_,_,_,h,_=>by simp at h
 | p :: P,w :: vs,0,m,nd,h1,h2,hk=>by
   simp at h1 h2;subst h1;subst h2
   show bindL kindOf ((p,w) :: P.zip vs) m p=_
   unfold bindL
   rw [bindL_out λv hv=>(List.nodup_cons.mp nd).1 (List.of_mem_zip hv).1,if_pos hk]
   simp
 | p :: P,w :: vs,i+1,m,nd,h1,h2,hk=>by
   show bindL kindOf ((p,w) :: P.zip vs) m x=_
   unfold bindL
   exact bindL_get (i:=i) (List.nodup_cons.mp nd).2 (by simpa using h1) (by simpa using h2) hk
theorem bindC_get {kindOf:Str->Option NameKind} {x:Str} {v:Value}:∀ {P:List Str} {vs:List Value} {i:Nat} {m:Str->Option Value},P.Nodup->P[i]?=some x->vs[i]?=some v->kindOf x≠some .local ->
   bindC kindOf (P.zip vs) m x=some v
 | [],_,_,_,_,h,_,_=>by simp at h
 | _ :: _,[],_,_,_,_,h,_=>by simp at h
 | p :: P,w :: vs,0,m,nd,h1,h2,hk=>by
   simp at h1 h2;subst h1;subst h2
   show bindC kindOf ((p,w) :: P.zip vs) m p=_
   unfold bindC
   rw [bindC_out λv hv=>(List.nodup_cons.mp nd).1 (List.of_mem_zip hv).1,if_neg hk]
   simp
 | p :: P,w :: vs,i+1,m,nd,h1,h2,hk=>by
   show bindC kindOf ((p,w) :: P.zip vs) m x=_
   unfold bindC
   exact bindC_get (i:=i) (List.nodup_cons.mp nd).2 (by simpa using h1) (by simpa using h2) hk

def start (N:List Str) (vs:List V):St:=vs.map some++List.replicate (N.length - vs.length) none

def cxOf (CX:CXT) (P:Program) (w:World) (K:PySem.W.Frag) (mg:Str->Option Value) (base:Heap) (N:List Str) (qual:Str) (scope:Scope) (f:Addr) (cd:Value) (A:Around) (outer:List Env) (s:Shared) (H:Hp) (E:XK):Cx where
 prog:=P
 w:=w
 K:=K
 mg:=mg
 base:=base
 A:=A.deeper (envOfC qual scope s.heap.objs.size f cd)
 N:=N
 s₀:=s
 H₀:=H
 env:=envOfC qual scope s.heap.objs.size f cd
 outer:=outer
 stack:=envOfC qual scope s.heap.objs.size f cd :: outer
 ex:=[]
 calm:=true
 fn:=λ_=>true
 pn:=[]
 xe:=λe s'=>wpAny (model P w) (A.deeper (envOfC qual scope s.heap.objs.size f cd)) (leaving (envOfC qual scope s.heap.objs.size f cd) e) (λ_ s''=>CX outer H s E e s'') (λe' s''=>CX outer H s E e' s'') s'

theorem cell_has {sc:Scope} {n:Nat} {x:Str} (h:sc.names.lookup x=some .cell):∃ c,(cellsFrom n sc.names []).lookup x=some c:=by
 have q:=PySem.W.cellsFrom_some sc.names n [] (.inl h)
 exact Option.isSome_iff_exists.mp q

theorem inv_start {CX:CXT} {P:Program} {w:World} {K:PySem.W.Frag} {mg:Str->Option Value} {base:Heap} {N ps:List Str} {qual:Str} {scope:Scope} {f:Addr} {cd:Value} {A:Around} {outer:List Env} {s s1:Shared} {H:Hp} {E:XK} {us:List Value} {vs:List V}
   (S:FnScope N ps scope) (hd:A.handled=none) (e0:Env0 P w K mg base A outer s H) (hl:vs.length=ps.length) (r:Vals vs us)
   (x:InCallC s s.heap.objs.size (bindL (envOfC qual scope s.heap.objs.size f cd).kindOf (ps.zip us) λ_=>none) (cellsFrom (s.heap.objs.size+1) scope.names []) (bindC (envOfC qual scope s.heap.objs.size f cd).kindOf (ps.zip us) λ_=>none) s1) :
   Inv (cxOf CX P w K mg base N qual scope f cd A outer s H E) [] (start N vs) H s1:=by
 have hpl:ps.length <= N.length:=by have:=congrArg List.length S.pre;rw [List.length_take] at this;omega
 obtain ⟨h1,tk,rfl,hk⟩:=x.done
 have noA:∀ b:Addr,b ∉ (cxOf CX P w K mg base N qual scope f cd A outer s H E).ex:=λb z=>absurd (show b∈([]:List Addr) from z) (by simp)
 refine ⟨⟨e0.mod,S.kind,rfl,rfl,Nat.le_refl _,λy z c h1 h2=>?_,λy hy=>?_,λy c _ h=>?_,λ_=>hd,Around.frames_deeper e0.frames,.inr ⟨rfl,rfl⟩,λb z=>absurd z (noA b),e0.bs,e0.bsz,λb _ _=>noA b,λb z=>absurd z (noA b),e0.funs,e0.frf⟩,
   rfl,e0.bare,Un.kept hk,⟨_,x.toInCall.ns,λi y v h1 h2 h3=>?_⟩,λy c h=>⟨_,x.cell y c h⟩,e0.hok.fresh (Nat.le_refl _),λy c h=>?_,λp hp=>absurd (show p∈([]:List (Addr × Obj)) from hp) (by simp),e0.hok.kept hk,?_⟩
 · exact name_of_addr x.apart (PySem.mem_of_lookup h1) (PySem.mem_of_lookup h2)
 · have hy:scope.names.lookup y=some .cell\/scope.names.lookup y=some .free:=hy
   rcases hy with hy | hy
   · exact cell_has hy
   · exact absurd rfl (S.nofree _ (PySem.mem_of_lookup hy))
 · exact Nat.le_of_lt (x.above y c (PySem.mem_of_lookup h))
 · have hi:i < vs.length:=by
     unfold start at h2
     by_cases hi:i < vs.length
     · exact hi
     · rw [List.getElem?_append_right (by simpa using hi)] at h2
       rw [List.getElem?_replicate] at h2
       split at h2<;>cases h2
   have ha:vs[i]?=some v:=by
     unfold start at h2
     rw [List.getElem?_append_left (by simpa using hi),List.getElem?_map] at h2
     cases e:vs[i]? with
     | none=>rw [e] at h2;cases h2
     | some a=>rw [e] at h2;cases h2;rfl
   obtain ⟨u,hu,rv⟩:=r.get ha
   have hp:ps[i]?=some y:=by
     rw [← S.pre,List.getElem?_take_of_lt (by omega)];exact h1
   have ndP:ps.Nodup:=by rw [← S.pre];exact S.nd.sublist (List.take_sublist _ _)
   refine ⟨u,rv,?_⟩
   rcases S.par y (List.mem_of_getElem? hp) with k | k
   · exact .inl ⟨k,bindL_get ndP hp hu k⟩
   · obtain ⟨c,e⟩:=cell_has (n:=s.heap.objs.size+1) k
     refine .inr ⟨.inl k,c,e,?_⟩
     have q:=x.cell y c e
     rw [bindC_get ndP hp hu (by show scope.names.lookup y≠_;rw [k];decide)] at q
     exact q
 · exact e0.hok.fresh (Nat.le_of_lt (x.above y c (PySem.mem_of_lookup h)))
 · unfold start
   show _=N.length
   rw [List.length_append,List.length_map,List.length_replicate]
   omega

theorem fn_of {CX:CXT} {P:Program} {w:World} {K:PySem.W.Frag} {mg:Str->Option Value} {base:Heap} {k:Nat} {f:Addr} {name qual:Str} {params:Arguments} {body:List Stmt} {scope:Scope} {dV kV doc pm cdv ct oc:Value} {an od:Option Addr}
   {osl:Array (Option Value)} {N ps:List Str} {sp:Sp} (lk:K.lookup f=some ⟨oc,od,.func (PySem.W.fnOf name qual params body scope dV kV doc pm an cdv ct),osl⟩) (hcd:PySem.W.codeIn K cdv qual=true) (S:FnScope N ps scope)
   (len:∀ vs H Q E,sp vs H Q E->vs.length=ps.length)
   (hbody:∀ (A:Around) (outer:List Env) (s:Shared) (H:Hp) (vs:List V) (Q:VK) (E:XK),Room k (A.deeper (envOfC qual scope s.heap.objs.size f cdv))->sp vs H Q E ->
     ∃ t,PSs (cxOf CX P w K mg base N qual scope f cdv A outer s H E) body t/\t { nx:=λ_ H'=>Q .non H',rt:=Q } (start N vs) H) :
   FnOk P w K mg base CX (k+1) f (PySem.W.fnOf name qual params body scope dV kV doc pm an cdv ct) ps sp:=by
 refine ⟨len,λA outer s H args us vs Q E hr e0 hb r hsp=>?_⟩
 have hl:=len _ _ _ _ hsp
 have KX:K.In s.heap:=e0.mod.kin.keeps λb o e=>(e0.bs b o e).1
 have lim:s.heap.NoLimit:=e0.mod.nolimit.keeps λb o e=>(e0.bs b o e).1
 have hkind:∀ y∈ps.zip us,scope.names.lookup y.1=some .local\/(scope.names.lookup y.1=some .cell/\((cellsFrom (s.heap.objs.size+1) scope.names []).lookup y.1).isSome=true):=λ⟨n,v⟩ hy=>by
   rcases S.par n (List.of_mem_zip hy).1 with q | q
   · exact .inl q
   · exact .inr ⟨q,PySem.W.cellsFrom_some _ _ _ (.inl q)⟩
 refine codeAny_call_function hr.depth (KX _ _ lk) rfl S.co S.gen rfl (PySem.W.codeRec_of KX hcd) (hb _ _ _ _ ?_)
 refine wpAny_newFunctionEnv_cells S.kind hkind λenv he s1 x=>?_
 subst he
 refine ⟨lim.keeps x.toInCall.keep,codeAny_func ?_⟩
 obtain ⟨t,ht,hq⟩:=hbody A outer s H vs Q E (hr.deeper _) hsp
 have I:Inv (cxOf CX P w K mg base N qual scope f cdv A outer s H E) [] (start N vs) H s1:=inv_start S hr.hd e0 hl r x
 refine wpAny_mono (ht [] s1 (start N vs) H _ I hq) (λfl s' hs=>?_) λe s' hs=>hs
 have fin:∀ {σ':St} {H':Hp} {v:V} {u:Value},Inv (cxOf CX P w K mg base N qual scope f cdv A outer s H E) [] σ' H' s'->RelV v u->Q v H'->CE outer P w H s Q u s' :=
   λ{σ' H' v u} J rv q=>⟨v,H',J.os,J.bare,J.base,J.hok,rv,q⟩
 cases fl with
 | ret u =>
   obtain ⟨v,σ',H',J,rv,q⟩:=hs
   exact fin J rv q
 | next =>
   obtain ⟨σ',H',J,q⟩:=hs
   exact fin (v:=V.non) (u:=Value.none) J rfl q
 | brk =>
   obtain ⟨_,_,_,q⟩:=hs
   exact False.elim q
 | cont =>
   obtain ⟨_,_,_,q⟩:=hs
   exact False.elim q
end L2

namespace L2
open PySem PySem.Spec PyProof.Rows
section
variable {X:Cx} {x:Str} {p pos:Pos} {e:Expr} {es:List Expr} {t:TA} {id T:String} {r:List V->Hp->VK->Prop}

def tCB (r:List V->Hp->VK->Prop) (t:TA):TE:=λσ H Q=>t σ H λvs H1=>r vs H1 Q
theorem pe_callB (hc:CallR X (.builtin id) r) (hg:Gl X x) (hm:X.mg x=none) (hv:bootBuiltins x=some (.builtin id)) (ha:PA X (e :: es) t) (hn:x≠"__name__":=by decide) (hdb:(x == ("__debug__":Str))=false:=by decide)
   (he:starEach (e :: es) X.env=(false,eval e X.env) :: starEach es X.env:=by rfl) (hpl:(backTo pos (starEach es X.env)).any (·.1)=false:=by rfl):PE X (.Call (.Name x p) (e :: es) [] pos) (tCB r t):=by
 intro pins s σ H Q I h
 refine wpAny_Call_Name_kw (ld_blt I hg hm hv ?_ hn hdb)
 exact PyProof.Rows.callWith_builtin1 (thn (ha pos pins s σ H _ I h) λus s1 ⟨vs,H1,I1,r1,q1⟩=>hc pins s1 σ H1 vs us Q I1 r1 q1) he hpl
theorem pe_callTy (hc:CallR X (.type T) r) (hg:Gl X x) (hm:X.mg x=none) (hv:bootBuiltins x=some (.type T)) (ha:PA X (e :: es) t) (hn:x≠"__name__":=by decide) (hdb:(x == ("__debug__":Str))=false:=by decide)
   (he:starEach (e :: es) X.env=(false,eval e X.env) :: starEach es X.env:=by rfl) (hpl:(backTo pos (starEach es X.env)).any (·.1)=false:=by rfl):PE X (.Call (.Name x p) (e :: es) [] pos) (tCB r t):=by
 intro pins s σ H Q I h
 refine wpAny_Call_Name_kw (ld_blt I hg hm hv ?_ hn hdb)
 exact PyProof.Rows.callWith_type1 (thn (ha pos pins s σ H _ I h) λus s1 ⟨vs,H1,I1,r1,q1⟩=>hc pins s1 σ H1 vs us Q I1 r1 q1) he hpl
end
end L2

namespace HT
open PySem PyProof.Rows

def lexLt:List Int->List Int->Bool
 | [],[]=>false
 | [],_ :: _=>true
 | _ :: _,[]=>false
 | x :: xs,y :: ys=>if x=y then lexLt xs ys else decide (x < y)
section
open PySem.SeqAt
open PySem.AutoSeq1 (wpAny_loadPart')
open PySem.MeetsSeq PySem.MeetsSeq2 PySem.MeetsSeq3

end

section
variable {prog:Program} {w:World} {A:Around} {E:Value->Shared->Prop} {s:Shared}

theorem cat_tup {t b:Addr} {vs ws:List Value} {Q:Value->Shared->Prop} (ht:IsTup s.heap t vs.toArray) (hb:IsTup s.heap b ws.toArray) (hv:vs≠[])
   (h1:ws=[]->Q (.ref t) s) (h2:ws≠[]->Q (.ref s.heap.objs.size) { s with heap:=s.heap.push { cls:=.type "tuple",data:=.seq (vs++ws).toArray } })
   (hsz:vs.length+ws.length <= sizeLine):wpAny (model prog w) A (binaryOp .Add (.ref t) (.ref b)) Q E s:=by
 obtain ⟨⟨cls,dd,data,sl⟩,ho,hc,n,hd⟩:=id ht
 obtain ⟨⟨cls2,dd2,data2,sl2⟩,ho2,hc2,n2,hd2⟩:=id hb
 simp only at hc hd hc2 hd2
 subst hc hd hc2 hd2
 have e:vs.toArray++ws.toArray=(vs++ws).toArray:=by simp
 by_cases hw:ws=[]
 · exact concat_meets ⟨_,ho,rfl⟩ ⟨_,ho2,rfl⟩ noFill_tuple_add seq_tuple_add PySem.F.slot_tuple_add PySem.F.entry_tuple_add (PySem.F.args_tuple_add_2 _ _)
     (tuple_addW1 t b vs.toArray ws.toArray n n2 dd dd2 sl sl2 (by simpa using hv) (by simp [hw])) ⟨ho,ho2,h1 hw⟩
 · refine concat_meets ⟨_,ho,rfl⟩ ⟨_,ho2,rfl⟩ noFill_tuple_add seq_tuple_add PySem.F.slot_tuple_add PySem.F.entry_tuple_add (PySem.F.args_tuple_add_2 _ _)
     (tuple_addW2 t b vs.toArray ws.toArray n n2 dd dd2 sl sl2 (by simpa using hv) (by simpa using hw) (by rw [List.size_toArray,List.size_toArray];exact hsz)) ⟨ho,ho2,?_⟩
   rw [e]
   exact h2 hw

def sIx (n d:Nat):Option Int->Nat
 | none=>d
 | some v=>if v < 0 then (v+(n:Int)).toNat else min v.toNat n
theorem sIx_nat (n d k:Nat):sIx n d (some (k:Int))=min k n:=by
 show (if (k:Int) < 0 then ((k:Int)+(n:Int)).toNat else min (k:Int).toNat n)=min k n
 rw [if_neg (by omega),Int.toNat_natCast]
end
end HT

namespace L2
open PySem PySem.Spec PyProof.Rows

abbrev TO:=St->Hp->(Option Int->Hp->Prop)->Prop
def PO (X:Cx) (e:Option Expr) (t:TO):Prop :=
 ∀ (pins:List (Addr × Obj)) (s:Shared) (σ:St) (H:Hp) (Q:Option Int->Hp->Prop),Inv X pins σ H s->t σ H Q ->
   wpAny (model X.prog X.w) X.A (evalPart e X.env) (λu s'=>∃ o H',Inv X pins σ H' s'/\IsPart u o/\Q o H') X.xe s
def tNoPart:TO:=λ_ H Q=>Q none H
def tPart (t:TE):TO:=λσ H Q=>t σ H λx H1=>∃ i,x=.int i/\Q (some i) H1

theorem intsAre_of {ns:List Int}:∀ {us:List Value},Vals (ns.map V.int) us->IntsAre us ns:=by
 induction ns with
 | nil=>intro us r;rw [List.map_nil] at r;cases r;exact .nil
 | cons n ns ih =>
   intro us r
   rw [List.map_cons] at r
   cases r with
   | cons r1 r2 =>
     obtain ⟨t,e⟩:=r1
     subst e
     exact .cons n t (ih r2)

section
variable {X:Cx} {e:Expr} {te:TE} {lo hi:Option Expr} {tl th:TO} {pos p2:Pos}

theorem po_none:PO X none tNoPart:=by
 intro pins s σ H Q I h
 rw [evalPart_none]
 exact wpAny_pure ⟨none,H,I,.none,h⟩
theorem po_some (h:PE X e te):PO X (some e) (tPart te):=by
 intro pins s σ H Q I hw
 rw [evalPart_some]
 refine thn (h pins s σ H _ I hw) λu s1 ⟨x,H1,I1,r1,q1⟩=>?_
 obtain ⟨i,rfl,q⟩:=q1
 obtain ⟨t,rfl⟩:=r1
 exact ⟨some i,H1,I1,.int i t,q⟩

def SlR (X:Cx) (r:V->Option Int->Option Int->Hp->VK->Prop):Prop :=
 ∀ (pins:List (Addr × Obj)) (s:Shared) (σ:St) (H:Hp) (x:V) (v vl vu:Value) (lo hi:Option Int) (sl:Addr) (Q:VK),Inv X pins σ H s->RelV x v->s.heap.IsSliceOf sl vl vu .none->IsPart vl lo->IsPart vu hi->r x lo hi H Q ->
   ∃ T id,typeLookup (.type T) "__getitem__"=pure (some (.builtin id))/\s.TypeIs v T/\wpAny (model X.prog X.w) X.A (getItem v (.ref sl)) (EP X pins σ Q) X.xe s
theorem SlR.or {r r':V->Option Int->Option Int->Hp->VK->Prop} (h:SlR X r) (h':SlR X r'):SlR X (λx lo hi H Q=>r x lo hi H Q\/r' x lo hi H Q):=by
 intro pins s σ H x v vl vu lo hi sl Q I rx hs pl pu q
 rcases q with q | q
 · exact h pins s σ H x v vl vu lo hi sl Q I rx hs pl pu q
 · exact h' pins s σ H x v vl vu lo hi sl Q I rx hs pl pu q
def tSl (r:V->Option Int->Option Int->Hp->VK->Prop) (te:TE) (tl th:TO):TE:=λσ H Q=>te σ H λx H1=>tl σ H1 λl H2=>th σ H2 λu H3=>r x l u H3 Q
theorem pe_slice {r:V->Option Int->Option Int->Hp->VK->Prop} (hr:SlR X r) (he:PE X e te) (hl:PO X lo tl) (hu:PO X hi th):PE X (.Subscript e (.Slice lo hi none p2) pos) (tSl r te tl th):=by
 intro pins s σ H Q I h
 refine Subscript_ (thn (he pins s σ H _ I h) λv s1 ⟨x,H1,I1,r1,q1⟩=>?_)
 refine wpAny_Slice (thn (hl pins s1 σ H1 _ I1 q1) λvl s2 ⟨l,H2,I2,pl,q2⟩=>thn (hu pins s2 σ H2 _ I2 q2) λvu s3 ⟨u,H3,I3,pu,q3⟩=>?_)
 rw [evalPart_none]
 refine wpAny_pure ?_
 have I4:Inv X pins σ H3 { s3 with heap:=s3.heap.push { cls:=.type "slice",data:=.fields #[vl,vu,.none] } }:=I3.kept (t':=s3.toks) λb ob q=>Heap.get?_push_of_some _ q
 obtain ⟨T,id,hT,ht,hg⟩:=hr pins { s3 with heap:=s3.heap.push { cls:=.type "slice",data:=.fields #[vl,vu,.none] } } σ H3 x v vl vu l u s3.heap.objs.size Q I4 r1 (Heap.IsSliceOf.new ..) pl pu q3
 show wpAny (model X.prog X.w) X.A (subscriptTail e (.Slice lo hi none p2) v (.ref s3.heap.objs.size)) (EP X pins σ Q) X.xe { s3 with heap:=s3.heap.push { cls:=.type "slice",data:=.fields #[vl,vu,.none] } }
 exact tail_any (ops:=[.ref s3.heap.objs.size,v]) ht hT hg (by with_unfolding_all rfl)

def cutV (xs:List V) (lo hi:Option Int):List V:=(xs.drop (HT.sIx xs.length 0 lo)).take (HT.sIx xs.length xs.length hi - HT.sIx xs.length 0 lo)
theorem cutV_length (xs:List V) (lo hi:Option Int):(cutV xs lo hi).length <= xs.length:=by
 unfold cutV
 rw [List.length_take,List.length_drop]
 omega
def rSlT (K:PySem.W.Frag):V->Option Int->Option Int->Hp->VK->Prop:=λx lo hi H Q=>∃ a xs,x=.ref a/\SqT K H a xs /\
 ¬ (HT.sIx xs.length 0 lo=0/\HT.sIx xs.length xs.length hi=xs.length)/\∀ p,H p=none->Q (.ref p) (upd H p (.tup (cutV xs lo hi)))
def rLtT (K:PySem.W.Frag):R2:=λx y H Q=>∃ a b ns ms,x=.ref a/\y=.ref b/\SqT K H a (ns.map V.int)/\SqT K H b (ms.map V.int)/\Q (.bl (HT.lexLt ns ms)) H
def rCatT (K:PySem.W.Frag):R2:=λx y H Q=>∃ a b xs ys,x=.ref a/\y=.ref b/\SqT K H a xs/\SqT K H b ys/\xs≠[]/\xs.length+ys.length <= sizeLine /\
 (ys=[]->Q (.ref a) H)/\(ys≠[]->∀ p,H p=none->Q (.ref p) (upd H p (.tup (xs++ys))))
theorem Vals.nil_iff {xs:List V} {us:List Value} (r:Vals xs us):us=[] ↔ xs=[]:=by
 cases r with
 | nil=>simp
 | cons _ _=>simp
theorem op_catT:OpR X (binaryOp .Add) (rCatT X.K):=by
 intro pins s σ H x y v u Q I rx ry h
 obtain ⟨a,b,xs,ys,rfl,rfl,ha,hb,hx,hz,q1,q2⟩:=h
 cases rx
 cases ry
 obtain ⟨its,r1,p1,_⟩:=I.tuple ha
 obtain ⟨its2,r2,p2,_⟩:=I.tuple hb
 refine HT.cat_tup p1 p2 (λz=>hx (r1.nil_iff.mp z)) (λz=>⟨.ref a,H,I,rfl,q1 (r2.nil_iff.mp z)⟩) (λz=>?_) (by rw [← r1.length,← r2.length];exact hz)
 refine ⟨.ref s.heap.objs.size,_,I.laid (t':=s.toks) (o:=.tup (xs++ys)) (λb ob q=>Heap.get?_push_of_some _ q) (Nat.le_refl _) ?_,rfl,q2 (λw=>z (r2.nil_iff.mpr w)) _ (I.hok.fresh (Nat.le_refl _))⟩
 exact ⟨by rw [List.length_append];exact hz,_,r1.append r2,IsTup.new _ _⟩
end
end L2

namespace L2
open PySem PySem.Spec PyProof.Rows

def ixN (n:Nat) (i:Int):Option Nat:=if 0 <= i then (if i < n then some i.toNat else none) else if -(n:Int) <= i then some (i+n).toNat else none
def atI {α:Type} (xs:List α) (i:Int):Option α:=(ixN xs.length i).bind λj=>xs[j]?
theorem ixN_seq {n:Nat} {i:Int} {j:Nat} (h:ixN n i=some j):seqIndex? i n=some j/\j < n/\-(n:Int) <= i/\i < n:=by
 unfold ixN at h
 by_cases h0:0 <= i
 · rw [if_pos h0] at h
   by_cases h1:i < n
   · rw [if_pos h1] at h
     have e:i.toNat=j:=Option.some.inj h
     exact ⟨by rw [seqIndex_of h0 h1,e],by omega,by omega,h1⟩
   · rw [if_neg h1] at h;cases h
 · rw [if_neg h0] at h
   by_cases h1:-(n:Int) <= i
   · rw [if_pos h1] at h
     have e:(i+n).toNat=j:=Option.some.inj h
     exact ⟨by rw [seqIndex_neg (by omega) h1,e],by omega,h1,by omega⟩
   · rw [if_neg h1] at h;cases h
theorem atI_get {α:Type} {xs:List α} {i:Int} {v:α} (h:atI xs i=some v):∃ j,seqIndex? i xs.length=some j/\xs[j]?=some v/\j < xs.length/\-(xs.length:Int) <= i/\i < xs.length:=by
 unfold atI at h
 cases e:ixN xs.length i with
 | none=>rw [e] at h;cases h
 | some j =>
   rw [e] at h
   obtain ⟨h1,h2,h3,h4⟩:=ixN_seq e
   exact ⟨j,h1,h,h2,h3,h4⟩
theorem atI_nat {α:Type} {xs:List α} {j:Nat} {v:α} (h:xs[j]?=some v):atI xs (j:Int)=some v:=by
 have hj:j < xs.length:=(List.getElem?_eq_some_iff.mp h).1
 have e:ixN xs.length (j:Int)=some j:=by
   unfold ixN
   rw [if_pos (by omega),if_pos (by omega)];simp
 unfold atI;rw [e];exact h
def PlainIx (b:Expr):Prop:=∀ o i,subscripted b false o i=operate [o,i] (getItem o i)
def IxR (X:Cx) (r:R2):Prop :=
 ∀ (value slice:Expr) (pins:List (Addr × Obj)) (s:Shared) (σ:St) (H:Hp) (x y:V) (v u:Value) (Q:VK),Inv X pins σ H s->RelV x v->RelV y u->r x y H Q ->
   subscripted slice false v u=operate [v,u] (getItem v u)->wpAny (model X.prog X.w) X.A (subscriptTail value slice v u) (EP X pins σ Q) X.xe s
def MtR (X:Cx) (id:String) (r:V->List V->Hp->VK->Prop):Prop :=
 ∀ (pins:List (Addr × Obj)) (s:Shared) (σ:St) (H:Hp) (x:V) (xs:List V) (v:Value) (us:List Value) (Q:VK),Inv X pins σ H s->RelV x v->Vals xs us->r x xs H Q ->
   wpAny (model X.prog X.w) X.A (call (.builtin id) (v :: us)) (EP X pins σ Q) X.xe s
section
variable {X:Cx} {a b:Expr} {ta tb:TE} {pos:Pos}
theorem IxR.or {r r':R2} (h:IxR X r) (h':IxR X r'):IxR X (λx y H Q=>r x y H Q\/r' x y H Q):=by
 intro value slice pins s σ H x y v u Q I rx ry q hs
 rcases q with q | q
 · exact h value slice pins s σ H x y v u Q I rx ry q hs
 · exact h' value slice pins s σ H x y v u Q I rx ry q hs
theorem MtR.or {id:String} {r r':V->List V->Hp->VK->Prop} (h:MtR X id r) (h':MtR X id r'):MtR X id (λx xs H Q=>r x xs H Q\/r' x xs H Q):=by
 intro pins s σ H x xs v us Q I rx rs q
 rcases q with q | q
 · exact h pins s σ H x xs v us Q I rx rs q
 · exact h' pins s σ H x xs v us Q I rx rs q
theorem pe_ix {r:R2} (hr:IxR X r) (ha:PE X a ta) (hb:PE X b tb) (hs:PlainIx b):PE X (.Subscript a b pos) (tOp r ta tb):=by
 intro pins s σ H Q I h
 exact Subscript_ (binT ha hb I h λv u s2 x y H2 I2 rx ry q=>hr a b pins s2 σ H2 x y v u Q I2 rx ry q (hs _ _))

def rIxL (K:PySem.W.Frag):R2:=λx y H Q=>∃ p xs i v,x=.ref p/\y=.int i/\SqL K H p xs/\atI xs i=some v/\Q v H
def rIxT (K:PySem.W.Frag):R2:=λx y H Q=>∃ p xs i v,x=.ref p/\y=.int i/\SqT K H p xs/\atI xs i=some v/\Q v H
def rIxS:R2:=λx y H Q=>∃ z i c,x=.str z/\y=.int i/\z.length <= sizeLine/\atI z.cps.toList i=some c/\Q (.str ⟨#[c]⟩) H
theorem ix_list:IxR X (rIxL X.K):=by
 intro value slice pins s σ H x y v u Q I rx ry h hs
 obtain ⟨p,xs,i,z,rfl,rfl,hq,he,q⟩:=h
 cases rx
 obtain ⟨t,rfl⟩:=ry
 obtain ⟨its,r,pl,hz⟩:=I.list hq
 obtain ⟨j,h1,h2,h3,h4,h5⟩:=atI_get he
 obtain ⟨w,ew,rw'⟩:=r.get h2
 have hl:=r.length
 have hn:=line63
 have fin:EP X pins σ Q w s:=⟨z,H,I,rw',q⟩
 by_cases h0:0 <= i
 · have hj:i.toNat=j:=by
     rw [seqIndex_of h0 h5] at h1
     exact Option.some.inj h1
   exact item_listR pl.isList h0 (by omega) (by rw [hj];simpa using ew) fin hs
 · have hj:(i+(its.toArray.size:Int)).toNat=j:=by
     rw [seqIndex_neg (by omega) h4] at h1
     rw [List.size_toArray,← hl]
     exact Option.some.inj h1
   exact subscriptTail_builtinR (x:=w) pl.isList.typeIs slot_list_getitem.lookup
     (wpAny_getItem_list_neg (Q:=λr s'=>r=w/\EP X pins σ Q r s') pl.isList (by omega) (by rw [List.size_toArray]<;>omega) (by omega) (by rw [hj];simpa using ew) ⟨rfl,fin⟩) hs
theorem ix_tup:IxR X (rIxT X.K):=by
 intro value slice pins s σ H x y v u Q I rx ry h hs
 obtain ⟨p,xs,i,z,rfl,rfl,hq,he,q⟩:=h
 cases rx
 obtain ⟨t,rfl⟩:=ry
 obtain ⟨its,r,pl,hz⟩:=I.tuple hq
 obtain ⟨j,h1,h2,h3,h4,h5⟩:=atI_get he
 obtain ⟨w,ew,rw'⟩:=r.get h2
 have hl:=r.length
 have hn:=line63
 have fin:EP X pins σ Q w s:=⟨z,H,I,rw',q⟩
 exact subscriptTail_builtinR (x:=w) pl.typeIs slot_tuple_getitem.lookup
   (getItem_tuple (j:=j) (Q:=λr s'=>r=w/\EP X pins σ Q r s') pl (by omega) (by omega) (by rw [List.size_toArray,← hl];exact h1) (by simpa using ew) ⟨rfl,fin⟩) hs
def rIx (K:PySem.W.Frag):R2:=λx y H Q=>rIxL K x y H Q\/rIxT K x y H Q\/rIxS x y H Q
theorem Inv.lst {pins:List (Addr × Obj)} {σ:St} {H:Hp} {s:Shared} {p:Addr} {xs:List V} (I:Inv X pins σ H s) (h:H p=some (.lst xs)) :
   ∃ (its:List Value) (n:Nat),Vals xs its/\s.heap.get? p=some { cls:=.type "list",data:=.seq its.toArray n }/\xs.length <= sizeLine:=by
 obtain ⟨z,its,n,r,e⟩:=I.hok p _ h
 exact ⟨its,n,r,e,z⟩
def rSetL:V->V->V->Hp->(Hp->Prop)->Prop:=λo i v H Q=>∃ p xs k j,o=.ref p/\i=.int k/\H p=some (.lst xs)/\ixN xs.length k=some j/\Q (upd H p (.lst (xs.set j v)))
theorem slice_bounds (lo hi:Option Int) (n:Nat):(sliceBounds lo hi none n).1=((HT.sIx n 0 lo:Nat):Int)/\(sliceBounds lo hi none n).2.1=((HT.sIx n n hi:Nat):Int)/\(sliceBounds lo hi none n).2.2=1:=by
 refine ⟨?_,?_,rfl⟩
 · cases lo with
   | none=>simp [sliceBounds,HT.sIx]
   | some i =>
     simp only [sliceBounds,HT.sIx,Option.getD_none,show (1:Int) > 0 by decide,if_true]
     by_cases h:i < 0
     · simp only [h,if_true]<;>omega
     · simp only [h,if_false]<;>omega
 · cases hi with
   | none=>simp [sliceBounds,HT.sIx]
   | some i =>
     simp only [sliceBounds,HT.sIx,Option.getD_none,show (1:Int) > 0 by decide,if_true]
     by_cases h:i < 0
     · simp only [h,if_true]<;>omega
     · simp only [h,if_false]<;>omega
theorem slicePick_cut (its:List Value) (lo hi:Option Int):slicePick its.toArray lo hi none=((its.drop (HT.sIx its.length 0 lo)).take (HT.sIx its.length its.length hi - HT.sIx its.length 0 lo)).toArray:=by
 obtain ⟨h1,h2,h3⟩:=slice_bounds lo hi its.toArray.size
 unfold slicePick
 rw [h1,h2,h3]
 simp only [sliceRange_one,pick_run,List.size_toArray]<;>rfl
def rSlL (K:PySem.W.Frag):V->Option Int->Option Int->Hp->VK->Prop:=λx lo hi H Q=>∃ a xs,x=.ref a/\SqL K H a xs/\∀ p,H p=none->Q (.ref p) (upd H p (.lst (cutV xs lo hi)))
theorem sl_list:SlR X (rSlL X.K):=by
 intro pins s σ H x v vl vu lo hi sl Q I rx hs pl pu h
 obtain ⟨a,xs,rfl,hx,q⟩:=h
 cases rx
 obtain ⟨its,r,ht,hz⟩:=I.list hx
 have hlen:=r.length
 refine ⟨"list",_,slot_list_getitem.lookup,ht.isList.typeIs,?_⟩
 refine wpAny_getItem_list_slice ht.isList hs pl pu .none (by simp) ?_ (by rw [List.size_toArray]<;>omega)
 rw [slicePick_cut,← hlen]
 refine ⟨.ref s.heap.objs.size,_,I.laid (t':=s.toks) (o:=.lst (cutV xs lo hi)) (λb ob q=>Heap.get?_push_of_some _ q) (Nat.le_refl _) ?_,rfl,q _ (I.hok.fresh (Nat.le_refl _))⟩
 exact ⟨Nat.le_trans (cutV_length xs lo hi) hz,_,0,(r.drop (HT.sIx xs.length 0 lo)).take (HT.sIx xs.length xs.length hi - HT.sIx xs.length 0 lo),Heap.get?_push_size _ rfl⟩

def flatV:V->Bool
 | .non=>true
 | .bl _=>true
 | .int _=>true
 | .str _=>true
 | _=>false
def eqV:V->V->Bool
 | .non,.non=>true
 | .bl a,.bl b=>a == b
 | .bl a,.int b=>(if a then 1 else 0) == b
 | .int a,.bl b=>a == (if b then 1 else 0)
 | .int a,.int b=>a == b
 | .str a,.str b=>a == b
 | _,_=>false
theorem eqAt_V {A:Around} {s:Shared} {y x:V} {u v:Value} (ry:RelV y u) (rx:RelV x v) (fy:flatV y=true) (fx:flatV x=true):SeqAt.EqAt A s u v (eqV y x):=by
 cases y with
 | non =>
   cases ry
   cases x with
   | non=>cases rx;exact SeqAt.EqAt.same _
   | bl b=>cases rx;exact SeqAt.EqAt.none_bool b
   | int b=>obtain ⟨t,rfl⟩:=rx;exact SeqAt.EqAt.none_int b t
   | str b=>obtain ⟨t,rfl⟩:=rx;exact SeqAt.EqAt.none_str b t
   | _=>exact absurd (show false=true from fx) Bool.false_ne_true
 | bl a =>
   cases ry
   cases x with
   | non=>cases rx;exact SeqAt.EqAt.bool_none a
   | bl b=>cases rx;exact SeqAt.EqAt.bool_bool a b
   | int b=>obtain ⟨t,rfl⟩:=rx;exact SeqAt.EqAt.bool_int a b t
   | str b=>obtain ⟨t,rfl⟩:=rx;exact SeqAt.EqAt.bool_str a b t
   | _=>exact absurd (show false=true from fx) Bool.false_ne_true
 | int a =>
   obtain ⟨t',rfl⟩:=ry
   cases x with
   | non=>cases rx;exact SeqAt.EqAt.int_none a t'
   | bl b=>cases rx;exact SeqAt.EqAt.int_bool a t' b
   | int b=>obtain ⟨t,rfl⟩:=rx;exact SeqAt.EqAt.int_int a t' b t
   | str b=>obtain ⟨t,rfl⟩:=rx;exact SeqAt.EqAt.int_str a t' b t
   | _=>exact absurd (show false=true from fx) Bool.false_ne_true
 | str a =>
   obtain ⟨t',rfl⟩:=ry
   cases x with
   | non=>cases rx;exact SeqAt.EqAt.str_none a t'
   | bl b=>cases rx;exact SeqAt.EqAt.str_bool a t' b
   | int b=>obtain ⟨t,rfl⟩:=rx;exact SeqAt.EqAt.str_int a t' b t
   | str b=>obtain ⟨t,rfl⟩:=rx;exact SeqAt.EqAt.str_str a t' b t
   | _=>exact absurd (show false=true from fx) Bool.false_ne_true
 | _=>exact absurd (show false=true from fy) Bool.false_ne_true
def eqU (x:V) (u:Value):Bool:=match u with
 | .none=>eqV .non x
 | .bool b=>eqV (.bl b) x
 | .int i _=>eqV (.int i) x
 | .str z _=>eqV (.str z) x
 | _=>false
theorem eqU_of {x y:V} {u:Value} (r:RelV y u) (f:flatV y=true):eqU x u=eqV y x:=by
 cases y with
 | non=>cases r;rfl
 | bl b=>cases r;rfl
 | int i=>obtain ⟨t,rfl⟩:=r;rfl
 | str z=>obtain ⟨t,rfl⟩:=r;rfl
 | _=>exact absurd (show false=true from f) Bool.false_ne_true
theorem any_eqU {x:V}:∀ {xs:List V} {us:List Value},Vals xs us->xs.all flatV=true->us.any (eqU x)=xs.any λy=>eqV y x
 | _,_,.nil,_=>rfl
 | y :: xs,u :: us,.cons r t,f=>by
   rw [List.all_cons,Bool.and_eq_true] at f
   rw [List.any_cons,List.any_cons,eqU_of r f.1,any_eqU t f.2]
theorem mem_eqAt {A:Around} {s:Shared} {x:V} {v:Value} (rx:RelV x v) (fx:flatV x=true):∀ {xs:List V} {us:List Value},Vals xs us->xs.all flatV=true->∀ u∈us,SeqAt.EqAt A s u v (eqU x u)
 | _,_,.nil,_=>λu hu=>by cases hu
 | y :: xs,u :: us,.cons r t,f=>λu' hu=>by
   rw [List.all_cons,Bool.and_eq_true] at f
   rcases List.mem_cons.mp hu with rfl | hu
   · rw [eqU_of r f.1];exact eqAt_V r rx f.1 fx
   · exact mem_eqAt rx fx t f.2 u' hu
def inV (x:V) (xs:List V):Bool:=xs.any λy=>eqV y x
def rIn (K:PySem.W.Frag) (neg:Bool):R2:=λx y H Q=>∃ p xs,y=.ref p/\(SqL K H p xs\/SqT K H p xs)/\flatV x=true/\xs.all flatV=true/\Q (.bl (if neg then !inV x xs else inV x xs)) H
theorem op_in_seq:OpR X (compareOp .In) (rIn X.K false):=by
 intro pins s σ H x y v u Q I rx ry h
 obtain ⟨p,xs,rfl,hq,fx,fs,q⟩:=h
 cases ry
 rcases hq with hq | hq
 · obtain ⟨its,r,pl,hz⟩:=I.list hq
   refine SeqAt.in_listAt (eqU x) pl.isList (λw hw=>mem_eqAt rx fx r fs w (by simpa using hw)) ⟨.bl _,H,I,rfl,?_⟩
   rw [show its.toArray.any (eqU x)=its.any (eqU x) by simp,any_eqU r fs]
   exact q
 · obtain ⟨its,r,pl,hz⟩:=I.tuple hq
   refine SeqAt.in_tupleAt (eqU x) pl (λw hw=>mem_eqAt rx fx r fs w (by simpa using hw)) ⟨.bl _,H,I,rfl,?_⟩
   rw [show its.toArray.any (eqU x)=its.any (eqU x) by simp,any_eqU r fs]
   exact q
theorem op_notIn_seq:OpR X (compareOp .NotIn) (rIn X.K true):=by
 intro pins s σ H x y v u Q I rx ry h
 obtain ⟨p,xs,rfl,hq,fx,fs,q⟩:=h
 cases ry
 rcases hq with hq | hq
 · obtain ⟨its,r,pl,hz⟩:=I.list hq
   refine SeqAt.notIn_listAt (eqU x) pl.isList (λw hw=>mem_eqAt rx fx r fs w (by simpa using hw)) ⟨.bl _,H,I,rfl,?_⟩
   rw [show its.toArray.any (eqU x)=its.any (eqU x) by simp,any_eqU r fs]
   exact q
 · obtain ⟨its,r,pl,hz⟩:=I.tuple hq
   refine SeqAt.notIn_tupleAt (eqU x) pl (λw hw=>mem_eqAt rx fx r fs w (by simpa using hw)) ⟨.bl _,H,I,rfl,?_⟩
   rw [show its.toArray.any (eqU x)=its.any (eqU x) by simp,any_eqU r fs]
   exact q
theorem call_len_seq:CallR X (.builtin "len") (λxs H Q=>∃ p ys,xs=[.ref p]/\(SqL X.K H p ys\/SqT X.K H p ys)/\Q (.int ys.length) H):=by
 intro pins s σ H xs us Q I r h
 obtain ⟨p,ys,rfl,hq,q⟩:=h
 obtain ⟨u,rfl,rx⟩:=vals1 r
 cases rx
 have hn:=line63
 rcases hq with hq | hq
 · obtain ⟨its,r',pl,hz⟩:=I.list hq
   have hlen:=r'.length
   exact Calls.call_len_list pl.isList (by simp only [List.size_toArray]<;>omega) ⟨.int ys.length,H,I.tok _,⟨s.toks+1,by rw [List.size_toArray,hlen]⟩,q⟩
 · obtain ⟨its,r',pl,hz⟩:=I.tuple hq
   have hlen:=r'.length
   exact len_tuple pl (by simp only [List.size_toArray]<;>omega) ⟨.int ys.length,H,I.tok _,⟨s.toks+1,by rw [List.size_toArray,hlen]⟩,q⟩
theorem CallR.or {f:Value} {r r':List V->Hp->VK->Prop} (h:CallR X f r) (h':CallR X f r'):CallR X f (λxs H Q=>r xs H Q\/r' xs H Q):=by
 intro pins s σ H xs us Q I rs q
 rcases q with q | q
 · exact h pins s σ H xs us Q I rs q
 · exact h' pins s σ H xs us Q I rs q
theorem call_list_of:CallR X (.type "list") (λxs H Q=>∃ p ys,xs=[.ref p]/\(SqL X.K H p ys\/SqT X.K H p ys)/\∀ l,H l=none->Q (.ref l) (upd H l (.lst ys))):=by
 intro pins s σ H xs us Q I r h
 obtain ⟨p,ys,rfl,hq,q⟩:=h
 obtain ⟨u,rfl,rx⟩:=vals1 r
 cases rx
 have fin:∀ (its:List Value),Vals ys its->ys.length <= sizeLine->∀ (h':Heap) (c':Nat),(∀ b o',s.heap.get? b=some o'->h'.get? b=some o') ->
     h'.get? s.heap.objs.size=some { cls:=.type "list",dict:=none,data:=.seq its.toArray c',slots:=#[] }->EP X pins σ Q (.ref s.heap.objs.size) { s with heap:=h' }:=λits r' hz h' c' kp e =>
   ⟨.ref s.heap.objs.size,_,I.laid (t':=s.toks) kp (Nat.le_refl _) (show ObjOk X.prog X.w _ h' _ (.lst ys) from ⟨hz,its,c',r',e⟩),rfl,q _ (I.hok.fresh (Nat.le_refl _))⟩
 rcases hq with hq | hq
 · obtain ⟨its,r',pl,hz⟩:=I.list hq
   have hlen:=r'.length
   obtain ⟨o,ho,hc,n,hd⟩:=pl.isList
   exact call_list_seq p (.inl rfl) ho hc hd (λh' c' kp e=>fin its r' hz h' c' kp e) (by simp only [List.size_toArray]<;>omega)
 · obtain ⟨its,r',pl,hz⟩:=I.tuple hq
   have hlen:=r'.length
   obtain ⟨o,ho,hc,n,hd⟩:=pl
   exact call_list_seq p (.inr rfl) ho hc hd (λh' c' kp e=>fin its r' hz h' c' kp e) (by simp only [List.size_toArray]<;>omega)
def tyV (K:PySem.W.Frag) (T:String) (x:V) (H:Hp):Prop:=match x with
 | .str _=>T="str"
 | .int _=>T="int"
 | .ref p=>(T="list"/\∃ xs,SqL K H p xs)\/(T="tuple"/\∃ o,K.lookup p=some o/\o.cls=.type "tuple"/\o.dict=none) \/
     (T="dict"/\((∃ kvs,H p=some (.dK kvs))\/∃ kvs,H p=some (.dT kvs)))\/(T="set"/\∃ S n,H p=some (.set S n))
 | _=>False
theorem tyV_is {pins:List (Addr × Obj)} {σ:St} {H:Hp} {s:Shared} {T:String} {x:V} {v:Value} (I:Inv X pins σ H s) (r:RelV x v) (ty:tyV X.K T x H) :
   s.TypeIs v T/\∀ a,v=.ref a->∃ ob,s.heap.get? a=some ob/\ob.dict=none:=by
 cases x with
 | str z =>
   obtain ⟨t,rfl⟩:=r
   cases (show T="str" from ty)
   exact ⟨typeIs_str s z t,λ_ e=>nomatch e⟩
 | int i =>
   obtain ⟨t,rfl⟩:=r
   cases (show T="int" from ty)
   exact ⟨typeIs_int s i t,λ_ e=>nomatch e⟩
 | ref p =>
   cases r
   rcases ty with ⟨rfl,xs,hq⟩ | ⟨rfl,o,hk,hc,hd⟩ | ⟨rfl,hk⟩ | ⟨rfl,S,n,hk⟩
   · obtain ⟨its,_,pl,_⟩:=I.list hq
     refine ⟨pl.isList.typeIs,λa e=>?_⟩
     cases e
     obtain ⟨o,n,e,c,hd,_⟩:=pl
     exact ⟨o,e,hd⟩
   · refine ⟨⟨o,I.kIn p o hk,hc⟩,λa e=>?_⟩
     cases e
     exact ⟨o,I.kIn _ o hk,hd⟩
   · have z:∃ o,s.heap.get? p=some o/\o.ExactDict:=by
       rcases hk with ⟨kvs,hk⟩ | ⟨kvs,hk⟩
       · obtain ⟨_,_,_,_,o,_,_,e,ex,_⟩:=I.hok p _ hk
         exact ⟨o,e,ex⟩
       · obtain ⟨_,_,_,_,o,_,_,e,ex,_⟩:=I.hok p _ hk
         exact ⟨o,e,ex⟩
     obtain ⟨o,e,ex⟩:=z
     refine ⟨⟨o,e,ex.1⟩,λa e2=>?_⟩
     cases e2
     exact ⟨o,e,ex.2.1⟩
   · obtain ⟨o,_,_,_,e,ex,_⟩:=I.hok p _ hk
     refine ⟨⟨o,e,ex.1⟩,λa e2=>?_⟩
     cases e2
     exact ⟨o,e,ex.2.1⟩
 | _=>exact False.elim ty
def tBM0 (K:PySem.W.Frag) (T:String) (r:V->List V->Hp->VK->Prop) (to:TE):TE:=λσ H Q=>to σ H λx H1=>tyV K T x H1/\r x [] H1 Q
def tBM (K:PySem.W.Frag) (T:String) (r:V->List V->Hp->VK->Prop) (to:TE) (t:TA):TE:=λσ H Q=>to σ H λx H1=>tyV K T x H1/\t σ H1 λxs H2=>r x xs H2 Q
variable {o e:Expr} {es:List Expr} {to:TE} {t:TA} {name:Str} {apos cpos:Pos} {T id:String} {r:V->List V->Hp->VK->Prop}
theorem pe_bm (pa:PlainAttrs T) (slot:Slot T name id) (hty:typeOf (.builtin id)=pure (.type "method_descriptor")) (hm:MtR X id r) (ho:PE X o to) (ha:PA X (e :: es) t)
   (hbase:attributeBase o name X.env (eval o X.env)=eval o X.env:=by rfl)
   (hfew:((backTo cpos (starEach (e :: es) X.env)).all (λx=>!x.1) && (backToKw cpos (keywordEach [] X.env)).all (λx=>x.1.isSome)
     && decide ((e :: es).length+([]:List Keyword).length+(if ([]:List Keyword).isEmpty then 0 else 1) < 30))=true:=by rfl)
   (hline:(apos.endLine == cpos.line)=true:=by rfl) (hs:starEach (e :: es) X.env=(false,eval e X.env) :: starEach es X.env:=by rfl) (hplain:(backTo cpos (starEach es X.env)).any (·.1)=false:=by rfl) :
   PE X (.Call (.Attribute o name apos) (e :: es) [] cpos) (tBM X.K T r to t):=by
 intro pins s σ H Q I h
 refine wpAny_Call_method_late hbase hfew hline rfl (thn (ho pins s σ H _ I h) λv s1 ⟨x,H1,I1,r1,ty,q1⟩=>?_)
 obtain ⟨h1,h2⟩:=tyV_is I1 r1 ty
 refine ⟨T,id,pa,slot,hty,h1,h2,?_⟩
 have hA:=ha cpos pins s1 σ H1 _ I1 q1
 rw [hs] at hA ⊢
 refine Calls.callWith_builtin (by show (false || (backTo cpos (starEach es X.env)).any (·.1))=false;rw [hplain]<;>rfl) (Calls.evalArgs_plain ?_)
 exact thn hA λus s2 ⟨vs,H2,I2,r2,q2⟩=>hm pins s2 σ H2 x vs v us Q I2 r1 r2 q2
end
end L2

namespace L2
open PySem PySem.Spec PyProof.Rows

def MtM (X:Cx) (id:String) (r:V->List V->Hp->VK->Prop):Prop :=
 ∀ (pins:List (Addr × Obj)) (s:Shared) (σ:St) (H:Hp) (x:V) (xs:List V) (v:Value) (us:List Value) (Q:VK),Inv X pins σ H s->RelV x v->Vals xs us->r x xs H Q ->
   wpAny (model X.prog X.w) X.A (call (.builtin id) (v :: us)) (EP X pins σ Q) X.xe s

theorem Vals.one:∀ {x:V} {us:List Value},Vals [x] us->∃ u,us=[u]/\RelV x u
 | _,_,.cons r .nil=>⟨_,rfl,r⟩
theorem Vals.zero:∀ {us:List Value},Vals [] us->us=[]
 | _,.nil=>rfl
theorem Vals.dropLast {xs:List V} {us:List Value} (h:Vals xs us):Vals xs.dropLast us.dropLast:=by
 induction h with
 | nil=>exact .nil
 | cons r t ih =>
   cases t with
   | nil=>exact .nil
   | cons q t'=>exact .cons r ih
theorem Vals.eraseIdx:∀ {xs:List V} {us:List Value} (i:Nat),Vals xs us->Vals (xs.eraseIdx i) (us.eraseIdx i)
 | _,_,_,.nil=>.nil
 | _,_,0,.cons _ t=>t
 | _,_,i+1,.cons r t=>.cons r (Vals.eraseIdx i t)
theorem Vals.reverse {xs:List V} {us:List Value} (h:Vals xs us):Vals xs.reverse us.reverse:=by
 induction h with
 | nil=>exact .nil
 | cons r t ih=>rw [List.reverse_cons,List.reverse_cons];exact Vals.append ih (.cons r .nil)
theorem len_erase {α:Type}:∀ (l:List α) (i:Nat),(l.eraseIdx i).length <= l.length
 | [],_=>Nat.le_refl _
 | _ :: _,0=>Nat.le_succ _
 | _ :: r,i+1=>Nat.succ_le_succ (len_erase r i)
section
variable {X:Cx} {pins:List (Addr × Obj)} {σ:St} {H:Hp} {s:Shared} {l b:Addr} {xs ys zs:List V}

theorem Inv.lset {its its':List Value} {n:Nat} {f:Array Value->Array Value} {t':Nat} (I:Inv X pins σ H s) (hH:H l=some (.lst xs))
   (e:s.heap.get? l=some { cls:=.type "list",data:=.seq its.toArray n }) (hf:f its.toArray=its'.toArray) (hv:Vals ys its') (hz:ys.length <= sizeLine) :
   Inv X pins σ (upd H l (.lst ys)) { s with heap:=s.heap.update l (Obj.mapSeq f),toks:=t' }:=by
 have q:=PySem.IsL.update e f
 rw [hf] at q
 refine I.write (x:=l) (e:=l) (by rw [hH];exact trivial) (.inl rfl) (λb' u hb hu=>(Heap.get?_update_other s.heap (Obj.mapSeq f) (Ne.symm hb)).trans hu) ⟨_,q⟩ ?_
 exact ⟨hz,its',_,hv,q⟩
theorem Inv.lnew {its:List Value} {t':Nat} (I:Inv X pins σ H s) (hv:Vals ys its) (hz:ys.length <= sizeLine) :
   Inv X pins σ (upd H s.heap.objs.size (.lst ys)) { s with heap:=s.heap.push { cls:=.type "list",data:=.seq its.toArray },toks:=t' } :=
 I.laid (λ_ _ q=>Heap.get?_push_of_some _ q) (Nat.le_refl _) ⟨hz,its,0,hv,Heap.get?_push_size _ rfl⟩
theorem Inv.fresh (I:Inv X pins σ H s):H s.heap.objs.size=none:=I.hok.fresh (Nat.le_refl _)
theorem Inv.lstM (I:Inv X pins σ H s) (hH:H l=some (.lst xs)):xs.length <= sizeLine/\∃ (its:List Value) (n:Nat),Vals xs its/\xs.length=its.length/\s.heap.get? l=some { cls:=.type "list",data:=.seq its.toArray n }:=by
 obtain ⟨z,its,n,r,e⟩:=I.hok l _ hH
 exact ⟨z,its,n,r,r.length,e⟩

end

section
variable {X:Cx}

def rAppend:V->List V->Hp->VK->Prop:=λx vs H Q=>∃ l xs y,x=.ref l/\vs=[y]/\H l=some (.lst xs)/\xs.length < sizeLine/\Q .non (upd H l (.lst (xs++[y])))
theorem mt_append:MtM X "list.append" rAppend:=by
 intro pins s σ H x vs v us Q I rx rv h
 obtain ⟨l,xs,y,rfl,rfl,hH,hz,q⟩:=h
 cases rx
 obtain ⟨u,rfl,ru⟩:=rv.one
 obtain ⟨z,its,n,r,hl,e⟩:=I.lstM hH
 refine call_meets F.slot_list_append ⟨_,e,rfl⟩ F.entry_list_append (F.args_list_append_2 _ _) (PySem.list_append l its.toArray n u (by rw [List.size_toArray];omega)) ⟨e,?_⟩
 refine ⟨.non,_,I.lset (its':=its++[u]) hH e (by simp) (r.append (.cons ru .nil)) ?_,rfl,q⟩
 rw [List.length_append,List.length_singleton]
 omega

def rExtend:V->List V->Hp->VK->Prop:=λx vs H Q=>∃ l b xs zs,x=.ref l/\vs=[.ref b]/\H l=some (.lst xs)/\H b=some (.lst zs)/\xs.length+zs.length <= sizeLine/\Q .non (upd H l (.lst (xs++zs)))
def rPop:V->List V->Hp->VK->Prop:=λx vs H Q=>∃ l xs y,x=.ref l/\vs=[]/\H l=some (.lst xs)/\xs[xs.length - 1]?=some y/\Q y (upd H l (.lst xs.dropLast))
def rPopAt:V->List V->Hp->VK->Prop:=λx vs H Q=>∃ l xs i k y,x=.ref l/\vs=[.int i]/\H l=some (.lst xs)/\-(2 ^ 63) <= i/\i < 2 ^ 63/\seqIndex? i xs.length=some k/\xs[k]?=some y/\Q y (upd H l (.lst (xs.eraseIdx k)))
theorem mt_popAt:MtM X "list.pop" rPopAt:=by
 intro pins s σ H x vs v us Q I rx rv h
 obtain ⟨l,xs,i,k,y,rfl,rfl,hH,h1,h2,hk,hy,q⟩:=h
 cases rx
 obtain ⟨u,rfl,ru⟩:=rv.one
 obtain ⟨t,rfl⟩:=ru
 obtain ⟨z,its,n,r,hl,e⟩:=I.lstM hH
 obtain ⟨w,hw,rw'⟩:=r.get hy
 refine call_meets F.slot_list_pop ⟨_,e,rfl⟩ F.entry_list_pop (F.args_list_pop_2 _ _)
   (MeetsSeq.list_pop_at l its.toArray n i t k w (fitsIndex_both h1 h2) (by rw [List.size_toArray,← hl];exact hk) (by rw [← Array.getElem?_toList];exact hw) (by rw [List.size_toArray];omega)) ⟨e,?_⟩
 refine ⟨y,_,I.lset (its':=its.eraseIdx k) hH e ?_ (r.eraseIdx k) ?_,rw',q⟩
 · show its.toArray.eraseIdxIfInBounds k=(its.eraseIdx k).toArray
   rw [List.eraseIdxIfInBounds_toArray]
 · have:=len_erase xs k
   omega

def rReverse:V->List V->Hp->VK->Prop:=λx vs H Q=>∃ l xs,x=.ref l/\vs=[]/\H l=some (.lst xs)/\Q .non (upd H l (.lst xs.reverse))
def rClear:V->List V->Hp->VK->Prop:=λx vs H Q=>∃ l xs,x=.ref l/\vs=[]/\H l=some (.lst xs)/\Q .non (upd H l (.lst []))
def rCat:R2:=λx y H Q=>∃ l b xs zs,x=.ref l/\y=.ref b/\H l=some (.lst xs)/\H b=some (.lst zs)/\xs.length+zs.length <= sizeLine/\∀ p,H p=none->Q (.ref p) (upd H p (.lst (xs++zs)))
theorem op_cat:OpR X (binaryOp .Add) rCat:=by
 intro pins s σ H x y v u Q I rx ry h
 obtain ⟨l,b,xs,zs,rfl,rfl,hH,hB,hz,q⟩:=h
 cases rx
 cases ry
 obtain ⟨z,its,n,r,hl,e⟩:=I.lstM hH
 obtain ⟨z2,its2,n2,r2,hl2,e2⟩:=I.lstM hB
 refine PySem.P.add_list e e2 ?_ (by rw [List.size_toArray,List.size_toArray];omega)
 have ea:its.toArray++its2.toArray=(its++its2).toArray:=by simp
 rw [ea]
 exact ⟨.ref _,_,I.lnew (t':=s.toks) (r.append r2) (by rw [List.length_append];omega),rfl,q _ I.fresh⟩
def rRep:R2:=λx y H Q=>∃ l k xs,x=.ref l/\y=.int k/\H l=some (.lst xs)/\-(2 ^ 63) <= k/\k < 2 ^ 63/\xs.length * k.toNat <= sizeLine /\
 ∀ p,H p=none->Q (.ref p) (upd H p (.lst (List.replicate k.toNat xs).flatten))
end

section
variable {prog:Program} {w:World} {A:Around} {E:Value->Shared->Prop} {s:Shared}
end

section
variable {X:Cx}
end
end L2

namespace L2
open PySem PySem.Spec PyProof.Rows

section
variable {κ:Type} [DecidableEq κ]
def valV (kvs:List (κ × V)) (k:κ):Option V:=(kvs.find? λkv=>decide (kv.1=k)).map (·.2)
def putK (kvs:List (κ × V)) (k:κ) (v:V):List (κ × V) :=
 if (kvs.any λkv=>decide (kv.1=k))=true then kvs.map (λkv=>if kv.1=k then (kv.1,v) else kv) else kvs++[(k,v)]
def dropK (kvs:List (κ × V)) (k:κ):List (κ × V):=kvs.filter λkv=>decide (kv.1≠k)

theorem valV_pos {p:κ × V} {r:List (κ × V)} {k:κ} (e:p.1=k):valV (p :: r) k=some p.2:=by simp [valV,List.find?_cons,e]
theorem valV_neg {p:κ × V} {r:List (κ × V)} {k:κ} (e:¬ p.1=k):valV (p :: r) k=valV r k:=by simp [valV,List.find?_cons,e]
theorem valV_any (k:κ):∀ kvs:List (κ × V),(kvs.any λkv=>decide (kv.1=k))=(valV kvs k).isSome
 | []=>rfl
 | p :: r=>by
   rw [List.any_cons]
   by_cases e:p.1=k
   · simp only [valV_pos e,decide_eq_true e,Bool.true_or,Option.isSome_some]
   · rw [valV_neg e,decide_eq_false e,Bool.false_or];exact valV_any k r
theorem length_putK (kvs:List (κ × V)) (k:κ) (v:V):(putK kvs k v).length <= kvs.length+1:=by
 unfold putK
 split
 · rw [List.length_map];omega
 · rw [List.length_append,List.length_cons,List.length_nil];omega
theorem RelO.isSome_eq {o:Option V} {u:Option Value} (r:RelO o u):o.isSome=u.isSome:=by
 cases o with
 | none=>cases u with
   | none=>rfl
   | some _=>exact (show False from r).elim
 | some _=>cases u with
   | none=>exact (show False from r).elim
   | some _=>rfl
theorem RelO.getD {o:Option V} {u:Option Value} {d:V} {d':Value} (r:RelO o u) (rd:RelV d d'):RelV (o.getD d) (u.getD d'):=by
 cases o with
 | none=>cases u with
   | none=>exact rd
   | some _=>exact (show False from r).elim
 | some _=>cases u with
   | none=>exact (show False from r).elim
   | some _=>exact r

theorem KV.val {kvs:List (κ × V)} {vs:List (κ × Value)} (r:KV kvs vs) (k:κ):RelO (valV kvs k) (valueAt vs k):=by
 unfold KV at r
 induction r with
 | nil=>exact True.intro
 | @cons p q ps qs h t ih =>
   obtain ⟨h1,h2⟩:=h
   by_cases e:p.1=k
   · have e':q.1=k:=h1.symm.trans e
     have b:valueAt (q :: qs) k=some q.2:=by simp [valueAt,List.find?_cons,e']
     rw [valV_pos e,b];exact h2
   · have e':¬ q.1=k:=λz=>e (h1.trans z)
     have b:valueAt (q :: qs) k=valueAt qs k:=by simp [valueAt,List.find?_cons,e']
     rw [valV_neg e,b];exact ih
theorem KV.any {kvs:List (κ × V)} {vs:List (κ × Value)} (r:KV kvs vs) (k:κ):(kvs.any λkv=>decide (kv.1=k))=vs.any λkv=>decide (kv.1=k):=by
 unfold KV at r
 induction r with
 | nil=>rfl
 | cons h t ih=>rw [List.any_cons,List.any_cons,ih,h.1]
theorem KV.repl {kvs:List (κ × V)} {vs:List (κ × Value)} (r:KV kvs vs) (k:κ) {y:V} {u:Value} (ry:RelV y u) :
   KV (kvs.map λkv=>if kv.1=k then (kv.1,y) else kv) (vs.map λkv=>if kv.1=k then (kv.1,u) else kv):=by
 unfold KV at r ⊢
 induction r with
 | nil=>exact .nil
 | @cons p q ps qs h t ih =>
   rw [List.map_cons,List.map_cons]
   refine .cons ?_ ih
   obtain ⟨h1,h2⟩:=h
   by_cases e:p.1=k
   · rw [if_pos e,if_pos (h1.symm.trans e)];exact ⟨h1,ry⟩
   · rw [if_neg e,if_neg (λz=>e (h1.trans z))];exact ⟨h1,h2⟩
theorem KV.put {kvs:List (κ × V)} {vs:List (κ × Value)} (r:KV kvs vs) (k:κ) {y:V} {u:Value} (ry:RelV y u):KV (putK kvs k y) (stored vs k u):=by
 unfold putK stored
 rw [r.any k]
 by_cases e:(vs.any λkv=>decide (kv.1=k))=true
 · rw [if_pos e,if_pos e];exact r.repl k ry
 · rw [if_neg e,if_neg e];exact Paired.snoc r ⟨rfl,ry⟩
theorem KV.drop {kvs:List (κ × V)} {vs:List (κ × Value)} (r:KV kvs vs) (k:κ):KV (dropK kvs k) (without vs k):=by
 unfold KV at r ⊢
 unfold dropK without
 induction r with
 | nil=>exact .nil
 | @cons p q ps qs h t ih =>
   obtain ⟨h1,h2⟩:=h
   rw [List.filter_cons,List.filter_cons]
   by_cases e:p.1=k
   · have a:¬ decide (p.1≠k)=true:=by simp [e]
     have b:¬ decide (q.1≠k)=true:=by simp [h1.symm.trans e]
     rw [if_neg a,if_neg b];exact ih
   · have e':¬ q.1=k:=λz=>e (h1.trans z)
     have a:decide (p.1≠k)=true:=by simp [e]
     have b:decide (q.1≠k)=true:=by simp [e']
     rw [if_pos a,if_pos b];exact .cons ⟨h1,h2⟩ ih
theorem KV.keys {kvs:List (κ × V)} {vs:List (κ × Value)} (r:KV kvs vs):kvs.map (·.1)=vs.map (·.1):=by
 unfold KV at r
 induction r with
 | nil=>rfl
 | cons h t ih=>rw [List.map_cons,List.map_cons,ih,h.1]
theorem KV.length {kvs:List (κ × V)} {vs:List (κ × Value)} (r:KV kvs vs):kvs.length=vs.length:=Paired.length r
theorem dropK_le (kvs:List (κ × V)) (k:κ):(dropK kvs k).length <= kvs.length:=List.length_filter_le _ _
end


theorem kV_is {P:Program} {w:World} {k:Key} {u:Value} (r:RelV (kV k) u):(mixKind P w).is k u=true:=by
 cases k with
 | inl i=>obtain ⟨t,e⟩:=(show ∃ t,u=Value.int i t from r);subst e;exact mixKind_int P w i t
 | inr x=>obtain ⟨t,e⟩:=(show ∃ t,u=Value.str x t from r);subst e;exact mixKind_str P w x t
theorem items_are {P:Program} {w:World}:∀ {ks:List Key} {us:List Value},Vals (ks.map kV) us->ItemsAre (mixKind P w) ks us
 | [],_,r=>by rw [List.map_nil] at r;cases r;exact .nil
 | k :: ks,_,r=>by
   rw [List.map_cons] at r
   cases r with
   | cons h t=>exact .cons (kV_is h) (items_are t)

abbrev KT (H:Hp):List (List Key × V)->List (List Key × Addr × Value)->Prop:=Paired λp q=>p.1=q.1/\H q.2.1=some (.tup (p.1.map kV))/\RelV p.2 q.2.2
theorem KT.val {H:Hp} {kvs:List (List Key × V)} {xs:List (List Key × Addr × Value)} (r:KT H kvs xs) (k:List Key):RelO (valV kvs k) ((atKey xs k).map (·.2)):=by
 induction r with
 | nil=>exact True.intro
 | @cons p q ps qs h t ih =>
   obtain ⟨h1,_,h2⟩:=h
   by_cases e:p.1=k
   · have e':q.1=k:=h1.symm.trans e
     have b:atKey (q :: qs) k=some q.2:=by simp [atKey,List.find?_cons,e']
     rw [valV_pos e,b];exact h2
   · have e':¬ q.1=k:=λz=>e (h1.trans z)
     have b:atKey (q :: qs) k=atKey qs k:=by simp [atKey,List.find?_cons,e']
     rw [valV_neg e,b];exact ih
theorem KT.repl {H:Hp} {kvs:List (List Key × V)} {xs:List (List Key × Addr × Value)} (r:KT H kvs xs) (k:List Key) {y:V} {u:Value} (ry:RelV y u) :
   KT H (kvs.map λkv=>if kv.1=k then (kv.1,y) else kv) (xs.map (putAt k u)):=by
 induction r with
 | nil=>exact .nil
 | @cons p q ps qs h t ih =>
   rw [List.map_cons,List.map_cons]
   refine .cons ?_ ih
   obtain ⟨h1,h2,h3⟩:=h
   unfold putAt
   by_cases e:p.1=k
   · rw [if_pos e,if_pos (h1.symm.trans e)];exact ⟨h1,h2,ry⟩
   · rw [if_neg e,if_neg (λz=>e (h1.trans z))];exact ⟨h1,h2,h3⟩
theorem KT.put {H:Hp} {kvs:List (List Key × V)} {xs:List (List Key × Addr × Value)} (r:KT H kvs xs) (k:List Key) {b:Addr} {y:V} {u:Value} (hb:H b=some (.tup (k.map kV))) (ry:RelV y u) :
   KT H (putK kvs k y) (storedH xs k b u):=by
 have e:(kvs.any λkv=>decide (kv.1=k))=(atKey xs k).isSome:=by
   rw [valV_any,(r.val k).isSome_eq,Option.isSome_map]
 unfold putK storedH
 rw [e]
 by_cases q:(atKey xs k).isSome=true
 · rw [if_pos q,if_pos q];exact r.repl k ry
 · rw [if_neg q,if_neg q];exact Paired.snoc r ⟨rfl,hb,ry⟩
theorem KT.keeps {H H':Hp} {kvs:List (List Key × V)} {xs:List (List Key × Addr × Value)} (r:KT H kvs xs) (ht:∀ b ys,H b=some (.tup ys)->H' b=some (.tup ys)):KT H' kvs xs :=
 Paired.mapP r λ_ _ z=>⟨z.1,ht _ _ z.2.1,z.2.2⟩

section
variable {P:Program} {w:World} {H:Hp} {h:Heap} {a:Addr}
theorem rd_of {u:HO} (ok:HOk P w H h) (e:Rd H a u):ObjOk P w H h a u:=e.ok ok
theorem dk_rd {kvs:List (Key × V)} (ok:HOk P w H h) (e:Rd H a (.dK kvs)):kvs.length <= sizeLine/\(a == sysModules)=false/\∃ vs,KV kvs vs/\h.DictOf (mixKind P w) a vs :=
 show ObjOk P w H h a (.dK kvs) from rd_of ok e
theorem dk_of {kvs:List (Key × V)} (ok:HOk P w H h) (e:H a=some (.dK kvs)):kvs.length <= sizeLine/\(a == sysModules)=false/\∃ vs,KV kvs vs/\h.DictOf (mixKind P w) a vs:=dk_rd ok (.inl e)
theorem key_of {ks:List Key} (ok:HOk P w H h) (e:H a=some (.tup (ks.map kV))):(tupleKind (mixKind P w)).is h ks a:=by
 obtain ⟨_,its,r,o,h1,h2,n,h3⟩:=(show ObjOk P w H h a (.tup (ks.map kV)) from ok a _ e)
 exact ⟨o,its.toArray,n,h1,h2,h3,by simpa using items_are r⟩
theorem dt_rd {kvs:List (List Key × V)} (ok:HOk P w H h) (e:Rd H a (.dT kvs)):kvs.length <= sizeLine/\(a == sysModules)=false /\
   ∃ xs,KT H kvs xs/\h.DictOfH (tupleKind (mixKind P w)) a xs:=by
 obtain ⟨z,y,xs,r,o,es,ep,h1,h2,h3,h4,h5⟩:=(show ObjOk P w H h a (.dT kvs) from rd_of ok e)
 refine ⟨z,y,xs,r,o,es,ep,h1,h2,h3,h4,λx hx=>?_,h5⟩
 have all:∀ {l:List (List Key × V)} {m:List (List Key × Addr × Value)},KT H l m->∀ x∈m,(tupleKind (mixKind P w)).is h x.1 x.2.1:=by
   intro l m q
   induction q with
   | nil=>intro x hx;exact nomatch hx
   | @cons p q ps qs hq t ih =>
     intro x hx
     rcases List.mem_cons.mp hx with e | hx
     · subst e
       exact key_of ok (by rw [← hq.1];exact hq.2.1)
     · exact ih x hx
 exact all r x hx
theorem dt_of {kvs:List (List Key × V)} (ok:HOk P w H h) (e:H a=some (.dT kvs)):kvs.length <= sizeLine/\(a == sysModules)=false /\
   ∃ xs,KT H kvs xs/\h.DictOfH (tupleKind (mixKind P w)) a xs:=dt_rd ok (.inl e)
end

def DGet (H:Hp) (a:Addr) (y:V) (r:Option V):Prop :=
 (∃ kvs k,Rd H a (.dK kvs)/\y=kV k/\r=valV kvs k)\/∃ kvs k b,Rd H a (.dT kvs)/\y=.ref b/\H b=some (.tup (k.map kV))/\r=valV kvs k
def DPut (H:Hp) (a:Addr) (y v:V) (H':Hp):Prop :=
 (∃ kvs k,H a=some (.dK kvs)/\y=kV k/\kvs.length < sizeLine/\H'=upd H a (.dK (putK kvs k v))) \/
 ∃ kvs k b,H a=some (.dT kvs)/\y=.ref b/\H b=some (.tup (k.map kV))/\kvs.length < sizeLine/\H'=upd H a (.dT (putK kvs k v))
theorem DGet.k {H:Hp} {a:Addr} {kvs:List (Key × V)} {k:Key} (e:H a=some (.dK kvs)):DGet H a (kV k) (valV kvs k):=.inl ⟨kvs,k,.inl e,rfl,rfl⟩
theorem DGet.t {H:Hp} {a b:Addr} {kvs:List (List Key × V)} {k:List Key} (e:H a=some (.dT kvs)) (eb:H b=some (.tup (k.map kV))):DGet H a (.ref b) (valV kvs k):=.inr ⟨kvs,k,b,.inl e,rfl,eb,rfl⟩
theorem DPut.k {H:Hp} {a:Addr} {kvs:List (Key × V)} {k:Key} {v:V} (e:H a=some (.dK kvs)) (hl:kvs.length < sizeLine):DPut H a (kV k) v (upd H a (.dK (putK kvs k v))):=.inl ⟨kvs,k,e,rfl,hl,rfl⟩
theorem DPut.t {H:Hp} {a b:Addr} {kvs:List (List Key × V)} {k:List Key} {v:V} (e:H a=some (.dT kvs)) (eb:H b=some (.tup (k.map kV))) (hl:kvs.length < sizeLine) :
   DPut H a (.ref b) v (upd H a (.dT (putK kvs k v))):=.inr ⟨kvs,k,b,e,rfl,eb,hl,rfl⟩


section
variable {X:Cx} {pins:List (Addr × Obj)} {σ:St} {H:Hp} {s:Shared} {a:Addr} {y v:V} {u r:Value} {o:Option V} {A:Around} {E:Value->Shared->Prop}

theorem Inv.big (I:Inv X pins σ H s):sysModules < s.heap.objs.size:=by
 have h:mainGlobals < s.heap.objs.size:=(I.mod.glob.keeps I.bk).lt
 exact Nat.lt_trans (by decide) h

theorem d_in {Q:Value->Shared->Prop} (hu:A.units+1 < cLine) (I:Inv X pins σ H s) (g:DGet H a y o) (ry:RelV y u) (h:∀ s',Inv X pins σ H s'->Q (.bool o.isSome) s') :
   wpAny (model X.prog X.w) A (compareOp .In u (.ref a)) Q E s:=by
 rcases g with ⟨kvs,k,e,ey,l⟩ | ⟨kvs,k,b,e,ey,eb,l⟩
 · subst ey
   obtain ⟨z,hd,vs,rel,dd⟩:=dk_rd I.hok e
   refine wpAny_in_of (kV_is ry) hd dd.mapOf ?_
   rw [← (rel.val k).isSome_eq,← l]
   exact h _ (I.tok _)
 · subst ey
   cases (show u=Value.ref b from ry)
   obtain ⟨z,hd,xs,rel,dd⟩:=dt_rd I.hok e
   refine wpAny_in_heap (tupleKind_room_in1 hu) (key_of I.hok eb) hd dd ?_
   have q:=(rel.val k).isSome_eq
   rw [Option.isSome_map] at q
   rw [← q,← l]
   exact h _ (I.tok _)
theorem d_notIn {Q:Value->Shared->Prop} (hu:A.units+1 < cLine) (I:Inv X pins σ H s) (g:DGet H a y o) (ry:RelV y u) (h:∀ s',Inv X pins σ H s'->Q (.bool (!o.isSome)) s') :
   wpAny (model X.prog X.w) A (compareOp .NotIn u (.ref a)) Q E s:=by
 rcases g with ⟨kvs,k,e,ey,l⟩ | ⟨kvs,k,b,e,ey,eb,l⟩
 · subst ey
   obtain ⟨z,hd,vs,rel,dd⟩:=dk_rd I.hok e
   refine wpAny_notIn_of (kV_is ry) hd dd.mapOf ?_
   rw [← (rel.val k).isSome_eq,← l]
   exact h _ (I.tok _)
 · subst ey
   cases (show u=Value.ref b from ry)
   obtain ⟨z,hd,xs,rel,dd⟩:=dt_rd I.hok e
   refine wpAny_notIn_heap (tupleKind_room_in1 hu) (key_of I.hok eb) hd dd ?_
   have q:=(rel.val k).isSome_eq
   rw [Option.isSome_map] at q
   rw [← q,← l]
   exact h _ (I.tok _)
theorem d_write {h':Heap} {t':Nat} {ob:HO} (I:Inv X pins σ H s) (mu:Mut (H a)) (hs:Heap.SameBut a s.heap h') (he:∃ q,h'.get? a=some q) (new:ObjOk X.prog X.w (upd H a ob) h' a ob) :
   Inv X pins σ (upd H a ob) { s with heap:=h',toks:=t' } :=
 I.write (x:=a) (e:=a) mu (.inl rfl) (λb q hb z=>(hs.2 b hb).trans z) he new
theorem dk_new {P:Program} {w:World} {H':Hp} {h':Heap} {kvs:List (Key × V)} {vs:List (Key × Value)} (z:kvs.length <= sizeLine) (hd:(a == sysModules)=false) (rel:KV kvs vs) (dd:h'.DictOf (mixKind P w) a vs) :
   ObjOk P w H' h' a (.dK kvs):=⟨z,hd,vs,rel,dd⟩
theorem d_setItem {H':Hp} {Q:Unit->Shared->Prop} (hu:A.units+1 < cLine) (I:Inv X pins σ H s) (g:DPut H a y v H') (ry:RelV y u) (rv:RelV v r) (h:∀ s',Inv X pins σ H' s'->Q () s') :
   wpAny (model X.prog X.w) A (setItem (.ref a) u r) Q E s:=by
 rcases g with ⟨kvs,k,e,ey,l,eH⟩ | ⟨kvs,k,b,e,ey,eb,l,eH⟩
 · subst ey eH
   obtain ⟨z,hd,vs,rel,dd⟩:=dk_of I.hok e
   have hz:vs.length <= sizeLine:=by rw [← rel.length];exact z
   have hl:(putK kvs k v).length <= sizeLine:=by have:=length_putK kvs k v;omega
   refine wpAny_setItem_pairs (hsz:=hz) (kV_is ry) dd λh' dd' hs=>h _ ?_
   have he:∃ q,h'.get? a=some q:=let ⟨q,_,_,hq,_⟩:=dd';⟨q,hq⟩
   exact d_write I (by rw [e];exact True.intro) hs he (dk_new hl hd (rel.put k rv) dd')
 · subst ey eH
   cases (show u=Value.ref b from ry)
   obtain ⟨z,hd,xs,rel,dd⟩:=dt_of I.hok e
   have hz:xs.length <= sizeLine:=by rw [← Paired.length rel];exact z
   have hl:(putK kvs k v).length <= sizeLine:=by have:=length_putK kvs k v;omega
   refine wpAny_setItem_heap (hsz:=hz) (tupleKind_room_in1 hu) (key_of I.hok eb) dd λh' dd' hs=>h _ ?_
   obtain ⟨q,es,ep,hq,h2,h3,h4,_,h5⟩:=dd'
   refine d_write I (by rw [e];exact True.intro) hs ⟨q,hq⟩ ⟨hl,hd,_,(rel.put k eb rv).keeps λc ys ec=>?_,q,es,ep,hq,h2,h3,h4,h5⟩
   rw [upd_ne (ne_of ec e (λz=>nomatch z))]
   exact ec
end

section
variable {X:Cx} {pins:List (Addr × Obj)} {σ:St} {H:Hp} {s:Shared} {a:Addr} {kvs:List (Key × V)} {k:Key} {u:Value} {A:Around} {E:Value->Shared->Prop}
theorem d_pop {v:V} {more:List Value} {Q:Value->Shared->Prop} (I:Inv X pins σ H s) (e:H a=some (.dK kvs)) (ry:RelV (kV k) u) (l:valV kvs k=some v) (hm:more=[]\/∃ x,more=[x])
   (h:∀ w' s',Inv X pins σ (upd H a (.dK (dropK kvs k))) s'->RelV v w'->Q w' s'):wpAny (model X.prog X.w) A (call (.builtin "dict.pop") (.ref a :: u :: more)) Q E s:=by
 obtain ⟨z,hd,vs,rel,dd⟩:=dk_of I.hok e
 obtain ⟨w',hw,rw'⟩:=RelO.some_of (v:=v) (o:=valueAt vs k) (by rw [← l];exact rel.val k)
 have hp:(keyPart u).isSome=true:=by
   cases k with
   | inl i=>obtain ⟨t,q⟩:=(show ∃ t,u=Value.int i t from ry);subst q;rfl
   | inr x=>obtain ⟨t,q⟩:=(show ∃ t,u=Value.str x t from ry);subst q;rfl
 have ha:argsOk "dict.pop" ⟨.ref a :: u :: more,[]⟩:=by
   rcases hm with q | ⟨x,q⟩
   · subst q;exact PySem.F.args_dict_pop_2 _ _
   · subst q;exact PySem.F.args_dict_pop_3 _ _ _
 refine call_meetsIn PySem.F.slot_dict_pop dd.typeIs PySem.F.entry_dict_pop ha (meets_dict_pop_there (mixKind X.prog X.w) a (kV_is ry) more hm hp)
   ⟨vs,w',dd,by rw [← rel.length];exact z,hw,λh' dd' hs=>h w' _ ?_ rw'⟩
 have he:∃ q,h'.get? a=some q:=let ⟨q,_,_,hq,_⟩:=dd';⟨q,hq⟩
 exact d_write I (by rw [e];exact True.intro) hs he (dk_new (Nat.le_trans (dropK_le kvs k) z) hd (rel.drop k) dd')
end


def NoSl (i:Expr):Prop:=∀ ov iv,subscripted i false ov iv=operate [ov,iv] (getItem ov iv)
def tDGet (td ty:TE):TE:=λσ H Q=>td σ H λx H1=>ty σ H1 λy H2=>∃ a v,x=.ref a/\DGet H2 a y (some v)/\Q v H2
def tDIn (ty td:TE):TE:=λσ H Q=>ty σ H λy H1=>td σ H1 λx H2=>∃ a o,x=.ref a/\DGet H2 a y o/\Q (.bl o.isSome) H2
def tDNotIn (ty td:TE):TE:=λσ H Q=>ty σ H λy H1=>td σ H1 λx H2=>∃ a o,x=.ref a/\DGet H2 a y o/\Q (.bl (!o.isSome)) H2
def sDPut (td ty tv:TE):TS:=λD σ H=>tv σ H λv H1=>td σ H1 λx H2=>ty σ H2 λy H3=>∃ a H4,x=.ref a/\DPut H3 a y v H4/\D.nx σ H4
def sDAug (td ty tv:TE) (rd:V->V->Hp->VK->Prop):TS:=λD σ H=>td σ H λx H1=>ty σ H1 λy H2=>∃ a v,x=.ref a/\DGet H2 a y (some v) /\
 tv σ H2 λy2 H3=>rd v y2 H3 λz H4=>∃ H5,DPut H4 a y z H5/\D.nx σ H5
def sDDel (td ty:TE):TS:=λD σ H=>td σ H λx H1=>ty σ H1 λy H2=>∃ a kvs k,x=.ref a/\H2 a=some (.dK kvs)/\y=kV k/\(valV kvs k).isSome=true/\D.nx σ (upd H2 a (.dK (dropK kvs k)))

section
variable {X:Cx} {o i e value:Expr} {pos pos' tpos:Pos} {td ty tv:TE}
theorem pc_din (hu:X.A.units+1 < cLine) (hi:PE X i ty) (ho:PE X o td):PC X .In i o (tDIn ty td):=by
 intro pins s σ H Q I h
 refine thn (hi pins s σ H _ I h) λiv s1 ⟨y,H1,I1,ry,q1⟩=>thn (ho pins s1 σ H1 _ I1 q1) λu s2 ⟨x,H2,I2,rx,a,ov,ex,g,q2⟩=>?_
 subst ex
 obtain rfl:u=Value.ref a:=rx
 exact d_in hu I2 g ry λs3 I3=>⟨.bl ov.isSome,H2,I3,rfl,q2⟩
theorem pc_dnotin (hu:X.A.units+1 < cLine) (hi:PE X i ty) (ho:PE X o td):PC X .NotIn i o (tDNotIn ty td):=by
 intro pins s σ H Q I h
 refine thn (hi pins s σ H _ I h) λiv s1 ⟨y,H1,I1,ry,q1⟩=>thn (ho pins s1 σ H1 _ I1 q1) λu s2 ⟨x,H2,I2,rx,a,ov,ex,g,q2⟩=>?_
 subst ex
 obtain rfl:u=Value.ref a:=rx
 exact d_notIn hu I2 g ry λs3 I3=>⟨.bl (!ov.isSome),H2,I3,rfl,q2⟩
theorem ps_dput (hu:X.A.units+1 < cLine) (ho:PE X o td) (hi:PE X i ty) (hv:PE X value tv) (hs:swapsWith value (some (.Subscript o i pos')) pos.line X.env=pure false) :
   PS X (.Assign [.Subscript o i pos'] value pos) (sDPut td ty tv):=by
 intro pins s σ H D I h
 refine wpAny_Assign_Subscript (thn (hv pins s σ H _ I h) λr s1 ⟨v,H1,I1,rv,q1⟩=>thn (ho pins s1 σ H1 _ I1 q1) λu s2 ⟨x,H2,I2,rx,q2⟩=>thn (hi pins s2 σ H2 _ I2 q2) λiv s3 ⟨y,H3,I3,ry,a,H4,ex,g,q3⟩=>?_) hs
 subst ex
 obtain rfl:u=Value.ref a:=rx
 exact d_setItem hu I3 g ry rv λs4 I4=>⟨σ,H4,I4,q3⟩
end


theorem dk_empty {P:Program} {w:World} {H:Hp} (h:Heap) (hb:sysModules < h.objs.size):ObjOk P w H (h.push { cls:=.type "dict",data:=.dict #[] }) h.objs.size (.dK []) :=
 ⟨Nat.zero_le _,beq_eq_false_iff_ne.mpr (Ne.symm (Nat.ne_of_lt hb)),[],.nil,Heap.DictOf.new h⟩
def tDNewK:TE:=λ_ H Q=>∀ p,H p=none->Q (.ref p) (upd H p (.dK []))
def tDNewT:TE:=λ_ H Q=>∀ p,H p=none->Q (.ref p) (upd H p (.dT []))
section
variable {X:Cx} {pos:Pos}
theorem pe_dnewK:PE X (.Dict [] [] pos) tDNewK:=λpins s σ H Q I h =>
 wpAny_Dict_empty ⟨.ref s.heap.objs.size,_,I.laid (a:=s.heap.objs.size) (o:=.dK []) (t':=s.toks) (λ_ _ q=>Heap.get?_push_of_some _ q) (Nat.le_refl _) (dk_empty s.heap I.big),rfl,h _ (I.hok.fresh (Nat.le_refl _))⟩
end

def tPairs:List (TE × TE)->St->Hp->(List (V × V)->Hp->Prop)->Prop
 | [],_,H,Q=>Q [] H
 | (tk,tv) :: r,σ,H,Q=>tk σ H λx H1=>tv σ H1 λy H2=>tPairs r σ H2 λps H3=>Q ((x,y) :: ps) H3
abbrev VV:List (V × V)->List (Value × Value)->Prop:=Paired λp q=>RelV p.1 q.1/\RelV p.2 q.2
def PPs (X:Cx) (pos:Pos) (keys:List (Option Expr)) (values:List Expr) (trs:List (TE × TE)):Prop :=
 ∀ (pins:List (Addr × Obj)) (s:Shared) (σ:St) (H:Hp) (Q:List (V × V)->Hp->Prop),Inv X pins σ H s->tPairs trs σ H Q ->
   wpAny (model X.prog X.w) X.A (evalPairs (pairTrees keys values X.env pos)) (λvs s'=>∃ ps H',Inv X pins σ H' s'/\VV ps vs/\Q ps H') X.xe s
def mergeK (kvs more:List (Key × V)):List (Key × V):=more.foldl (λacc kv=>putK acc kv.1 kv.2) kvs
def tDisp (trs:List (TE × TE)):TE:=λσ H Q=>∀ p,H p=none->tPairs trs σ (upd H p (.dK [])) λps H2=>H2 p=some (.dK [])/\∃ kvs:List (Key × V),ps=kvs.map (λkv=>(kV kv.1,kv.2))/\kvs.length <= 15/\Q (.ref p) (upd H2 p (.dK (mergeK [] kvs)))
structure M1 (X:Cx) (o:Expr) (m:Str) (apos:Pos) (e:Expr) (cpos:Pos):Prop where
 base:attributeBase o m X.env (eval o X.env)=eval o X.env
 few:((backTo cpos (starEach [e] X.env)).all (λx=>!x.1) && (backToKw cpos (keywordEach [] X.env)).all (λx=>x.1.isSome)
   && decide (([e]:List Expr).length+([]:List Keyword).length+(if ([]:List Keyword).isEmpty then 0 else 1) < 30))=true
 line:(apos.endLine == cpos.line)=true
 trees:backTo cpos (starEach [e] X.env)=[(false,eval e X.env)]
structure M2 (X:Cx) (o:Expr) (m:Str) (apos:Pos) (e f:Expr) (cpos:Pos):Prop where
 base:attributeBase o m X.env (eval o X.env)=eval o X.env
 few:((backTo cpos (starEach [e,f] X.env)).all (λx=>!x.1) && (backToKw cpos (keywordEach [] X.env)).all (λx=>x.1.isSome)
   && decide (([e,f]:List Expr).length+([]:List Keyword).length+(if ([]:List Keyword).isEmpty then 0 else 1) < 30))=true
 line:(apos.endLine == cpos.line)=true
 trees:backTo cpos (starEach [e,f] X.env)=[(false,eval e X.env),(false,eval f X.env)]

def IsD (H:Hp) (a:Addr):Prop:=(∃ kvs,Rd H a (.dK kvs))\/∃ kvs,Rd H a (.dT kvs)
theorem isD_at {X:Cx} {pins:List (Addr × Obj)} {σ:St} {H:Hp} {s:Shared} {a:Addr} (I:Inv X pins σ H s) (d:IsD H a) :
   s.TypeIs (.ref a) "dict"/\(∀ b,Value.ref a=.ref b->∃ ob,s.heap.get? b=some ob/\ob.dict=none)/\(a == sysModules)=false:=by
 rcases d with ⟨kvs,e⟩ | ⟨kvs,e⟩
 · obtain ⟨_,hd,vs,_,dd⟩:=dk_rd I.hok e
   refine ⟨dd.typeIs,λb q=>?_,hd⟩
   cases q
   obtain ⟨ob,_,_,h1,h2,_⟩:=dd
   exact ⟨ob,h1,h2.2.1⟩
 · obtain ⟨_,hd,xs,_,dd⟩:=dt_rd I.hok e
   refine ⟨dd.typeIs,λb q=>?_,hd⟩
   cases q
   obtain ⟨ob,_,_,h1,h2,_⟩:=dd
   exact ⟨ob,h1,h2.2.1⟩

section
variable {X:Cx} {pins:List (Addr × Obj)} {σ:St} {H:Hp} {s:Shared} {a:Addr} {y d:V} {u r:Value} {o:Option V} {A:Around} {E:Value->Shared->Prop}
end

def tDGet1 (td ty:TE):TE:=λσ H Q=>td σ H λx H1=>∃ a,x=.ref a/\IsD H1 a/\ty σ H1 λy H2=>∃ o,DGet H2 a y o/\Q (o.getD .non) H2
def tDGet2 (td ty tx:TE):TE:=λσ H Q=>td σ H λx H1=>∃ a,x=.ref a/\IsD H1 a/\ty σ H1 λy H2=>tx σ H2 λz H3=>∃ o,DGet H3 a y o/\Q (o.getD z) H3
def tDPop1 (td ty:TE):TE:=λσ H Q=>td σ H λx H1=>∃ a,x=.ref a/\IsD H1 a/\ty σ H1 λy H2=>∃ kvs k v,H2 a=some (.dK kvs)/\y=kV k/\valV kvs k=some v/\Q v (upd H2 a (.dK (dropK kvs k)))
def tDPop2 (td ty tx:TE):TE:=λσ H Q=>td σ H λx H1=>∃ a,x=.ref a/\IsD H1 a/\ty σ H1 λy H2=>tx σ H2 λz H3=>∃ kvs k,H3 a=some (.dK kvs)/\y=kV k /\
 (∀ v,valV kvs k=some v->Q v (upd H3 a (.dK (dropK kvs k))))/\(valV kvs k=none->Q z H3)
section
variable {X:Cx} {o e f:Expr} {apos cpos:Pos} {td ty tx:TE}
theorem pe_dpop1 (ho:PE X o td) (he:PE X e ty) (m:M1 X o "pop" apos e cpos):PE X (.Call (.Attribute o "pop" apos) [e] [] cpos) (tDPop1 td ty):=by
 intro pins s σ H Q I h
 refine wpAny_Call_method m.base m.few m.line PySem.F.plainAttrs_dict PySem.F.slot_dict_pop PySem.F.type_dict_pop (thn (ho pins s σ H _ I h) λu s1 ⟨x,H1,I1,rx,a,ex,d,q1⟩=>?_)
 subst ex
 obtain rfl:u=Value.ref a:=rx
 obtain ⟨t1,t2,_⟩:=isD_at I1 d
 refine ⟨t1,t2,?_⟩
 rw [m.trees]
 refine Calls.callWith_builtin rfl (Calls.evalArgs_plain (Calls.spliced_cons (thn (he pins s1 σ H1 _ I1 q1) λiv s2 ⟨y,H2,I2,ry,kvs,k,v,ea,ey,l,q2⟩=>Calls.spliced_nil ?_)))
 subst ey
 exact d_pop I2 ea ry l (.inl rfl) λw' s3 I3 rw'=>⟨v,_,I3,rw',q2⟩
end

section
variable {X:Cx} {pins:List (Addr × Obj)} {σ:St} {H:Hp} {s:Shared} {a:Addr} {kvs:List (Key × V)} {A:Around} {E:Value->Shared->Prop}
end


section
variable {X:Cx} {pins:List (Addr × Obj)} {σ:St} {H:Hp} {s:Shared} {a:Addr} {y:V} {u:Value} {A:Around} {E:Value->Shared->Prop}
end
end L2

namespace Att
open PySem PySem.W PySem.Calls PyProof.Rows

theorem ints_of_wellAll {P:Params} {h:Heap}:∀ (ns:List Int) (vs:List Value),WellAll P h vs (ns.map WData.int)->IntsAre vs ns:=by
 intro ns
 induction ns with
 | nil =>
   intro vs w
   rw [List.map_nil] at w
   cases w
   exact .nil
 | cons n ns ih =>
   intro vs w
   rw [List.map_cons] at w
   cases w with
   | cons a b =>
     cases a
     exact .cons _ _ (ih _ b)

theorem script_of {l:OpenLaw} {n:Nat} (hn:l.most=some n) {P:Params} {h:Heap} {args:List WData} {vals:List Value}
   (hpre:l.row.toRowW.claim.pre args=true) (hwl:WellAll P h vals args) :
   ∃ a vs ns,vals=[Value.ref a]/\args=[WData.list (ns.map WData.int)]/\h.get? a=some { cls:=.type "list",data:=.seq vs.toArray }/\IntsAre vs ns/\ns.length <= n:=by
 have hsh:WShape.hasAll [] args [.list .int]=true:=(pre_splitW hpre).1
 have hc:l.pre.holds [] { args:=args }=true:=(pre_splitW hpre).2
 obtain ⟨d,r,rfl,h1,h2⟩:=hasAllW_cons hsh
 obtain rfl:=hasAllW_nil h2
 obtain ⟨xs,rfl,h3⟩:=hasW_list h1
 obtain ⟨ns,rfl⟩:=items_int h3
 have hlen:ns.length <= n:=by
   unfold OpenLaw.pre at hc
   have h4:(WTm.not (.lt (.lit (.int (n:Int))) (.len (.arg 0)))).holds [] { args:=[.list (ns.map .int)] }=true:=by
     have h4:=(holds_andW hc).1
     rw [hn] at h4
     exact h4
   have h5:=condW_of h4 (w_not (w_lt w_lit (w_len_list (w_arg rfl))))
   rw [List.length_map] at h5
   refine Nat.le_of_not_lt λq=>?_
   have q':(n:Int) < ((ns.length:Nat):Int):=by omega
   first
     | (rw [decide_eq_true q'] at h5;exact absurd h5 (by decide))
     | (simp at h5;omega)
 cases hwl with
 | cons w1 w2 =>
   cases w2
   cases w1 with
   | list ho hall=>exact ⟨_,_,ns,rfl,rfl,ho,ints_of_wellAll ns _ hall,hlen⟩

theorem post_true (l:OpenLaw) (args:List WData):l.row.toRowW.claim.post args (.bool true) args=true :=
 postW_of (r:=l.row.toRowW) (X:=(true == true))
   (show WShape.has [] (.bool true) .bool=true by first | rfl | decide | simp [WShape.has,WShape.arms,WShape.armsAll])
   (show (WTm.eq .res (.lit (.bool true))).value [] { args:=args,res:=some (.bool true),after:=args }=some (.bool (true == true)) from w_eq_bool (w_res rfl) w_lit) rfl

theorem attach_call {l:OpenLaw} {n:Nat} {q:Program} {loose:List Str} {XP:(Str->Option Value)->Heap->Prop} {YP:World->Heap->Prop} {d:DefRec}
   (hn:l.most=some n) (hdf:d.params.defaults=[])
   (call:∀ (w:World) (s₀ s₁:Shared) (mg mb:Str->Option Value) (fa:Addr) (o:Obj) (pm cd doc:Value) (a:Addr) (vs:List Value) (ns:List Int),
     Ground q loose [] XP w s₀ mg mb s₁.heap->YP w s₁.heap ->
     s₁.heap.get? fa=some o->o.data=.func (docDef d.name d.params d.body d.scope pm cd doc)->s₁.heap.CodeRec cd d.name->mg d.name=some (.ref fa) ->
     s₁.heap.get? a=some { cls:=.type "list",data:=.seq vs.toArray }->IntsAre vs ns->ns.length <= n->s₁.gens=#[] ->
     codeAny (model l.prog w) callerA (.call (.ref fa) ⟨[.ref a],[]⟩) (λr s'=>r=.ok (.ret (.bool true))/\OldK s₁.heap s'.heap/\s'.os=s₁.os/\AllBare s'.gens) s₁) :
   WalkO q loose XP YP l.row.toRowW d [] (λf vs=>PySem.call f vs):=by
 intro w s₀ s₁ mg mb G Y fa o pm cd doc dV kV ho hd hcd hD hmg hg args vals as hpre hlay hrd hwl hlo
 obtain rfl:dV=.none:=Dflts.none hD hdf
 obtain rfl:kV=.none:=Dflts.noKw hD
 obtain ⟨a,vs,ns,rfl,rfl,hobj,hints,hlen⟩:=script_of hn hpre hwl
 refine enter_call (codeAny_mono (call w s₀ s₁ mg mb fa o pm cd doc a vs ns G Y ho (fd_plain hd) hcd hmg hobj hints hlen hg) λr s' hq=>?_)
 obtain ⟨rfl,h2,h3,h4⟩:=hq
 exact ⟨.inl ⟨.bool true,.bool true,[],rfl,λ_=>rfl,.bool true,post_true l _,λ_=>⟨List.Pairwise.nil,λ_ hm=>(nomatch hm)⟩⟩,h2,h3,h4⟩

section
variable {prog:Program} {w:World} {A:Around} {E:Value->Shared->Prop} {s:Shared} {K:Frag}

def noObjs (h:Heap):Heap:={ h with objs:=#[] }
def ledger (h:Heap) (L d:Addr):List (Addr × Obj):=(List.range h.objs.size).filterMap λa=>if a=L\/a=d then none else (h.get? a).map λo=>(a,o)
end
end Att

namespace L2
open PySem PySem.Spec PyProof.Rows

theorem vals_ints:∀ {vs:List Value} {ns:List Int},IntsAre vs ns->Vals (ns.map V.int) vs
 | _,_,.nil=>.nil
 | _,_,.cons n t h=>.cons ⟨t,rfl⟩ (vals_ints h)

def Only (H:Hp):Prop:=∀ b,H b=none\/∃ o xs,H b=some (.frz o (.lst xs))

theorem law_call {P:Program} {w:World} {K:PySem.W.Frag} {mg mb:Str->Option Value} {CX:CXT} {k:Nat} {fa a:Addr} {fd:FuncData} {x:Str} {sp:Sp} {s₁:Shared} {vs:List Value} {ns:List Int}
   (KX:K.In s₁.heap) (hns:s₁.heap.Ns mainGlobals mg) (hb:s₁.heap.Ns builtinsNs mb) (hbb:∀ x:Str,x≠"__name__"->mb x=bootBuiltins x) (hlim:s₁.heap.NoLimit) (hg:s₁.gens=#[])
   (ha:s₁.heap.get? a=some { cls:=.type "list",data:=.seq vs.toArray }) (hi:IntsAre vs ns) (hl:ns.length <= sizeLine) (hr:Room k callerA)
   (F:∀ base:Heap,K.In base->base.Ns mainGlobals mg->FnOk P w K mg base CX k fa fd [x] sp) (hbind:∀ (s:Shared) (u:Value),BindsTo s fd ⟨[u],[]⟩ [(x,u)])
   (hsp:∀ H:Hp,Only H->SqL K H a (ns.map V.int)->sp [.ref a] H (λv _=>v=.bl true) λ_ _ _=>False)
   (hCX:∀ H e s',CX [] H s₁ (λ_ _ _=>False) e s'->False) :
   codeAny (model P w) callerA (.call (.ref fa) ⟨[.ref a],[]⟩) (λr s'=>r=.ok (.ret (.bool true))/\OldK s₁.heap s'.heap/\s'.os=s₁.os/\AllBare s'.gens) s₁:=by
 have rv:=vals_ints hi
 have lenV:=hi.length
 have core:∀ H:Hp,Only H->SqL K H a (ns.map V.int)->HOk P w H s₁.heap->(∀ b,H b≠none->b=a)->(H a≠none->K.lookup a=none) ->
     codeAny (model P w) callerA (.call (.ref fa) ⟨[.ref a],[]⟩) (λr s'=>r=.ok (.ret (.bool true))/\OldK s₁.heap s'.heap/\s'.os=s₁.os/\AllBare s'.gens) s₁:=by
   intro H hO hS hok hA hK
   have base_of:∀ {b:Addr} {o:Obj},s₁.heap.get? b=some o->H b=none->(hidT s₁.heap H).get? b=some o:=λe n=>hidT_get e n
   have noA:∀ {b:Addr} {o:Obj} {es:Array DictEntry} {ep:Nat},s₁.heap.get? b=some o->o.data=.dict es ep->H b=none:=λ{b o es ep} e d=>by
     cases q:H b with
     | none=>rfl
     | some u =>
       have e':b=a:=hA b (by rw [q];simp)
       subst e'
       rw [ha] at e;cases e
       have d':Data.seq vs.toArray _=Data.dict es ep:=d
       cases d'
   have nsK:∀ {b:Addr} {m:Str->Option Value},s₁.heap.Ns b m->(hidT s₁.heap H).Ns b m:=λ{b m} ⟨o,es,ep,e,d,r⟩=>⟨o,es,ep,base_of e (noA e d),d,r⟩
   have hKb:K.In (hidT s₁.heap H):=λb o e=>base_of (KX b o e) (by
     cases q:H b with
     | none=>rfl
     | some u =>
       have e':b=a:=hA b (by rw [q];simp)
       subst e'
       rw [hK (by rw [q];simp)] at e;cases e)
   have hM:Mod K mg (hidT s₁.heap H):=⟨hKb,nsK hns,⟨mb,nsK hb,hbb⟩,let ⟨mc,h1,h2⟩:=hlim;⟨mc,nsK h1,h2⟩⟩
   have e0:Env0 P w K mg (hidT s₁.heap H) callerA [] s₁ H:=⟨rfl,hM,λb o e=>of_hidT e,Nat.le_of_eq (hidT_size _ _),trivial,λb hb=>absurd (show b∈([]:List Addr) from hb) (by simp),hok,.of_eq hg⟩
   refine codeAny_mono ((F _ hKb (nsK hns)).run callerA [] s₁ H ⟨[.ref a],[]⟩ [.ref a] [.ref a] _ _ hr e0 (hbind s₁ (.ref a)) (.cons rfl .nil) (hsp H hO hS)) λr s' h=>?_
   cases r with
   | error e=>exact (hCX H e s' h).elim
   | ok fl =>
     cases fl with
     | next=>exact False.elim h
     | brk=>exact False.elim h
     | cont=>exact False.elim h
     | ret u =>
       obtain ⟨v,H',os,bare,un,hok',r',q⟩:=h
       have q':v=.bl true:=q
       subst q'
       obtain rfl:u=Value.bool true:=r'
       refine ⟨rfl,OldK.of_keep λb o e=>?_,os,bare⟩
       cases q:H b with
       | none=>exact un.keep b o e q (by intro z;exact absurd (show b∈([]:List Addr) from z) (by simp)) (by simp)
       | some u =>
         rcases hO b with z | ⟨ob,xs,z⟩
         · rw [q] at z;cases z
         · have z2:=un.frzs b ob _ z
           obtain ⟨e1,_⟩:=hok b _ z
           obtain ⟨e2,_⟩:=hok' b _ z2
           rw [e] at e1;cases e1
           exact e2
 cases hk:K.lookup a with
 | some o =>
   have e:=KX a o hk
   rw [ha] at e
   cases e
   refine core (λ_=>none) (λ_=>.inl rfl) (.inr ⟨_,vs.toArray,_,hk,rfl,rfl,rfl,by rw [List.size_toArray,lenV];exact hl,by simpa using rv⟩) (λb u z=>by have z':(none:Option HO)=some u:=z;cases z') (λb z=>absurd rfl z) λz=>absurd rfl z
 | none =>
   refine core (λb=>if b=a then some (.frz { cls:=.type "list",data:=.seq vs.toArray } (.lst (ns.map V.int))) else none) (λb=>?_) (.inl (.inr ⟨{ cls:=.type "list",data:=.seq vs.toArray },if_pos rfl⟩)) (λb u z=>?_) (λb z=>?_) λ_=>hk
   · by_cases hb:b=a
     · exact .inr ⟨_,_,if_pos hb⟩
     · exact .inl (if_neg hb)
   · by_cases hb:b=a
     · have z':=(if_pos hb).symm.trans z
       cases z'
       subst hb
       exact ⟨ha,by rw [List.length_map];exact hl,vs,_,rv,ha⟩
     · have z':=(if_neg hb).symm.trans z
       cases z'
   · by_cases hb:b=a
     · exact hb
     · exact absurd (if_neg hb) z
end L2

namespace L2
open PySem PySem.Spec PyProof.Rows

abbrev KOf {K:PySem.W.Frag} {h:Heap} (_:K.In h):PySem.W.Frag:=K

theorem walk_of {l:PySem.W.OpenLaw} {n k:Nat} {q:Program} {loose:List Str} {XP:(Str->Option Value)->Heap->Prop} {YP:World->Heap->Prop} {d:DefRec} {K:Params->PySem.W.Frag} {CX:World->CXT} {sp:World->Sp} {x:Str}
   (hn:l.most=some n) (hn2:n <= sizeLine) (hdf:d.params.defaults=[]) (hr:Room k callerA)
   (hY:∀ (w:World) (h:Heap),YP w h->(K w.params).In h)
   (F:∀ (w:World) (mg:Str->Option Value) (fa:Addr) (h:Heap),(K w.params).In h->h.Ns mainGlobals mg->mg d.name=some (.ref fa) ->
     ∃ fd:FuncData,(∀ (s:Shared) (u:Value),BindsTo s fd ⟨[u],[]⟩ [(x,u)]) /\
       ∀ base:Heap,(K w.params).In base->base.Ns mainGlobals mg->FnOk l.prog w (K w.params) mg base (CX w) k fa fd [x] (sp w))
   (hsp:∀ (w:World) (H:Hp) (a:Addr) (ns:List Int),ns.length <= n->Only H->SqL (K w.params) H a (ns.map V.int)->sp w [.ref a] H (λv _=>v=.bl true) λ_ _ _=>False)
   (hCX:∀ (w:World) (H:Hp) (s:Shared) (e:Value) (s':Shared),CX w [] H s (λ_ _ _=>False) e s'->False) :
   PySem.W.WalkO q loose XP YP l.row.toRowW d [] (λf vs=>PySem.call f vs):=by
 refine Att.attach_call hn hdf λw s₀ s₁ mg mb fa o pm cd doc a vs ns G Y ho hd hcd hmg hobj hints hlen hg=>?_
 have KX:=hY w _ Y
 obtain ⟨fd,hb,hF⟩:=F w mg fa _ KX G.T.g hmg
 exact law_call KX G.T.g G.T.b G.T.builtins G.T.nolimit hg hobj hints (Nat.le_trans hlen hn2) hr hF hb (λH hO hS=>hsp w H a ns hlen hO hS) λH e s'=>hCX w H s₁ e s'
end L2

namespace L2
open PySem PySem.Spec PyProof.Rows

def inClass (s:Stmt) (j:Nat):Stmt:=match s with
 | .ClassDef _ _ _ body _ _ _ _ _ _ _=>body.getD j (.Pass ⟨0,0,0,0⟩)
 | _=>.Pass ⟨0,0,0,0⟩
def defArgs (s:Stmt):Arguments:=match s with
 | .FunctionDef _ a _ _ _ _ _ _ _ _=>a
 | _=>{ posonlyargs:=[],args:=[],vararg:=none,kwonlyargs:=[],kw_defaults:=[],kwarg:=none,defaults:=[] }
def defBody (s:Stmt):List Stmt:=match s with
 | .FunctionDef _ _ b _ _ _ _ _ _ _=>b
 | _=>[]
def defScope (s:Stmt):Scope:=match s with
 | .FunctionDef _ _ _ _ _ _ sc _ _ _=>sc
 | _=>{ kind:=.function,names:=[],isGenerator:=false,isCoroutine:=false }

abbrev CX0:CXT:=λ_ _ _ _ _ _=>False
abbrev E0:XK:=λ_ _ _=>False
theorem pass0 {X:Cx}:Passes CX0 X E0:=λ_ _ _ _ _ _ _ h=>h.elim

structure Fun (K:PySem.W.Frag) (x qual:Str) (st:Stmt) (f:Addr) (fd:FuncData):Prop where
 ex:∃ (oc:Value) (od:Option Addr) (kV doc pm:Value) (an:Option Addr) (cdv ct:Value) (osl:Array (Option Value)),
   fd=PySem.W.fnOf x qual (defArgs st) (defBody st) (defScope st) .none kV doc pm an cdv ct/\K.lookup f=some ⟨oc,od,.func fd,osl⟩/\PySem.W.codeIn K cdv qual=true
 kp:PySem.W.keepIn K (.ref f)=true
section
variable {P:Program} {w:World} {K:PySem.W.Frag} {mg:Str->Option Value} {base:Heap}
theorem Fun.ok {x qual:Str} {st:Stmt} {f:Addr} {fd:FuncData} {N ps:List Str} {k:Nat} {sp:Sp} (F:Fun K x qual st f fd) (S:FnScope N ps (defScope st)) (len:∀ vs H Q E,sp vs H Q E->vs.length=ps.length)
   (hbody:∀ (cdv:Value) (A:Around) (outer:List Env) (s:Shared) (H:Hp) (vs:List V) (Q:VK) (E:XK),Room k (A.deeper (envOfC qual (defScope st) s.heap.objs.size f cdv))->sp vs H Q E ->
     ∃ t,PSs (cxOf CX0 P w K mg base N qual (defScope st) f cdv A outer s H E).nox (defBody st) t/\t { nx:=λ_ H'=>Q .non H',rt:=Q } (start N vs) H):FnOk P w K mg base CX0 (k+1) f fd ps sp:=by
 obtain ⟨oc,od,kV,doc,pm,an,cdv,ct,osl,rfl,lk,hcd⟩:=F.ex
 refine fn_of lk hcd S len λA outer s H vs Q E hr hsp=>?_
 obtain ⟨t,h,q⟩:=hbody cdv A outer s H vs Q E hr hsp
 exact ⟨t,h.nox,q⟩
theorem Fun.binds {x qual:Str} {st:Stmt} {f:Addr} {fd:FuncData} {ps:List Str} (F:Fun K x qual st f fd)
   (h:∀ (kV doc pm:Value) (an:Option Addr) (cdv ct:Value) (us:List Value),us.length=ps.length->bindArgs (PySem.W.fnOf x qual (defArgs st) (defBody st) (defScope st) .none kV doc pm an cdv ct) ⟨us,[]⟩=pure (ps.zip us)):Binds K fd ps []:=by
 obtain ⟨oc,od,kV,doc,pm,an,cdv,ct,osl,rfl,lk,hcd⟩:=F.ex
 exact .all (h kV doc pm an cdv ct)
theorem fun_mk {x qual:Str} {st:Stmt} {f:Addr} {oc:Value} {od an:Option Addr} {osl:Array (Option Value)} {kV doc pm cdv ct:Value} (l:K.lookup f=some ⟨oc,od,.func (PySem.W.fnOf x qual (defArgs st) (defBody st) (defScope st) .none kV doc pm an cdv ct),osl⟩)
   (c:PySem.W.codeIn K cdv qual=true) (k:PySem.W.keepIn K (.ref f)=true):Fun K x qual st f (PySem.W.fnOf x qual (defArgs st) (defBody st) (defScope st) .none kV doc pm an cdv ct):=⟨⟨oc,od,kV,doc,pm,an,cdv,ct,osl,rfl,l,c⟩,k⟩
end
theorem hu_of {A:Around} {k:Nat} (hr:Room k A):A.units+1 < cLine:=Nat.lt_of_le_of_lt (Nat.add_le_add_left (by decide:1 <= 64) _) hr.units
section
variable {X:Cx}
theorem pv (i:Nat) {x:Str} {pos:Pos} (hN:X.N[i]?=some x:=by rfl) (hv:Vis X.env.scope x:=by first | exact Or.inl rfl | exact Or.inr (Or.inl rfl) | exact Or.inr (Or.inr rfl)) (hd:(x == ("__debug__":Str))=false:=by decide)
   (hcd:(x == ("__classdict__":Str))=false:=by decide):PE X (.Name x pos) (tVar i):=pe_var hN hv hd hcd
end

theorem iteF {A B:Prop} (h:B):if false=true then A else B:=by
 rw [if_neg Bool.false_ne_true]
 exact h
theorem iteT {A B:Prop} (h:A):if true=true then A else B:=by
 rw [if_pos rfl]
 exact h
theorem ite2 {c A B:Prop} [Decidable c] (h1:c->A) (h2:¬ c->B):if c then A else B:=by
 by_cases h:c
 · rw [if_pos h]
   exact h1 h
 · rw [if_neg h]
   exact h2 h
def Same (H H':Hp):Prop:=∀ b o,H b=some o->H' b=some o
theorem Same.refl (H:Hp):Same H H:=λ_ _ h=>h
theorem Same.trans {H H1 H2:Hp} (a:Same H H1) (b:Same H1 H2):Same H H2:=λc o h=>b c o (a c o h)
theorem Same.free {H H':Hp} (e:Same H H') {l:Addr} (h:H' l=Option.none):H l=Option.none:=by
 cases q:H l with
 | none=>rfl
 | some o =>
   rw [e l o q] at h
   cases h
theorem Same.seq {K:PySem.W.Frag} {H H':Hp} {a:Addr} {xs:List V} (e:Same H H') (h:SqL K H a xs):SqL K H' a xs:=by
 rcases h with (h | ⟨o,h⟩) | h
 · exact .inl (.inl (e _ _ h))
 · exact .inl (.inr ⟨o,e _ _ h⟩)
 · exact .inr h

end L2

namespace L2
open PySem PySem.Spec PyProof.Rows
section
variable {X:Cx}
end
section
variable {κ:Type} [DecidableEq κ]
end
end L2


namespace L2
open PySem PySem.Spec PyProof.Rows
theorem bt_int:bootBuiltins "int"=some (.type "int"):=by decide +kernel
theorem bt_bool:bootBuiltins "bool"=some (.type "bool"):=by decide +kernel
theorem bt_list:bootBuiltins "list"=some (.type "list"):=by decide +kernel
theorem bt_isinstance:bootBuiltins "isinstance"=some (.builtin "isinstance"):=by decide +kernel
theorem bt_len:bootBuiltins "len"=some (.builtin "len"):=by decide +kernel
section
variable {X:Cx}
theorem call_isinst:CallR X (.builtin "isinstance") (λxs H Q=>∃ x c t b,xs=[x,V.ty c]/\TyOf X.K H x t/\PySem.W.kitOne X.K t (.type c)=some b/\Q (.bl b) H):=by
 intro pins s σ H xs us Q I r h
 obtain ⟨x,c,t,b,rfl,ty,e,q⟩:=h
 obtain ⟨u,w',rfl,ru,rw⟩:=vals2 r
 cases rw
 exact isinst_ok I ru ty e λtk=>⟨.bl b,H,I.tok _,rfl,q⟩
def CDivB (_i j:Int):Prop:=0 < j/\j < 2 ^ 40
theorem op_fdivB:OpR X (binaryOp .FloorDiv) (rI CDivB λi j=>.int (i / j)):=opI λi j _ _ _ _ _ hc q=>by
 have h1:(0:Int) < j:=hc.1
 have h2:j < 2 ^ 40:=hc.2
 refine floordiv_int (by omega) (by rw [Int.fdiv_eq_ediv_of_nonneg i (by omega)];exact q) (.inl (PyProof.noPylong_of_log2 ?_))
 have h3:j.natAbs≠0:=by omega
 have h4:j.natAbs.log2 < 40:=(Nat.log2_lt h3).mpr (by omega)
 omega
end
theorem at_in {xs:List V} {i:Int} (h0:0 <= i) (h1:i < xs.length):∃ v,atI xs i=some v/\v∈xs:=by
 obtain ⟨n,rfl⟩:=Int.eq_ofNat_of_zero_le h0
 have hn:n < xs.length:=by omega
 exact ⟨xs[n],atI_nat (List.getElem?_eq_getElem hn),List.getElem_mem hn⟩
theorem same_new {H:Hp} {p:Addr} {o:HO} (h:H p=none):Same H (upd H p o):=λb u e=>by
 rw [upd_ne (ne_of_none e h)];exact e
end L2
namespace L2
open PySem PySem.Spec PyProof.Rows
section
variable {X:Cx}
def rCatS (K:PySem.W.Frag):R2:=λx y H Q=>∃ l b xs zs,x=.ref l/\y=.ref b/\SqL K H l xs/\SqL K H b zs/\xs.length+zs.length <= sizeLine/\∀ p,H p=none->Q (.ref p) (upd H p (.lst (xs++zs)))
end
end L2

set_option Elab.async false
set_option maxRecDepth 100000
set_option maxHeartbeats 4000000
namespace MX
open PySem PySem.W
mutual
def kd:PyData->Bool
 | .int _=>true
 | .str x=>PyData.strOk x
 | .tuple xs=>kds xs
 | .none=>false
 | .bool _=>false
 | .list _=>false
 | .dict _=>false
def kds:List PyData->Bool
 | []=>true
 | x :: xs=>kd x && kds xs
end
mutual
def hashD (w:World):PyData->Int
 | .int i=>hashInt i
 | .str x=>hashStr w x
 | .tuple xs=>reduceHash (Builtin.Tuple.tupleHashOf (hashDs w xs))
 | .none=>0
 | .bool _=>0
 | .list _=>0
 | .dict _=>0
def hashDs (w:World):List PyData->List Int
 | []=>[]
 | x :: xs=>hashD w x :: hashDs w xs
end
mutual
theorem kd_lay:∀ d:PyData,kd d=true->d.canLay0=true
 | .int _,_=>rfl
 | .str _,h=>h
 | .tuple xs,h=>kds_lay xs h
 | .none,h=>by cases h
 | .bool _,h=>by cases h
 | .list _,h=>by cases h
 | .dict _,h=>by cases h
theorem kds_lay:∀ xs:List PyData,kds xs=true->PyData.canLayAll0 xs=true
 | [],_=>rfl
 | x :: xs,h=>by
   have h':(kd x && kds xs)=true:=h
   rw [Bool.and_eq_true] at h'
   show (x.canLay0 && PyData.canLayAll0 xs)=true
   rw [kd_lay x h'.1,kds_lay xs h'.2];rfl
end
theorem iffF {p q:Prop} (h1:¬ p) (h2:¬ q):p ↔ q:=⟨λz=>(h1 z).elim,λz=>(h2 z).elim⟩
mutual
theorem eqv_iff:∀ d e:PyData,kd d=true->kd e=true->(PyData.eqv d e=true ↔ d=e)
 | .int a,.int b,_,_=>by
   show (a == b)=true ↔ _
   rw [beq_iff_eq];exact ⟨λz=>by rw [z],λz=>by injection z⟩
 | .str a,.str b,_,_=>by
   show (a == b)=true ↔ _
   rw [beq_iff_eq];exact ⟨λz=>by rw [z],λz=>by injection z⟩
 | .tuple xs,.tuple ys,h1,h2=>by
   have q:=eqvs_iff xs ys h1 h2
   show PyData.eqvAll xs ys=true ↔ _
   rw [q];exact ⟨λz=>by rw [z],λz=>by injection z⟩
 | .int _,.str _,_,_=>iffF (λz=>by cases z) (λz=>by cases z)
 | .int _,.tuple _,_,_=>iffF (λz=>by cases z) (λz=>by cases z)
 | .str _,.int _,_,_=>iffF (λz=>by cases z) (λz=>by cases z)
 | .str _,.tuple _,_,_=>iffF (λz=>by cases z) (λz=>by cases z)
 | .tuple _,.int _,_,_=>iffF (λz=>by cases z) (λz=>by cases z)
 | .tuple _,.str _,_,_=>iffF (λz=>by cases z) (λz=>by cases z)
theorem eqvs_iff:∀ xs ys:List PyData,kds xs=true->kds ys=true->(PyData.eqvAll xs ys=true ↔ xs=ys)
 | [],[],_,_=>⟨λ_=>rfl,λ_=>rfl⟩
 | [],_ :: _,_,_=>iffF (λz=>by cases z) (λz=>by cases z)
 | _ :: _,[],_,_=>iffF (λz=>by cases z) (λz=>by cases z)
 | x :: xs,y :: ys,h1,h2=>by
   have h1':(kd x && kds xs)=true:=h1
   have h2':(kd y && kds ys)=true:=h2
   rw [Bool.and_eq_true] at h1' h2'
   show (PyData.eqv x y && PyData.eqvAll xs ys)=true ↔ _
   rw [Bool.and_eq_true,eqv_iff x y h1'.1 h2'.1,eqvs_iff xs ys h1'.2 h2'.2]
   exact ⟨λz=>by rw [z.1,z.2],λz=>by injection z with a b;exact ⟨a,b⟩⟩
end
section
variable {prog:Program} {w:World} {E:Value->Shared->Prop}
mutual
theorem hash_go:∀ (k:PyData) (v:Value) (as:List Addr) (A:Around) (s:Shared) (Q:Int->Shared->Prop),kd k=true->Reads s.heap v k as->A.units+k.depth < cLine ->
   (∀ tk,Q (hashD w k) { s with toks:=tk })->wpAny (model prog w) A (pyHash v) Q E s
 | .int i,_,_,A,s,Q,_,x,_,h=>by cases x;exact wpAny_pyHash_int (h _)
 | .str y,_,_,A,s,Q,_,x,_,h=>by cases x;exact wpAny_pyHash_str (h _)
 | .tuple xs,_,_,A,s,Q,hk,x,hu,h=>by
   cases x with
   | @tuple a o vs n _ _ hg hc hdt hw =>
     refine pyHash_slot (T:="tuple") ⟨_,hg,hc⟩ F.slot_tuple_hash F.entry_tuple_hash (F.args_tuple_hash_1 _) (beq_builtin_none _) (.inr (Nat.lt_of_le_of_lt (Nat.le_add_right _ _) hu)) ?_
     show wpAny _ _ (Builtin.Tuple.tupleItemsOf (.ref a) >>= _) _ _ s
     refine wpAny_bind (wpAny_tupleItemsOf hg hdt (wpAny_bind ?_))
     rw [← Array.forIn_toList]
     refine hashs_go xs _ _ A.in1 s #[] _ hk hw (by simp only [PyData.depth,Around.in1_units] at hu ⊢;omega) λtk b hb=>?_
     show wpAny _ _ (retInt (Builtin.Tuple.tupleHashOf b.toList)) _ _ _
     rw [hb]
     exact wpAny_bind (wpAny_mkInt (wpAny_pure ⟨_,_,rfl,h _⟩))
 | .none,_,_,_,_,_,h,_,_,_=>by cases h
 | .bool _,_,_,_,_,_,h,_,_,_=>by cases h
 | .list _,_,_,_,_,_,h,_,_,_=>by cases h
 | .dict _,_,_,_,_,_,h,_,_,_=>by cases h
theorem hashs_go:∀ (xs:List PyData) (vs:List Value) (as:List Addr) (A:Around) (s:Shared) (b:Array Int) (Q:Array Int->Shared->Prop),kds xs=true->ReadsAll s.heap vs xs as->A.units+PyData.depthAll xs < cLine ->
   (∀ tk b',b'.toList=b.toList++hashDs w xs->Q b' { s with toks:=tk }) ->
   wpAny (model prog w) A (forIn vs b λx r=>do let h ← pyHash x;pure PUnit.unit;pure (ForInStep.yield (r.push h))) Q E s
 | [],_,_,A,s,b,Q,_,x,_,h=>by cases x;exact wpAny_pure (h s.toks b (by simp [hashDs]))
 | k :: xs,_,_,A,s,b,Q,hk,x,hu,h=>by
   cases x with
   | cons x1 x2 =>
     have hk':(kd k && kds xs)=true:=hk
     rw [Bool.and_eq_true] at hk'
     simp only [PyData.depthAll] at hu
     rw [List.forIn_cons]
     refine wpAny_bind (wpAny_bind (hash_go k _ _ A s _ hk'.1 x1 (by omega) λtk=>wpAny_bind (wpAny_pure (wpAny_pure ?_))))
     exact hashs_go xs _ _ A _ _ Q hk'.2 x2 (by omega) λtk' b' hb=>h tk' b' (by simp [hb,hashDs])
end
def Ent (w:World) (h:Heap) (k:PyData) (e:DictEntry):Prop:=kd k=true/\k.depth <= 8/\(∃ as,Reads h e.key k as)/\e.hash=hashD w k
def Ask (h:Heap) (k:PyData) (v:Value):Prop:=kd k=true/\k.depth <= 8/\(∃ as,Reads h v k as)/\((∃ x t,v=.str x t)\/∃ a,v=.ref a)
abbrev Ents (w:World) (h:Heap) (ks:List PyData) (es:List DictEntry):Prop:=Paired (Ent w h) ks es
theorem f2_get' {α β:Type} {R:α->β->Prop}:∀ {xs:List α} {ys:List β},Paired R xs ys->∀ (j:Nat) (x:α),xs[j]?=some x->∃ y,ys[j]?=some y/\R x y
 | _,_,.nil,j,y,h=>by simp at h
 | _,_,.cons r t,0,y,h=>by simp at h;subst h;exact ⟨_,rfl,r⟩
 | _,_,.cons r t,j+1,y,h=>by
   obtain ⟨x,e,q⟩:=f2_get' t j y (by simpa using h)
   exact ⟨x,by simpa using e,q⟩
variable {A:Around} {s:Shared}
def DictE (h:Heap) (d:Addr) (es:List DictEntry) (ep:Nat):Prop:=∃ o,h.get? d=some o/\o.ExactDict/\o.data=.dict es.toArray ep
def DictEs (h:Heap) (d:Addr) (es:List DictEntry):Prop:=∃ o ep,h.get? d=some o/\o.ExactDict/\o.data=.dict es.toArray ep
theorem DictEs.ep {h:Heap} {d:Addr} {es:List DictEntry} (x:DictEs h d es):∃ ep,DictE h d es ep:=let ⟨o,ep,e⟩:=x;⟨ep,o,e⟩
theorem DictE.es {h:Heap} {d:Addr} {es:List DictEntry} {ep:Nat} (x:DictE h d es ep):DictEs h d es:=let ⟨o,e⟩:=x;⟨o,ep,e⟩
theorem DictE.typeIs {s:Shared} {d:Addr} {es:List DictEntry} {ep:Nat} (x:DictE s.heap d es ep):s.TypeIs (.ref d) "dict":=let ⟨o,ho,hc,_⟩:=x;⟨o,ho,hc.1⟩
theorem DictEs.typeIs {s:Shared} {d:Addr} {es:List DictEntry} (x:DictEs s.heap d es):s.TypeIs (.ref d) "dict":=let ⟨o,_,ho,hc,_⟩:=x;⟨o,ho,hc.1⟩
theorem DictEs.toks {s:Shared} {d:Addr} {es:List DictEntry} (x:DictEs s.heap d es) (tk:Nat):DictEs ({ s with toks:=tk }:Shared).heap d es:=x
end
end MX

namespace L2
open PySem PySem.Spec PyProof.Rows
mutual
def DV (H:Hp):PyData->V->Prop
 | .none,x=>x=.non
 | .bool b,x=>x=.bl b
 | .int i,x=>x=.int i
 | .str t,x=>x=.str t
 | .list ds,x=>∃ (a:Addr) (vs:List V),x=.ref a/\H a=some (.lst vs)/\DVs H ds vs
 | .tuple ds,x=>∃ (a:Addr) (vs:List V),x=.ref a/\H a=some (.tup vs)/\DVs H ds vs
 | .dict _,_=>False
def DVs (H:Hp):List PyData->List V->Prop
 | [],vs=>vs=[]
 | d :: ds,vs=>∃ (v:V) (r:List V),vs=v :: r/\DV H d v/\DVs H ds r
end
section
variable {P:Program} {w:World} {H H':Hp} {h:Heap}
mutual
theorem DV.reads (ok:HOk P w H h):∀ (d:PyData) (x:V) (u:Value),DV H d x->RelV x u->∃ as,Reads h u d as
 | .none,_,_,e,r=>by cases e;cases r;exact ⟨_,.none⟩
 | .bool b,_,_,e,r=>by cases e;cases r;exact ⟨_,.bool b⟩
 | .int i,_,_,e,r=>by cases e;obtain ⟨t,rfl⟩:=r;exact ⟨_,.int i t⟩
 | .str y,_,_,e,r=>by cases e;obtain ⟨t,rfl⟩:=r;exact ⟨_,.str y t⟩
 | .list ds,_,_,e,r=>by
   obtain ⟨a,vs,rfl,ha,hv⟩:=e
   cases r
   obtain ⟨_,its,n,rv,hg⟩:=ok a _ ha
   obtain ⟨as,q⟩:=DVs.reads ok ds vs its hv rv
   exact ⟨_,.list hg rfl rfl (by simpa using q)⟩
 | .tuple ds,_,_,e,r=>by
   obtain ⟨a,vs,rfl,ha,hv⟩:=e
   cases r
   obtain ⟨_,its,rv,o,hg,hc,n,hd⟩:=ok a _ ha
   obtain ⟨as,q⟩:=DVs.reads ok ds vs its hv rv
   exact ⟨_,.tuple hg hc hd (by simpa using q)⟩
 | .dict _,_,_,e,_=>False.elim e
theorem DVs.reads (ok:HOk P w H h):∀ (ds:List PyData) (vs:List V) (us:List Value),DVs H ds vs->Vals vs us->∃ as,ReadsAll h us ds as
 | [],_,_,e,r=>by cases e;cases r;exact ⟨_,.nil⟩
 | d :: ds,_,_,e,r=>by
   obtain ⟨v,vs,rfl,h1,h2⟩:=e
   cases r with
   | cons r1 r2 =>
     obtain ⟨as,q1⟩:=DV.reads ok d _ _ h1 r1
     obtain ⟨bs,q2⟩:=DVs.reads ok ds _ _ h2 r2
     exact ⟨_,.cons q1 q2⟩
end
mutual
theorem DV.mono (hs:∀ b vs,H b=some (.lst vs)->H' b=some (.lst vs)) (ht:∀ b vs,H b=some (.tup vs)->H' b=some (.tup vs)):∀ (d:PyData) (x:V),DV H d x->DV H' d x
 | .none,_,e=>e
 | .bool _,_,e=>e
 | .int _,_,e=>e
 | .str _,_,e=>e
 | .list ds,_,⟨a,vs,e,ha,hv⟩=>⟨a,vs,e,hs _ _ ha,DVs.mono hs ht ds vs hv⟩
 | .tuple ds,_,⟨a,vs,e,ha,hv⟩=>⟨a,vs,e,ht _ _ ha,DVs.mono hs ht ds vs hv⟩
 | .dict _,_,e=>e
theorem DVs.mono (hs:∀ b vs,H b=some (.lst vs)->H' b=some (.lst vs)) (ht:∀ b vs,H b=some (.tup vs)->H' b=some (.tup vs)):∀ (ds:List PyData) (vs:List V),DVs H ds vs->DVs H' ds vs
 | [],_,e=>e
 | d :: ds,_,⟨v,r,e,h1,h2⟩=>⟨v,r,e,DV.mono hs ht d v h1,DVs.mono hs ht ds r h2⟩
end
mutual
theorem DV.keep (ht:∀ b vs,H b=some (.tup vs)->H' b=some (.tup vs)):∀ (d:PyData) (x:V),MX.kd d=true->DV H d x->DV H' d x
 | .int _,_,_,e=>e
 | .str _,_,_,e=>e
 | .tuple ds,_,k,⟨a,vs,e,ha,hv⟩=>⟨a,vs,e,ht _ _ ha,DVs.keep ht ds vs k hv⟩
 | .none,_,k,_=>by cases k
 | .bool _,_,k,_=>by cases k
 | .list _,_,k,_=>by cases k
 | .dict _,_,k,_=>by cases k
theorem DVs.keep (ht:∀ b vs,H b=some (.tup vs)->H' b=some (.tup vs)):∀ (ds:List PyData) (vs:List V),MX.kds ds=true->DVs H ds vs->DVs H' ds vs
 | [],_,_,e=>e
 | d :: ds,_,k,⟨v,r,e,h1,h2⟩=>by
   have k':(MX.kd d && MX.kds ds)=true:=k
   rw [Bool.and_eq_true] at k'
   exact ⟨v,r,e,DV.keep ht d v k'.1 h1,DVs.keep ht ds r k'.2 h2⟩
end
theorem DVs.length:∀ {ds:List PyData} {vs:List V},DVs H ds vs->vs.length=ds.length
 | [],_,e=>by cases e;rfl
 | d :: ds,_,⟨v,r,e,_,h2⟩=>by subst e;rw [List.length_cons,List.length_cons,DVs.length h2]
theorem DVs.get:∀ {ds:List PyData} {vs:List V} {j:Nat} {v:V},DVs H ds vs->vs[j]?=some v->∃ d,ds[j]?=some d/\DV H d v
 | [],_,j,v,e,g=>by cases e;simp at g
 | d :: ds,_,0,v,⟨v',r,e,h1,h2⟩,g=>by subst e;simp at g;subst g;exact ⟨d,rfl,h1⟩
 | d :: ds,_,j+1,v,⟨v',r,e,h1,h2⟩,g=>by
   subst e
   obtain ⟨d',a,b⟩:=DVs.get (j:=j) (v:=v) h2 (by simpa using g)
   exact ⟨d',by simpa using a,b⟩
theorem DVs.snoc:∀ {ds:List PyData} {vs:List V} {d:PyData} {v:V},DVs H ds vs->DV H d v->DVs H (ds++[d]) (vs++[v])
 | [],_,d,v,e,h=>by cases e;exact ⟨v,[],rfl,h,rfl⟩
 | c :: ds,_,d,v,⟨v',r,e,h1,h2⟩,h=>by subst e;exact ⟨v',r++[v],rfl,h1,DVs.snoc h2 h⟩
end
def LayD (d:PyData):Prop:=d.canLay0=true/\d.depth <= 16
theorem LayD.key {d:PyData} (h:MX.kd d=true) (h2:d.depth <= 8):LayD d:=⟨MX.kd_lay d h,by omega⟩
theorem LayD.int (i:Int):LayD (.int i):=⟨rfl,by show 0 <= 16;decide⟩
def rEqD (neg:Bool):R2:=λx y H Q=>∃ d e,DV H d x/\DV H e y/\LayD d/\LayD e/\Q (.bl (if neg then !PyData.eqv d e else PyData.eqv d e)) H
section
variable {X:Cx}
theorem op_eqD (hu:X.A.units+64 < cLine):OpR X (compareOp .Eq) (rEqD false):=by
 intro pins s σ H x y v u Q I rx ry h
 obtain ⟨d,e,h1,h2,l1,l2,q⟩:=h
 obtain ⟨as,r1⟩:=DV.reads I.hok d x v h1 rx
 obtain ⟨bs,r2⟩:=DV.reads I.hok e y u h2 ry
 exact SeqAt.compareEq_reads r1 r2 l1.1 l2.1 (by have:=l1.2;omega) ⟨.bl _,H,I,rfl,q⟩
end
def DObj (a:Addr) (es:List DictEntry) (ep:Nat):HO:=.ext λh=>(a == sysModules)=false/\MX.DictE h a es ep
def KEnt (w:World) (H:Hp) (p:PyData × V) (e:DictEntry):Prop:=MX.kd p.1=true/\p.1.depth <= 8/\e.hash=MX.hashD w p.1/\(∃ x,RelV x e.key/\DV H p.1 x)/\RelV p.2 e.val
def MD (w:World) (H:Hp) (a:Addr) (kvs:List (PyData × V)):Prop:=∃ es ep,H a=some (DObj a es ep)/\Paired (KEnt w H) kvs es/\(kvs.map (·.1)).Nodup/\kvs.length <= sizeLine
def KeyV (H:Hp) (k:PyData) (y:V):Prop:=MX.kd k=true/\k.depth <= 8/\DV H k y/\((∃ t,y=.str t)\/∃ b,y=.ref b)
def lookD (kvs:List (PyData × V)) (k:PyData):Option V:=(kvs.find? λp=>PyData.eqv p.1 k).map (·.2)
def putD (kvs:List (PyData × V)) (k:PyData) (v:V):List (PyData × V) :=
 if (kvs.any λp=>PyData.eqv p.1 k)=true then kvs.map (λp=>if PyData.eqv p.1 k=true then (p.1,v) else p) else kvs++[(k,v)]
theorem DObj.ok {P:Program} {w:World} {H:Hp} {h:Heap} {a:Addr} {es:List DictEntry} {ep:Nat} (hs:(a == sysModules)=false) (hm:MX.DictE h a es ep):ObjOk P w H h a (DObj a es ep):=by
 refine ⟨⟨hs,hm⟩,?_,λh1 h2 ⟨z,o,e,r⟩ k=>⟨z,o,k o e,r⟩⟩
 obtain ⟨o,e,_⟩:=hm
 exact ⟨o,e⟩
theorem DObj.of {P:Program} {w:World} {H:Hp} {h:Heap} {a:Addr} {es:List DictEntry} {ep:Nat} (ok:HOk P w H h) (e:H a=some (DObj a es ep)):(a == sysModules)=false/\MX.DictE h a es ep:=by
 obtain ⟨q,_⟩:=ok a _ e
 exact q
theorem Paired.keys {w:World} {H:Hp}:∀ {kvs:List (PyData × V)} {es:List DictEntry},Paired (KEnt w H) kvs es->kvs.length=es.length
 | _,_,.nil=>rfl
 | _,_,.cons _ t=>by rw [List.length_cons,List.length_cons,Paired.keys t]
section
variable {w:World} {H:Hp}
theorem eqv_false {d e:PyData} (h1:MX.kd d=true) (h2:MX.kd e=true) (n:d≠e):PyData.eqv d e=false:=by
 cases q:PyData.eqv d e with
 | false=>rfl
 | true=>exact absurd ((MX.eqv_iff d e h1 h2).mp q) n
theorem eqv_self {d:PyData} (h1:MX.kd d=true):PyData.eqv d d=true:=(MX.eqv_iff d d h1 h1).mpr rfl
def KK (kvs:List (PyData × V)):Prop:=∀ p∈kvs,MX.kd p.1=true
theorem KK.of {kvs:List (PyData × V)} {es:List DictEntry}:Paired (KEnt w H) kvs es->KK kvs:=by
 intro r
 induction r with
 | nil=>intro p h;cases h
 | cons a _ ih =>
   intro p h
   rcases List.mem_cons.mp h with rfl | h
   · exact a.1
   · exact ih p h
theorem lookD_no {k:PyData} (hk:MX.kd k=true) {kvs:List (PyData × V)} (kk:KK kvs) (n:k ∉ kvs.map (·.1)):lookD kvs k=none:=by
 unfold lookD
 rw [List.find?_eq_none.mpr λp hp=>?_]
 · rfl
 · rw [eqv_false (kk p hp) hk λz=>n (List.mem_map.mpr ⟨p,hp,z⟩)];decide
theorem putD_no {k:PyData} (hk:MX.kd k=true) {kvs:List (PyData × V)} (kk:KK kvs) (n:k ∉ kvs.map (·.1)) (v:V):putD kvs k v=kvs++[(k,v)]:=by
 unfold putD
 rw [if_neg]
 intro h
 obtain ⟨p,hp,e⟩:=List.any_eq_true.mp h
 exact n (List.mem_map.mpr ⟨p,hp,(MX.eqv_iff _ _ (kk p hp) hk).mp e⟩)
end
section
variable {w:World} {H H':Hp} {a:Addr} {kvs:List (PyData × V)}
theorem KEnt.keep (ht:∀ b vs,H b=some (.tup vs)->H' b=some (.tup vs)) {p:PyData × V} {e:DictEntry} (q:KEnt w H p e):KEnt w H' p e:=by
 obtain ⟨k1,k2,k3,⟨x,rx,dx⟩,k5⟩:=q
 exact ⟨k1,k2,k3,⟨x,rx,DV.keep ht _ _ k1 dx⟩,k5⟩
theorem MD.keep (m:MD w H a kvs) (ha:H' a=H a) (ht:∀ b vs,H b=some (.tup vs)->H' b=some (.tup vs)):MD w H' a kvs:=by
 obtain ⟨es,ep,h1,h2,h3⟩:=m
 exact ⟨es,ep,by rw [ha];exact h1,Paired.mapP h2 λ_ _ q=>q.keep ht,h3⟩
end
section
variable {X:Cx} {pins:List (Addr × Obj)} {σ:St} {H:Hp} {s:Shared} {a:Addr} {kvs:List (PyData × V)} {k:PyData} {y v d:V} {u r:Value} {A:Around} {E:Value->Shared->Prop}
end
end L2

namespace L2
open PySem PySem.Spec PyProof.Rows
def tMNew:TE:=λ_ H Q=>∀ p,H p=none->Q (.ref p) (upd H p (DObj p [] 0))
theorem MD.nil {w:World} {H:Hp} {p:Addr}:MD w (upd H p (DObj p [] 0)) p []:=⟨[],0,upd_same,.nil,List.nodup_nil,Nat.zero_le _⟩
def sMPut (w:World) (td ty tv:TE):TS:=λD σ H=>tv σ H λv H1=>td σ H1 λx H2=>ty σ H2 λy H3=>∃ a kvs k,x=.ref a/\MD w H3 a kvs/\kvs.length < sizeLine/\KeyV H3 k y /\
 ∀ H4,(∀ b,b≠a->H4 b=H3 b)->MD w H4 a (putD kvs k v)->D.nx σ H4
def tMGet2 (w:World) (td ty tx:TE):TE:=λσ H Q=>td σ H λx H1=>∃ a,x=.ref a/\(∃ kvs,MD w H1 a kvs)/\ty σ H1 λy H2=>tx σ H2 λz H3=>∃ kvs k,MD w H3 a kvs/\KeyV H3 k y/\Q ((lookD kvs k).getD z) H3
def tMItem (w:World) (td ty:TE):TE:=λσ H Q=>td σ H λx H1=>ty σ H1 λy H2=>∃ a kvs k v,x=.ref a/\MD w H2 a kvs/\KeyV H2 k y/\lookD kvs k=some v/\Q v H2
section
variable {X:Cx} {o i e f value:Expr} {pos pos' apos cpos:Pos} {td ty tv tx:TE}
end
def Itv (K:PySem.W.Frag) (a:Addr) (n:Nat):It :=
 ⟨λi H=>i < n/\∃ xs,SqL K H a xs/\xs.length=n,λi H x H'=>H'=H/\∀ xs,SqL K H a xs->xs[n - 1 - i]?=some x,λi _=>i=n⟩
def iRev (K:PySem.W.Frag) (ta:TA):TI:=λσ H R=>ta σ H λvs H1=>∃ a xs,vs=[.ref a]/\SqL K H1 a xs/\R (Itv K a xs.length) H1
section
variable {X:Cx} {tg:Expr}
end
def rNil (K:PySem.W.Frag) (neg:Bool):R2:=λx y H Q=>∃ a b xs,x=.ref a/\y=.ref b/\SqL K H a xs/\SqL K H b []/\Q (.bl (if neg then !xs.isEmpty else xs.isEmpty)) H
section
variable {X:Cx}
theorem op_eqNil (hu:X.A.units+64 < cLine):OpR X (compareOp .Eq) (rNil X.K false):=by
 intro pins s σ H x y v u Q I rx ry h
 obtain ⟨a,b,xs,rfl,rfl,h1,h2,q⟩:=h
 cases rx
 cases ry
 obtain ⟨its,r1,p1,_⟩:=I.list h1
 obtain ⟨it2,r2,p2,_⟩:=I.list h2
 have e2:it2=[]:=Vals.zero r2
 subst e2
 have hl:=r1.length
 cases xs with
 | nil =>
   have e1:its=[]:=Vals.zero r1
   subst e1
   exact SeqAt.RcAt.lists (e:=λ_=>true) p1.isList p2.isList rfl (by omega) (λj h1 _=>absurd h1 (Nat.not_lt_zero _)) X.prog X.w X.xe _ ⟨.bl true,H,I,rfl,q⟩
 | cons z zs =>
   have hne:(its.toArray.size != ([]:List Value).toArray.size)=true:=by
     rw [List.length_cons] at hl
     rw [bne_iff_ne,List.size_toArray,List.size_toArray,List.length_nil]
     omega
   exact SeqAt.RcAt.lists_lengths p1.isList p2.isList hne (by omega) X.prog X.w X.xe _ ⟨.bl false,H,I,rfl,q⟩
theorem op_neNil (hu:X.A.units+64 < cLine):OpR X (compareOp .NotEq) (rNil X.K true):=by
 intro pins s σ H x y v u Q I rx ry h
 obtain ⟨a,b,xs,rfl,rfl,h1,h2,q⟩:=h
 cases rx
 cases ry
 obtain ⟨its,r1,p1,_⟩:=I.list h1
 obtain ⟨it2,r2,p2,_⟩:=I.list h2
 have e2:it2=[]:=Vals.zero r2
 subst e2
 have hl:=r1.length
 cases xs with
 | nil =>
   have e1:its=[]:=Vals.zero r1
   subst e1
   exact SeqAt.RcNeAt.lists (e:=λ_=>true) p1.isList p2.isList rfl (by omega) (λj h1 _=>absurd h1 (Nat.not_lt_zero _)) X.prog X.w X.xe _ ⟨.bl false,H,I,rfl,q⟩
 | cons z zs =>
   have hne:(its.toArray.size != ([]:List Value).toArray.size)=true:=by
     rw [List.length_cons] at hl
     rw [bne_iff_ne,List.size_toArray,List.size_toArray,List.length_nil]
     omega
   exact SeqAt.RcNeAt.lists_lengths p1.isList p2.isList hne (by omega) X.prog X.w X.xe _ ⟨.bl true,H,I,rfl,q⟩
end
def Itm (w:World) (a:Addr) (es:List DictEntry) (ep:Nat) (kvs:List (PyData × V)):It :=
 ⟨λi H=>H a=some (DObj a es ep)/\Paired (KEnt w H) kvs es/\i < kvs.length,λi H x H'=>H'=H/\∃ k v,kvs[i]?=some (k,v)/\KeyV H k x,λi H=>H a=some (DObj a es ep)/\kvs.length=es.length/\kvs.length <= i⟩
def TopK (kvs:List (PyData × V)):Prop:=∀ p∈kvs,(∃ t,p.1=.str t)\/∃ ds,p.1=.tuple ds
def iKeys (w:World) (tl:TE):TI:=λσ H R=>tl σ H λx H1=>∃ a es ep kvs,x=.ref a/\H1 a=some (DObj a es ep)/\Paired (KEnt w H1) kvs es/\TopK kvs/\R (Itm w a es ep kvs) H1
end L2

namespace L2
open PySem PySem.Spec PyProof.Rows
def stF (hd rl:Addr):List (Str × V):=putF "rows" (.ref rl) (putF "held" (.ref hd) [])
def sdI:Bool->Int
 | false=>0
 | true=>1
theorem KeyV.keep {H H':Hp} {k:PyData} {y:V} (h:KeyV H k y) (ht:∀ b vs,H b=some (.tup vs)->H' b=some (.tup vs)):KeyV H' k y :=
 ⟨h.1,h.2.1,DV.keep ht _ _ h.1 h.2.2.1,h.2.2.2⟩
def Wt (H:Hp) (p:PyData × V) (tv:V):Prop:=∃ t cv,tv=.ref t/\H t=some (.tup [cv,p.2])/\KeyV H p.1 cv
theorem Wt.keep {H H':Hp} {p:PyData × V} {tv:V} (h:Wt H p tv) (ht:∀ b vs,H b=some (.tup vs)->H' b=some (.tup vs)):Wt H' p tv:=by
 obtain ⟨t,cv,e,h1,h2⟩:=h
 exact ⟨t,cv,e,ht _ _ h1,h2.keep ht⟩
def RowAt (H:Hp) (l:Addr) (es:List (PyData × V)):Prop:=∃ ts:List V,H l=some (.lst ts)/\Paired (Wt H) es ts
theorem RowAt.keep {H H':Hp} {l:Addr} {es:List (PyData × V)} (h:RowAt H l es) (hl:∀ o,H l=some o->H' l=some o) (ht:∀ b vs,H b=some (.tup vs)->H' b=some (.tup vs)):RowAt H' l es:=by
 obtain ⟨ts,h1,h2⟩:=h
 exact ⟨ts,hl _ h1,Paired.mapP h2 λ_ _ q=>q.keep ht⟩
theorem pairedLen {α β:Type} {F:α->β->Prop}:∀ {xs:List α} {ys:List β},Paired F xs ys->xs.length=ys.length
 | _,_,.nil=>rfl
 | _,_,.cons _ t=>by rw [List.length_cons,List.length_cons,pairedLen t]
def setR {α:Type} (r:Bool->α) (b:Bool) (v:α):Bool->α:=λc=>if c=b then v else r c
theorem setR_same {α:Type} {r:Bool->α} {b:Bool} {v:α}:setR r b v b=v:=if_pos rfl
theorem setR_ne {α:Type} {r:Bool->α} {b c:Bool} {v:α} (h:c≠b):setR r b v c=r c:=if_neg h
structure Sto (w:World) (C:Addr) (H:Hp) (x hd rl:Addr) (l:Bool->Addr) (M:List (PyData × V)) (r:Bool->List (PyData × V)):Prop where
 ob:∃ dx,H x=some (.ins C dx (stF hd rl))
 me:MD w H hd M
 ro:H rl=some (.lst [.ref (l false),.ref (l true)])
 rw:∀ b,RowAt H (l b) (r b)
 nl:l false≠l true
 nr:∀ b,l b≠rl
def Kp (xs:List Addr) (H H':Hp):Prop:=∀ c o,c ∉ xs->H c=some o->H' c=some o
theorem Kp.refl (xs:List Addr) (H:Hp):Kp xs H H:=λ_ _ _ e=>e
theorem Kp.trans {xs:List Addr} {H H1 H2:Hp} (a:Kp xs H H1) (b:Kp xs H1 H2):Kp xs H H2:=λc o n e=>b c o n (a c o n e)
theorem Kp.mono {xs ys:List Addr} {H H':Hp} (a:Kp xs H H') (h:∀ c,c∈xs->c∈ys):Kp ys H H':=λc o n e=>a c o (λz=>n (h c z)) e
theorem Kp.same {H H':Hp} (a:Same H H') (xs:List Addr):Kp xs H H':=λc o _ e=>a c o e
section
variable {w:World} {C:Addr} {H H':Hp} {x hd rl:Addr} {l:Bool->Addr} {M:List (PyData × V)} {r:Bool->List (PyData × V)}
theorem MD.there (m:MD w H hd M):∃ ee:List DictEntry × Nat,H hd=some (DObj hd ee.1 ee.2):=let ⟨es,ep,h,_⟩:=m;⟨(es,ep),h⟩
theorem MD.keepS (m:MD w H hd M) (ha:∀ o,H hd=some o->H' hd=some o) (ht:∀ b vs,H b=some (.tup vs)->H' b=some (.tup vs)):MD w H' hd M:=by
 obtain ⟨es,ep,h1,h2⟩:=id m
 exact m.keep ((ha _ h1).trans h1.symm) ht
theorem Sto.keep (S:Sto w C H x hd rl l M r) (h:∀ c o,(c=x\/c=hd\/c=rl\/∃ b,c=l b)->H c=some o->H' c=some o) (ht:∀ b vs,H b=some (.tup vs)->H' b=some (.tup vs)):Sto w C H' x hd rl l M r:=by
 obtain ⟨dx,e⟩:=S.ob
 exact ⟨⟨dx,h _ _ (.inl rfl) e⟩,S.me.keepS (λo=>h _ o (.inr (.inl rfl))) ht,h _ _ (.inr (.inr (.inl rfl))) S.ro,λb=>(S.rw b).keep (λo=>h _ o (.inr (.inr (.inr ⟨b,rfl⟩)))) ht,S.nl,S.nr⟩
theorem Sto.same (S:Sto w C H x hd rl l M r) (h:Same H H'):Sto w C H' x hd rl l M r:=S.keep (λc o _ e=>h c o e) λb vs e=>h b _ e
theorem Sto.len (S:Sto w C H x hd rl l M r):M.length <= sizeLine:=let ⟨_,_,_,_,_,h⟩:=S.me;h
def Sto.own (x hd rl:Addr) (l:Bool->Addr) (c:Addr):Prop:=c=x\/c=hd\/c=rl\/c=l false\/c=l true
theorem Sto.there (S:Sto w C H x hd rl l M r) {c:Addr} (h:Sto.own x hd rl l c):∃ o,H c=some o/\(∀ xs,o≠.tup xs):=by
 rcases h with rfl | rfl | rfl | rfl | rfl
 · obtain ⟨dx,e⟩:=S.ob;exact ⟨_,e,λ_ z=>by cases z⟩
 · obtain ⟨es,e⟩:=S.me.there;exact ⟨_,e,λ_ z=>by cases z⟩
 · exact ⟨_,S.ro,λ_ z=>by cases z⟩
 · obtain ⟨ts,e,_⟩:=S.rw false;exact ⟨_,e,λ_ z=>by cases z⟩
 · obtain ⟨ts,e,_⟩:=S.rw true;exact ⟨_,e,λ_ z=>by cases z⟩
theorem Sto.fresh (S:Sto w C H x hd rl l M r) {p:Addr} (hp:H p=none):¬ Sto.own x hd rl l p:=λh=>by
 obtain ⟨o,e,_⟩:=S.there h
 rw [e] at hp;cases hp
end
def drainAll (M:List (PyData × V)) (es:List (PyData × V)):List (PyData × V):=es.foldl (λM p=>putD M p.1 p.2) M
def readV (M es:List (PyData × V)) (k:PyData):V:=match es.reverse.find? (λp=>PyData.eqv p.1 k) with
 | some p=>p.2
 | none=>(lookD M k).getD (.int 0)
def lastW (es:List (PyData × V)) (k:PyData):Option V:=(es.reverse.find? λp=>PyData.eqv p.1 k).map (·.2)
theorem look_map {k k':PyData} (h:MX.kd k=true) (h':MX.kd k'=true) (v:V):∀ {M:List (PyData × V)},KK M->lookD (M.map λp=>if PyData.eqv p.1 k'=true then (p.1,v) else p) k=(lookD M k).map λx=>if PyData.eqv k' k=true then v else x
 | [],_=>rfl
 | p :: r,kk=>by
   have ih:=look_map h h' v (M:=r) λq hq=>kk q (List.mem_cons_of_mem _ hq)
   have kp:=kk p List.mem_cons_self
   unfold lookD at ih ⊢
   rw [List.map_cons,List.find?_cons,List.find?_cons]
   have e1:(if PyData.eqv p.1 k'=true then (p.1,v) else p).1=p.1:=by split<;>rfl
   rw [e1]
   cases z:PyData.eqv p.1 k with
   | false=>exact ih
   | true =>
     have pk:=(MX.eqv_iff _ _ kp h).mp z
     show some (if PyData.eqv p.1 k'=true then (p.1,v) else p).2=some (if PyData.eqv k' k=true then v else p.2)
     by_cases y:k'=k
     · subst y
       rw [eqv_self h',z];rfl
     · rw [eqv_false h' h y,pk,eqv_false h h' λq=>y q.symm];rfl
theorem look_put {M:List (PyData × V)} {k k':PyData} (kk:KK M) (h':MX.kd k'=true) (h:MX.kd k=true) (v:V):lookD (putD M k' v) k=if PyData.eqv k' k=true then some v else lookD M k:=by
 by_cases n:k'∈M.map (·.1)
 · obtain ⟨p,hp,e⟩:=List.mem_map.mp n
   have ha:(M.any λp=>PyData.eqv p.1 k')=true:=List.any_eq_true.mpr ⟨p,hp,by rw [e];exact eqv_self h'⟩
   unfold putD
   rw [if_pos ha,look_map h h' v kk]
   by_cases y:k'=k
   · subst y
     rw [eqv_self h']
     have:(lookD M k').isSome=true:=by
       unfold lookD
       rw [Option.isSome_map,List.find?_isSome]
       exact ⟨p,hp,by rw [e];exact eqv_self h'⟩
     cases z:lookD M k' with
     | none=>rw [z] at this;cases this
     | some x=>rfl
   · rw [eqv_false h' h y]
     cases lookD M k<;>rfl
 · rw [putD_no h' kk n]
   unfold lookD
   rw [List.find?_append,List.find?_cons]
   by_cases y:k'=k
   · subst y
     have z:=lookD_no h' kk n
     unfold lookD at z
     rw [Option.map_eq_none_iff] at z
     rw [z,eqv_self h'];rfl
   · rw [eqv_false h' h y]
     cases M.find? (λp=>PyData.eqv p.1 k)<;>rfl
theorem KK.put {M:List (PyData × V)} {k:PyData} (kk:KK M) (h:MX.kd k=true) (v:V):KK (putD M k v):=by
 unfold putD
 split
 · intro p hp
   obtain ⟨q,hq,rfl⟩:=List.mem_map.mp hp
   have:=kk q hq
   split<;>exact this
 · intro p hp
   rcases List.mem_append.mp hp with z | z
   · exact kk p z
   · rw [List.mem_singleton.mp z];exact h
theorem KK.nil:KK ([]:List (PyData × V)):=λ_ h=>by cases h
mutual
theorem keyBack {H:Hp} {D:Addr} {o:HO} (hD:H D=none) (ho:∀ xs,o≠.tup xs):∀ {k:PyData} {y:V},MX.kd k=true->DV (upd H D o) k y->DV H k y
 | .int _,_,_,e=>e
 | .str _,_,_,e=>e
 | .tuple ds,_,h,⟨a,vs,e,ha,hv⟩=>by
   have ne:a≠D:=λz=>by
     rw [z,upd_same] at ha
     exact ho vs (Option.some.inj ha)
   exact ⟨a,vs,e,by rw [upd_ne ne] at ha;exact ha,keysBack hD ho h hv⟩
 | .none,_,h,_=>by cases h
 | .bool _,_,h,_=>by cases h
 | .list _,_,h,_=>by cases h
 | .dict _,_,h,_=>by cases h
theorem keysBack {H:Hp} {D:Addr} {o:HO} (hD:H D=none) (ho:∀ xs,o≠.tup xs):∀ {ds:List PyData} {vs:List V},MX.kds ds=true->DVs (upd H D o) ds vs->DVs H ds vs
 | [],_,_,e=>e
 | d :: ds,_,h,⟨v,r,e,h1,h2⟩=>by
   have h':(MX.kd d && MX.kds ds)=true:=h
   rw [Bool.and_eq_true] at h'
   exact ⟨v,r,e,keyBack hD ho h'.1 h1,keysBack hD ho h'.2 h2⟩
end
end L2

namespace L2
open PySem PySem.Spec PyProof.Rows
theorem mem_of_lookup {β:Type} {y:Str} {c:β}:∀ {l:List (Str × β)},l.lookup y=some c->(y,c)∈l
 | [],h=>by cases h
 | (k,v) :: r,h=>by
   rw [List.lookup_cons] at h
   cases e:y == k with
   | true =>
     rw [e] at h
     cases h
     rw [beq_iff_eq.mp e]
     exact List.mem_cons_self
   | false =>
     rw [e] at h
     exact List.mem_cons_of_mem _ (mem_of_lookup h)
def cxComp (X:Cx) (scope:Scope) (cl:List (Str × Addr)) (C:Addr) (x:Str) (N':List Str) (s₃:Shared) (H₃:Hp) (pins:List (Addr × Obj)) (ex:List Addr) (E':Value->Shared->Prop):Cx :=
 { X with N:=N',s₀:=s₃,H₀:=H₃,env:=compEnvC scope cl C X.env,outer:=X.stack,stack:=X.stack,ex:=ex,fn:=λy=>y == x,pn:=X.pn++pins,xe:=E' }
structure CompOk (X:Cx) (scope:Scope) (cl:List (Str × Addr)) (x:Str):Prop where
 kind:scope.kind=.function
 clos:closureFor scope X.env=pure cl
 nocell:∀ y∈scope.names,y.2≠.cell
 names:∀ y∈scope.names,y.2=.local->scope.names.lookup y.1=some .local
 xloc:scope.names.lookup x=some .local
 sub:∀ p∈cl,X.env.cells.lookup p.1=some p.2
 has:∀ p∈scope.names,p.2=.free->∃ c,cl.lookup p.1=some c
 nox:cl.lookup x=none
def PTs (X:Cx) (ifs:List Expr) (t:TT):Prop :=
 ∀ (pins:List (Addr × Obj)) (s:Shared) (σ:St) (H:Hp) (Q:Bool->Hp->Prop),Inv X pins σ H s->t σ H Q ->
   wpAny (model X.prog X.w) X.A (forIn ifs true λc r=>if r=true then do let ok ← isTrue c X.env (eval c X.env);pure (ForInStep.yield ok) else pure (ForInStep.yield r)) (TP X pins σ Q) X.xe s
theorem pts_none {X:Cx}:PTs X [] (λ_ H Q=>Q true H):=λpins s σ H Q I h=>by
 rw [List.forIn_nil]
 exact wpAny_pure ⟨H,I,h⟩
theorem pts_one {X:Cx} {c:Expr} {t:TT} (h:PT X c t):PTs X [c] t:=λpins s σ H Q I q=>wpAny_tests_one (h pins s σ H Q I q)
def capt (σ:St) (js:List Nat):St:=js.map λj=>(σ[j]?).getD none
def tComp (wi:TI) (js:List Nat) (tc:TT) (te:TE):TE:=λσ H Q=>wi σ H λJ H1=>∀ D,H1 D=none->∃ W:Nat->Nat->List V->Hp->Prop,(∃ m,W 0 m [] (upd H1 D (.lst []))) /\
 ∀ i m ys H2,W i m ys H2->H2 D=some (.lst ys)/\ys.length < sizeLine/\((J.stop i H2/\Q (.ref D) H2)\/(J.go i H2/\∀ x H3,J.yld i H2 x H3 ->
   tc (some x :: capt σ js) H3 λb H4=>if b=true then te (some x :: capt σ js) H4 λy H5=>H5 D=some (.lst ys)/\∃ m',m' < m/\W (i+1) m' (ys++[y]) (upd H5 D (.lst (ys++[y])))
     else ∃ m',m' < m/\W (i+1) m' ys H4))
section
variable {X:Cx} {scope:Scope} {cl:List (Str × Addr)} {x:Str} {N':List Str}
theorem relabel_mem {names:List (Str × NameKind)} {env:Env} {y:Str} {k:NameKind} (h:(names.map λ(n,k)=>if (k == NameKind.free && env.scope.kind == .function && env.kindOf n == some .cell) then (n,NameKind.cell) else (n,k)).lookup y=some k) (hk:k=.cell\/k=.free) (hn:∀ p∈names,p.2≠.cell):∃ p∈names,p.1=y/\p.2=.free:=by
 obtain ⟨⟨n,k0⟩,hp,e⟩:=List.mem_map.mp (mem_of_lookup h)
 dsimp only at e
 split at e
 · rename_i hc
   injection e with e1 e2
   refine ⟨_,hp,e1,?_⟩
   rw [Bool.and_eq_true,Bool.and_eq_true] at hc
   exact beq_iff_eq.mp hc.1.1
 · injection e with e1 e2
   refine ⟨_,hp,e1,?_⟩
   rcases hk with rfl | rfl
   · exact absurd e2 (hn _ hp)
   · exact e2
theorem cxComp_ok {pins:List (Addr × Obj)} {σ:St} {H₃:Hp} {s₃:Shared} {ex:List Addr} {E':Value->Shared->Prop} (O:CompOk X scope cl x) (I:Inv X pins σ H₃ s₃) (hf:∀ b∈ex,FpOk X pins H₃ b/\b < s₃.heap.objs.size) :
   (cxComp X scope cl s₃.heap.objs.size x N' s₃ H₃ pins ex E').Ok where
 mod:=I.ok.mod
 kind:=O.kind
 glob:=I.ok.glob
 blt:=I.ok.blt
 above:=Nat.le_refl _
 inj:=λy z c h1 h2=>I.ok.inj y z c (O.sub _ (mem_of_lookup h1)) (O.sub _ (mem_of_lookup h2))
 has:=λy h=>by
   have h':∃ k,(relabel scope X.env).names.lookup y=some k/\(k=.cell\/k=.free):=by
     rcases h with h | h
     · exact ⟨_,h,.inl rfl⟩
     · exact ⟨_,h,.inr rfl⟩
   obtain ⟨k,e,hk⟩:=h'
   obtain ⟨p,hp,rfl,e2⟩:=relabel_mem e hk O.nocell
   exact O.has p hp e2
 cab:=λy c h1 h2=>by
   have:y=x:=beq_iff_eq.mp h1
   subst this
   have h2':cl.lookup y=some c:=h2
   rw [O.nox] at h2';cases h2'
 hd:=I.ok.hd
 frames:=I.ok.frames
 stk:=.inl rfl
 exf:=λb hb=>⟨Nat.ne_of_lt (hf b hb).2,λy c e=>(hf b hb).1.2.2.2.2.1 y c (O.sub _ (mem_of_lookup e))⟩
 bs:=I.bs
 bsz:=Nat.le_trans I.ok.bsz I.sz
 noex:=λb o e hb=>by
   obtain ⟨_,_,_,h4,_⟩:=(hf b hb).1
   rcases h4 with z | z
   · exact I.ok.noex b o e z
   · have g1:b < X.base.objs.size:=Heap.lt_size e
     exact absurd (Nat.lt_of_lt_of_le g1 (Nat.le_trans I.ok.bsz z)) (Nat.lt_irrefl _)
 exfs:=λb hb z=>by
   obtain ⟨_,h2,h3,_⟩:=(hf b hb).1
   rcases List.mem_cons.mp (I.stkSub b z) with q | q
   · exact h2 q
   · exact h3 q
 funs:=I.stack
 frf:=I.stkFree
theorem Inv.block {pins:List (Addr × Obj)} {σ σ':St} {H₃ H':Hp} {s₃ s':Shared} {ex:List Addr} {E':Value->Shared->Prop} {h':Heap} (I:Inv X pins σ H₃ s₃) (hf:∀ b∈ex,FpOk X pins H₃ b)
   (I':Inv (cxComp X scope cl s₃.heap.objs.size x N' s₃ H₃ pins ex E') [] σ' H' s') (hs:Heap.SameBut s₃.heap.objs.size s'.heap h'):Inv X pins σ H' { s' with heap:=h' }:=by
 have ne:∀ b o,s₃.heap.get? b=some o->b≠s₃.heap.objs.size:=λb o e=>Nat.ne_of_lt (Heap.lt_size e)
 have fr:H' s₃.heap.objs.size=none:=I'.free
 have hok:HOk X.prog X.w H' h':=λa o e=>by
   refine (I'.hok a o e).stay (λb u hb q=>(hs.2 b ?_).trans q) (λ_ q=>q) λ_ _ q=>q
   rintro rfl
   rcases hb with z | z
   · rw [← z,fr] at e;cases e
   · rw [fr] at z;cases z
 have u:Un (frs X.stack) ex H₃ H' s₃.heap h':=by
   obtain ⟨k1,k2,k3,k4,k5,k6,k7⟩:=I'.base
   refine ⟨λb o q n hb hx=>(hs.2 b (ne b o q)).trans (k1 b o q n hb hx),λb o q n hb hx=>?_,k3,λb o q hx=>?_,k5,k6,k7⟩
   · obtain ⟨sl,e⟩:=k2 b o q n hb hx
     exact ⟨sl,(hs.2 b (ne b o q)).trans e⟩
   · obtain ⟨o',e⟩:=k4 b o q hx
     exact ⟨o',(hs.2 b (ne b o q)).trans e⟩
 exact I.call' (s':={ s' with heap:=h' }) I'.os u hok I'.bare λb hb=>⟨(hf b hb).2.2.2.1,(hf b hb).2.1,(hf b hb).2.2.2.2.1,(hf b hb).2.2.2.2.2⟩
theorem Inv.enter {pins:List (Addr × Obj)} {σ:St} {H₃:Hp} {s₃:Shared} {ex:List Addr} {E':Value->Shared->Prop} {caps:List Str} {js:List Nat} {h₁:Heap} {tk:Nat} (O:CompOk X scope cl x) (I:Inv X pins σ H₃ s₃)
   (hf:∀ b∈ex,FpOk X pins H₃ b/\b < s₃.heap.objs.size) (hcap:∀ y∈caps,∃ c,cl.lookup y=some c) (hjs:Paired (λ(y:Str) (j:Nat)=>X.N[j]?=some y/\(X.env.scope.names.lookup y=some .cell\/X.env.scope.names.lookup y=some .free)) caps js)
   (hkc:∀ y∈caps,(relabel scope X.env).names.lookup y=some .cell\/(relabel scope X.env).names.lookup y=some .free)
   (hn:h₁.Ns s₃.heap.objs.size λ_=>none) (hk:∀ b o,s₃.heap.get? b=some o->h₁.get? b=some o) :
   Inv (cxComp X scope cl s₃.heap.objs.size x (x :: caps) s₃ H₃ pins ex E') [] (none :: capt σ js) H₃ { s₃ with heap:=h₁,toks:=tk }:=by
 have hlen:caps.length=js.length:=Paired.length hjs
 obtain ⟨m0,hm0,hl0⟩:=I.loc
 refine ⟨cxComp_ok O I hf,rfl,I.bare,Un.kept hk,⟨_,hn,λi y v e1 e2 e3=>?_⟩,λy c e=>?_,I.hok.fresh (Nat.le_refl _),λy c e=>I.freeC y c (O.sub _ (mem_of_lookup e)),λp hp=>?_,I.hok.kept hk,?_⟩
 · cases i with
   | zero=>cases e2
   | succ i =>
     have e1':(x :: caps)[i+1]?=some y:=e1
     rw [List.getElem?_cons_succ] at e1'
     have e2':(none :: capt σ js)[i+1]?=some (some v):=e2
     rw [List.getElem?_cons_succ] at e2'
     obtain ⟨j,ej,hN,hk1⟩:=MX.f2_get' hjs i y e1'
     unfold capt at e2'
     rw [List.getElem?_map,ej] at e2'
     have e3':(σ[j]?).getD none=some v:=by simpa using e2'
     have e4:σ[j]?=some (some v):=by
       cases q:σ[j]? with
       | none=>rw [q] at e3';cases e3'
       | some z=>rw [q] at e3';rw [show z=some v from e3']
     obtain ⟨u,r,l⟩:=hl0 j y v hN e4 (by rcases hk1 with z | z;exact .inr (.inl z);exact .inr (.inr z))
     obtain ⟨c,hc⟩:=hcap y (List.mem_of_getElem? e1')
     refine ⟨u,r,.inr ⟨hkc y (List.mem_of_getElem? e1'),c,hc,?_⟩⟩
     rcases l with ⟨z,_⟩ | ⟨_,c',z1,o,z2,z3⟩
     · have z':X.env.scope.names.lookup y=some .local:=z
       rcases hk1 with q | q<;>(rw [q] at z';cases z')
     · rw [O.sub _ (mem_of_lookup hc)] at z1
       cases z1
       exact ⟨o,hk _ _ z2,z3⟩
 · obtain ⟨v,o,z2,z3⟩:=I.cell y c (O.sub _ (mem_of_lookup e))
   exact ⟨v,o,hk _ _ z2,z3⟩
 · have hp':p∈X.pn++pins:=by simpa [cxComp] using hp
   obtain ⟨g1,g2,g3,g4,g5⟩:=I.pin p hp'
   refine ⟨hk _ _ g1,g2,Nat.ne_of_lt (Heap.lt_size g1),λz=>?_,g5⟩
   rcases List.mem_cons.mp (I.stkSub p.1 z) with q | q
   · exact g3 q
   · exact g4 q
 · show (none :: capt σ js).length=(x :: caps).length
   unfold capt
   rw [List.length_cons,List.length_cons,List.length_map,hlen]
end
def SubCl (env:Env):List (Str × Addr)->Prop
 | []=>True
 | p :: r=>env.cells.lookup p.1=some p.2/\SubCl env r
theorem SubCl.all {env:Env}:∀ {cl:List (Str × Addr)},SubCl env cl->∀ p∈cl,env.cells.lookup p.1=some p.2
 | [],_,p,h=>by cases h
 | q :: r,⟨a,b⟩,p,h=>by
   rcases List.mem_cons.mp h with rfl | h
   · exact a
   · exact SubCl.all b p h
theorem compOk {X:Cx} {scope:Scope} {cl:List (Str × Addr)} {x:Str} (kind:scope.kind=.function) (clos:closureFor scope X.env=pure cl) (nocell:∀ y∈scope.names,y.2≠.cell) (names:∀ y∈scope.names,y.2=.local->scope.names.lookup y.1=some .local)
   (xloc:scope.names.lookup x=some .local) (sub:SubCl X.env cl) (has:(scope.names.all λp=>p.2 != .free || (cl.lookup p.1).isSome)=true) (nox:cl.lookup x=none):CompOk X scope cl x :=
 ⟨kind,clos,nocell,names,xloc,sub.all,λp hp hf=>by
   have h:=List.all_eq_true.mp has p hp
   rw [hf] at h
   have h':(cl.lookup p.1).isSome=true:=by simpa using h
   exact Option.isSome_iff_exists.mp h',nox⟩
end L2

namespace L2
open PySem PySem.Spec PyProof.Rows
def rInD (neg:Bool):R2:=λx y H Q=>∃ d ds,DV H d x/\DV H (.list ds) y/\LayD d/\LayD (.list ds)/\Q (.bl (if neg then !ds.any (λz=>PyData.eqv z d) else ds.any λz=>PyData.eqv z d)) H
section
variable {X:Cx}
end
end L2

namespace L2
open PySem PySem.Spec PyProof.Rows
def tCut (t u:TS):TS:=λD σ H=>∃ B:St->Hp->Prop,t { D with nx:=B } σ H/\∀ σ' H',B σ' H'->u D σ' H'
theorem pss_cut {X:Cx} {st:Stmt} {rest:List Stmt} {t u:TS} (h1:PS X st t) (h2:PSs X rest u):PSs X (st :: rest) (tCut t u):=by
 intro pins s σ H D I h
 obtain ⟨B,h,k⟩:=h
 refine wpAny_execs_cons (thn (h1 pins s σ H { D with nx:=B } I h) λf s1 q=>?_)
 cases f with
 | next =>
   obtain ⟨σ',H',I',q⟩:=q
   exact h2 pins s1 σ' H' D I' (k σ' H' q)
 | ret v=>exact q
 | brk=>exact q
 | cont=>exact q
def tCutT (t:TT):TT:=λσ H Q=>∃ B:Bool->Hp->Prop,t σ H B/\∀ b H',B b H'->Q b H'
end L2
namespace L2
open PySem PySem.Spec PyProof.Rows
mutual
theorem eqv_refl:∀ d:PyData,d.canLay0=true->PyData.eqv d d=true
 | .none,_=>rfl
 | .bool b,_=>by simp [PyData.eqv]
 | .int i,_=>by simp [PyData.eqv]
 | .str t,_=>by simp [PyData.eqv]
 | .list xs,h=>by
   have h':PyData.canLayAll0 xs=true:=by simpa [PyData.canLay0] using h
   simpa [PyData.eqv] using eqvAll_refl xs h'
 | .tuple xs,h=>by
   have h':PyData.canLayAll0 xs=true:=by simpa [PyData.canLay0] using h
   simpa [PyData.eqv] using eqvAll_refl xs h'
 | .dict _,h=>by simp [PyData.canLay0] at h
theorem eqvAll_refl:∀ xs:List PyData,PyData.canLayAll0 xs=true->PyData.eqvAll xs xs=true
 | [],_=>rfl
 | x :: xs,h=>by
   have h':x.canLay0=true/\PyData.canLayAll0 xs=true:=by simpa [PyData.canLayAll0] using h
   simp [PyData.eqvAll,eqv_refl x h'.1,eqvAll_refl xs h'.2]
end
def rNeK2:R2:=λx y H Q=>∃ a b k1 k2 v1 v2 u1 u2 d1 d2 e1 e2,x=.ref a/\y=.ref b/\H a=some (.dK [(k1,v1),(k2,v2)])/\H b=some (.dK [(k1,u1),(k2,u2)])/\¬ k1=k2/\(DV H d1 v1/\DV H d2 v2/\DV H e1 u1/\DV H e2 u2)/\(LayD d1/\LayD d2/\LayD e1/\LayD e2) /\
 Q (.bl (!(PyData.eqv d1 e1 && PyData.eqv d2 e2))) H
end L2

namespace L2
open PySem PySem.Spec PyProof.Rows
def gLst (K:PySem.W.Frag) (n:Nat) (t:TGs):TG:=λv σ H Q=>∃ a xs,v=.ref a/\SqL K H a xs/\xs.length=n/\t xs σ H Q
section
variable {X:Cx} {pos:Pos}
def rIxA (K:PySem.W.Frag):R2:=λx y H Q=>rIxL K x y H Q\/rIxT K x y H Q
def clsV:V->Value
 | .ty c=>.type c
 | .ref a=>.ref a
 | _=>.none
def isClsV:V->Bool
 | .ty _=>true
 | .ref _=>true
 | _=>false
end
def Its (lo st:Int) (n:Nat):It:=⟨λi _=>i < n,λi H x H'=>H'=H/\x=.int (lo+i * st),λi _=>n <= i⟩
def iRng3 (ta:TA):TI:=λσ H R=>ta σ H λvs H1=>∃ i j c:Int,vs=[.int i,.int j,.int c]/\(-(2 ^ 40) <= i/\i < 2 ^ 40/\-(2 ^ 40) <= j/\j < 2 ^ 40/\0 < c/\c < 2 ^ 29)/\∀ n,R (Its i c n) H1
theorem Same.seqT {K:PySem.W.Frag} {H H':Hp} {a:Addr} {xs:List V} (e:Same H H') (h:SqT K H a xs):SqT K H' a xs:=by
 rcases h with z | z
 · rcases z with z | ⟨o,z⟩
   · exact .inl (.inl (e _ _ z))
   · exact .inl (.inr ⟨o,e _ _ z⟩)
 · exact .inr z
end L2

namespace L2
open PySem PySem.Spec PyProof.Rows
theorem ObjOk.here {P:Program} {w:World} {H:Hp} {h:Heap} {a:Addr} {o:HO} (x:ObjOk P w H h a o):∃ ob,h.get? a=some ob:=by
 cases o with
 | lst xs=>obtain ⟨_,_,_,_,e⟩:=x;exact ⟨_,e⟩
 | tup xs=>obtain ⟨_,_,_,_,e,_⟩:=x;exact ⟨_,e⟩
 | dK kvs=>obtain ⟨_,_,_,_,o,_,_,e,_⟩:=x;exact ⟨_,e⟩
 | dT kvs=>obtain ⟨_,_,_,_,o,_,_,e,_⟩:=x;exact ⟨_,e⟩
 | set S n=>obtain ⟨o,_,_,_,e,_⟩:=x;exact ⟨_,e⟩
 | ins C dx fs=>obtain ⟨_,_,_,e,_⟩:=x;exact ⟨_,e⟩
 | own y=>exact x
 | xd fs=>obtain ⟨_,⟨_,_,_,e,_⟩,_⟩:=x;exact ⟨_,e⟩
 | rng lo hi=>obtain ⟨_,_,_,e⟩:=x;exact ⟨_,e⟩
 | frz ob u=>exact ⟨_,x.1⟩
 | tbl ps=>exact ⟨_,show h.get? a=some _ from x⟩
 | met f y=>exact ⟨_,show h.get? a=some _ from x⟩
 | ext φ=>exact x.2.1
theorem HOk.nothing {P:Program} {w:World} {H:Hp} {h:Heap} {a:Addr} (ok:HOk P w H h) (e:h.get? a=none):H a=none:=by
 cases q:H a with
 | none=>rfl
 | some o =>
   obtain ⟨ob,e'⟩:=(ok a o q).here
   rw [e'] at e;cases e
def Trc (h:Heap) (e T:Addr) (cls fl:Value):Prop :=
 ∃ oe vs oT ts a0,h.get? e=some oe/\(oe.cls=cls/\vs[0]?=some a0)/\oe.data=.fields vs/\vs[1]?=some (.ref T)/\T≠e/\h.get? T=some oT/\oT.data=.fields ts/\ts[3]?=some fl
def Apt (X:Cx) (pins:List (Addr × Obj)) (H:Hp) (b:Addr):Prop :=
 X.s₀.heap.get? b=none/\H b=none/\b≠X.env.locals/\(∀ x c,X.env.cells.lookup x=some c->c≠b)/\∀ p∈X.pn++pins,p.1≠b
section
variable {X:Cx} {pins:List (Addr × Obj)} {σ:St} {H H':Hp} {s:Shared} {h':Heap}
theorem Inv.apt (I:Inv X pins σ H s) (hx:X.ex=[]) {b:Addr} (e:s.heap.get? b=none) (n:H' b=none):Apt X pins H' b:=by
 refine ⟨?_,n,?_,λx c hc z=>?_,λp hp z=>?_⟩
 · cases q:X.s₀.heap.get? b with
   | none=>rfl
   | some o =>
     obtain ⟨o',e'⟩:=I.base.there b o q (by rw [hx];simp)
     rw [e] at e';cases e'
 · rintro rfl
   obtain ⟨m,⟨o,_,_,ho,_⟩,_⟩:=I.loc
   rw [e] at ho;cases ho
 · obtain ⟨v,o,ho,_⟩:=I.cell x c hc
   rw [z,e] at ho;cases ho
 · have ho:=(I.pin p hp).1
   rw [z,e] at ho;cases ho
abbrev hid (X:Cx) (h:Heap) (e T:Addr):Heap:=PySem.W.hideAll h (e :: T :: frs X.stack)
end
def CXv (P:Program) (w:World):CXT:=λouter H s E e s'=>∃ (ex T:Addr) (cls:Value) (H':Hp),e=.ref ex/\s'.os=s.os/\AllBare s'.gens/\Un (frs outer) [] H H' s.heap s'.heap/\HOk P w H' s'.heap/\Trc s'.heap ex T cls .none /\
 s.heap.get? ex=none/\s.heap.get? T=none/\H' ex=none/\H' T=none/\E cls none H'
structure Raisy (X:Cx) (E:XK):Prop where
 ex:X.ex=[]
 stk:X.stack=X.env :: X.outer
 frm:X.env.frame=some X.env.locals
 xe:X.xe=λe s'=>wpAny (model X.prog X.w) X.A («leaving» X.env e) (λ_ s''=>CXv X.prog X.w X.outer X.H₀ X.s₀ E e s'') (λe' s''=>CXv X.prog X.w X.outer X.H₀ X.s₀ E e' s'') s'
section
variable {X:Cx} {pins:List (Addr × Obj)} {σ:St} {H H':Hp} {s:Shared} {E:XK}
end
def veB:List Value:=[.type "ValueError",.type "Exception",.type "BaseException",.type "object"]
def tRaise (E:XK) (C:Addr) (t:TA):TS:=λ_ σ H=>t σ H λvs H1=>vs.length <= sizeLine/\E (.ref C) none H1
abbrev Cx.tryX (X:Cx) (pins:List (Addr × Obj)) (R:St->Value->Hp->Prop):Cx :=
 { X with pn:=X.pn++pins,xe:=λe s'=>∃ (ex T:Addr) (cls:Value) (σ':St) (H':Hp),e=.ref ex/\Inv X pins σ' H' s'/\Trc s'.heap ex T cls .none/\Apt X pins H' ex/\Apt X pins H' T/\R σ' cls H' }
abbrev Cx.inH (X:Cx) (e:Value):Cx:={ X with A:=X.A.mark (some e),calm:=false,xe:=λ_ _=>False }
section
variable {X:Cx} {pins pins':List (Addr × Obj)} {σ:St} {H H':Hp} {s:Shared} {R:St->Value->Hp->Prop} {e:Value}
theorem Cx.Ok.inH (ok:X.Ok):(X.inH e).Ok:=⟨ok.mod,ok.kind,ok.glob,ok.blt,ok.above,ok.inj,ok.has,ok.cab,λz=>(by cases z),ok.frames,ok.stk,ok.exf,ok.bs,ok.bsz,ok.noex,ok.exfs,ok.funs,ok.frf⟩
theorem Inv.inH (I:Inv X pins σ H s):Inv (X.inH e) pins σ H s:=⟨I.ok.inH,I.os,I.bare,I.base,I.loc,I.cell,I.free,I.freeC,I.pin,I.hok,I.len⟩
end
structure Framed (X:Cx):Prop where
 ex:X.ex=[]
 stk:X.stack=X.env :: X.outer
 frm:X.env.frame=some X.env.locals
abbrev TH:=Ends->St->Value->Hp->Prop
def PH (X:Cx) (hs:List ExceptHandler) (t:TH):Prop :=
 ∀ (pins:List (Addr × Obj)) (s:Shared) (σ:St) (H:Hp) (D:Ends) (ex T:Addr) (cls:Value),Inv X pins σ H s->Trc s.heap ex T cls .none->Apt X pins H ex->Apt X pins H T->t D σ cls H ->
   wpAny (model X.prog X.w) X.A (handleBy (.ref ex) X.env hs) (SP X pins D) X.xe s
def tHNil:TH:=λ_ _ _ _=>False
def tHCons (K:PySem.W.Frag) (C:Value) (tb:TS) (tr:TH):TH:=λD σ cls H=>∃ b,PySem.W.exmOne K cls C=some b/\if b=true then tb D σ H else tr D σ cls H
section
variable {X:Cx}
theorem Trc.ty {M:Model} {h:Heap} {e T:Addr} {cls fl:Value} (t:Trc h e T cls fl):PySem.W.Looks M h (typeOf (.ref e)) cls:=by
 obtain ⟨oe,vs,oT,ts,a0,h1,⟨rfl,_⟩,_⟩:=t
 exact (PySem.W.Looks.ld h1).andThen .now
def tTry (tb:(St->Value->Hp->Prop)->TS) (th:TH):TS:=λD σ H=>∃ R:St->Value->Hp->Prop,tb R D σ H/\∀ σ' cls H',R σ' cls H'->th D σ' cls H'
end
def tCallX (sp:Sp) (dvs:List V) (R:St->Value->Hp->Prop) (t:TA):TE:=λσ H Q=>t σ H λvs H1=>sp (vs++dvs) H1 Q λcls _ H'=>R σ cls H'
def tMethX (C:Addr) (m:Str) (sp:Sp) (dvs:List V) (R:St->Value->Hp->Prop) (ta:TE) (t:TA):TE:=λσ H Q=>ta σ H λx H1=>∃ a dx fs,x=.ref a/\H1 a=some (.ins C dx fs)/\fs.lookup m=none /\
 t σ H1 λvs H2=>sp (x :: (vs++dvs)) H2 Q λcls _ H'=>R σ cls H'
section
variable {X:Cx} {k:Nat} {f C:Addr} {fd:FuncData} {ps:List Str} {sp:Sp} {dvs:List V} {ds:List Value} {x m:Str} {p pos apos:Pos} {e o:Expr} {es:List Expr} {ta:TE} {t:TA} {pins:List (Addr × Obj)} {R:St->Value->Hp->Prop}
end
end L2

namespace PySem.W
open PySem PySem.Calls PyProof.Rows Builtin Builtin.ObjectAttr Builtin.Getset_descriptor
structure XCls (K:Frag) (C:Addr):Prop where
 ga:findIn K (.ref C) "__getattribute__"=some (some (.builtin "BaseException.__getattribute__"))
 gt:findIn K (.ref C) "__getattr__"=some none
 cl:findIn K (.ref C) "__class__"=some (some (.builtin "object.__class__"))
 ob:mroIn K C (.type "object")=some true
 be:subIn K (.ref C) (.type "BaseException")=some true
 is:isClsIn K C=true
section
variable {prog:Program} {w:World} {A:Around} {E:Value->Shared->Prop} {h:Heap} {g:Array GenState} {d:Drawn} {t:Nat} {os:OsState} {K:Frag} {x C:Addr} {ox:Obj}
end
end PySem.W
namespace L2
open PySem PySem.Spec PyProof.Rows
def excO (x C:Addr):HO:=.ext λh=>∃ o vs,h.get? x=some o/\o.cls=.ref C/\o.data=.fields vs
section
variable {X:Cx} {pins:List (Addr × Obj)} {σ:St} {H:Hp} {s:Shared}
theorem Inv.seen {x:Addr} {o:HO} (I:Inv X pins σ H s) (a:Apt X pins H x) (new:ObjOk X.prog X.w (upd H x o) s.heap x o):Inv X pins σ (upd H x o) s:=by
 obtain ⟨a1,a2,a3,a4,a5⟩:=a
 have ne:∀ b u,H b=some u->b≠x:=λb u e z=>by rw [z,a2] at e;cases e
 refine ⟨I.ok,I.os,I.bare,⟨I.base.keep,I.base.slot,λb u e n hx=>?_,I.base.there,λb xs e=>?_,λb u v e=>?_,λb ps e=>?_⟩,I.loc,I.cell,?_,λy c e=>?_,λp hp=>?_,λb u e=>?_,I.len⟩
 · rw [upd_ne (λz=>by rw [z,a1] at e;cases e)];exact I.base.free b u e n hx
 · have q:=I.base.tups b xs e
   rw [upd_ne (ne _ _ q)];exact q
 · have q:=I.base.frzs b u v e
   rw [upd_ne (ne _ _ q)];exact q
 · obtain ⟨more,q⟩:=I.base.tbls b ps e
   exact ⟨more,by rw [upd_ne (ne _ _ q)];exact q⟩
 · rw [upd_ne (Ne.symm a3)];exact I.free
 · rw [upd_ne (a4 y c e)];exact I.freeC y c e
 · obtain ⟨e,n,r⟩:=I.pin p hp
   exact ⟨e,by rw [upd_ne (a5 p hp)];exact n,r⟩
 · by_cases hb:b=x
   · subst hb;rw [upd_same] at e;cases e;exact new
   · rw [upd_ne hb] at e
     refine (I.hok b u e).stay (λ_ _ _ q=>q) (λc q=>?_) λc xs q=>?_
     · rw [upd_ne (ne _ _ q)];exact q
     · rw [upd_ne (ne _ _ q)];exact q
def Ends.gone (D:Ends) (i:Nat):Ends:=⟨λσ H=>D.nx (σ.set i none) H,D.rt,λσ H=>D.bk (σ.set i none) H,λσ H=>D.ct (σ.set i none) H⟩
def tHAs (K:PySem.W.Frag) (C:Addr) (i:Nat) (tb:TS) (tr:TH):TH:=λD σ cls H=>∃ b,PySem.W.exmOne K cls (.ref C)=some b/\if b=true then ∃ c,cls=.ref c/\∀ ex,H ex=none->tb (D.gone i) (σ.set i (some (.ref ex))) (upd H ex (excO ex c)) else tr D σ cls H
end
end L2

namespace L2
open PySem PySem.Spec PyProof.Rows
section
variable {X:Cx} {scope:Scope} {cl:List (Str × Addr)} {x:Str} {N':List Str}
theorem ps_compset {px py pos spos:Pos} {yT:Str} {iN:Nat} {iter elt:Expr} {ifs:List Expr} {caps:List Str} {js:List Nat} {wi:TI} {tc:TT} {te:TE} (hN:X.N.Nodup) (hiN:X.N[iN]?=some yT) (hyL:Loc X.env.scope yT)
   (hsw:swapsWith (.ListComp elt [⟨.Name x px,iter,ifs,0⟩] scope pos) (some (.Name yT py)) spos.line X.env=pure true) (hc:X.calm=true) (O:CompOk X scope cl x) (hnd:(x :: caps).Nodup)
   (hcap:∀ y∈caps,∃ c,cl.lookup y=some c) (hjs:Paired (λ(y:Str) (j:Nat)=>X.N[j]?=some y/\(X.env.scope.names.lookup y=some .cell\/X.env.scope.names.lookup y=some .free)) caps js)
   (hkc:∀ y∈caps,(relabel scope X.env).names.lookup y=some .cell\/(relabel scope X.env).names.lookup y=some .free)
   (hi:PI X (.Name x px) iter wi) (ht:∀ C s₃ H₃ pins ex E',PTs (cxComp X scope cl C x (x :: caps) s₃ H₃ pins ex E') ifs tc) (he:∀ C s₃ H₃ pins ex E',PE (cxComp X scope cl C x (x :: caps) s₃ H₃ pins ex E') elt te)
   (hs:∀ x,foldedSetIterable iter X.env x=pure x:=by intro _;rfl) (hfN:X.fn yT=true\/X.env.scope.names.lookup yT=some .local:=by first | exact .inl rfl | exact .inr rfl | assumption) :
   PS X (.Assign [.Name yT py] (.ListComp elt [⟨.Name x px,iter,ifs,0⟩] scope pos) spos) (tAsg (tComp wi js tc te) (gName iN)):=by
 intro pins s σ H D I h
 rw [exec_Assign_Name_used _ _ _ _ hsw]
 refine wpAny_bind (wpAny_standAt (wpAny_bind ?_))
 show wpAny _ X.A (do let _ ← comprehension (.ListComp elt [⟨.Name x px,iter,ifs,0⟩] scope pos) scope X.env _ (newList []) false (eval iter X.env) (some (assign (.Name yT py) X.env))) _ _ s
 refine wpAny_bind (wpAny_mono (wpAny_comprehension_free (use:=some (assign (.Name yT py) X.env)) (Q:=λ_ s'=>SP X pins D .next s') rfl hs O.clos O.kind O.names (thn (hi pins s σ H _ I h) λv s1 h1=>thn h1 λitv s2 ⟨it,fp,tn,J,H1,e,I2,T,t0,hf,q⟩=>?_))
   (λ_ s' hq=>wpAny_pure (wpAny_pure hq)) λ_ _ e=>e)
 subst e
 refine wpAny_newObj_type (wpAny_newFunctionEnv O.nocell (by intro y hy;cases hy) (λh₁ hns₁ hsb₁=>?_) O.kind)
 obtain ⟨W,⟨m0,w0⟩,step⟩:=q s2.heap.objs.size (I2.hok.fresh (Nat.le_refl _))
 have I3:Inv X pins σ (upd H1 s2.heap.objs.size (.lst [])) { s2 with heap:=s2.heap.push { cls:=.type "list",data:=.seq ([]:List Value).toArray } }:=I2.lnew (t':=s2.toks) (its:=[]) .nil (Nat.zero_le _)
 have fpl:∀ b∈fp,b < s2.heap.objs.size:=λb hb=>by
   obtain ⟨o,e,_⟩:=T.obj _ _ t0 b hb
   exact Heap.lt_size e
 have hf3:∀ b∈fp,FpOk X pins (upd H1 s2.heap.objs.size (.lst [])) b:=λb hb=>by
   obtain ⟨f0,f⟩:=hf b hb
   exact ⟨by rw [upd_ne (Nat.ne_of_lt (fpl b hb))];exact f0,f⟩
 generalize hs3:({ s2 with heap:=s2.heap.push { cls:=.type "list",data:=.seq ([]:List Value).toArray } }:Shared)=s₃ at *
 generalize hH3:upd H1 s2.heap.objs.size (.lst [])=H₃ at *
 have hsz:s2.heap.objs.size < s₃.heap.objs.size:=by rw [← hs3];show _ < (s2.heap.push _).objs.size;rw [Heap.size_push];exact Nat.lt_succ_self _
 have hk2:∀ b o,s2.heap.get? b=some o->s₃.heap.get? b=some o:=λb o e=>by rw [← hs3];exact Heap.get?_push_of_some _ e
 have hk3:∀ b o,s₃.heap.get? b=some o->h₁.get? b=some o:=λb o e=>hsb₁.extBut b o (Nat.ne_of_lt (Heap.lt_size e)) (Heap.get?_push_of_some _ e)
 have t3:tn 0 h₁:=T.keep _ _ _ t0 λb _ o e=>hk3 b o (hk2 b o e)
 have loop:∀ (R:Result->Shared->Prop),(∀ f s',(∃ σ' H' i m ys,Inv (cxComp X scope cl s₃.heap.objs.size x (x :: caps) s₃ H₃ pins fp (notedBy (model X.prog X.w) X.A (compEnvC scope cl s₃.heap.objs.size X.env) λe s'=>R (.error e) s')) [] σ' H' s'/\W i m ys H'/\D.nx (σ.set iN (some (.ref s2.heap.objs.size))) H')->R (.ok f) s') ->
     ∀ tk,codeAny (model X.prog X.w) X.A (.compLoop (.ListComp elt [⟨.Name x px,iter,ifs,0⟩] scope pos) 0 (.ref it) (.ref s2.heap.objs.size) (compEnvC scope cl s₃.heap.objs.size X.env)) R { s₃ with heap:=h₁,toks:=tk }:=by
   intro R hR tk
   have I4:=Inv.enter (E':=notedBy (model X.prog X.w) X.A (compEnvC scope cl s₃.heap.objs.size X.env) λe s'=>R (.error e) s') (tk:=tk) O I3 (λb hb=>⟨hf3 b hb,Nat.lt_trans (fpl b hb) hsz⟩) hcap hjs hkc (by simpa using hns₁) hk3
   have stat:∀ {H':Hp},(∀ b∈fp,H' b=none)->∀ b∈fp,FpOk (cxComp X scope cl s₃.heap.objs.size x (x :: caps) s₃ H₃ pins fp (notedBy (model X.prog X.w) X.A (compEnvC scope cl s₃.heap.objs.size X.env) λe s'=>R (.error e) s')) [] H' b:=λhn b hb=>by
     obtain ⟨f0,f1,f2,f3,f4,f5⟩:=hf3 b hb
     refine ⟨hn b hb,Nat.ne_of_lt (Nat.lt_trans (fpl b hb) hsz),λz=>?_,.inl hb,λy c e=>f4 y c (O.sub _ (mem_of_lookup e)),λp hp=>f5 p (by simpa [cxComp] using hp)⟩
     rcases List.mem_cons.mp (I3.stkSub b z) with q | q
     · exact f1 q
     · exact f2 q
   refine codeAny_compLoop_tests (λn s'=>∃ i v0 ys H',Inv (cxComp X scope cl s₃.heap.objs.size x (x :: caps) s₃ H₃ pins fp (notedBy (model X.prog X.w) X.A (compEnvC scope cl s₃.heap.objs.size X.env) λe s'=>R (.error e) s')) [] (v0 :: capt σ js) H' s'/\tn i s'.heap/\(∀ b∈fp,H' b=none)/\W i n ys H') ?_ m0
     ⟨0,none,[],H₃,I4,t3,λb hb=>(hf3 b hb).1,w0⟩
   rintro n s4 ⟨i,v0,ys,H4,J4,t4,fr4,w4⟩
   obtain ⟨hD,hlen,hor⟩:=step i n ys H4 w4
   rcases hor with ⟨stop,qn⟩ | ⟨go,hy⟩
   · refine thn (T.done (cxComp X scope cl s₃.heap.objs.size x (x :: caps) s₃ H₃ pins fp (notedBy (model X.prog X.w) X.A (compEnvC scope cl s₃.heap.objs.size X.env) λe s'=>R (.error e) s')) rfl rfl rfl hc i [] s4 _ H4 _ J4 (stat fr4) t4 stop) λr s5 ⟨hr,J5⟩=>?_
     subst hr
     exact hR _ _ ⟨_,H4,i,n,ys,J5,w4,qn⟩
   · refine thn (T.item (cxComp X scope cl s₃.heap.objs.size x (x :: caps) s₃ H₃ pins fp (notedBy (model X.prog X.w) X.A (compEnvC scope cl s₃.heap.objs.size X.env) λe s'=>R (.error e) s')) rfl rfl rfl hc i [] s4 _ H4 _ J4 (stat fr4) t4 go) λr s5 ⟨u,hr,h5⟩=>?_
     subst hr
     have ea:assign (.Name x px) (compEnvC scope cl s₃.heap.objs.size X.env) u=(letOwnedTupleGo (.Name x px) (.ref it) u >>= λ_=>assign (.Name x px) (compEnvC scope cl s₃.heap.objs.size X.env) u):=rfl
     show wpAny _ _ (assign (.Name x px) (compEnvC scope cl s₃.heap.objs.size X.env) u) _ _ _
     rw [ea]
     refine wpAny_bind (thn h5 λ_ s6 ⟨y,H6,J6,ry,yl,t6,fr6⟩=>?_)
     have J6':=J6.pinned (stat fr6) (T.obj _ _ t6)
     have hy6:=hy y H6 yl
     refine thn (pg_name (X:=cxComp X scope cl s₃.heap.objs.size x (x :: caps) s₃ H₃ pins fp (notedBy (model X.prog X.w) X.A (compEnvC scope cl s₃.heap.objs.size X.env) λe s'=>R (.error e) s')) (i:=0) (x:=x) (pos:=px) hnd rfl (.inl (lookup_relabel_local O.xloc)) (.inl (beq_self_eq_true x)) _ s6 _ H6 y u (λσ2 H2=>σ2=some y :: capt σ js/\H2=H6) J6' ry ⟨rfl,rfl⟩) λ_ s7 ⟨σ7,H7,J7,e7,e7'⟩=>?_
     subst e7 e7'
     refine thn (ht _ _ _ _ _ _ _ s7 _ H7 _ J7 hy6) λok s8 ⟨H8,J8,q8⟩=>?_
     have back:∀ {σ9:St} {H9:Hp} {s9:Shared},Inv (cxComp X scope cl s₃.heap.objs.size x (x :: caps) s₃ H₃ pins fp (notedBy (model X.prog X.w) X.A (compEnvC scope cl s₃.heap.objs.size X.env) λe s'=>R (.error e) s')) ([]++pinsAt fp s6.heap) σ9 H9 s9->tn (i+1) s9.heap/\∀ b∈fp,H9 b=none:=λJ9=>by
       refine ⟨T.keep _ _ _ t6 λb hb o e=>(J9.pin (b,o) (List.mem_append_right _ (List.mem_append_right _ (mem_pinsAt hb e)))).1,λb hb=>?_⟩
       obtain ⟨o,e,d⟩:=T.obj _ _ t6 b hb
       exact (J9.pin (b,o) (List.mem_append_right _ (List.mem_append_right _ (mem_pinsAt hb e)))).2.1
     cases ok with
     | false =>
       rw [if_neg (by decide)]
       rw [if_neg (by decide)] at q8
       obtain ⟨m',hm,w8⟩:=q8
       obtain ⟨b1,b2⟩:=back J8
       exact ⟨m',hm,i+1,some y,ys,H8,J8.unpinned,b1,b2,w8⟩
     | true =>
       rw [if_pos rfl]
       rw [if_pos rfl] at q8
       refine thn (he _ _ _ _ _ _ _ s8 _ H8 _ J8 q8) λz s9 ⟨vz,H9,J9,rz,hD9,m',hm,w9⟩=>?_
       refine thn (mt_append (X:=cxComp X scope cl s₃.heap.objs.size x (x :: caps) s₃ H₃ pins fp (notedBy (model X.prog X.w) X.A (compEnvC scope cl s₃.heap.objs.size X.env) λe s'=>R (.error e) s')) _ s9 _ H9 (.ref s2.heap.objs.size) [vz] (.ref s2.heap.objs.size) [z] (λ_ H10=>H10=upd H9 s2.heap.objs.size (.lst (ys++[vz]))) J9 rfl (.cons rz .nil) ⟨_,ys,vz,rfl,rfl,hD9,hlen,rfl⟩) λ_ s10 ⟨v10,H10,J10,r10,e10⟩=>?_
       subst e10
       obtain ⟨b1,b2⟩:=back J10
       exact ⟨m',hm,i+1,some y,ys++[vz],_,J10.unpinned,b1,b2,w9⟩
 have fin:∀ tk,codeAny (model X.prog X.w) X.A (.compLoop (.ListComp elt [⟨.Name x px,iter,ifs,0⟩] scope pos) 0 (.ref it) (.ref s2.heap.objs.size) (compEnvC scope cl s₃.heap.objs.size X.env)) (compPost (model X.prog X.w) X.A X.xe (some (assign (.Name yT py) X.env)) (λ_ s'=>SP X pins D .next s') (.ref s2.heap.objs.size) s₃.heap.objs.size) { s₃ with heap:=h₁,toks:=tk }:=λtk=>by
   refine loop _ (λf s' ⟨σ',H',i,m,ys,J',w',qn⟩=>?_) tk
   obtain ⟨mm,hmm,_⟩:=J'.loc
   have I5:Inv X pins σ H' s':=Inv.block I3 hf3 J' (Heap.SameBut.refl _ _)
   show wpAny _ _ (assign (.Name yT py) X.env _) _ _ _
   refine wpAny_assign_Name (store_ok2 I5 hN hiN hyL (v:=.ref s2.heap.objs.size) rfl (λs6 I6 ⟨a6,hs6,ha6⟩=>?_) hfN)
   have neL:s₃.heap.objs.size≠X.env.locals:=(Nat.ne_of_lt I3.lt).symm
   have neCl:∀ y c,X.env.cells.lookup y=some c->c≠s₃.heap.objs.size:=λy c z=>by
     obtain ⟨v,q⟩:=I3.cell _ _ z
     exact Nat.ne_of_lt q.lt
   have neC:s₃.heap.objs.size≠a6:=by
     rcases ha6 with z | z
     · rw [z];exact neL
     · exact (neCl _ _ z).symm
   have fr:H' s₃.heap.objs.size=none:=J'.free
   refine ⟨mm,Heap.Ns.sameBut hmm hs6 neC,λh' hs'=>⟨_,H',I6.turned (t':=s6.toks) (it:=s₃.heap.objs.size) (λb o hb e=>(hs'.2 b hb).trans e) fr neL (.inr I3.sz) neCl (λp hp=>Nat.ne_of_lt (Heap.lt_size (I3.pin p hp).1)),qn⟩⟩
 exact codeAny_compStart_list (fin _) (T.self _ _ _ _ _ t3 (fin _))
end
end L2

namespace PySem
open Sem (wp)
def SqI (b:Bool) (h:Heap) (i l:Addr) (k:Nat):Prop:=match b with
 | false=>h.IsListIter i l k
 | true=>h.IsTupleIter i l k
def SqA (b:Bool) (h:Heap) (l:Addr) (xs:Array Value):Prop:=match b with
 | false=>h.IsList l xs
 | true=>h.IsTuple l xs
theorem SqI.at {b:Bool} {h h':Heap} {i l:Addr} {k:Nat} (x:SqI b h i l k) (e:∀ o,h.get? i=some o->h'.get? i=some o):SqI b h' i l k:=by
 cases b<;>(obtain ⟨o,h1,r⟩:=x;exact ⟨o,e o h1,r⟩)
theorem SqA.at {b:Bool} {h h':Heap} {l:Addr} {xs:Array Value} (x:SqA b h l xs) (e:∀ o,h.get? l=some o->h'.get? l=some o):SqA b h' l xs:=by
 cases b<;>(obtain ⟨o,h1,r⟩:=x;exact ⟨o,e o h1,r⟩)
theorem SqI.obj {b:Bool} {h:Heap} {i l:Addr} {k:Nat} (x:SqI b h i l k):∃ o,h.get? i=some o/\∀ v,o.data≠.cell v:=by
 cases b<;>(obtain ⟨o,h1,_,h3⟩:=x;exact ⟨o,h1,λv z=>by rw [h3] at z;cases z⟩)
theorem SqA.lt {b:Bool} {h:Heap} {l:Addr} {xs:Array Value} (x:SqA b h l xs):l < h.objs.size:=by
 cases b<;>(obtain ⟨o,h1,_⟩:=x;exact Heap.lt_size h1)
section
variable {prog:Program} {w:World} {A:Around} {E:Value->Shared->Prop} {s:Shared}
abbrev zipT1 (h:Heap) (l1:Addr):Heap:=h.push { cls:=.type "tuple_iterator",data:=.fields #[.ref l1,.int 0 0] }
abbrev zipT2 (h:Heap) (l1 l2:Addr):Heap:=(zipT1 h l1).push { cls:=.type "tuple_iterator",data:=.fields #[.ref l2,.int 0 0] }
abbrev zipT3 (h:Heap) (l1 l2:Addr):Heap:=(zipT2 h l1 l2).push { cls:=.type "tuple",data:=.seq #[.ref h.objs.size,.ref (zipT1 h l1).objs.size] }
abbrev zipT4 (h:Heap) (l1 l2:Addr):Heap:=(zipT3 h l1 l2).push { cls:=.type "tuple",data:=.seq #[.none,.none] }
abbrev zipT5 (h:Heap) (l1 l2:Addr):Heap:=(zipT4 h l1 l2).push { cls:=.type "zip",data:=.fields #[.none,.bool false,.bool false,.ref (zipT2 h l1 l2).objs.size,.ref (zipT3 h l1 l2).objs.size] }
end
end PySem
namespace L2
open PySem PySem.Spec PyProof.Rows
def Sq (b:Bool) (K:PySem.W.Frag) (H:Hp) (a:Addr) (xs:List V):Prop:=match b with
 | false=>SqL K H a xs
 | true=>SqT K H a xs
theorem Sq.same {b:Bool} {K:PySem.W.Frag} {H H':Hp} {a:Addr} {xs:List V} (e:Same H H') (h:Sq b K H a xs):Sq b K H' a xs:=by
 cases b
 · exact e.seq h
 · exact e.seqT h
section
variable {X:Cx}
theorem Inv.turnedL {pins:List (Addr × Obj)} {σ:St} {H:Hp} {s:Shared} {h':Heap} {t':Nat} {ch:List Addr} (I:Inv X pins σ H s) (hf:∀ b∈ch,FpOk X pins H b) (k:∀ b o,b ∉ ch->s.heap.get? b=some o->h'.get? b=some o):Inv X pins σ H { s with heap:=h',toks:=t' }:=by
 refine I.step (g':=s.gens) (d':=s.drawn) (ch:=ch) (λb hb=>?_) (λb o _ _ n e _=>k b o n e) (λb o _ _ n e _=>⟨o.slots,k b o n e⟩) (λ_ _ _ _ n=>n) (λb o n e=>⟨o,k b o n e⟩) (λ_ _ q=>q) (λ_ _ _ q=>q) (λ_ ps q=>⟨#[],by rw [Array.append_empty];exact q⟩) (λm hm=>?_) (λa o e=>?_) I.bare
 · obtain ⟨_,f1,_,f3,f4,f5⟩:=hf b hb
   exact ⟨f3,f1,f4,f5⟩
 · obtain ⟨o,es,ep,ho,r⟩:=hm
   exact ⟨o,es,ep,k _ o (λz=>(hf _ z).2.1 rfl) ho,r⟩
 · refine (I.hok a o e).stay (λb u hb q=>k b u (λz=>?_) q) (λ_ q=>q) λ_ _ q=>q
   have n:=(hf b z).1
   rcases hb with rfl | hb
   · rw [n] at e;cases e
   · rw [n] at hb;cases hb
theorem Inv.aptSz {pins:List (Addr × Obj)} {σ:St} {H:Hp} {s:Shared} {b:Addr} (I:Inv X pins σ H s) (hb:s.heap.objs.size <= b) (hn:H b=none):Apt X pins H b:=by
 obtain ⟨_,f1,_,_,f4,f5⟩:=I.fpOk hb hn
 refine ⟨?_,hn,f1,f4,f5⟩
 cases q:X.s₀.heap.get? b with
 | none=>rfl
 | some o=>exact absurd (Nat.lt_of_lt_of_le (Heap.lt_size q) (Nat.le_trans I.sz hb)) (Nat.lt_irrefl _)
def Itz (b:Bool) (K:PySem.W.Frag) (a1 a2:Addr):It :=
 ⟨λi H=>∃ xs ys x y,Sq b K H a1 xs/\Sq b K H a2 ys/\xs[i]?=some x/\ys[i]?=some y,
  λi H v H'=>∃ T x y,H T=none/\v=.ref T/\H'=upd H T (.tup [x,y])/\(∀ xs,Sq b K H a1 xs->xs[i]?=some x)/\∀ ys,Sq b K H a2 ys->ys[i]?=some y,
  λi H=>∃ xs,Sq b K H a1 xs/\xs.length <= i⟩
def iZip (b:Bool) (K:PySem.W.Frag) (ta:TA):TI:=λσ H R=>ta σ H λvs H1=>∃ a1 a2 xs ys,vs=[.ref a1,.ref a2]/\Sq b K H1 a1 xs/\Sq b K H1 a2 ys/\R (Itz b K a1 a2) H1
def iZips (K:PySem.W.Frag) (ta:TA):TI:=λσ H R=>ta σ H λvs H1=>∃ b a1 a2 xs ys,vs=[.ref a1,.ref a2]/\Sq b K H1 a1 xs/\Sq b K H1 a2 ys/\R (Itz b K a1 a2) H1
end
end L2

namespace L2
open PySem PySem.Spec PyProof.Rows
section
variable {X:Cx}
def tRevS (K:PySem.W.Frag) (te tk:TE):TE:=λσ H Q=>te σ H λx H1=>tk σ H1 λy H2=>y=.int (-1)/\∃ a xs,x=.ref a/\SqL K H2 a xs/\∀ p,H2 p=none->Q (.ref p) (upd H2 p (.lst xs.reverse))
theorem Vals.rev:∀ {xs:List V} {us:List Value},Vals xs us->Vals xs.reverse us.reverse
 | _,_,.nil=>.nil
 | x :: xs,u :: us,.cons r t=>by
   rw [List.reverse_cons,List.reverse_cons]
   exact (Vals.rev t).append (.cons r .nil)
def rRemove:V->List V->Hp->VK->Prop:=λx vs H Q=>∃ (l:Addr) (ns:List Int) (i:Int),x=.ref l/\vs=[.int i]/\H l=some (.lst (ns.map V.int))/\i∈ns/\Q .non (upd H l (.lst ((ns.erase i).map V.int)))
theorem intsAt:∀ {us:List Value} {ns:List Int} {m:Nat} {n:Int},IntsAre us ns->ns[m]?=some n->∃ t,us[m]?=some (.int n t)
 | _,_,_,_,.nil,h=>by simp at h
 | _,_,0,_,.cons n t _,h=>by simp at h;subst h;exact ⟨t,rfl⟩
 | _,_,m+1,_,.cons _ _ r,h=>by
   obtain ⟨t,e⟩:=intsAt (m:=m) r (by simpa using h)
   exact ⟨t,by simpa using e⟩
theorem Vals.erase:∀ {xs:List V} {us:List Value} (j:Nat),Vals xs us->Vals (xs.eraseIdx j) (us.eraseIdx j)
 | _,_,_,.nil=>.nil
 | _,_,0,.cons _ t=>t
 | _,_,j+1,.cons r t=>.cons r (Vals.erase j t)
theorem erase_map {α β:Type} (f:α->β):∀ (xs:List α) (j:Nat),(xs.map f).eraseIdx j=(xs.eraseIdx j).map f
 | [],_=>rfl
 | _ :: _,0=>rfl
 | x :: xs,j+1=>by
   show f x :: (xs.map f).eraseIdx j=f x :: (xs.eraseIdx j).map f
   rw [erase_map f xs j]
theorem mt_remove:MtM X "list.remove" rRemove:=by
 intro pins s σ H x vs v us Q I rx rv h
 obtain ⟨l,ns,i,rfl,rfl,hH,hi,q⟩:=h
 cases rx
 obtain ⟨u,rfl,ru⟩:=rv.one
 obtain ⟨t,rfl⟩:=ru
 obtain ⟨z,its,n,r,hl,e⟩:=I.lstM hH
 have ia:=intsAre_of r
 rw [List.length_map] at hl z
 have hj:ns.idxOf i < ns.length:=List.idxOf_lt_length_of_mem hi
 obtain ⟨tj,hitj⟩:=intsAt ia (List.getElem?_eq_getElem hj)
 rw [List.getElem_idxOf hj] at hitj
 have hjs:ns.idxOf i < its.toArray.size:=by rw [List.size_toArray,← hl];exact hj
 let f:Value->Bool:=λy=>match y with
   | .int a _=>a == i
   | _=>false
 have eit:its.toArray[ns.idxOf i]=.int i tj:=by
   have h2:its.toArray[ns.idxOf i]?=some (.int i tj):=by rw [← Array.getElem?_toList];exact hitj
   rw [Array.getElem?_eq_getElem hjs] at h2
   exact Option.some.inj h2
 refine call_meets F.slot_list_remove ⟨_,e,rfl⟩ F.entry_list_remove (F.args_list_remove_2 _ _)
   (MeetsSeq.list_remove l its.toArray n (.int i t) f (λy hy=>?_) (ns.idxOf i) hjs (by rw [eit];simp [f]) (λm hm hlt=>?_) (by rw [List.size_toArray];omega)) ⟨e,?_⟩
 · obtain ⟨m,hm,rfl⟩:=List.getElem_of_mem (Array.mem_toList_iff.mpr hy)
   have hmn:m < ns.length:=by
     have:m < its.length:=hm
     omega
   obtain ⟨t',ht'⟩:=intsAt ia (List.getElem?_eq_getElem hmn)
   have:its.toArray.toList[m]=.int ns[m] t':=by
     have h2:=List.getElem?_eq_getElem (l:=its) (show m < its.length from hm)
     rw [ht'] at h2
     exact (Option.some.inj h2).symm
   rw [this]
   exact MeetsSeq.EqGives.int _ _ _ _
 · have hmn:m < ns.length:=by omega
   obtain ⟨t',ht'⟩:=intsAt ia (List.getElem?_eq_getElem hmn)
   have em:its.toArray[m]=.int ns[m] t':=by
     have h2:its.toArray[m]?=some (.int ns[m] t'):=by rw [← Array.getElem?_toList];exact ht'
     rw [Array.getElem?_eq_getElem hm] at h2
     exact Option.some.inj h2
   rw [em]
   show (ns[m] == i)=false
   have:=List.not_of_lt_findIdx (p:=(· == i)) (xs:=ns) (i:=m) hlt
   simpa using this
 · have ee:(ns.erase i).map V.int=(ns.map V.int).eraseIdx (ns.idxOf i):=by
     rw [List.erase_eq_eraseIdx_of_idxOf rfl,erase_map]
   rw [ee] at q
   refine ⟨.non,_,I.lset (its':=its.eraseIdx (ns.idxOf i)) hH e ?_ (Vals.erase _ r) ?_,rfl,q⟩
   · show its.toArray.eraseIdxIfInBounds (ns.idxOf i)=(its.eraseIdx (ns.idxOf i)).toArray
     rw [List.eraseIdxIfInBounds_toArray]
   · have:=List.length_eraseIdx_le (ns.map V.int) (ns.idxOf i)
     rw [List.length_map] at this
     omega
end
end L2

namespace L2
open PySem PySem.Spec PyProof.Rows
section
variable {X:Cx}
end
end L2

namespace L2
open PySem PySem.Spec PyProof.Rows
theorem pyHash_none {prog:Program} {w:World} {A:Around} {E:Value->Shared->Prop} {s:Shared} {Q:Int->Shared->Prop} (h:Q 4238894112 { s with toks:=s.toks+1 }):wpAny (model prog w) A (pyHash .none) Q E s:=by
 have hT:s.TypeIs Value.none "NoneType":=rfl
 unfold pyHash
 have hv:[Value.none].any Value.onHeap=false:=rfl
 refine wpAny_bind ?_
 rw [cRoomFor,if_neg (by rw [hv];exact Bool.false_ne_true)];refine wpAny_pure ?_
 refine wpAny_bind (wpAny_specialOf hT PySem.F.slot_NoneType_hash.lookup ?_)
 show wpAny _ _ (if (some (Value.builtin "NoneType.__hash__") == some Value.none)=true then _ else _) Q E s
 rw [if_neg (by rw [beq_builtin_none];exact Bool.false_ne_true)]
 refine wpAny_bind (wpAny_specialOf hT PySem.F.slot_NoneType_hash.lookup ?_)
 show wpAny _ _ (callSpecialIfBoundUnlessNone? Value.none "__hash__" _ >>= _) Q E s
 refine wpAny_bind (wpAny_callSpecialIfBoundUnlessNone?_slot hT PySem.F.slot_NoneType_hash
   (wpAny_call_entry PySem.F.slot_NoneType_hash hT PySem.F.entry_NoneType_hash
     (show wpAny _ _ (do ret (← mkInt 4238894112)) _ _ s from wpAny_ret_mkInt ?_) (PySem.F.args_NoneType_hash_1 _)))
 show wpAny _ _ (if (decide (-(2:Int) ^ 63 <= 4238894112) && decide ((4238894112:Int) < 2 ^ 63))=true then _ else _) Q E _
 rw [if_pos (by decide)]
 exact wpAny_pure h
def optIs:Option Key->Value->Bool
 | none,.none=>true
 | none,_=>false
 | some k,v=>keyIs k v
theorem optIs_none {v:Value} (h:optIs none v=true):v=.none:=by
 cases v<;>first | rfl | cases h
def optKind (prog:Program) (w:World):PySem.KeyKind prog w (Option Key) where
 is:=optIs
 hash:=λk=>match k with
   | none=>4238894112
   | some k=>keyH w k
 inj:=λv a b ha hb=>by
   cases a with
   | none =>
     cases optIs_none ha
     cases b with
     | none=>rfl
     | some k=>rcases keyIs_shape (show keyIs k Value.none=true from hb) with ⟨i,t,_,e⟩ | ⟨x,t,_,e⟩<;>cases e
   | some k =>
     cases b with
     | none =>
       cases optIs_none hb
       rcases keyIs_shape (show keyIs k Value.none=true from ha) with ⟨i,t,_,e⟩ | ⟨x,t,_,e⟩<;>cases e
     | some k'=>rw [(mixKind prog w).inj v k k' ha hb]
 byValue:=λk v h=>by
   cases k with
   | none=>cases optIs_none h;rfl
   | some k=>exact (mixKind prog w).byValue k v h
 pyHash:=λ{A E s k v Q} hv h=>by
   cases k with
   | none=>cases optIs_none hv;exact pyHash_none h
   | some k=>exact (mixKind prog w).pyHash (k:=k) hv h
 eqBool:=λ{A E s a b u v Q} hu hv h=>by
   cases a with
   | none =>
     cases optIs_none hu
     cases b with
     | none=>cases optIs_none hv;exact SeqAt.EqAt.same Value.none _ _ _ _ h
     | some k =>
       rcases keyIs_shape (show keyIs k v=true from hv) with ⟨i,t,rfl,rfl⟩ | ⟨x,t,rfl,rfl⟩
       · exact SeqAt.EqAt.none_int i t _ _ _ _ h
       · exact SeqAt.EqAt.none_str x t _ _ _ _ h
   | some k =>
     cases b with
     | none =>
       cases optIs_none hv
       rcases keyIs_shape (show keyIs k u=true from hu) with ⟨i,t,rfl,rfl⟩ | ⟨x,t,rfl,rfl⟩
       · exact SeqAt.EqAt.int_none i t _ _ _ _ h
       · exact SeqAt.EqAt.str_none x t _ _ _ _ h
     | some k' =>
       refine (mixKind prog w).eqBool (a:=k) (b:=k') hu hv ?_
       have e:decide (some k=some k')=decide (k=k'):=by
         rw [decide_eq_decide];exact ⟨λz=>Option.some.inj z,λz=>by rw [z]⟩
       rw [← e];exact h
 «strs»:=λk x t v h=>by
   cases k with
   | none=>cases h
   | some k=>exact (mixKind prog w).strs k x t v h
def tDPop2N (td ty tx:TE):TE:=λσ H Q=>td σ H λx H1=>∃ a,x=.ref a/\IsD H1 a/\ty σ H1 λy H2=>tx σ H2 λz H3=>∃ kvs,H3 a=some (.dK kvs) /\
 ((∃ k,y=kV k/\(∀ v,valV kvs k=some v->Q v (upd H3 a (.dK (dropK kvs k))))/\(valV kvs k=none->Q z H3))\/(y=.non/\Q z H3))
end L2

namespace L2
open PySem PySem.Spec PyProof.Rows
theorem own_of {x hd rl:Addr} {l:Bool->Addr} {c:Addr} (hc:c=x\/c=hd\/c=rl\/∃ b,c=l b):Sto.own x hd rl l c:=by
 rcases hc with h | h | h | ⟨b',h⟩
 · exact .inl h
 · exact .inr (.inl h)
 · exact .inr (.inr (.inl h))
 · cases b'
   · exact .inr (.inr (.inr (.inl h)))
   · exact .inr (.inr (.inr (.inr h)))
theorem own_l {x hd rl:Addr} {l:Bool->Addr} (b:Bool):Sto.own x hd rl l (l b):=own_of (.inr (.inr (.inr ⟨b,rfl⟩)))
theorem Sto.kp {w:World} {C:Addr} {H H':Hp} {x hd rl:Addr} {l:Bool->Addr} {M:List (PyData × V)} {r:Bool->List (PyData × V)} {xs:List Addr} (S:Sto w C H x hd rl l M r) (k:Kp xs H H') (h:∀ c∈xs,¬ Sto.own x hd rl l c) (ht:∀ c∈xs,∀ vs,H c≠some (.tup vs)):Sto w C H' x hd rl l M r :=
 S.keep (λc o hc e=>k c o (λz=>h c z (own_of hc)) e) λc vs e=>k c _ (λz=>ht c z vs e) e
theorem Kp.one {H:Hp} {c:Addr} {o:HO}:Kp [c] H (upd H c o):=λb u n e=>by rw [upd_ne λz=>n (List.mem_singleton.mpr z)];exact e
theorem fld {K:PySem.W.Frag} {H:Hp} {a C dx:Addr} {fs:List (Str × V)} {v:V} {f:Str} {Q:V->Prop} (hx:H a=some (.ins C dx fs)) (c:Cls K C) (na:NoAttr K C f) (l:fs.lookup f=some v) (q:Q v) :
   ∃ a' C' dx' fs' v',V.ref a=.ref a'/\H a'=some (.ins C' dx' fs')/\Cls K C'/\NoAttr K C' f/\fs'.lookup f=some v'/\Q v':=⟨a,C,dx,fs,v,rfl,hx,c,na,l,q⟩
structure RP where
 s:Int
 R:Int
 e:Bool
structure RP.Ok (p:RP):Prop where
 s0:0 < p.s
 s8:p.s <= 8
 sR:0 < p.s * p.R
structure SA where
 x:Addr
 hd:Addr
 rl:Addr
 l:Bool->Addr
abbrev SA.At (w:World) (C:Addr) (H:Hp) (z:SA) (M:List (PyData × V)) (r:Bool->List (PyData × V)):Prop:=Sto w C H z.x z.hd z.rl z.l M r
def SA.own (z:SA) (c:Addr):Prop:=Sto.own z.x z.hd z.rl z.l c
def rF (st:Addr) (b:Bool) (w0 w1 w2:Str) (p:RP):List (Str × V) :=
 putF "counter_first" (.bl p.e) (putF "rounds" (.int p.R) (putF "size" (.int p.s) (putF "fetched" (.str w2) (putF "laid" (.str w1) (putF "word" (.str w0) (putF "side" (.int (sdI b)) (putF "shelf" (.ref st) [])))))))
section
variable {st:Addr} {b:Bool} {w0 w1 w2:Str} {p:RP}
end
def Rn (CR:Addr) (H:Hp) (q st:Addr) (b:Bool) (w0 w1 w2:Str) (p:RP):Prop:=∃ dx,H q=some (.ins CR dx (rF st b w0 w1 w2 p))
def gK (ns:List Int):List (Key × V):=ns.map λi=>(.inl i,.bl true)
theorem gK_val (i:Int):∀ ns:List Int,valV (gK ns) (.inl i)=if ns.contains i then some (.bl true) else none
 | []=>rfl
 | n :: ns=>by
   by_cases h:n=i
   · subst h
     show valV ((Sum.inl n,V.bl true) :: gK ns) _=_
     rw [valV_pos rfl,List.contains_cons];simp
   · show valV ((Sum.inl n,V.bl true) :: gK ns) _=_
     rw [valV_neg (λz=>h (Sum.inl.inj z)),gK_val i ns,List.contains_cons]
     have:(i == n)=false:=by simpa using λz=>h z.symm
     rw [this];rfl
theorem gK_put (i:Int) (ns:List Int) (h:ns.contains i=false):putK (gK ns) (.inl i) (.bl true)=gK (ns++[i]):=by
 unfold putK
 rw [valV_any,gK_val,h]
 simp [gK]
theorem gK_drop (i:Int):∀ ns:List Int,dropK (gK ns) (.inl i)=gK (ns.filter (λn=>decide (n≠i)))
 | []=>rfl
 | n :: ns=>by
   have ih:=gK_drop i ns
   unfold dropK gK at ih ⊢
   rw [List.map_cons,List.filter_cons,List.filter_cons,ih]
   have e:decide (((Sum.inl n,V.bl true):Key × V).1≠Sum.inl i)=decide (n≠i):=by
     by_cases h:n=i
     · subst h;simp
     · have:(Sum.inl n:Key)≠Sum.inl i:=λz=>h (Sum.inl.inj z)
       simp [h,this]
   rw [e]
   split<;>rfl
theorem gK_len (ns:List Int):(gK ns).length=ns.length:=by unfold gK;rw [List.length_map]
def gNext (ns:List Int) (i:Int):List Int:=if ns.contains i then ns else ns++[i]
structure HA where
 h:Addr
 ra:Addr
 rb:Addr
 gd:Addr
def hF (z:HA) (n:Int):List (Str × V):=putF "going" (.ref z.gd) (putF "names" (.int n) (putF "answers" (.ref z.rb) (putF "asks" (.ref z.ra) [])))
section
variable {z:HA} {n:Int}
end
structure Hn (CH CR:Addr) (H:Hp) (z:HA) (st:Addr) (p:RP) (n:Int) (aw:List Int):Prop where
 ob:∃ dx,H z.h=some (.ins CH dx (hF z n))
 ra:Rn CR H z.ra st false "ask" "asked" "taken" p
 rb:Rn CR H z.rb st false "answer" "answered" "handed" p
 go:H z.gd=some (.dK (gK aw))
def HA.own (z:HA) (c:Addr):Prop:=c=z.h\/c=z.ra\/c=z.rb\/c=z.gd
structure TA' where
 h:Addr
 ra:Addr
 rb:Addr
 gd:Addr
def tF (z:TA'):List (Str × V):=putF "doing" (.ref z.gd) (putF "answers" (.ref z.rb) (putF "asks" (.ref z.ra) []))
section
variable {z:TA'}
end
structure Tn (CT CR:Addr) (H:Hp) (z:TA') (st:Addr) (p:RP) (ts:List Int):Prop where
 ob:∃ dx,H z.h=some (.ins CT dx (tF z))
 ra:Rn CR H z.ra st true "ask" "asked" "taken" p
 rb:Rn CR H z.rb st true "answer" "answered" "handed" p
 go:H z.gd=some (.dK (gK ts))
def TA'.own (z:TA') (c:Addr):Prop:=c=z.h\/c=z.ra\/c=z.rb\/c=z.gd
section
variable {CH CT CR:Addr} {H H':Hp} {st:Addr} {p:RP} {n:Int} {aw:List Int}
theorem Rn.keep {q:Addr} {b:Bool} {w0 w1 w2:Str} (r:Rn CR H q st b w0 w1 w2 p) (k:∀ o,H q=some o->H' q=some o):Rn CR H' q st b w0 w1 w2 p:=by
 obtain ⟨dx,hx⟩:=r
 exact ⟨dx,k _ hx⟩
theorem Hn.keep {z:HA} (B:Hn CH CR H z st p n aw) (k:∀ c o,z.own c->H c=some o->H' c=some o):Hn CH CR H' z st p n aw:=by
 obtain ⟨dx,hx⟩:=B.ob
 exact ⟨⟨dx,k _ _ (.inl rfl) hx⟩,B.ra.keep λo=>k _ o (.inr (.inl rfl)),B.rb.keep λo=>k _ o (.inr (.inr (.inl rfl))),k _ _ (.inr (.inr (.inr rfl))) B.go⟩
theorem Hn.same {z:HA} (B:Hn CH CR H z st p n aw) (q:Same H H'):Hn CH CR H' z st p n aw:=B.keep λc o _=>q c o
theorem Hn.there {z:HA} (B:Hn CH CR H z st p n aw) {c:Addr} (hc:z.own c):∃ o,H c=some o/\((∃ C dx fs,o=.ins C dx fs)\/∃ kvs,o=.dK kvs):=by
 rcases hc with rfl | rfl | rfl | rfl
 · obtain ⟨dx,hx⟩:=B.ob;exact ⟨_,hx,.inl ⟨_,_,_,rfl⟩⟩
 · obtain ⟨dx,hx⟩:=B.ra;exact ⟨_,hx,.inl ⟨_,_,_,rfl⟩⟩
 · obtain ⟨dx,hx⟩:=B.rb;exact ⟨_,hx,.inl ⟨_,_,_,rfl⟩⟩
 · exact ⟨_,B.go,.inr ⟨_,rfl⟩⟩
theorem Hn.lists {z:HA} {xs:List Addr} (B:Hn CH CR H z st p n aw) (k:Kp xs H H') (hx:∀ c∈xs,(∃ ys,H c=some (.lst ys))\/∃ ee:List DictEntry × Nat,H c=some (DObj c ee.1 ee.2)):Hn CH CR H' z st p n aw :=
 B.keep λc o hc q=>k c o (λm=>by
   obtain ⟨o',e,s⟩:=B.there hc
   rcases hx c m with ⟨ys,e'⟩ | ⟨ee,e'⟩
   · rw [e] at e';cases e'
     rcases s with ⟨_,_,_,s⟩ | ⟨_,s⟩<;>cases s
   · rw [e] at e';cases e'
     rcases s with ⟨_,_,_,s⟩ | ⟨_,s⟩<;>cases s) q
theorem Tn.keep {z:TA'} (B:Tn CT CR H z st p aw) (k:∀ c o,z.own c->H c=some o->H' c=some o):Tn CT CR H' z st p aw:=by
 obtain ⟨dx,hx⟩:=B.ob
 exact ⟨⟨dx,k _ _ (.inl rfl) hx⟩,B.ra.keep λo=>k _ o (.inr (.inl rfl)),B.rb.keep λo=>k _ o (.inr (.inr (.inl rfl))),k _ _ (.inr (.inr (.inr rfl))) B.go⟩
theorem Tn.same {z:TA'} (B:Tn CT CR H z st p aw) (q:Same H H'):Tn CT CR H' z st p aw:=B.keep λc o _=>q c o
theorem Tn.there {z:TA'} (B:Tn CT CR H z st p aw) {c:Addr} (hc:z.own c):∃ o,H c=some o/\((∃ C dx fs,o=.ins C dx fs)\/∃ kvs,o=.dK kvs):=by
 rcases hc with rfl | rfl | rfl | rfl
 · obtain ⟨dx,hx⟩:=B.ob;exact ⟨_,hx,.inl ⟨_,_,_,rfl⟩⟩
 · obtain ⟨dx,hx⟩:=B.ra;exact ⟨_,hx,.inl ⟨_,_,_,rfl⟩⟩
 · obtain ⟨dx,hx⟩:=B.rb;exact ⟨_,hx,.inl ⟨_,_,_,rfl⟩⟩
 · exact ⟨_,B.go,.inr ⟨_,rfl⟩⟩
theorem Tn.lists {z:TA'} {xs:List Addr} (B:Tn CT CR H z st p aw) (k:Kp xs H H') (hx:∀ c∈xs,(∃ ys,H c=some (.lst ys))\/∃ ee:List DictEntry × Nat,H c=some (DObj c ee.1 ee.2)):Tn CT CR H' z st p aw :=
 B.keep λc o hc q=>k c o (λm=>by
   obtain ⟨o',e,s⟩:=B.there hc
   rcases hx c m with ⟨ys,e'⟩ | ⟨ee,e'⟩
   · rw [e] at e';cases e'
     rcases s with ⟨_,_,_,s⟩ | ⟨_,s⟩<;>cases s
   · rw [e] at e';cases e'
     rcases s with ⟨_,_,_,s⟩ | ⟨_,s⟩<;>cases s) q
end
def least (n:Nat) (aw:List Int):Option Int:=(List.range n).map (λ(k:Nat)=>(k:Int)) |>.find? λk=>!aw.contains k
theorem up1 {H:Hp} {a b:Addr} {o:HO} (h:upd H a o b=none):b≠a/\H b=none:=by
 have n:b≠a:=λz=>by rw [z,upd_same] at h;cases h
 exact ⟨n,by rw [upd_ne n] at h;exact h⟩
theorem none_back {H H':Hp} {c:Addr} (e:Same H H') (h:H' c=none):H c=none:=by
 cases z:H c with
 | none=>rfl
 | some o=>rw [e c o z] at h;cases h
def layRow (p:RP) (w0 w1:Str) (A:Int) (t:V):List (PyData × V) :=
 if p.e then [(.str w1,.int ((A+1) % (p.s * p.R))),(.tuple [.str w0,.int (A % p.s)],t)] else [(.tuple [.str w0,.int (A % p.s)],t),(.str w1,.int ((A+1) % (p.s * p.R)))]
theorem mthE {H:Hp} {a C:Addr} {fs:List (Str × V)} {m:Str} {q:Prop} (hx:∃ dx,H a=some (.ins C dx fs)) (l:fs.lookup m=none) (h:q) :
   ∃ a' dx' fs',V.ref a=.ref a'/\H a'=some (.ins C dx' fs')/\fs'.lookup m=none/\q:=let ⟨dx,hx⟩:=hx;⟨a,dx,fs,rfl,hx,l,h⟩
structure HB (w:World) (CH CR CS:Addr) (H:Hp) (z:HA) (sa:SA) (p:RP) (n:Int) (aw:List Int) (M:List (PyData × V)) (r:Bool->List (PyData × V)):Prop where
 hn:Hn CH CR H z sa.x p n aw
 so:sa.At w CS H M r
def HB.own (z:HA) (sa:SA) (c:Addr):Prop:=sa.own c\/z.own c
section
variable {w:World} {CH CR CS:Addr} {H H':Hp} {z:HA} {sa:SA} {p:RP} {n:Int} {aw:List Int} {M:List (PyData × V)} {r:Bool->List (PyData × V)}
theorem HB.keep (B:HB w CH CR CS H z sa p n aw M r) (k:∀ c o,HB.own z sa c->H c=some o->H' c=some o) (ht:∀ b vs,H b=some (.tup vs)->H' b=some (.tup vs)):HB w CH CR CS H' z sa p n aw M r :=
 ⟨B.hn.keep λc o hc=>k c o (.inr hc),B.so.keep (λc o hc=>k c o (.inl (own_of hc))) ht⟩
theorem HB.same (B:HB w CH CR CS H z sa p n aw M r) (q:Same H H'):HB w CH CR CS H' z sa p n aw M r:=B.keep (λc o _=>q c o) λb vs=>q b _
theorem HB.there (B:HB w CH CR CS H z sa p n aw M r) {c:Addr} (hc:HB.own z sa c):∃ o,H c=some o/\∀ vs,o≠.tup vs:=by
 rcases hc with hc | hc
 · exact B.so.there hc
 · obtain ⟨o,e,⟨_,_,_,s⟩ | ⟨_,s⟩⟩:=B.hn.there hc
   · exact ⟨o,e,λvs z=>by rw [z] at s;cases s⟩
   · exact ⟨o,e,λvs z=>by rw [z] at s;cases s⟩
theorem HB.kp {xs:List Addr} (B:HB w CH CR CS H z sa p n aw M r) (k:Kp xs H H') (hx:∀ c∈xs,¬ HB.own z sa c) (ht:∀ c∈xs,∀ vs,H c≠some (.tup vs)):HB w CH CR CS H' z sa p n aw M r :=
 B.keep (λc o hc q=>k c o (λz=>hx c z hc) q) λb vs q=>k b _ (λz=>ht b z vs q) q
end
structure TB (w:World) (CT CR CS:Addr) (H:Hp) (z:TA') (sa:SA) (p:RP) (aw:List Int) (M:List (PyData × V)) (r:Bool->List (PyData × V)):Prop where
 tn:Tn CT CR H z sa.x p aw
 so:sa.At w CS H M r
def TB.own (z:TA') (sa:SA) (c:Addr):Prop:=sa.own c\/z.own c
section
variable {w:World} {CT CR CS:Addr} {H H':Hp} {z:TA'} {sa:SA} {p:RP} {aw:List Int} {M:List (PyData × V)} {r:Bool->List (PyData × V)}
theorem TB.keep (B:TB w CT CR CS H z sa p aw M r) (k:∀ c o,TB.own z sa c->H c=some o->H' c=some o) (ht:∀ b vs,H b=some (.tup vs)->H' b=some (.tup vs)):TB w CT CR CS H' z sa p aw M r :=
 ⟨B.tn.keep λc o hc=>k c o (.inr hc),B.so.keep (λc o hc=>k c o (.inl (own_of hc))) ht⟩
theorem TB.same (B:TB w CT CR CS H z sa p aw M r) (q:Same H H'):TB w CT CR CS H' z sa p aw M r:=B.keep (λc o _=>q c o) λb vs=>q b _
theorem TB.there (B:TB w CT CR CS H z sa p aw M r) {c:Addr} (hc:TB.own z sa c):∃ o,H c=some o/\∀ vs,o≠.tup vs:=by
 rcases hc with hc | hc
 · exact B.so.there hc
 · obtain ⟨o,e,⟨_,_,_,s⟩ | ⟨_,s⟩⟩:=B.tn.there hc
   · exact ⟨o,e,λvs z=>by rw [z] at s;cases s⟩
   · exact ⟨o,e,λvs z=>by rw [z] at s;cases s⟩
theorem TB.kp {xs:List Addr} (B:TB w CT CR CS H z sa p aw M r) (k:Kp xs H H') (hx:∀ c∈xs,¬ TB.own z sa c) (ht:∀ c∈xs,∀ vs,H c≠some (.tup vs)):TB w CT CR CS H' z sa p aw M r :=
 B.keep (λc o hc q=>k c o (λz=>hx c z hc) q) λb vs q=>k b _ (λz=>ht b z vs q) q
end
def RD (H:Hp) (p:PyData × V) (d:PyData):Prop:=∃ x,d=.tuple [p.1,x]/\DV H x p.2
theorem rows_dvs {H:Hp}:∀ {es:List (PyData × V)} {ts:List V} {ds:List PyData},Paired (Wt H) es ts->Paired (RD H) es ds->DVs H ds ts
 | _,_,_,.nil,.nil=>rfl
 | _,_,_,.cons ⟨t,cv,e,ht,hk⟩ r,.cons ⟨x,e',dx⟩ r'=>by
   subst e e'
   exact ⟨_,_,rfl,⟨t,_,rfl,ht,_,_,rfl,hk.2.2.1,_,_,rfl,dx,rfl⟩,rows_dvs r r'⟩
theorem keyed_lay0:∀ {ds:List PyData},(∀ d∈ds,MX.kd d=true/\d.depth <= 9)->PyData.canLayAll0 ds=true/\PyData.depthAll ds <= 9
 | [],_=>⟨rfl,Nat.zero_le _⟩
 | d :: ds,h=>by
   obtain ⟨a,b⟩:=keyed_lay0 λu hu=>h u (List.mem_cons_of_mem _ hu)
   have hd:=h d List.mem_cons_self
   refine ⟨?_,?_⟩
   · show (PyData.canLay0 d && PyData.canLayAll0 ds)=true
     rw [MX.kd_lay _ hd.1,a];rfl
   · show max d.depth (PyData.depthAll ds) <= 9
     have:=hd.2
     omega
theorem new_hand {H H':Hp} {h dh:Addr} {C:Addr} (nh:H h=none) (ndh:H dh=none) (kp:Kp [h] (upd (upd H dh (.own h)) h (.ins C dh [])) H'):Same H H':=λc o e=>by
 have y1:=ne_of_none e ndh
 have y2:=ne_of_none e nh
 exact kp c o (λz=>y2 (List.mem_singleton.mp z)) (by rw [upd_ne y2,upd_ne y1];exact e)
theorem len1v {x:V}:[x].length <= sizeLine:=by show 1 <= sizeLine;decide
theorem len0v:([]:List V).length <= sizeLine:=by show 0 <= sizeLine;decide
end L2

namespace L2
open PySem PySem.Spec PyProof.Rows
inductive Cn where
 | asked | taken | answered | handed | hs | ts
instance:DecidableEq Cn:=λa b=>by
 cases a<;>cases b<;>first | exact isTrue rfl | exact isFalse (λh=>by cases h)
def Cn.key:Cn->Str
 | .asked=>"asked"
 | .taken=>"taken"
 | .answered=>"answered"
 | .handed=>"handed"
 | .hs=>"hand sleeps"
 | .ts=>"heart sleeps"
def gWord:Bool->Str
 | false=>"ask"
 | true=>"answer"
def pk (g:Bool) (i:Int):PyData:=.tuple [.str (gWord g),.int i]
inductive Wr where
 | c (k:Cn) (i:Int)
 | p (g:Bool) (i nm wt:Int)
def Wr.key:Wr->PyData
 | .c k _=>.str k.key
 | .p g i _ _=>pk g i
def Wr.dat:Wr->PyData
 | .c _ i=>.int i
 | .p _ _ nm wt=>.tuple [.int nm,.int wt]
def Wr.Ok:Wr->Prop
 | .c _ _=>True
 | .p _ i nm _=>(0 <= i/\i < 8)/\0 <= nm/\nm < 9
def Wr.cnt (k:Cn):Wr->Option Int
 | .c k' i=>if k'=k then some i else none
 | .p _ _ _ _=>none
def Wr.plc (g:Bool) (i:Int):Wr->Option (Int × Int)
 | .c _ _=>none
 | .p g' i' nm wt=>if g'=g/\i'=i then some (nm,wt) else none
structure Mem where
 c:Cn->Int
 p:Bool->Int->Option (Int × Int)
def Mem.zero:Mem:=⟨λ_=>0,λ_ _=>none⟩
def Mem.put (m:Mem) (x:Wr):Mem:=⟨λk=>(x.cnt k).getD (m.c k),λg i=>(x.plc g i).or (m.p g i)⟩
def rdC (m:Mem) (row:List Wr) (k:Cn):Int:=(row.reverse.findSome? (Wr.cnt k)).getD (m.c k)
def rdP (m:Mem) (row:List Wr) (g:Bool) (i:Int):Option (Int × Int):=(row.reverse.findSome? (Wr.plc g i)).or (m.p g i)
theorem cn_ok (k:Cn):PyData.strOk k.key=true:=by cases k<;>decide +kernel
theorem gw_ok (g:Bool):PyData.strOk (gWord g)=true:=by cases g<;>decide +kernel
theorem cn_inj {k k':Cn} (h:k.key=k'.key):k=k':=by
 cases k<;>cases k'<;>first | rfl | exact absurd h (by decide +kernel)
theorem gw_inj {g g':Bool} (h:gWord g=gWord g'):g=g':=by
 cases g<;>cases g'<;>first | rfl | exact absurd h (by decide +kernel)
theorem pk_kd (g:Bool) (i:Int):MX.kd (pk g i)=true:=by
 show (PyData.strOk (gWord g) && (true && true))=true
 rw [gw_ok];rfl
theorem cn_kd (k:Cn):MX.kd (.str k.key)=true:=cn_ok k
theorem Wr.key_kd (x:Wr):MX.kd x.key=true:=by
 cases x with
 | c k i=>exact cn_kd k
 | p g i nm wt=>exact pk_kd g i
theorem Wr.dat_kd (x:Wr):MX.kd x.dat=true:=by cases x<;>rfl
theorem pk_inj {g g':Bool} {i i':Int} (h:pk g i=pk g' i'):g=g'/\i=i':=by
 injection h with h
 injection h with h1 h2
 injection h1 with h1
 injection h2 with h2 _
 injection h2 with h2
 exact ⟨gw_inj h1,h2⟩
theorem eqv_key {x:Wr} {d:PyData} (hd:MX.kd d=true):PyData.eqv x.key d=true ↔ x.key=d:=MX.eqv_iff _ _ x.key_kd hd
theorem Wr.cnt_some {x:Wr} {k:Cn} {i:Int} (h:x.cnt k=some i):x=.c k i:=by
 cases x with
 | c k' j =>
   unfold Wr.cnt at h
   dsimp only at h
   split at h
   · rename_i e;cases e;cases h;rfl
   · cases h
 | p=>cases h
theorem Wr.plc_some {x:Wr} {g:Bool} {i nm wt:Int} (h:x.plc g i=some (nm,wt)):x=.p g i nm wt:=by
 cases x with
 | c=>cases h
 | p g' j a b =>
   unfold Wr.plc at h
   dsimp only at h
   split at h
   · rename_i e;obtain ⟨e1,e2⟩:=e;cases e1;cases e2;cases h;rfl
   · cases h
theorem Wr.cnt_none {x:Wr} {k:Cn} (h:x.cnt k=none):x.key≠.str k.key:=by
 intro e
 cases x with
 | c k' j =>
   have:=cn_inj (PyData.str.inj e)
   unfold Wr.cnt at h
   dsimp only at h
   rw [if_pos this] at h;cases h
 | p=>cases e
theorem Wr.plc_none {x:Wr} {g:Bool} {i:Int} (h:x.plc g i=none):x.key≠pk g i:=by
 intro e
 cases x with
 | c=>cases e
 | p g' j a b =>
   have:=pk_inj e
   unfold Wr.plc at h
   dsimp only at h
   rw [if_pos this] at h;cases h
def WrR (H:Hp) (x:Wr) (q:PyData × V):Prop:=x.Ok/\q.1=x.key/\DV H x.dat q.2
theorem WrR.keep {H H':Hp} {x:Wr} {q:PyData × V} (h:WrR H x q) (ht:∀ b vs,H b=some (.tup vs)->H' b=some (.tup vs)):WrR H' x q:=⟨h.1,h.2.1,DV.keep ht _ _ x.dat_kd h.2.2⟩
def allKeys:List PyData:=[.str (Cn.key .asked),.str (Cn.key .taken),.str (Cn.key .answered),.str (Cn.key .handed),.str (Cn.key .hs),.str (Cn.key .ts),
 pk false 0,pk false 1,pk false 2,pk false 3,pk false 4,pk false 5,pk false 6,pk false 7,pk true 0,pk true 1,pk true 2,pk true 3,pk true 4,pk true 5,pk true 6,pk true 7]
theorem Wr.key_all {x:Wr} (h:x.Ok):x.key∈allKeys:=by
 cases x with
 | c k i=>cases k<;>simp [Wr.key,allKeys]
 | p g i a b =>
   have h':0 <= i/\i < 8:=h.1
   have:i=0\/i=1\/i=2\/i=3\/i=4\/i=5\/i=6\/i=7:=by omega
   rcases this with rfl | rfl | rfl | rfl | rfl | rfl | rfl | rfl<;>cases g<;>simp [Wr.key,allKeys]
theorem nodup_le {α:Type} [DecidableEq α]:∀ {l ks:List α},l.Nodup->(∀ a∈l,a∈ks)->l.length <= ks.length
 | [],_,_,_=>Nat.zero_le _
 | a :: l,ks,h,hs=>by
   have ha:=hs a List.mem_cons_self
   have hn:=List.nodup_cons.mp h
   have:=nodup_le (l:=l) (ks:=ks.erase a) hn.2 λb hb=>(List.mem_erase_of_ne (λe=>hn.1 (by rw [← e];exact hb))).mpr (hs b (List.mem_cons_of_mem _ hb))
   rw [List.length_erase_of_mem ha] at this
   have h0:0 < ks.length:=List.length_pos_of_mem ha
   rw [List.length_cons];omega
structure MemR (H:Hp) (M:List (PyData × V)) (m:Mem):Prop where
 c:∀ k:Cn,(lookD M (.str k.key)).getD (.int 0)=.int (m.c k)
 p:∀ g i,(m.p g i=none/\lookD M (pk g i)=none)\/∃ nm wt v,m.p g i=some (nm,wt)/\lookD M (pk g i)=some v/\DV H (.tuple [.int nm,.int wt]) v
 ks:∀ q∈M,q.1∈allKeys
 ok:∀ g i nm wt,m.p g i=some (nm,wt)->0 <= nm/\nm < 9
theorem allKeys_kd:∀ d∈allKeys,MX.kd d=true:=by
 intro d hd
 simp only [allKeys,List.mem_cons,List.not_mem_nil,or_false] at hd
 rcases hd with rfl | rfl | rfl | rfl | rfl | rfl | rfl | rfl | rfl | rfl | rfl | rfl | rfl | rfl | rfl | rfl | rfl | rfl | rfl | rfl | rfl | rfl<;>first | exact cn_kd _ | exact pk_kd _ _
theorem MemR.kk {H:Hp} {M:List (PyData × V)} {m:Mem} (h:MemR H M m):KK M:=λq hq=>allKeys_kd _ (h.ks q hq)
theorem MemR.zero {H:Hp}:MemR H [] Mem.zero:=⟨λ_=>rfl,λ_ _=>.inl ⟨rfl,rfl⟩,λ_ h=>(by cases h),λ_ _ _ _ h=>(by cases h)⟩
theorem MemR.keep {H H':Hp} {M:List (PyData × V)} {m:Mem} (h:MemR H M m) (ht:∀ b vs,H b=some (.tup vs)->H' b=some (.tup vs)):MemR H' M m :=
 ⟨h.c,λg i=>(h.p g i).imp id λ⟨nm,wt,v,a,b,c⟩=>⟨nm,wt,v,a,b,DV.keep ht _ _ rfl c⟩,h.ks,h.ok⟩
theorem put_ks {M:List (PyData × V)} {k:PyData} {v:V} {K:List PyData} (h:∀ q∈M,q.1∈K) (hk:k∈K):∀ q∈putD M k v,q.1∈K:=by
 intro q hq
 unfold putD at hq
 split at hq
 · obtain ⟨p,hp,e⟩:=List.mem_map.mp hq
   have:=h p hp
   rw [← e]
   split<;>exact this
 · rcases List.mem_append.mp hq with z | z
   · exact h q z
   · rw [List.mem_singleton.mp z];exact hk
theorem MemR.put {H:Hp} {M:List (PyData × V)} {m:Mem} {x:Wr} {q:PyData × V} (h:MemR H M m) (hx:WrR H x q):MemR H (putD M q.1 q.2) (m.put x):=by
 obtain ⟨ho,hk,hd⟩:=hx
 refine ⟨λk=>?_,λg i=>?_,put_ks h.ks (by rw [hk];exact Wr.key_all ho),λg i nm wt e=>?_⟩
 · rw [hk,look_put h.kk x.key_kd (cn_kd k)]
   unfold Mem.put
   dsimp only
   cases e:x.cnt k with
   | some i =>
     have ex:=Wr.cnt_some e
     subst ex
     rw [if_pos (show PyData.eqv (Wr.key (.c k i)) (.str k.key)=true from eqv_self (cn_kd k))]
     exact hd
   | none =>
     rw [if_neg λz=>Wr.cnt_none e ((eqv_key (cn_kd k)).mp z)]
     exact h.c k
 · rw [hk,look_put h.kk x.key_kd (pk_kd g i)]
   unfold Mem.put
   dsimp only
   cases e:x.plc g i with
   | some nw =>
     have ex:=Wr.plc_some (nm:=nw.1) (wt:=nw.2) e
     subst ex
     rw [if_pos (show PyData.eqv (Wr.key (.p g i nw.1 nw.2)) (pk g i)=true from eqv_self (pk_kd g i))]
     exact .inr ⟨nw.1,nw.2,q.2,rfl,rfl,hd⟩
   | none =>
     rw [if_neg λz=>Wr.plc_none e ((eqv_key (pk_kd g i)).mp z)]
     exact h.p g i
 · have e':(x.plc g i).or (m.p g i)=some (nm,wt):=e
   cases q:x.plc g i with
   | none=>rw [q] at e';exact h.ok g i nm wt e'
   | some nw =>
     rw [q] at e'
     cases e'
     have ex:=Wr.plc_some q
     subst ex
     exact ho.2
theorem Paired.rev {α β:Type} {F:α->β->Prop}:∀ {xs:List α} {ys:List β},Paired F xs ys->Paired F xs.reverse ys.reverse
 | _,_,.nil=>.nil
 | _,_,.cons r t=>by
   rw [List.reverse_cons,List.reverse_cons]
   exact Paired.snoc (Paired.rev t) r
theorem find_ok {H:Hp} {g:Bool} {i nm wt:Int}:∀ {row:List Wr} {es:List (PyData × V)},Paired (WrR H) row es->row.findSome? (Wr.plc g i)=some (nm,wt)->0 <= nm/\nm < 9
 | _,_,.nil,h=>by cases h
 | x :: row,_,.cons hx t,h=>by
   rw [List.findSome?_cons] at h
   cases q:x.plc g i with
   | none=>rw [q] at h;exact find_ok t h
   | some nw =>
     rw [q] at h
     cases h
     have ex:=Wr.plc_some q
     subst ex
     exact hx.1.2
theorem rdP_ok {H:Hp} {M es:List (PyData × V)} {m:Mem} {row:List Wr} (h:MemR H M m) (r:Paired (WrR H) row es) {g:Bool} {i nm wt:Int} (e:rdP m row g i=some (nm,wt)):0 <= nm/\nm < 9:=by
 unfold rdP at e
 cases q:row.reverse.findSome? (Wr.plc g i) with
 | none=>rw [q] at e;exact h.ok g i nm wt e
 | some nw =>
   rw [q] at e
   cases e
   exact find_ok (Paired.rev r) q
def StT (w:World) (C:Addr) (H:Hp) (sa:SA) (m:Mem) (rs:Bool->List Wr):Prop:=∃ M r,sa.At w C H M r/\MemR H M m/\∀ b,Paired (WrR H) (rs b) (r b)
section
variable {w:World} {C:Addr} {H H':Hp} {sa:SA} {m:Mem} {rs:Bool->List Wr}
theorem StT.keep (S:StT w C H sa m rs) (h:∀ c o,sa.own c->H c=some o->H' c=some o) (ht:∀ b vs,H b=some (.tup vs)->H' b=some (.tup vs)):StT w C H' sa m rs:=by
 obtain ⟨M,r,S,R,P⟩:=S
 exact ⟨M,r,S.keep (λc o hc=>h c o (own_of hc)) ht,R.keep ht,λb=>Paired.mapP (P b) λ_ _ q=>q.keep ht⟩
theorem StT.same (S:StT w C H sa m rs) (h:Same H H'):StT w C H' sa m rs:=S.keep (λc o _=>h c o) λb vs=>h b _
theorem StT.there (S:StT w C H sa m rs) {c:Addr} (h:sa.own c):∃ o,H c=some o/\(∀ xs,o≠.tup xs):=by
 obtain ⟨M,r,S,_⟩:=S
 exact S.there h
theorem StT.kp {xs:List Addr} (S:StT w C H sa m rs) (k:Kp xs H H') (h:∀ c∈xs,¬ sa.own c) (ht:∀ c∈xs,∀ vs,H c≠some (.tup vs)):StT w C H' sa m rs :=
 S.keep (λc o hc e=>k c o (λz=>h c z hc) e) λc vs e=>k c _ (λz=>ht c z vs e) e
theorem StT.ob (S:StT w C H sa m rs):∃ dx,H sa.x=some (.ins C dx (stF sa.hd sa.rl)):=by
 obtain ⟨M,r,S,_⟩:=S
 exact S.ob
theorem StT.names (S:StT w C H sa m rs) {b g:Bool} {i nm wt:Int} (e:rdP m (rs b) g i=some (nm,wt)):0 <= nm/\nm < 9:=by
 obtain ⟨M,r,S,R,P⟩:=S
 exact rdP_ok R (P b) e
end
theorem paired_app {α β:Type} {F:α->β->Prop}:∀ {xs:List α} {ys:List β} {xs':List α} {ys':List β},Paired F xs ys->Paired F xs' ys'->Paired F (xs++xs') (ys++ys')
 | _,_,_,_,.nil,t=>t
 | _,_,_,_,.cons r t,t'=>.cons r (paired_app t t')
def aheadT (p:RP) (m:Mem) (row:List Wr) (a b:Cn):Int:=(rdC m row a - rdC m row b) % (p.s * p.R)
def nextT (p:RP) (m:Mem) (row:List Wr) (a:Cn):Wr:=.c a ((rdC m row a+1) % (p.s * p.R))
def layT (p:RP) (m:Mem) (row:List Wr) (g:Bool) (a:Cn) (nm wt:Int):List Wr :=
 if p.e then [nextT p m row a,.p g (rdC m row a % p.s) nm wt] else [.p g (rdC m row a % p.s) nm wt,nextT p m row a]
end L2

namespace L2
open PySem PySem.Spec PyProof.Rows
def cxComp2 (X:Cx) (scope:Scope) (cl:List (Str × Addr)) (C:Addr) (x x2:Str) (N':List Str) (s₃:Shared) (H₃:Hp) (pins:List (Addr × Obj)) (ex:List Addr) (E':Value->Shared->Prop):Cx :=
 { X with N:=N',s₀:=s₃,H₀:=H₃,env:=compEnvC scope cl C X.env,outer:=X.stack,stack:=X.stack,ex:=ex,fn:=λy=>y == x || y == x2,pn:=X.pn++pins,xe:=E' }
theorem pg_two {X:Cx} {x1 x2:Str} {p1 p2 pos:Pos} {k:Nat} (hc:X.calm=true) (hN:X.N.Nodup) (h0:X.N[0]?=some x1) (h1:X.N[1]?=some x2) (l1:Loc X.env.scope x1) (l2:Loc X.env.scope x2) (f1:X.fn x1=true) (f2:X.fn x2=true) :
   PG X (.Tuple [.Name x1 p1,.Name x2 p2] k pos) (gTup X.K 2 (gCons (gName 0) (gCons (gName 1) gNil))) :=
 pg_tup hc (pgs_cons (pg_name hN h0 l1 (.inl f1)) (pgs_cons (pg_name hN h1 l2 (.inl f2)) pgs_nil))
abbrev testsOf (ifs:List Expr) (env:Env):Sem Bool:=forIn ifs true λc r=>if r=true then do
 let ok ← isTrue c env (eval c env)
 pure (ForInStep.yield ok) else pure (ForInStep.yield r)
theorem loop_any {P:Program} {w:World} {A:Around} {R:Result->Shared->Prop} {s:Shared} {elt tg iter:Expr} {ifs:List Expr} {sc:Scope} {ps:Pos} {it acc:Value} {env:Env} (J:Nat->Shared->Prop)
   (turn:∀ k t,J k t->wpAny (model P w) A (pyNext it) (λo t1=>match o with
     | none=>R (.ok .next) t1
     | some y=>wpAny (model P w) A (letOwnedTupleGo tg it y) (λ_ t2=>wpAny (model P w) A (assign tg env y) (λ_ t3=>wpAny (model P w) A (testsOf ifs env) (λok t4 =>
         if ok=true then wpAny (model P w) A (eval elt env) (λx t5=>wpAny (model P w) A (call (.builtin "list.append") [acc,x]) (λ_ t6=>∃ j,j < k/\J j t6) (notedBy (model P w) A env λe t'=>R (.error e) t') t5) (notedBy (model P w) A env λe t'=>R (.error e) t') t4
         else ∃ j,j < k/\J j t4) (notedBy (model P w) A env λe t'=>R (.error e) t') t3) (notedBy (model P w) A env λe t'=>R (.error e) t') t2) (notedBy (model P w) A env λe t'=>R (.error e) t') t1) (notedBy (model P w) A env λe t'=>R (.error e) t') t)
   (k:Nat) (h:J k s):codeAny (model P w) A (.compLoop (.ListComp elt [⟨tg,iter,ifs,0⟩] sc ps) 0 it acc env) R s:=by
 refine codeAny_loop rfl J (λk t hJ=>?_) k h
 show wpAny _ A (Sem.onRaise (compTurn (.ListComp elt [⟨tg,iter,ifs,0⟩] sc ps) 0 it acc env) (λy=>do noteFrame y env;theTreesLotGoes y)) _ _ t
 refine wpAny_noted ?_
 rw [compTurn_list]
 refine wpAny_bind (wpAny_standAt (wpAny_bind (thn (turn k t hJ) λo t1 h1=>?_)))
 cases o with
 | none=>exact wpAny_pure h1
 | some y =>
   refine wpAny_bind (thn h1 λ_ t2 h2=>wpAny_bind (thn h2 λ_ t3 h3=>wpAny_bind (thn h3 λok t4 h4=>?_)))
   cases ok with
   | false=>exact wpAny_pure ⟨rfl,h4⟩
   | true =>
     rw [if_pos rfl] at h4
     refine wpAny_bind (wpAny_bind (thn h4 λx t5 h5=>wpAny_bind (thn h5 λ_ t6 h6=>?_)))
     exact wpAny_pure (wpAny_pure ⟨rfl,h6⟩)
def tComp2 (wi:TI) (g:TG) (js:List Nat) (tc:TT) (te:TE):TE:=λσ H Q=>wi σ H λJ H1=>∀ D,H1 D=none->∃ W:Nat->Nat->List V->Hp->Prop,(∃ m,W 0 m [] (upd H1 D (.lst []))) /\
 ∀ i m ys H2,W i m ys H2->H2 D=some (.lst ys)/\ys.length < sizeLine/\((J.stop i H2/\Q (.ref D) H2)\/(J.go i H2/\∀ x H3,J.yld i H2 x H3->∀ v0 v1:Option V,
   g x (v0 :: v1 :: capt σ js) H3 λσ' H'=>∃ v0' v1',σ'=v0' :: v1' :: capt σ js/\tc σ' H' λb H4=>if b=true then te σ' H4 λy H5=>H5 D=some (.lst ys)/\∃ m',m' < m/\W (i+1) m' (ys++[y]) (upd H5 D (.lst (ys++[y])))
     else ∃ m',m' < m/\W (i+1) m' ys H4))
section
variable {X:Cx} {scope:Scope} {cl:List (Str × Addr)} {x x2:Str} {N':List Str}
theorem cxComp2_ok {pins:List (Addr × Obj)} {σ:St} {H₃:Hp} {s₃:Shared} {ex:List Addr} {E':Value->Shared->Prop} (O:CompOk X scope cl x) (O2:CompOk X scope cl x2) (I:Inv X pins σ H₃ s₃) (hf:∀ b∈ex,FpOk X pins H₃ b/\b < s₃.heap.objs.size) :
   (cxComp2 X scope cl s₃.heap.objs.size x x2 N' s₃ H₃ pins ex E').Ok where
 mod:=I.ok.mod
 kind:=O.kind
 glob:=I.ok.glob
 blt:=I.ok.blt
 above:=Nat.le_refl _
 inj:=λy z c h1 h2=>I.ok.inj y z c (O.sub _ (mem_of_lookup h1)) (O.sub _ (mem_of_lookup h2))
 has:=λy h=>by
   have h':∃ k,(relabel scope X.env).names.lookup y=some k/\(k=.cell\/k=.free):=by
     rcases h with h | h
     · exact ⟨_,h,.inl rfl⟩
     · exact ⟨_,h,.inr rfl⟩
   obtain ⟨k,e,hk⟩:=h'
   obtain ⟨p,hp,rfl,e2⟩:=relabel_mem e hk O.nocell
   exact O.has p hp e2
 cab:=λy c h1 h2=>by
   have h2':cl.lookup y=some c:=h2
   rcases Bool.or_eq_true_iff.mp h1 with e | e
   · rw [beq_iff_eq.mp e,O.nox] at h2';cases h2'
   · rw [beq_iff_eq.mp e,O2.nox] at h2';cases h2'
 hd:=I.ok.hd
 frames:=I.ok.frames
 stk:=.inl rfl
 exf:=λb hb=>⟨Nat.ne_of_lt (hf b hb).2,λy c e=>(hf b hb).1.2.2.2.2.1 y c (O.sub _ (mem_of_lookup e))⟩
 bs:=I.bs
 bsz:=Nat.le_trans I.ok.bsz I.sz
 noex:=λb o e hb=>by
   obtain ⟨_,_,_,h4,_⟩:=(hf b hb).1
   rcases h4 with z | z
   · exact I.ok.noex b o e z
   · have g1:b < X.base.objs.size:=Heap.lt_size e
     exact absurd (Nat.lt_of_lt_of_le g1 (Nat.le_trans I.ok.bsz z)) (Nat.lt_irrefl _)
 exfs:=λb hb z=>by
   obtain ⟨_,h2,h3,_⟩:=(hf b hb).1
   rcases List.mem_cons.mp (I.stkSub b z) with q | q
   · exact h2 q
   · exact h3 q
 funs:=I.stack
 frf:=I.stkFree
theorem Inv.block2 {pins:List (Addr × Obj)} {σ σ':St} {H₃ H':Hp} {s₃ s':Shared} {ex:List Addr} {E':Value->Shared->Prop} {h':Heap} (I:Inv X pins σ H₃ s₃) (hf:∀ b∈ex,FpOk X pins H₃ b)
   (I':Inv (cxComp2 X scope cl s₃.heap.objs.size x x2 N' s₃ H₃ pins ex E') [] σ' H' s') (hs:Heap.SameBut s₃.heap.objs.size s'.heap h'):Inv X pins σ H' { s' with heap:=h' }:=by
 have ne:∀ b o,s₃.heap.get? b=some o->b≠s₃.heap.objs.size:=λb o e=>Nat.ne_of_lt (Heap.lt_size e)
 have fr:H' s₃.heap.objs.size=none:=I'.free
 have hok:HOk X.prog X.w H' h':=λa o e=>by
   refine (I'.hok a o e).stay (λb u hb q=>(hs.2 b ?_).trans q) (λ_ q=>q) λ_ _ q=>q
   rintro rfl
   rcases hb with z | z
   · rw [← z,fr] at e;cases e
   · rw [fr] at z;cases z
 have u:Un (frs X.stack) ex H₃ H' s₃.heap h':=by
   obtain ⟨k1,k2,k3,k4,k5,k6,k7⟩:=I'.base
   refine ⟨λb o q n hb hx=>(hs.2 b (ne b o q)).trans (k1 b o q n hb hx),λb o q n hb hx=>?_,k3,λb o q hx=>?_,k5,k6,k7⟩
   · obtain ⟨sl,e⟩:=k2 b o q n hb hx
     exact ⟨sl,(hs.2 b (ne b o q)).trans e⟩
   · obtain ⟨o',e⟩:=k4 b o q hx
     exact ⟨o',(hs.2 b (ne b o q)).trans e⟩
 exact I.call' (s':={ s' with heap:=h' }) I'.os u hok I'.bare λb hb=>⟨(hf b hb).2.2.2.1,(hf b hb).2.1,(hf b hb).2.2.2.2.1,(hf b hb).2.2.2.2.2⟩
theorem Inv.enter2 {pins:List (Addr × Obj)} {σ:St} {H₃:Hp} {s₃:Shared} {ex:List Addr} {E':Value->Shared->Prop} {caps:List Str} {js:List Nat} {h₁:Heap} {tk:Nat} (O:CompOk X scope cl x) (O2:CompOk X scope cl x2) (I:Inv X pins σ H₃ s₃)
   (hf:∀ b∈ex,FpOk X pins H₃ b/\b < s₃.heap.objs.size) (hcap:∀ y∈caps,∃ c,cl.lookup y=some c) (hjs:Paired (λ(y:Str) (j:Nat)=>X.N[j]?=some y/\(X.env.scope.names.lookup y=some .cell\/X.env.scope.names.lookup y=some .free)) caps js)
   (hkc:∀ y∈caps,(relabel scope X.env).names.lookup y=some .cell\/(relabel scope X.env).names.lookup y=some .free)
   (hn:h₁.Ns s₃.heap.objs.size λ_=>none) (hk:∀ b o,s₃.heap.get? b=some o->h₁.get? b=some o) :
   Inv (cxComp2 X scope cl s₃.heap.objs.size x x2 (x :: x2 :: caps) s₃ H₃ pins ex E') [] (none :: none :: capt σ js) H₃ { s₃ with heap:=h₁,toks:=tk }:=by
 have hlen:caps.length=js.length:=Paired.length hjs
 obtain ⟨m0,hm0,hl0⟩:=I.loc
 refine ⟨cxComp2_ok O O2 I hf,rfl,I.bare,Un.kept hk,⟨_,hn,λi y v e1 e2 e3=>?_⟩,λy c e=>?_,I.hok.fresh (Nat.le_refl _),λy c e=>I.freeC y c (O.sub _ (mem_of_lookup e)),λp hp=>?_,I.hok.kept hk,?_⟩
 · match i,e1,e2 with
   | 0,_,e2=>cases e2
   | 1,_,e2=>cases e2
   | i+2,e1,e2 =>
     have e1':(x :: x2 :: caps)[i+2]?=some y:=e1
     rw [List.getElem?_cons_succ,List.getElem?_cons_succ] at e1'
     have e2':(none :: none :: capt σ js)[i+2]?=some (some v):=e2
     rw [List.getElem?_cons_succ,List.getElem?_cons_succ] at e2'
     obtain ⟨j,ej,hN,hk1⟩:=MX.f2_get' hjs i y e1'
     unfold capt at e2'
     rw [List.getElem?_map,ej] at e2'
     have e3':(σ[j]?).getD none=some v:=by simpa using e2'
     have e4:σ[j]?=some (some v):=by
       cases q:σ[j]? with
       | none=>rw [q] at e3';cases e3'
       | some z=>rw [q] at e3';rw [show z=some v from e3']
     obtain ⟨u,r,l⟩:=hl0 j y v hN e4 (by rcases hk1 with z | z;exact .inr (.inl z);exact .inr (.inr z))
     obtain ⟨c,hc⟩:=hcap y (List.mem_of_getElem? e1')
     refine ⟨u,r,.inr ⟨hkc y (List.mem_of_getElem? e1'),c,hc,?_⟩⟩
     rcases l with ⟨z,_⟩ | ⟨_,c',z1,o,z2,z3⟩
     · have z':X.env.scope.names.lookup y=some .local:=z
       rcases hk1 with q | q<;>(rw [q] at z';cases z')
     · rw [O.sub _ (mem_of_lookup hc)] at z1
       cases z1
       exact ⟨o,hk _ _ z2,z3⟩
 · obtain ⟨v,o,z2,z3⟩:=I.cell y c (O.sub _ (mem_of_lookup e))
   exact ⟨v,o,hk _ _ z2,z3⟩
 · have hp':p∈X.pn++pins:=by simpa [cxComp2] using hp
   obtain ⟨g1,g2,g3,g4,g5⟩:=I.pin p hp'
   refine ⟨hk _ _ g1,g2,Nat.ne_of_lt (Heap.lt_size g1),λz=>?_,g5⟩
   rcases List.mem_cons.mp (I.stkSub p.1 z) with q | q
   · exact g3 q
   · exact g4 q
 · show (none :: none :: capt σ js).length=(x :: x2 :: caps).length
   unfold capt
   rw [List.length_cons,List.length_cons,List.length_cons,List.length_cons,List.length_map,hlen]
end
end L2

namespace L2
open PySem PySem.Spec PyProof.Rows
structure LA where
 sd:Addr
 md:Addr
 rw:Addr
 l:Bool->Addr
 ud:Addr
 tk:Addr
def lsK (la:LA) (p:RP) (n:Int):List (Key × V):=[(.inr "size",.int p.s),(.inr "rounds",.int p.R),(.inr "names",.int n),(.inr "early",.bl p.e),(.inr "memory",.ref la.md),(.inr "rows",.ref la.rw),(.inr "under",.ref la.ud),(.inr "tasks",.ref la.tk)]
section
variable {H:Hp} {la:LA} {p:RP} {n:Int}
end
def RowT (H:Hp) (l:Addr) (row:List Wr):Prop:=∃ ts es,H l=some (.lst ts)/\Paired (Wt H) es ts/\Paired (WrR H) row es
theorem RowT.keep {H H':Hp} {l:Addr} {row:List Wr} (h:RowT H l row) (hl:∀ o,H l=some o->H' l=some o) (ht:∀ b vs,H b=some (.tup vs)->H' b=some (.tup vs)):RowT H' l row:=by
 obtain ⟨ts,es,a,b,c⟩:=h
 exact ⟨ts,es,hl _ a,Paired.mapP b λ_ _ q=>q.keep ht,Paired.mapP c λ_ _ q=>q.keep ht⟩
theorem RowT.same {H H':Hp} {l:Addr} {row:List Wr} (h:RowT H l row) (s:Same H H'):RowT H' l row:=h.keep (λo=>s _ o) λb vs=>s b _
theorem RowT.data {H:Hp} {l:Addr} {row:List Wr} (h:RowT H l row):DV H (.list (row.map λx=>.tuple [x.key,x.dat])) (.ref l):=by
 obtain ⟨ts,es,a,b,c⟩:=h
 refine ⟨l,ts,rfl,a,rows_dvs b ?_⟩
 clear a b
 induction c with
 | nil=>exact .nil
 | cons hx t ih =>
   obtain ⟨_,hk,hd⟩:=hx
   exact .cons ⟨_,by rw [hk],hd⟩ ih
structure LS (w:World) (H:Hp) (la:LA) (p:RP) (n:Int) (m:Mem) (rs:Bool->List Wr) (un tk:List Int):Prop where
 sd:H la.sd=some (.dK (lsK la p n))
 me:∃ M,MD w H la.md M/\MemR H M m
 ro:H la.rw=some (.lst [.ref (la.l false),.ref (la.l true)])
 rw:∀ b,RowT H (la.l b) (rs b)
 ud:H la.ud=some (.lst (un.map V.int))
 tk:H la.tk=some (.lst (tk.map V.int))
 nl:la.l false≠la.l true
 nr:∀ b,la.l b≠la.rw
 nu:∀ b,la.l b≠la.ud
 nt:∀ b,la.l b≠la.tk
 nut:la.ud≠la.tk
 nru:la.rw≠la.ud
 nrt:la.rw≠la.tk
def LA.own (la:LA) (c:Addr):Prop:=c=la.sd\/c=la.md\/c=la.rw\/c=la.l false\/c=la.l true\/c=la.ud\/c=la.tk
theorem LA.own_l {la:LA} (b:Bool):la.own (la.l b):=by
 cases b
 · exact .inr (.inr (.inr (.inl rfl)))
 · exact .inr (.inr (.inr (.inr (.inl rfl))))
section
variable {w:World} {H H':Hp} {la:LA} {p:RP} {n:Int} {m:Mem} {rs:Bool->List Wr} {un tk:List Int}
theorem LS.keep (L:LS w H la p n m rs un tk) (k:∀ c o,la.own c->H c=some o->H' c=some o) (ht:∀ b vs,H b=some (.tup vs)->H' b=some (.tup vs)):LS w H' la p n m rs un tk:=by
 obtain ⟨M,hM,R⟩:=L.me
 exact ⟨k _ _ (.inl rfl) L.sd,⟨M,hM.keepS (λo=>k _ o (.inr (.inl rfl))) ht,R.keep ht⟩,k _ _ (.inr (.inr (.inl rfl))) L.ro,λb=>(L.rw b).keep (λo=>k _ o (LA.own_l b)) ht,k _ _ (.inr (.inr (.inr (.inr (.inr (.inl rfl)))))) L.ud,k _ _ (.inr (.inr (.inr (.inr (.inr (.inr rfl)))))) L.tk,L.nl,L.nr,L.nu,L.nt,L.nut,L.nru,L.nrt⟩
theorem LS.same (L:LS w H la p n m rs un tk) (s:Same H H'):LS w H' la p n m rs un tk:=L.keep (λc o _=>s c o) λb vs=>s b _
theorem LS.there (L:LS w H la p n m rs un tk) {c:Addr} (h:la.own c):∃ o,H c=some o/\(∀ xs,o≠.tup xs):=by
 rcases h with rfl | rfl | rfl | rfl | rfl | rfl | rfl
 · exact ⟨_,L.sd,λ_ z=>by cases z⟩
 · obtain ⟨M,hM,_⟩:=L.me
   obtain ⟨ee,e⟩:=hM.there
   exact ⟨_,e,λ_ z=>by cases z⟩
 · exact ⟨_,L.ro,λ_ z=>by cases z⟩
 · obtain ⟨ts,_,e,_⟩:=L.rw false;exact ⟨_,e,λ_ z=>by cases z⟩
 · obtain ⟨ts,_,e,_⟩:=L.rw true;exact ⟨_,e,λ_ z=>by cases z⟩
 · exact ⟨_,L.ud,λ_ z=>by cases z⟩
 · exact ⟨_,L.tk,λ_ z=>by cases z⟩
theorem LS.kp {xs:List Addr} (L:LS w H la p n m rs un tk) (k:Kp xs H H') (h:∀ c∈xs,¬ la.own c) (ht:∀ c∈xs,∀ vs,H c≠some (.tup vs)):LS w H' la p n m rs un tk :=
 L.keep (λc o hc e=>k c o (λz=>h c z hc) e) λc vs e=>k c _ (λz=>ht c z vs e) e
theorem LS.names (L:LS w H la p n m rs un tk) {b g:Bool} {i nm wt:Int} (e:rdP m (rs b) g i=some (nm,wt)):0 <= nm/\nm < 9:=by
 obtain ⟨M,_,R⟩:=L.me
 obtain ⟨ts,es,_,_,h2⟩:=L.rw b
 exact rdP_ok R h2 e
theorem LS.mem (L:LS w H la p n m rs un tk) {M:List (PyData × V)} {m':Mem} (g1:∀ c,c≠la.md->H' c=H c) (g2:MD w H' la.md M) (R:MemR H' M m'):LS w H' la p n m' rs un tk:=by
 obtain ⟨M0,hM,_⟩:=L.me
 obtain ⟨ee,hmd⟩:=hM.there
 have up:∀ {c:Addr} {o:HO},H c=some o->(∀ e:List DictEntry × Nat,o≠DObj la.md e.1 e.2)->H' c=some o:=λ{c o} e hn=>by
   rw [g1 c λz=>by rw [z,hmd] at e;exact hn ee (Option.some.inj e).symm];exact e
 have ht:∀ b vs,H b=some (.tup vs)->H' b=some (.tup vs):=λb vs e=>up e λ_ z=>by cases z
 exact ⟨up L.sd λ_ z=>(by cases z),⟨M,g2,R⟩,up L.ro λ_ z=>(by cases z),λb=>(L.rw b).keep (λo q=>by
   obtain ⟨ts,es,e,_⟩:=L.rw b
   rw [e] at q
   cases q
   exact up e λ_ z=>by cases z) ht,up L.ud λ_ z=>(by cases z),up L.tk λ_ z=>(by cases z),L.nl,L.nr,L.nu,L.nt,L.nut,L.nru,L.nrt⟩
theorem up_ne {c x:Addr} {o:HO} {xs ys:List V} (h:H c=some o) (hx:H x=some (.lst xs)) (hn:∀ ys,o≠.lst ys):upd H x (.lst ys) c=some o:=by
 rw [upd_ne λe=>by rw [e,hx] at h;exact hn xs (Option.some.inj h).symm];exact h
theorem LS.tups {x:Addr} {xs ys:List V} (hx:H x=some (.lst xs)):∀ b vs,H b=some (.tup vs)->upd H x (.lst ys) b=some (.tup vs):=λb vs e=>up_ne e hx λys z=>by cases z
theorem LS.row (L:LS w H la p n m rs un tk) (b:Bool) {ts:List V} {es:List (PyData × V)} {row:List Wr} (h1:Paired (Wt H) es ts) (h2:Paired (WrR H) row es):LS w (upd H (la.l b) (.lst ts)) la p n m (setR rs b row) un tk:=by
 obtain ⟨ts0,es0,hl,_⟩:=L.rw b
 have ht:=LS.tups (ys:=ts) hl
 obtain ⟨M,hM,R⟩:=L.me
 obtain ⟨ee,hmd⟩:=hM.there
 refine ⟨up_ne L.sd hl λys z=>(by cases z),⟨M,hM.keepS (λo e=>?_) ht,R.keep ht⟩,by rw [upd_ne λe=>L.nr b e.symm];exact L.ro,λc=>?_,by rw [upd_ne λe=>L.nu b e.symm];exact L.ud,by rw [upd_ne λe=>L.nt b e.symm];exact L.tk,L.nl,L.nr,L.nu,L.nt,L.nut,L.nru,L.nrt⟩
 · rw [hmd] at e
   cases e
   exact up_ne hmd hl λys z=>(by cases z)
 · by_cases e:c=b
   · subst e
     rw [setR_same]
     exact ⟨ts,es,upd_same,Paired.mapP h1 λ_ _ q=>q.keep ht,Paired.mapP h2 λ_ _ q=>q.keep ht⟩
   · rw [setR_ne e]
     refine (L.rw c).keep (λo q=>?_) ht
     rw [upd_ne λz=>?_]
     · exact q
     · cases c<;>cases b
       · exact e rfl
       · exact L.nl z
       · exact L.nl z.symm
       · exact e rfl
end
end L2
namespace L2
open PySem PySem.Spec PyProof.Rows
theorem inV_int (i:Int):∀ ns:List Int,inV (.int i) (ns.map V.int)=ns.contains i
 | []=>rfl
 | n :: ns=>by
   have ih:=inV_int i ns
   unfold inV at ih ⊢
   rw [List.map_cons,List.any_cons,ih,List.contains_cons]
   congr 1
   show eqV (.int n) (.int i)=(i == n)
   simp only [eqV]
   rw [Bool.eq_iff_iff,beq_iff_eq,beq_iff_eq]
   exact eq_comm
theorem atI_zero {α:Type} {x:α} {xs:List α}:atI (x :: xs) 0=some x:=by
 unfold atI ixN
 simp
theorem ints_flat:∀ ns:List Int,(ns.map V.int).all flatV=true
 | []=>rfl
 | n :: ns=>by rw [List.map_cons,List.all_cons,ints_flat ns];rfl
def freeL (n:Nat) (un:List Int):List Int:=((List.range n).map λ(k:Nat)=>(k:Int)).filter λk=>!un.contains k
theorem range_snoc (j:Nat):((List.range (j+1)).map λ(k:Nat)=>(k:Int))=((List.range j).map λ(k:Nat)=>(k:Int))++[(j:Int)]:=by
 rw [List.range_succ,List.map_append];rfl
theorem free_snoc (j:Nat) (un:List Int):freeL (j+1) un=if un.contains (j:Int) then freeL j un else freeL j un++[(j:Int)]:=by
 unfold freeL
 rw [range_snoc,List.filter_append]
 have e:List.filter (λk=>!un.contains k) [(j:Int)]=if un.contains (j:Int) then [] else [(j:Int)]:=by
   rw [List.filter_cons,List.filter_nil]
   cases un.contains (j:Int)<;>rfl
 rw [e]
 cases un.contains (j:Int) with
 | true=>rw [if_pos rfl,if_pos rfl,List.append_nil]
 | false=>rfl
end L2

namespace L2
open PySem PySem.Spec PyProof.Rows
def KO (own:Addr->Prop) (H H':Hp):Prop:=∀ c o,¬ own c->H c=some o->H' c=some o
theorem KO.refl (own:Addr->Prop) (H:Hp):KO own H H:=λ_ _ _ e=>e
theorem KO.of_kp {own:Addr->Prop} {xs:List Addr} {H H':Hp} (k:Kp xs H H') (h:∀ c∈xs,own c):KO own H H':=λc o n e=>k c o (λm=>n (h c m)) e
theorem KO.of_same {own:Addr->Prop} {H H':Hp} (s:Same H H'):KO own H H':=λc o _ e=>s c o e
theorem KO.trans {own own':Addr->Prop} {H H1 H2:Hp} (a:KO own H H1) (b:KO own' H1 H2) (h:∀ c,own' c->own c\/H c=none):KO own H H2:=λc o n e=>b c o (λz=>by
 rcases h c z with y | y
 · exact n y
 · rw [y] at e;cases e) (a c o n e)
theorem KO.mono {own own':Addr->Prop} {H H':Hp} (a:KO own H H') (h:∀ c,own c->own' c):KO own' H H':=λc o n e=>a c o (λz=>n (h c z)) e
theorem lsK_gK {la:LA} {p:RP} {n:Int} {ns:List Int}:(HO.dK (lsK la p n))≠HO.dK (gK ns):=by
 intro h
 injection h with h
 unfold lsK at h
 cases ns with
 | nil=>cases h
 | cons x xs=>cases h
section
variable {w:World} {CH CT CR CS:Addr} {H H':Hp} {z:HA} {zt:TA'} {sa:SA} {la:LA} {p:RP} {n:Int} {m:Mem} {rs:Bool->List Wr} {un tk aw:List Int} {nn:Int} {st:Addr}
theorem Hn.apart (B:Hn CH CR H z st p nn aw) (L:LS w H la p n m rs un tk) {c:Addr} (hc:la.own c):¬ z.own c:=λhz=>by
 obtain ⟨o,e,s⟩:=B.there hz
 rcases hc with rfl | rfl | rfl | rfl | rfl | rfl | rfl
 · rcases hz with y | y | y | y
   · obtain ⟨dx,q⟩:=B.ob;rw [← y,L.sd] at q;cases q
   · obtain ⟨dx,q⟩:=B.ra;rw [← y,L.sd] at q;cases q
   · obtain ⟨dx,q⟩:=B.rb;rw [← y,L.sd] at q;cases q
   · have q:=B.go;rw [← y,L.sd] at q;exact lsK_gK (Option.some.inj q)
 · obtain ⟨M,hM,_⟩:=L.me
   obtain ⟨ee,q⟩:=hM.there
   rw [e] at q;cases q
   rcases s with ⟨_,_,_,s⟩ | ⟨_,s⟩<;>cases s
 · rw [L.ro] at e;cases e
   rcases s with ⟨_,_,_,s⟩ | ⟨_,s⟩<;>cases s
 · obtain ⟨ts,_,q,_⟩:=L.rw false
   rw [q] at e;cases e
   rcases s with ⟨_,_,_,s⟩ | ⟨_,s⟩<;>cases s
 · obtain ⟨ts,_,q,_⟩:=L.rw true
   rw [q] at e;cases e
   rcases s with ⟨_,_,_,s⟩ | ⟨_,s⟩<;>cases s
 · rw [L.ud] at e;cases e
   rcases s with ⟨_,_,_,s⟩ | ⟨_,s⟩<;>cases s
 · rw [L.tk] at e;cases e
   rcases s with ⟨_,_,_,s⟩ | ⟨_,s⟩<;>cases s
theorem Tn.apart (B:Tn CT CR H zt st p aw) (L:LS w H la p n m rs un tk) {c:Addr} (hc:la.own c):¬ zt.own c:=λhz=>by
 obtain ⟨o,e,s⟩:=B.there hz
 rcases hc with rfl | rfl | rfl | rfl | rfl | rfl | rfl
 · rcases hz with y | y | y | y
   · obtain ⟨dx,q⟩:=B.ob;rw [← y,L.sd] at q;cases q
   · obtain ⟨dx,q⟩:=B.ra;rw [← y,L.sd] at q;cases q
   · obtain ⟨dx,q⟩:=B.rb;rw [← y,L.sd] at q;cases q
   · have q:=B.go;rw [← y,L.sd] at q;exact lsK_gK (Option.some.inj q)
 · obtain ⟨M,hM,_⟩:=L.me
   obtain ⟨ee,q⟩:=hM.there
   rw [e] at q;cases q
   rcases s with ⟨_,_,_,s⟩ | ⟨_,s⟩<;>cases s
 · rw [L.ro] at e;cases e
   rcases s with ⟨_,_,_,s⟩ | ⟨_,s⟩<;>cases s
 · obtain ⟨ts,_,q,_⟩:=L.rw false
   rw [q] at e;cases e
   rcases s with ⟨_,_,_,s⟩ | ⟨_,s⟩<;>cases s
 · obtain ⟨ts,_,q,_⟩:=L.rw true
   rw [q] at e;cases e
   rcases s with ⟨_,_,_,s⟩ | ⟨_,s⟩<;>cases s
 · rw [L.ud] at e;cases e
   rcases s with ⟨_,_,_,s⟩ | ⟨_,s⟩<;>cases s
 · rw [L.tk] at e;cases e
   rcases s with ⟨_,_,_,s⟩ | ⟨_,s⟩<;>cases s
end
def scD:PyData->Bool
 | .none=>true
 | .bool _=>true
 | .int _=>true
 | .str _=>true
 | _=>false
def flD:PyData->Bool
 | .tuple ds=>ds.all scD
 | d=>scD d
theorem DV.sc {H H':Hp}:∀ {d:PyData} {v:V},scD d=true->DV H d v->DV H' d v
 | .none,_,_,h=>h
 | .bool _,_,_,h=>h
 | .int _,_,_,h=>h
 | .str _,_,_,h=>h
 | .list _,_,h,_=>by cases h
 | .tuple _,_,h,_=>by cases h
 | .dict _,_,h,_=>by cases h
theorem DVs.sc {H H':Hp}:∀ {ds:List PyData} {vs:List V},ds.all scD=true->DVs H ds vs->DVs H' ds vs
 | [],_,_,h=>h
 | d :: ds,_,h,⟨v,r,e,h1,h2⟩=>by
   rw [List.all_cons,Bool.and_eq_true] at h
   exact ⟨v,r,e,DV.sc h.1 h1,DVs.sc h.2 h2⟩
theorem DV.fl {H H':Hp} (ht:∀ b vs,H b=some (.tup vs)->H' b=some (.tup vs)):∀ {d:PyData} {v:V},flD d=true->DV H d v->DV H' d v
 | .none,_,_,h=>h
 | .bool _,_,_,h=>h
 | .int _,_,_,h=>h
 | .str _,_,_,h=>h
 | .list _,_,h,_=>by cases h
 | .tuple ds,_,h,⟨a,vs,e,ha,hv⟩=>⟨a,vs,e,ht _ _ ha,DVs.sc h hv⟩
 | .dict _,_,h,_=>by cases h
def Nms (k:Int) (ns:List Int):Prop:=ns.Nodup/\∀ x∈ns,0 <= x/\x < k
theorem Nms.nil (k:Int):Nms k []:=⟨List.nodup_nil,λ_ h=>by cases h⟩
theorem Nms.len {k:Int} {ns:List Int} (h:Nms k ns) (hk:k <= 9):ns.length <= 9:=by
 have:=nodup_le (l:=ns) (ks:=[0,1,2,3,4,5,6,7,8]) h.1 λx hx=>by
   have:=h.2 x hx
   have:x=0\/x=1\/x=2\/x=3\/x=4\/x=5\/x=6\/x=7\/x=8:=by omega
   simp only [List.mem_cons,List.not_mem_nil,or_false]
   exact this
 exact this
theorem Nms.snoc {k x:Int} {ns:List Int} (h:Nms k ns) (hx:ns.contains x=false) (hb:0 <= x/\x < k):Nms k (ns++[x]):=by
 refine ⟨?_,λy hy=>?_⟩
 · rw [List.nodup_append]
   refine ⟨h.1,List.nodup_cons.mpr ⟨by simp,List.nodup_nil⟩,λa ha b hb' e=>?_⟩
   rw [List.mem_singleton.mp hb'] at e
   rw [List.contains_eq_mem,decide_eq_false_iff_not] at hx
   exact hx (e ▸ ha)
 · rcases List.mem_append.mp hy with z | z
   · exact h.2 y z
   · rw [List.mem_singleton.mp z];exact hb
theorem Nms.filter {k x:Int} {ns:List Int} (h:Nms k ns):Nms k (ns.filter λy=>decide (y≠x)) :=
 ⟨List.Pairwise.filter _ h.1,λy hy=>h.2 y (List.mem_filter.mp hy).1⟩
theorem Nms.next {k x:Int} {ns:List Int} (h:Nms k ns) (hb:0 <= x/\x < k):Nms k (gNext ns x):=by
 unfold gNext
 cases e:ns.contains x with
 | true=>exact h
 | false=>exact h.snoc e hb
theorem Nms.erase {k x:Int} {ns:List Int} (h:Nms k ns):Nms k (ns.erase x) :=
 ⟨List.Nodup.erase x h.1,λy hy=>h.2 y (List.mem_of_mem_erase hy)⟩
end L2

namespace L2
open PySem PySem.Spec PyProof.Rows
section
variable {X:Cx}
def Ite (K:PySem.W.Frag) (a:Addr):It :=
 ⟨λi H=>∃ xs x,SqL K H a xs/\xs[i]?=some x,
  λi H v H'=>∃ T x,H T=none/\v=.ref T/\H'=upd H T (.tup [.int (i:Int),x])/\∀ xs,SqL K H a xs->xs[i]?=some x,
  λi H=>∃ xs,SqL K H a xs/\xs.length <= i⟩
theorem turn_enum {P:Program} {w:World} {K:PySem.W.Frag} {elts:List Expr} {kt:Nat} {pt:Pos} {e it a:Addr} (hne:e≠it) :
   Turn P w K (.Tuple elts kt pt) (Ite K a) [e,it] e (λi h=>(∃ old,IsEnum h e it (i:Int) old)/\h.IsListIter it a i) where
 mem:=List.mem_cons_self
 obj:=λi h st c hc=>by
   obtain ⟨⟨_,s1⟩,o,s2,_,s3⟩:=st
   simp only [List.mem_cons,List.not_mem_nil,or_false] at hc
   rcases hc with rfl | rfl
   · exact ⟨_,s1,λv q=>by cases q⟩
   · exact ⟨o,s2,λv q=>by rw [s3] at q;cases q⟩
 keep:=λi h h' st k=>by
   obtain ⟨⟨u,s1⟩,o,s2,s3⟩:=st
   exact ⟨⟨u,k e (by simp) _ s1⟩,o,k it (by simp) _ s2,s3⟩
 item:=by
   intro X hP hw hK hc i pins s σ H E I hf st hg
   subst hP hw hK
   obtain ⟨⟨u,s1⟩,s2⟩:=st
   obtain ⟨xs,x,q1,hx⟩:=hg
   obtain ⟨us,r1,p1,_⟩:=I.list q1
   obtain ⟨ux,hux,rx⟩:=r1.get hx
   refine wpAny_pyNext_enum_item s1 s2 p1.isList (x:=ux) (by simpa using hux) hne λh' t1 t2 t3 t4 kk=>?_
   have hfresh:H s.heap.objs.size=none:=I.hok.fresh (Nat.le_refl _)
   have lt:∀ {c o},s.heap.get? c=some o->c≠s.heap.objs.size:=λe=>Nat.ne_of_lt (Heap.lt_size e)
   refine ⟨_,rfl,wpAny_letOwnedTupleGo_enum t1 λh'' u1 e2=>?_⟩
   have ch:∀ c o,c ∉ [e,it]->s.heap.get? c=some o->h''.get? c=some o:=λc o n ee=>by
     have n1:c≠e:=λq=>n (by simp [q])
     exact e2.extBut _ _ n1 (kk c o n1 (λq=>n (by simp [q])) ee)
   have I1:Inv X pins σ H { s with heap:=h'',toks:=s.toks+1 }:=I.turnedL (t':=s.toks+1) (λb hb=>hf b hb) ch
   have T5:h''.get? s.heap.objs.size=some { cls:=.type "tuple",data:=.seq #[.int (i:Int) s.toks,ux] }:=e2.extBut _ _ (lt s1).symm t3
   have apt:=I.aptSz (Nat.le_refl s.heap.objs.size) hfresh
   have I2:=I1.seen (o:=.tup [.int (i:Int),x]) apt ⟨by show 2 <= sizeLine;decide,[.int (i:Int) s.toks,ux],.cons ⟨_,rfl⟩ (.cons rx .nil),⟨_,T5,rfl,_,rfl⟩⟩
   refine ⟨.ref s.heap.objs.size,_,I2,rfl,⟨_,x,hfresh,rfl,rfl,λzs hz=>by rw [I.list_inj hz q1];exact hx⟩,⟨⟨_,u1⟩,?_⟩,λb hb=>?_⟩
   · obtain ⟨o,a1,a2⟩:=t2
     exact ⟨o,e2.extBut _ _ hne.symm a1,a2⟩
   · obtain ⟨o,ho,_⟩:∃ o,s.heap.get? b=some o/\True:=by
       simp only [List.mem_cons,List.not_mem_nil,or_false] at hb
       rcases hb with rfl | rfl
       · exact ⟨_,s1,trivial⟩
       · obtain ⟨o,a1,_⟩:=s2;exact ⟨o,a1,trivial⟩
     rw [upd_ne (lt ho)]
     exact (hf b hb).1
 done:=by
   intro X hP hw hK hc i pins s σ H E I hf st hg
   subst hP hw hK
   obtain ⟨⟨u,s1⟩,s2⟩:=st
   obtain ⟨xs,q1,hx⟩:=hg
   obtain ⟨us,r1,p1,_⟩:=I.list q1
   have hl:=r1.length
   exact wpAny_pyNext_enum_end (I.ok.hd hc) s1 s2 p1.isList (by simp;omega) λh' kk=>⟨rfl,I.turnedL (t':=s.toks) (ch:=[it]) (λb hb=>hf b (by
     rw [List.mem_singleton.mp hb];simp)) λb o n ee=>kk b o (λq=>n (by simp [q])) ee⟩
 self:=λA i s Q E st hQ=>by
   obtain ⟨⟨u,s1⟩,_⟩:=st
   exact wpAny_pyIter_enum s1 hQ
def iEnum (K:PySem.W.Frag) (ta:TA):TI:=λσ H R=>ta σ H λvs H1=>∃ a xs,vs=[.ref a]/\SqL K H1 a xs/\R (Ite K a) H1
theorem boot_enum:bootBuiltins "enumerate"=some (.type "enumerate"):=by decide +kernel
theorem pi_enum {a:Expr} {ta:TA} {p pos pt:Pos} {elts:List Expr} {kt:Nat} (hg:Gl X "enumerate") (hm:X.mg "enumerate"=none) (ha:PA X [a] ta) (hs:starEach [a] X.env=[(false,eval a X.env)]:=by rfl) :
   PI X (.Tuple elts kt pt) (.Call (.Name "enumerate" p) [a] [] pos) (iEnum X.K ta):=by
 intro pins s σ H R I h
 refine Call_ (ld_blt I hg hm boot_enum (PyProof.Rows.callWith_type1 (thn (ha pos pins s σ H _ I h) λus s1 ⟨vs,H1,I1,r1,q1⟩=>?_) (by rw [hs];rfl) (by first | rfl | (rw [hs];rfl))))
 obtain ⟨a1,xs,e,h1,q⟩:=q1
 subst e
 obtain ⟨u,rfl,ru⟩:=r1.one
 cases ru
 obtain ⟨us,_,p1,_⟩:=I1.list h1
 refine call_enumerate_list p1.isList λh' z1 z2 z3 kk=>wpAny_pyIter_enum z1 ?_
 have fr:∀ b,s1.heap.objs.size <= b->FpOk X pins H1 b:=λb hb=>I1.fpOk hb (I1.hok.fresh hb)
 refine ⟨_,[s1.heap.objs.size+1,s1.heap.objs.size],_,_,H1,rfl,I1.kept (t':=s1.toks) kk,turn_enum (by show (_:Nat)≠_;omega),⟨⟨_,z1⟩,z2⟩,λb hb=>fr b ?_,q⟩
 simp only [List.mem_cons,List.not_mem_nil,or_false] at hb
 rcases hb with rfl | rfl<;>omega
theorem for_enum {K:PySem.W.Frag} {a:Addr} {xs:List V} {g:TG} {tb:TS} {D:Ends} {σ:St} {H:Hp} (Pv:Nat->St->Hp->Prop) (h0:Pv 0 σ H) (hl:∀ i σ H,i <= xs.length->Pv i σ H->SqL K H a xs)
   (hs:∀ i x T σ H,xs[i]?=some x->H T=none->Pv i σ H->g (.ref T) σ (upd H T (.tup [.int (i:Int),x])) λσ2 H2=>tb { D with nx:=Pv (i+1),ct:=Pv (i+1),bk:=D.nx } σ2 H2) (hd:∀ σ H,Pv xs.length σ H->D.nx σ H) :
   ∃ W:Nat->Nat->St->Hp->Prop,(∃ m,W 0 m σ H)/\∀ i m σ H,W i m σ H ->
     ((Ite K a).stop i H/\D.nx σ H)\/((Ite K a).go i H/\∃ N:St->Hp->Prop,(∀ σ' H',N σ' H'->∃ m',m' < m/\W (i+1) m' σ' H')/\∀ x H',(Ite K a).yld i H x H'->g x σ H' λσ2 H2=>tb { D with nx:=N,ct:=N,bk:=D.nx } σ2 H2):=by
 refine ⟨λi m σ H=>m=xs.length - i/\i <= xs.length/\Pv i σ H,⟨xs.length,by simp,Nat.zero_le _,h0⟩,?_⟩
 rintro i m σ H ⟨rfl,hi,p⟩
 have q1:=hl i σ H hi p
 by_cases hlt:i < xs.length
 · refine .inr ⟨⟨xs,xs[i],q1,List.getElem?_eq_getElem hlt⟩,Pv (i+1),λσ' H' z=>⟨xs.length - (i+1),by omega,rfl,hlt,z⟩,?_⟩
   rintro v H' ⟨T,x,hT,rfl,rfl,hx⟩
   exact hs i x T σ H (hx _ q1) hT p
 · refine .inl ⟨⟨xs,q1,by omega⟩,hd σ H ?_⟩
   have e:i=xs.length:=by omega
   rw [← e];exact p
end
end L2

namespace L2
open PySem PySem.Spec PyProof.Rows
def cxComp3 (X:Cx) (scope:Scope) (cl:List (Str × Addr)) (C:Addr) (x x2 x3:Str) (N':List Str) (s₃:Shared) (H₃:Hp) (pins:List (Addr × Obj)) (ex:List Addr) (E':Value->Shared->Prop):Cx :=
 { X with N:=N',s₀:=s₃,H₀:=H₃,env:=compEnvC scope cl C X.env,outer:=X.stack,stack:=X.stack,ex:=ex,fn:=λy=>y == x || y == x2 || y == x3,pn:=X.pn++pins,xe:=E' }
theorem pg_three {X:Cx} {x1 x2 x3:Str} {p1 p2 p3 pos:Pos} {k:Nat} (hc:X.calm=true) (hN:X.N.Nodup) (h0:X.N[0]?=some x1) (h1:X.N[1]?=some x2) (h2:X.N[2]?=some x3) (l1:Loc X.env.scope x1) (l2:Loc X.env.scope x2) (l3:Loc X.env.scope x3) (f1:X.fn x1=true) (f2:X.fn x2=true) (f3:X.fn x3=true) :
   PG X (.Tuple [.Name x1 p1,.Name x2 p2,.Name x3 p3] k pos) (gTup X.K 3 (gCons (gName 0) (gCons (gName 1) (gCons (gName 2) gNil)))) :=
 pg_tup hc (pgs_cons (pg_name hN h0 l1 (.inl f1)) (pgs_cons (pg_name hN h1 l2 (.inl f2)) (pgs_cons (pg_name hN h2 l3 (.inl f3)) pgs_nil)))
def tComp3 (wi:TI) (g:TG) (js:List Nat) (tc:TT) (te:TE):TE:=λσ H Q=>wi σ H λJ H1=>∀ D,H1 D=none->∃ W:Nat->Nat->List V->Hp->Prop,(∃ m,W 0 m [] (upd H1 D (.lst []))) /\
 ∀ i m ys H2,W i m ys H2->H2 D=some (.lst ys)/\ys.length < sizeLine/\((J.stop i H2/\Q (.ref D) H2)\/(J.go i H2/\∀ x H3,J.yld i H2 x H3->∀ v0 v1 v2:Option V,
   g x (v0 :: v1 :: v2 :: capt σ js) H3 λσ' H'=>∃ v0' v1' v2',σ'=v0' :: v1' :: v2' :: capt σ js/\tc σ' H' λb H4=>if b=true then te σ' H4 λy H5=>H5 D=some (.lst ys)/\∃ m',m' < m/\W (i+1) m' (ys++[y]) (upd H5 D (.lst (ys++[y])))
     else ∃ m',m' < m/\W (i+1) m' ys H4))
section
variable {X:Cx} {scope:Scope} {cl:List (Str × Addr)} {x x2 x3:Str} {N':List Str}
theorem cxComp3_ok {pins:List (Addr × Obj)} {σ:St} {H₃:Hp} {s₃:Shared} {ex:List Addr} {E':Value->Shared->Prop} (O:CompOk X scope cl x) (O2:CompOk X scope cl x2) (O3:CompOk X scope cl x3) (I:Inv X pins σ H₃ s₃) (hf:∀ b∈ex,FpOk X pins H₃ b/\b < s₃.heap.objs.size) :
   (cxComp3 X scope cl s₃.heap.objs.size x x2 x3 N' s₃ H₃ pins ex E').Ok where
 mod:=I.ok.mod
 kind:=O.kind
 glob:=I.ok.glob
 blt:=I.ok.blt
 above:=Nat.le_refl _
 inj:=λy z c h1 h2=>I.ok.inj y z c (O.sub _ (mem_of_lookup h1)) (O.sub _ (mem_of_lookup h2))
 has:=λy h=>by
   have h':∃ k,(relabel scope X.env).names.lookup y=some k/\(k=.cell\/k=.free):=by
     rcases h with h | h
     · exact ⟨_,h,.inl rfl⟩
     · exact ⟨_,h,.inr rfl⟩
   obtain ⟨k,e,hk⟩:=h'
   obtain ⟨p,hp,rfl,e2⟩:=relabel_mem e hk O.nocell
   exact O.has p hp e2
 cab:=λy c h1 h2=>by
   have h2':cl.lookup y=some c:=h2
   rcases Bool.or_eq_true_iff.mp h1 with e | e
   · rcases Bool.or_eq_true_iff.mp e with e | e
     · rw [beq_iff_eq.mp e,O.nox] at h2';cases h2'
     · rw [beq_iff_eq.mp e,O2.nox] at h2';cases h2'
   · rw [beq_iff_eq.mp e,O3.nox] at h2';cases h2'
 hd:=I.ok.hd
 frames:=I.ok.frames
 stk:=.inl rfl
 exf:=λb hb=>⟨Nat.ne_of_lt (hf b hb).2,λy c e=>(hf b hb).1.2.2.2.2.1 y c (O.sub _ (mem_of_lookup e))⟩
 bs:=I.bs
 bsz:=Nat.le_trans I.ok.bsz I.sz
 noex:=λb o e hb=>by
   obtain ⟨_,_,_,h4,_⟩:=(hf b hb).1
   rcases h4 with z | z
   · exact I.ok.noex b o e z
   · have g1:b < X.base.objs.size:=Heap.lt_size e
     exact absurd (Nat.lt_of_lt_of_le g1 (Nat.le_trans I.ok.bsz z)) (Nat.lt_irrefl _)
 exfs:=λb hb z=>by
   obtain ⟨_,h2,h3,_⟩:=(hf b hb).1
   rcases List.mem_cons.mp (I.stkSub b z) with q | q
   · exact h2 q
   · exact h3 q
 funs:=I.stack
 frf:=I.stkFree
theorem Inv.block3 {pins:List (Addr × Obj)} {σ σ':St} {H₃ H':Hp} {s₃ s':Shared} {ex:List Addr} {E':Value->Shared->Prop} {h':Heap} (I:Inv X pins σ H₃ s₃) (hf:∀ b∈ex,FpOk X pins H₃ b)
   (I':Inv (cxComp3 X scope cl s₃.heap.objs.size x x2 x3 N' s₃ H₃ pins ex E') [] σ' H' s') (hs:Heap.SameBut s₃.heap.objs.size s'.heap h'):Inv X pins σ H' { s' with heap:=h' }:=by
 have ne:∀ b o,s₃.heap.get? b=some o->b≠s₃.heap.objs.size:=λb o e=>Nat.ne_of_lt (Heap.lt_size e)
 have fr:H' s₃.heap.objs.size=none:=I'.free
 have hok:HOk X.prog X.w H' h':=λa o e=>by
   refine (I'.hok a o e).stay (λb u hb q=>(hs.2 b ?_).trans q) (λ_ q=>q) λ_ _ q=>q
   rintro rfl
   rcases hb with z | z
   · rw [← z,fr] at e;cases e
   · rw [fr] at z;cases z
 have u:Un (frs X.stack) ex H₃ H' s₃.heap h':=by
   obtain ⟨k1,k2,k3,k4,k5,k6,k7⟩:=I'.base
   refine ⟨λb o q n hb hx=>(hs.2 b (ne b o q)).trans (k1 b o q n hb hx),λb o q n hb hx=>?_,k3,λb o q hx=>?_,k5,k6,k7⟩
   · obtain ⟨sl,e⟩:=k2 b o q n hb hx
     exact ⟨sl,(hs.2 b (ne b o q)).trans e⟩
   · obtain ⟨o',e⟩:=k4 b o q hx
     exact ⟨o',(hs.2 b (ne b o q)).trans e⟩
 exact I.call' (s':={ s' with heap:=h' }) I'.os u hok I'.bare λb hb=>⟨(hf b hb).2.2.2.1,(hf b hb).2.1,(hf b hb).2.2.2.2.1,(hf b hb).2.2.2.2.2⟩
theorem Inv.enter3 {pins:List (Addr × Obj)} {σ:St} {H₃:Hp} {s₃:Shared} {ex:List Addr} {E':Value->Shared->Prop} {caps:List Str} {js:List Nat} {h₁:Heap} {tk:Nat} (O:CompOk X scope cl x) (O2:CompOk X scope cl x2) (O3:CompOk X scope cl x3) (I:Inv X pins σ H₃ s₃)
   (hf:∀ b∈ex,FpOk X pins H₃ b/\b < s₃.heap.objs.size) (hcap:∀ y∈caps,∃ c,cl.lookup y=some c) (hjs:Paired (λ(y:Str) (j:Nat)=>X.N[j]?=some y/\(X.env.scope.names.lookup y=some .cell\/X.env.scope.names.lookup y=some .free)) caps js)
   (hkc:∀ y∈caps,(relabel scope X.env).names.lookup y=some .cell\/(relabel scope X.env).names.lookup y=some .free)
   (hn:h₁.Ns s₃.heap.objs.size λ_=>none) (hk:∀ b o,s₃.heap.get? b=some o->h₁.get? b=some o) :
   Inv (cxComp3 X scope cl s₃.heap.objs.size x x2 x3 (x :: x2 :: x3 :: caps) s₃ H₃ pins ex E') [] (none :: none :: none :: capt σ js) H₃ { s₃ with heap:=h₁,toks:=tk }:=by
 have hlen:caps.length=js.length:=Paired.length hjs
 obtain ⟨m0,hm0,hl0⟩:=I.loc
 refine ⟨cxComp3_ok O O2 O3 I hf,rfl,I.bare,Un.kept hk,⟨_,hn,λi y v e1 e2 e3=>?_⟩,λy c e=>?_,I.hok.fresh (Nat.le_refl _),λy c e=>I.freeC y c (O.sub _ (mem_of_lookup e)),λp hp=>?_,I.hok.kept hk,?_⟩
 · match i,e1,e2 with
   | 0,_,e2=>cases e2
   | 1,_,e2=>cases e2
   | 2,_,e2=>cases e2
   | i+3,e1,e2 =>
     have e1':(x :: x2 :: x3 :: caps)[i+3]?=some y:=e1
     rw [List.getElem?_cons_succ,List.getElem?_cons_succ,List.getElem?_cons_succ] at e1'
     have e2':(none :: none :: none :: capt σ js)[i+3]?=some (some v):=e2
     rw [List.getElem?_cons_succ,List.getElem?_cons_succ,List.getElem?_cons_succ] at e2'
     obtain ⟨j,ej,hN,hk1⟩:=MX.f2_get' hjs i y e1'
     unfold capt at e2'
     rw [List.getElem?_map,ej] at e2'
     have e3':(σ[j]?).getD none=some v:=by simpa using e2'
     have e4:σ[j]?=some (some v):=by
       cases q:σ[j]? with
       | none=>rw [q] at e3';cases e3'
       | some z=>rw [q] at e3';rw [show z=some v from e3']
     obtain ⟨u,r,l⟩:=hl0 j y v hN e4 (by rcases hk1 with z | z;exact .inr (.inl z);exact .inr (.inr z))
     obtain ⟨c,hc⟩:=hcap y (List.mem_of_getElem? e1')
     refine ⟨u,r,.inr ⟨hkc y (List.mem_of_getElem? e1'),c,hc,?_⟩⟩
     rcases l with ⟨z,_⟩ | ⟨_,c',z1,o,z2,z3⟩
     · have z':X.env.scope.names.lookup y=some .local:=z
       rcases hk1 with q | q<;>(rw [q] at z';cases z')
     · rw [O.sub _ (mem_of_lookup hc)] at z1
       cases z1
       exact ⟨o,hk _ _ z2,z3⟩
 · obtain ⟨v,o,z2,z3⟩:=I.cell y c (O.sub _ (mem_of_lookup e))
   exact ⟨v,o,hk _ _ z2,z3⟩
 · have hp':p∈X.pn++pins:=by simpa [cxComp3] using hp
   obtain ⟨g1,g2,g3,g4,g5⟩:=I.pin p hp'
   refine ⟨hk _ _ g1,g2,Nat.ne_of_lt (Heap.lt_size g1),λz=>?_,g5⟩
   rcases List.mem_cons.mp (I.stkSub p.1 z) with q | q
   · exact g3 q
   · exact g4 q
 · show (none :: none :: none :: capt σ js).length=(x :: x2 :: x3 :: caps).length
   unfold capt
   rw [List.length_cons,List.length_cons,List.length_cons,List.length_cons,List.length_cons,List.length_cons,List.length_map,hlen]
theorem pe_comp3 {pos:Pos} {tg:Expr} {g:TG} {iter elt:Expr} {ifs:List Expr} {caps:List Str} {js:List Nat} {wi:TI} {tc:TT} {te:TE} (hc:X.calm=true) (O:CompOk X scope cl x) (O2:CompOk X scope cl x2) (O3:CompOk X scope cl x3) (hg:∀ C s₃ H₃ pins ex E',PG (cxComp3 X scope cl C x x2 x3 (x :: x2 :: x3 :: caps) s₃ H₃ pins ex E') tg g)
   (hcap:∀ y∈caps,∃ c,cl.lookup y=some c) (hjs:Paired (λ(y:Str) (j:Nat)=>X.N[j]?=some y/\(X.env.scope.names.lookup y=some .cell\/X.env.scope.names.lookup y=some .free)) caps js)
   (hkc:∀ y∈caps,(relabel scope X.env).names.lookup y=some .cell\/(relabel scope X.env).names.lookup y=some .free)
   (hi:PI X tg iter wi) (ht:∀ C s₃ H₃ pins ex E',PTs (cxComp3 X scope cl C x x2 x3 (x :: x2 :: x3 :: caps) s₃ H₃ pins ex E') ifs tc) (he:∀ C s₃ H₃ pins ex E',PE (cxComp3 X scope cl C x x2 x3 (x :: x2 :: x3 :: caps) s₃ H₃ pins ex E') elt te)
   (hs:∀ x,foldedSetIterable iter X.env x=pure x:=by intro _;rfl):PE X (.ListComp elt [⟨tg,iter,ifs,0⟩] scope pos) (tComp3 wi g js tc te):=by
 intro pins s σ H Q I h
 rw [eval_ListComp]
 refine wpAny_comprehension_free (use:=none) rfl hs O.clos O.kind O.names (thn (hi pins s σ H _ I h) λv s1 h1=>thn h1 λitv s2 ⟨it,fp,tn,J,H1,e,I2,T,t0,hf,q⟩=>?_)
 subst e
 refine wpAny_newObj_type (wpAny_newFunctionEnv O.nocell (by intro y hy;cases hy) (λh₁ hns₁ hsb₁=>?_) O.kind)
 obtain ⟨W,⟨m0,w0⟩,step⟩:=q s2.heap.objs.size (I2.hok.fresh (Nat.le_refl _))
 have I3:Inv X pins σ (upd H1 s2.heap.objs.size (.lst [])) { s2 with heap:=s2.heap.push { cls:=.type "list",data:=.seq ([]:List Value).toArray } }:=I2.lnew (t':=s2.toks) (its:=[]) .nil (Nat.zero_le _)
 have fpl:∀ b∈fp,b < s2.heap.objs.size:=λb hb=>by
   obtain ⟨o,e,_⟩:=T.obj _ _ t0 b hb
   exact Heap.lt_size e
 have hf3:∀ b∈fp,FpOk X pins (upd H1 s2.heap.objs.size (.lst [])) b:=λb hb=>by
   obtain ⟨f0,f⟩:=hf b hb
   exact ⟨by rw [upd_ne (Nat.ne_of_lt (fpl b hb))];exact f0,f⟩
 generalize hs3:({ s2 with heap:=s2.heap.push { cls:=.type "list",data:=.seq ([]:List Value).toArray } }:Shared)=s₃ at *
 generalize hH3:upd H1 s2.heap.objs.size (.lst [])=H₃ at *
 have hsz:s2.heap.objs.size < s₃.heap.objs.size:=by rw [← hs3];show _ < (s2.heap.push _).objs.size;rw [Heap.size_push];exact Nat.lt_succ_self _
 have hk2:∀ b o,s2.heap.get? b=some o->s₃.heap.get? b=some o:=λb o e=>by rw [← hs3];exact Heap.get?_push_of_some _ e
 have hk3:∀ b o,s₃.heap.get? b=some o->h₁.get? b=some o:=λb o e=>hsb₁.extBut b o (Nat.ne_of_lt (Heap.lt_size e)) (Heap.get?_push_of_some _ e)
 have t3:tn 0 h₁:=T.keep _ _ _ t0 λb _ o e=>hk3 b o (hk2 b o e)
 have loop:∀ (R:Result->Shared->Prop),(∀ f s',(∃ σ' H' i m ys,Inv (cxComp3 X scope cl s₃.heap.objs.size x x2 x3 (x :: x2 :: x3 :: caps) s₃ H₃ pins fp (notedBy (model X.prog X.w) X.A (compEnvC scope cl s₃.heap.objs.size X.env) λe s'=>R (.error e) s')) [] σ' H' s'/\W i m ys H'/\Q (.ref s2.heap.objs.size) H')->R (.ok f) s') ->
     ∀ tk,codeAny (model X.prog X.w) X.A (.compLoop (.ListComp elt [⟨tg,iter,ifs,0⟩] scope pos) 0 (.ref it) (.ref s2.heap.objs.size) (compEnvC scope cl s₃.heap.objs.size X.env)) R { s₃ with heap:=h₁,toks:=tk }:=by
   intro R hR tk
   have I4:=Inv.enter3 (E':=notedBy (model X.prog X.w) X.A (compEnvC scope cl s₃.heap.objs.size X.env) λe s'=>R (.error e) s') (tk:=tk) O O2 O3 I3 (λb hb=>⟨hf3 b hb,Nat.lt_trans (fpl b hb) hsz⟩) hcap hjs hkc (by simpa using hns₁) hk3
   have stat:∀ {H':Hp},(∀ b∈fp,H' b=none)->∀ b∈fp,FpOk (cxComp3 X scope cl s₃.heap.objs.size x x2 x3 (x :: x2 :: x3 :: caps) s₃ H₃ pins fp (notedBy (model X.prog X.w) X.A (compEnvC scope cl s₃.heap.objs.size X.env) λe s'=>R (.error e) s')) [] H' b:=λhn b hb=>by
     obtain ⟨f0,f1,f2,f3,f4,f5⟩:=hf3 b hb
     refine ⟨hn b hb,Nat.ne_of_lt (Nat.lt_trans (fpl b hb) hsz),λz=>?_,.inl hb,λy c e=>f4 y c (O.sub _ (mem_of_lookup e)),λp hp=>f5 p (by simpa [cxComp3] using hp)⟩
     rcases List.mem_cons.mp (I3.stkSub b z) with q | q
     · exact f1 q
     · exact f2 q
   refine loop_any (λn s'=>∃ i v0 v1 v2 ys H',Inv (cxComp3 X scope cl s₃.heap.objs.size x x2 x3 (x :: x2 :: x3 :: caps) s₃ H₃ pins fp (notedBy (model X.prog X.w) X.A (compEnvC scope cl s₃.heap.objs.size X.env) λe s'=>R (.error e) s')) [] (v0 :: v1 :: v2 :: capt σ js) H' s'/\tn i s'.heap/\(∀ b∈fp,H' b=none)/\W i n ys H') ?_ m0
     ⟨0,none,none,none,[],H₃,I4,t3,λb hb=>(hf3 b hb).1,w0⟩
   rintro n s4 ⟨i,v0,v1,v2,ys,H4,J4,t4,fr4,w4⟩
   obtain ⟨hD,hlen,hor⟩:=step i n ys H4 w4
   rcases hor with ⟨stop,qn⟩ | ⟨go,hy⟩
   · refine thn (T.done (cxComp3 X scope cl s₃.heap.objs.size x x2 x3 (x :: x2 :: x3 :: caps) s₃ H₃ pins fp (notedBy (model X.prog X.w) X.A (compEnvC scope cl s₃.heap.objs.size X.env) λe s'=>R (.error e) s')) rfl rfl rfl hc i [] s4 _ H4 _ J4 (stat fr4) t4 stop) λr s5 ⟨hr,J5⟩=>?_
     subst hr
     exact hR _ _ ⟨_,H4,i,n,ys,J5,w4,qn⟩
   · refine thn (T.item (cxComp3 X scope cl s₃.heap.objs.size x x2 x3 (x :: x2 :: x3 :: caps) s₃ H₃ pins fp (notedBy (model X.prog X.w) X.A (compEnvC scope cl s₃.heap.objs.size X.env) λe s'=>R (.error e) s')) rfl rfl rfl hc i [] s4 _ H4 _ J4 (stat fr4) t4 go) λr s5 ⟨u,hr,h5⟩=>?_
     subst hr
     refine thn h5 λ_ s6 ⟨y,H6,J6,ry,yl,t6,fr6⟩=>?_
     have J6':=J6.pinned (stat fr6) (T.obj _ _ t6)
     have hy6:=hy y H6 yl v0 v1 v2
     refine thn (hg _ _ _ _ _ _ _ s6 _ H6 y u _ J6' ry hy6) λ_ s7 ⟨σ7,H7,J7,v0',v1',v2',e7,hy7⟩=>?_
     subst e7
     refine thn (ht _ _ _ _ _ _ _ s7 _ H7 _ J7 hy7) λok s8 ⟨H8,J8,q8⟩=>?_
     have back:∀ {σ9:St} {H9:Hp} {s9:Shared},Inv (cxComp3 X scope cl s₃.heap.objs.size x x2 x3 (x :: x2 :: x3 :: caps) s₃ H₃ pins fp (notedBy (model X.prog X.w) X.A (compEnvC scope cl s₃.heap.objs.size X.env) λe s'=>R (.error e) s')) ([]++pinsAt fp s6.heap) σ9 H9 s9->tn (i+1) s9.heap/\∀ b∈fp,H9 b=none:=λJ9=>by
       refine ⟨T.keep _ _ _ t6 λb hb o e=>(J9.pin (b,o) (List.mem_append_right _ (List.mem_append_right _ (mem_pinsAt hb e)))).1,λb hb=>?_⟩
       obtain ⟨o,e,d⟩:=T.obj _ _ t6 b hb
       exact (J9.pin (b,o) (List.mem_append_right _ (List.mem_append_right _ (mem_pinsAt hb e)))).2.1
     cases ok with
     | false =>
       rw [if_neg (by decide)]
       rw [if_neg (by decide)] at q8
       obtain ⟨m',hm,w8⟩:=q8
       obtain ⟨b1,b2⟩:=back J8
       exact ⟨m',hm,i+1,v0',v1',v2',ys,H8,J8.unpinned,b1,b2,w8⟩
     | true =>
       rw [if_pos rfl]
       rw [if_pos rfl] at q8
       refine thn (he _ _ _ _ _ _ _ s8 _ H8 _ J8 q8) λz s9 ⟨vz,H9,J9,rz,hD9,m',hm,w9⟩=>?_
       refine thn (mt_append (X:=cxComp3 X scope cl s₃.heap.objs.size x x2 x3 (x :: x2 :: x3 :: caps) s₃ H₃ pins fp (notedBy (model X.prog X.w) X.A (compEnvC scope cl s₃.heap.objs.size X.env) λe s'=>R (.error e) s')) _ s9 _ H9 (.ref s2.heap.objs.size) [vz] (.ref s2.heap.objs.size) [z] (λ_ H10=>H10=upd H9 s2.heap.objs.size (.lst (ys++[vz]))) J9 rfl (.cons rz .nil) ⟨_,ys,vz,rfl,rfl,hD9,hlen,rfl⟩) λ_ s10 ⟨v10,H10,J10,r10,e10⟩=>?_
       subst e10
       obtain ⟨b1,b2⟩:=back J10
       exact ⟨m',hm,i+1,v0',v1',v2',ys++[vz],_,J10.unpinned,b1,b2,w9⟩
 have fin:∀ tk,codeAny (model X.prog X.w) X.A (.compLoop (.ListComp elt [⟨tg,iter,ifs,0⟩] scope pos) 0 (.ref it) (.ref s2.heap.objs.size) (compEnvC scope cl s₃.heap.objs.size X.env)) (compPost (model X.prog X.w) X.A X.xe none (EP X pins σ Q) (.ref s2.heap.objs.size) s₃.heap.objs.size) { s₃ with heap:=h₁,toks:=tk }:=λtk=>by
   refine loop _ (λf s' ⟨σ',H',i,m,ys,J',w',qn⟩=>?_) tk
   obtain ⟨mm,hmm,_⟩:=J'.loc
   exact ⟨mm,hmm,λh' hs'=>⟨.ref s2.heap.objs.size,H',Inv.block3 I3 hf3 J' hs',rfl,qn⟩⟩
 exact codeAny_compStart_list (fin _) (T.self _ _ _ _ _ t3 (fin _))
end
end L2

namespace L2
open PySem PySem.Spec PyProof.Rows
inductive Wd where
 | asked | taken | answered | handed
instance:DecidableEq Wd:=λa b=>by
 cases a<;>cases b<;>first | exact isTrue rfl | exact isFalse (λh=>by cases h)
def Wd.key:Wd->Str
 | .asked=>"asked"
 | .taken=>"taken"
 | .answered=>"answered"
 | .handed=>"handed"
structure Hap where
 w:Wd
 n:Int
 o:Int
def th (w:Wd) (hs:List Hap):List (Int × Int):=(hs.filter λh=>decide (h.w=w)).map λh=>(h.n,h.o)
theorem th_snoc (w:Wd) (hs:List Hap) (h:Hap):th w (hs++[h])=if h.w=w then th w hs++[(h.n,h.o)] else th w hs:=by
 unfold th
 rw [List.filter_append,List.map_append]
 by_cases e:h.w=w
 · rw [if_pos e,List.filter_cons,if_pos (decide_eq_true e)];rfl
 · rw [if_neg e,List.filter_cons,if_neg (by rw [decide_eq_false e];decide)];simp
def cnt (w:Wd) (x:Int) (hs:List Hap):Nat:=((th w hs).filter λp=>decide (p.1=x)).length
theorem cnt_snoc (w:Wd) (x:Int) (hs:List Hap) (h:Hap):cnt w x (hs++[h])=cnt w x hs+if h.w=w/\h.n=x then 1 else 0:=by
 unfold cnt
 rw [th_snoc]
 by_cases e:h.w=w
 · rw [if_pos e,List.filter_append,List.length_append]
   by_cases q:h.n=x
   · rw [if_pos ⟨e,q⟩,List.filter_cons,if_pos (decide_eq_true q)];rfl
   · rw [if_neg (λz=>q z.2),List.filter_cons,if_neg (by rw [decide_eq_false q];decide)];rfl
 · rw [if_neg e,if_neg (λz=>e z.1)];rfl
theorem th_c {w' w:Wd} {hs:List Hap} {n o:Int}:th w (hs++[⟨w',n,o⟩])=if w'=w then th w hs++[(n,o)] else th w hs:=th_snoc w hs _
theorem cnt_c {w' w:Wd} {hs:List Hap} {n o x:Int}:cnt w x (hs++[⟨w',n,o⟩])=cnt w x hs+if w'=w/\n=x then 1 else 0:=cnt_snoc w x hs _
theorem cnt_no {w' w:Wd} {hs:List Hap} {n o x:Int} (h:w'≠w):cnt w x (hs++[⟨w',n,o⟩])=cnt w x hs:=by rw [cnt_c,if_neg λz=>h z.1];rfl
theorem cnt_yes {w:Wd} {hs:List Hap} {n o x:Int}:cnt w x (hs++[⟨w,n,o⟩])=cnt w x hs+if n=x then 1 else 0:=by rw [cnt_c];simp
def fitsL (ah:List Hap) (h:Hap):Bool:=match h.w with
 | .asked=>decide (cnt .asked h.n ah=cnt .handed h.n ah)
 | .answered=>decide (cnt .answered h.n ah < cnt .taken h.n ah)
 | .taken=>decide (((th .asked ah).drop (th .taken ah).length).take 1=[(h.n,h.o)])
 | .handed=>decide (((th .answered ah).drop (th .handed ah).length).take 1=[(h.n,h.o)])
def firstF:List Hap->List Hap->Option Nat
 | _,[]=>none
 | ah,h :: t=>if fitsL ah h=true then firstF (ah++[h]) t else some ah.length
def firstL (hs:List Hap):Option Nat:=firstF [] hs
theorem firstF_app:∀ (t ah:List Hap) (h:Hap),firstF ah t=none->fitsL (ah++t) h=true->firstF ah (t++[h])=none
 | [],ah,h,_,f=>by
   rw [List.append_nil] at f
   show (if fitsL ah h=true then firstF (ah++[h]) [] else some ah.length)=none
   rw [if_pos f];rfl
 | x :: t,ah,h,e,f=>by
   have e':(if fitsL ah x=true then firstF (ah++[x]) t else some ah.length)=none:=e
   show (if fitsL ah x=true then firstF (ah++[x]) (t++[h]) else some ah.length)=none
   by_cases q:fitsL ah x=true
   · rw [if_pos q] at e' ⊢
     exact firstF_app t _ h e' (by rw [List.append_assoc];exact f)
   · rw [if_neg q] at e';cases e'
theorem first_snoc {hs:List Hap} {h:Hap} (e:firstL hs=none) (f:fitsL hs h=true):firstL (hs++[h])=none:=firstF_app hs [] h e f
theorem first_lt:∀ {t ah:List Hap} {k:Nat},firstF ah t=some k->k < ah.length+t.length
 | [],_,_,h=>by cases h
 | x :: t,ah,k,h=>by
   have h':(if fitsL ah x=true then firstF (ah++[x]) t else some ah.length)=some k:=h
   by_cases q:fitsL ah x=true
   · rw [if_pos q] at h'
     have:=first_lt h'
     rw [List.length_append] at this
     rw [List.length_cons]
     have e:[x].length=1:=rfl
     omega
   · rw [if_neg q] at h'
     cases h'
     rw [List.length_cons];omega
theorem first_at {hs:List Hap} {i:Nat} {h:Hap} (hi:hs[i]?=some h):firstF (hs.take i) (hs.drop i)=if fitsL (hs.take i) h=true then firstF (hs.take (i+1)) (hs.drop (i+1)) else some i:=by
 have hlt:i < hs.length:=(List.getElem?_eq_some_iff.mp hi).1
 have e1:hs.drop i=h :: hs.drop (i+1):=by rw [List.drop_eq_getElem_cons hlt,(List.getElem?_eq_some_iff.mp hi).2]
 have e2:hs.take (i+1)=hs.take i++[h]:=by rw [List.take_succ,hi];rfl
 rw [e1,e2]
 show (if fitsL (hs.take i) h=true then firstF (hs.take i++[h]) (hs.drop (i+1)) else some (hs.take i).length)=_
 rw [List.length_take,Nat.min_eq_left (by omega)]
structure JI (ah:List Hap) (un uh:List (Int × Int)) (go do':List Int):Prop where
 eu:un=(th .asked ah).drop (th .taken ah).length
 eh:uh=(th .answered ah).drop (th .handed ah).length
 lt:(th .taken ah).length <= (th .asked ah).length
 lh:(th .handed ah).length <= (th .answered ah).length
 pm:go.Perm (un.map (·.1)++(do'++uh.map (·.1)))
 nd:go.Nodup
 ca:∀ x,cnt .asked x ah=cnt .handed x ah+if x∈go then 1 else 0
 ct:∀ x,cnt .taken x ah=cnt .answered x ah+if x∈do' then 1 else 0
theorem JI.zero:JI [] [] [] [] []:=⟨rfl,rfl,Nat.le_refl _,Nat.le_refl _,List.Perm.refl _,List.nodup_nil,λ_=>rfl,λ_=>rfl⟩
def fitsJ (un uh:List (Int × Int)) (go do':List Int) (h:Hap):Bool:=match h.w with
 | .asked=>!go.contains h.n
 | .answered=>do'.contains h.n
 | .taken=>decide (un.take 1=[(h.n,h.o)])
 | .handed=>decide (uh.take 1=[(h.n,h.o)])
section
variable {ah:List Hap} {un uh:List (Int × Int)} {go do':List Int}
theorem JI.fits (J:JI ah un uh go do') (h:Hap):fitsJ un uh go do' h=fitsL ah h:=by
 unfold fitsJ fitsL
 cases h.w with
 | asked =>
   show (!go.contains h.n)=decide _
   rw [List.contains_eq_mem,J.ca h.n]
   by_cases e:h.n∈go<;>simp [e]
 | taken=>show decide _=decide _;rw [J.eu]
 | answered =>
   show do'.contains h.n=decide _
   rw [List.contains_eq_mem,J.ct h.n]
   by_cases e:h.n∈do'<;>simp [e]
 | handed=>show decide _=decide _;rw [J.eh]
theorem take1 {α:Type} {xs:List α} {x:α} (h:xs.take 1=[x]):xs=x :: xs.drop 1:=by
 cases xs with
 | nil=>cases h
 | cons y ys=>have:[y]=[x]:=h;cases this;rfl
theorem JI.perm (J:JI ah un uh go do') {go' do2:List Int} (h1:go'.Perm go) (h2:do2.Perm do'):JI ah un uh go' do2 :=
 ⟨J.eu,J.eh,J.lt,J.lh,h1.trans (J.pm.trans (List.Perm.append_left _ (List.Perm.append_right _ h2.symm))),h1.nodup_iff.mpr J.nd,λx=>by rw [J.ca x];simp only [h1.mem_iff],λx=>by rw [J.ct x];simp only [h2.mem_iff]⟩
theorem JI.asked (J:JI ah un uh go do') {n o:Int} (h:n ∉ go):JI (ah++[⟨.asked,n,o⟩]) (un++[(n,o)]) uh (go++[n]) do':=by
 refine ⟨?_,?_,?_,?_,?_,?_,λx=>?_,λx=>?_⟩
 · rw [th_c,th_c,if_pos rfl,if_neg (by decide),List.drop_append_of_le_length J.lt,← J.eu]
 · rw [th_c,th_c,if_neg (by decide),if_neg (by decide)];exact J.eh
 · rw [th_c,th_c,if_pos rfl,if_neg (by decide),List.length_append];have:=J.lt;omega
 · rw [th_c,th_c,if_neg (by decide),if_neg (by decide)];exact J.lh
 · refine (List.Perm.append_right [n] J.pm).trans ?_
   rw [List.map_append,List.append_assoc (un.map (·.1)),List.append_assoc (un.map (·.1))]
   exact List.Perm.append_left _ List.perm_append_comm
 · exact List.nodup_append.mpr ⟨J.nd,by simp,λa ha b hb e=>h (by rw [List.mem_singleton.mp hb] at e;exact e ▸ ha)⟩
 · rw [cnt_yes,cnt_no (by decide),J.ca x]
   by_cases e:n=x
   · subst e;simp [h]
   · have e':¬ x=n:=λz=>e z.symm
     simp [e,e']
 · rw [cnt_no (by decide),cnt_no (by decide),J.ct x]
theorem JI.taken (J:JI ah un uh go do') {n o:Int} (h:un.take 1=[(n,o)]):JI (ah++[⟨.taken,n,o⟩]) (un.drop 1) uh go (do'++[n])/\n ∉ do':=by
 have e1:=take1 h
 have pm:=J.pm
 rw [e1,List.map_cons,List.cons_append] at pm
 have hn:n ∉ do':=λy=>(List.nodup_cons.mp (pm.nodup_iff.mp J.nd)).1 (List.mem_append.mpr (.inr (List.mem_append.mpr (.inl y))))
 have lt:(th .taken ah).length < (th .asked ah).length:=by
   have:=congrArg List.length (J.eu.symm.trans e1)
   rw [List.length_drop,List.length_cons] at this
   omega
 refine ⟨⟨?_,?_,?_,?_,?_,J.nd,λx=>?_,λx=>?_⟩,hn⟩
 · rw [th_c,th_c,if_pos rfl,if_neg (by decide),List.length_append,J.eu,List.drop_drop];rfl
 · rw [th_c,th_c,if_neg (by decide),if_neg (by decide)];exact J.eh
 · rw [th_c,th_c,if_pos rfl,if_neg (by decide),List.length_append];exact lt
 · rw [th_c,th_c,if_neg (by decide),if_neg (by decide)];exact J.lh
 · refine pm.trans ?_
   rw [List.append_assoc do']
   show (n :: (List.map (·.1) (un.drop 1)++(do'++uh.map (·.1)))).Perm _
   refine List.Perm.trans ?_ (List.Perm.append_left _ (List.perm_append_comm_assoc do' [n] _).symm)
   exact (List.perm_middle (a:=n)).symm
 · rw [cnt_no (by decide),cnt_no (by decide),J.ca x]
 · rw [cnt_yes,cnt_no (by decide),J.ct x]
   by_cases e:n=x
   · subst e;simp [hn]
   · have e':¬ x=n:=λz=>e z.symm
     simp [e,e']
theorem JI.answered (J:JI ah un uh go do') {n o:Int} (h:n∈do'):JI (ah++[⟨.answered,n,o⟩]) un (uh++[(n,o)]) go (do'.erase n):=by
 have ndo:do'.Nodup:=(List.nodup_append.mp (List.nodup_append.mp (J.pm.nodup_iff.mp J.nd)).2.1).1
 refine ⟨?_,?_,?_,?_,?_,J.nd,λx=>?_,λx=>?_⟩
 · rw [th_c,th_c,if_neg (by decide),if_neg (by decide)];exact J.eu
 · rw [th_c,th_c,if_pos rfl,if_neg (by decide),List.drop_append_of_le_length J.lh,← J.eh]
 · rw [th_c,th_c,if_neg (by decide),if_neg (by decide)];exact J.lt
 · rw [th_c,th_c,if_pos rfl,if_neg (by decide),List.length_append];have:=J.lh;omega
 · refine J.pm.trans (List.Perm.append_left _ ?_)
   rw [List.map_append]
   refine (List.Perm.append_right _ (List.perm_cons_erase h)).trans ?_
   rw [List.cons_append,← List.append_assoc]
   exact (List.perm_append_singleton n _).symm
 · rw [cnt_no (by decide),cnt_no (by decide),J.ca x]
 · rw [cnt_no (by decide),cnt_yes,J.ct x]
   by_cases e:n=x
   · subst e;simp [h,List.Nodup.mem_erase_iff ndo]
   · have e':¬ x=n:=λz=>e z.symm
     simp [e,e',List.Nodup.mem_erase_iff ndo]
theorem JI.handed (J:JI ah un uh go do') {n o:Int} (h:uh.take 1=[(n,o)]):JI (ah++[⟨.handed,n,o⟩]) un (uh.drop 1) (go.erase n) do'/\n∈go:=by
 have e1:=take1 h
 have pm:=J.pm
 rw [e1,List.map_cons] at pm
 have hn:n∈go:=pm.mem_iff.mpr (List.mem_append.mpr (.inr (List.mem_append.mpr (.inr List.mem_cons_self))))
 have lt:(th .handed ah).length < (th .answered ah).length:=by
   have:=congrArg List.length (J.eh.symm.trans e1)
   rw [List.length_drop,List.length_cons] at this
   omega
 refine ⟨⟨?_,?_,?_,?_,?_,J.nd.erase n,λx=>?_,λx=>?_⟩,hn⟩
 · rw [th_c,th_c,if_neg (by decide),if_neg (by decide)];exact J.eu
 · rw [th_c,th_c,if_pos rfl,if_neg (by decide),List.length_append,J.eh,List.drop_drop];rfl
 · rw [th_c,th_c,if_neg (by decide),if_neg (by decide)];exact J.lt
 · rw [th_c,th_c,if_pos rfl,if_neg (by decide),List.length_append];exact lt
 · have p2:go.Perm (n :: (un.map (·.1)++(do'++(uh.drop 1).map (·.1)))):=by
     refine pm.trans ?_
     rw [← List.append_assoc,← List.append_assoc]
     exact List.perm_middle
   have p3:=p2.erase n
   rw [List.erase_cons_head] at p3
   exact p3
 · rw [cnt_no (by decide),cnt_yes,J.ca x]
   by_cases e:n=x
   · subst e;simp [hn,List.Nodup.mem_erase_iff J.nd]
   · have e':¬ x=n:=λz=>e z.symm
     simp [e,e',List.Nodup.mem_erase_iff J.nd]
 · rw [cnt_no (by decide),cnt_no (by decide),J.ct x]
theorem JI.ndo (J:JI ah un uh go do'):do'.Nodup:=(List.nodup_append.mp (List.nodup_append.mp (J.pm.nodup_iff.mp J.nd)).2.1).1
theorem JI.lens (J:JI ah un uh go do'):un.length <= ah.length/\uh.length <= ah.length/\go.length <= un.length+(do'.length+uh.length)/\do'.length <= ah.length:=by
 have l1:∀ w,(th w ah).length <= ah.length:=λw=>by unfold th;rw [List.length_map];exact List.length_filter_le _ _
 have h1:=l1 .asked;have h2:=l1 .answered
 have q1:=congrArg List.length J.eu
 have q2:=congrArg List.length J.eh
 rw [List.length_drop] at q1 q2
 have q3:=J.pm.length_eq
 rw [List.length_append,List.length_append,List.length_map,List.length_map] at q3
 have q4:do'.length <= (th .taken ah).length:=by
   have hsub:∀ x∈do',x∈(th .taken ah).map (·.1):=λx hx=>by
     have:=J.ct x
     rw [if_pos hx] at this
     have h0:0 < cnt .taken x ah:=by omega
     unfold cnt at h0
     obtain ⟨p,hp⟩:=List.exists_mem_of_length_pos h0
     obtain ⟨hp1,hp2⟩:=List.mem_filter.mp hp
     exact List.mem_map.mpr ⟨p,hp1,of_decide_eq_true hp2⟩
   have:=nodup_le J.ndo hsub
   rw [List.length_map] at this
   exact this
 have h3:=l1 .taken
 omega
end
def HV (H:Hp):Hap->V->Prop:=λh v=>∃ c,v=.ref c/\H c=some (.tup [.str h.w.key,.int h.n,.int h.o])
def PV (H:Hp):Int × Int->V->Prop:=λp v=>∃ c,v=.ref c/\H c=some (.tup [.int p.1,.int p.2])
def Kt (H H':Hp):Prop:=∀ b vs,H b=some (.tup vs)->H' b=some (.tup vs)
theorem HV.keep {H H':Hp} (ht:Kt H H') {h:Hap} {v:V} (q:HV H h v):HV H' h v:=by
 obtain ⟨c,e,x⟩:=q
 exact ⟨c,e,ht _ _ x⟩
theorem PV.keep {H H':Hp} (ht:Kt H H') {p:Int × Int} {v:V} (q:PV H p v):PV H' p v:=by
 obtain ⟨c,e,x⟩:=q
 exact ⟨c,e,ht _ _ x⟩
theorem Same.kt {H H':Hp} (s:Same H H'):Kt H H':=λb _=>s b _
def SV (H:Hp) (l:Addr) (hs:List Hap):Prop:=∃ ts,H l=some (.lst ts)/\Paired (HV H) hs ts
def TL (H:Hp) (l:Addr) (ps:List (Int × Int)):Prop:=∃ ts,H l=some (.lst ts)/\Paired (PV H) ps ts
theorem SV.keep {H H':Hp} {l:Addr} {hs:List Hap} (h:SV H l hs) (k:∀ o,H l=some o->H' l=some o) (ht:Kt H H'):SV H' l hs:=by
 obtain ⟨ts,e,p⟩:=h
 exact ⟨ts,k _ e,Paired.mapP p λ_ _ q=>q.keep ht⟩
theorem TL.keep {H H':Hp} {l:Addr} {ps:List (Int × Int)} (h:TL H l ps) (k:∀ o,H l=some o->H' l=some o) (ht:Kt H H'):TL H' l ps:=by
 obtain ⟨ts,e,p⟩:=h
 exact ⟨ts,k _ e,Paired.mapP p λ_ _ q=>q.keep ht⟩
theorem SV.same {H H':Hp} {l:Addr} {hs:List Hap} (h:SV H l hs) (s:Same H H'):SV H' l hs:=h.keep (λo=>s l o) s.kt
theorem TL.same {H H':Hp} {l:Addr} {ps:List (Int × Int)} (h:TL H l ps) (s:Same H H'):TL H' l ps:=h.keep (λo=>s l o) s.kt
structure JA where
 j:Addr
 u:Addr
 h:Addr
 g:Addr
 d:Addr
def jF (z:JA):List (Str × V):=putF "doing" (.ref z.d) (putF "going" (.ref z.g) (putF "unhanded" (.ref z.h) (putF "untaken" (.ref z.u) [])))
section
variable {z:JA}
theorem jF_u:(jF z).lookup ("untaken":Str)=some (.ref z.u):=by unfold jF;repeat (first | rw [lookup_putF,if_pos rfl] | rw [lookup_putF,if_neg (by decide +kernel)]);try rfl
theorem jF_h:(jF z).lookup ("unhanded":Str)=some (.ref z.h):=by unfold jF;repeat (first | rw [lookup_putF,if_pos rfl] | rw [lookup_putF,if_neg (by decide +kernel)]);try rfl
theorem jF_g:(jF z).lookup ("going":Str)=some (.ref z.g):=by unfold jF;repeat (first | rw [lookup_putF,if_pos rfl] | rw [lookup_putF,if_neg (by decide +kernel)]);try rfl
theorem jF_d:(jF z).lookup ("doing":Str)=some (.ref z.d):=by unfold jF;repeat (first | rw [lookup_putF,if_pos rfl] | rw [lookup_putF,if_neg (by decide +kernel)]);try rfl
theorem jF_fits:(jF z).lookup ("fits":Str)=none:=by unfold jF;repeat (first | rw [lookup_putF,if_pos rfl] | rw [lookup_putF,if_neg (by decide +kernel)]);try rfl
theorem jF_on:(jF z).lookup ("go_on":Str)=none:=by unfold jF;repeat (first | rw [lookup_putF,if_pos rfl] | rw [lookup_putF,if_neg (by decide +kernel)]);try rfl
end
structure Jn (CJ:Addr) (H:Hp) (z:JA) (un uh:List (Int × Int)) (go do':List Int):Prop where
 ob:∃ dx,H z.j=some (.ins CJ dx (jF z))
 u:TL H z.u un
 h:TL H z.h uh
 g:H z.g=some (.dK (gK go))
 d:H z.d=some (.dK (gK do'))
 nu:z.u≠z.h
 ng:z.g≠z.d
def JA.own (z:JA) (c:Addr):Prop:=c=z.j\/c=z.u\/c=z.h\/c=z.g\/c=z.d
section
variable {CJ:Addr} {H H':Hp} {z:JA} {un uh:List (Int × Int)} {go do':List Int}
theorem Jn.keep (J:Jn CJ H z un uh go do') (k:∀ c o,z.own c->H c=some o->H' c=some o) (ht:Kt H H'):Jn CJ H' z un uh go do':=by
 obtain ⟨dx,hx⟩:=J.ob
 exact ⟨⟨dx,k _ _ (.inl rfl) hx⟩,J.u.keep (λo=>k _ o (.inr (.inl rfl))) ht,J.h.keep (λo=>k _ o (.inr (.inr (.inl rfl)))) ht,k _ _ (.inr (.inr (.inr (.inl rfl)))) J.g,k _ _ (.inr (.inr (.inr (.inr rfl)))) J.d,J.nu,J.ng⟩
theorem Jn.same (J:Jn CJ H z un uh go do') (s:Same H H'):Jn CJ H' z un uh go do':=J.keep (λc o _=>s c o) s.kt
theorem Jn.there (J:Jn CJ H z un uh go do') {c:Addr} (h:z.own c):∃ o,H c=some o/\∀ vs,o≠.tup vs:=by
 rcases h with rfl | rfl | rfl | rfl | rfl
 · obtain ⟨dx,e⟩:=J.ob;exact ⟨_,e,λ_ z=>by cases z⟩
 · obtain ⟨ts,e,_⟩:=J.u;exact ⟨_,e,λ_ z=>by cases z⟩
 · obtain ⟨ts,e,_⟩:=J.h;exact ⟨_,e,λ_ z=>by cases z⟩
 · exact ⟨_,J.g,λ_ z=>by cases z⟩
 · exact ⟨_,J.d,λ_ z=>by cases z⟩
theorem upd_lst {c x:Addr} {o o':HO} (hx:H x=some o') (h:H c=some o) (hn:o≠o'):∀ q,upd H x q c=some o:=λq=>by
 rw [upd_ne λe=>by rw [e,hx] at h;exact hn (Option.some.inj h).symm];exact h
theorem kt_upd {x:Addr} {o':HO} (hx:H x=some o') (hn:∀ vs,o'≠.tup vs) (q:HO):Kt H (upd H x q):=λb vs e=>upd_lst hx e (λz=>hn vs z.symm) q
theorem TL.up {l x:Addr} {ps:List (Int × Int)} {o':HO} (h:TL H l ps) (hx:H x=some o') (hn:∀ vs,o'≠.tup vs) (nl:l≠x) (q:HO):TL (upd H x q) l ps :=
 h.keep (λo e=>by rw [upd_ne nl];exact e) (kt_upd hx hn q)
theorem Jn.setU (J:Jn CJ H z un uh go do') {un':List (Int × Int)} {ts:List V} (h:Paired (PV H) un' ts):Jn CJ (upd H z.u (.lst ts)) z un' uh go do':=by
 obtain ⟨t0,e0,_⟩:=J.u
 obtain ⟨dx,hx⟩:=J.ob
 have ht:=kt_upd e0 (λ_ z=>by cases z) (.lst ts)
 exact ⟨⟨dx,upd_lst e0 hx (by intro z;cases z) _⟩,⟨ts,upd_same,Paired.mapP h λ_ _ q=>q.keep ht⟩,J.h.up e0 (λ_ z=>by cases z) J.nu.symm _,upd_lst e0 J.g (by intro z;cases z) _,upd_lst e0 J.d (by intro z;cases z) _,J.nu,J.ng⟩
theorem Jn.setH (J:Jn CJ H z un uh go do') {uh':List (Int × Int)} {ts:List V} (h:Paired (PV H) uh' ts):Jn CJ (upd H z.h (.lst ts)) z un uh' go do':=by
 obtain ⟨t0,e0,_⟩:=J.h
 obtain ⟨dx,hx⟩:=J.ob
 have ht:=kt_upd e0 (λ_ z=>by cases z) (.lst ts)
 exact ⟨⟨dx,upd_lst e0 hx (by intro z;cases z) _⟩,J.u.up e0 (λ_ z=>by cases z) J.nu _,⟨ts,upd_same,Paired.mapP h λ_ _ q=>q.keep ht⟩,upd_lst e0 J.g (by intro z;cases z) _,upd_lst e0 J.d (by intro z;cases z) _,J.nu,J.ng⟩
theorem Jn.setG (J:Jn CJ H z un uh go do') {kv:List (Key × V)} {go2:List Int} (h:kv=gK go2):Jn CJ (upd H z.g (.dK kv)) z un uh go2 do':=by
 obtain ⟨dx,hx⟩:=J.ob
 have nl:∀ {l ps},TL H l ps->l≠z.g:=λ{l ps} ⟨ts,e,_⟩ y=>by rw [y,J.g] at e;cases e
 exact ⟨⟨dx,upd_lst J.g hx (by intro z;cases z) _⟩,J.u.up J.g (λ_ z=>by cases z) (nl J.u) _,J.h.up J.g (λ_ z=>by cases z) (nl J.h) _,by rw [upd_same,h],by rw [upd_ne J.ng.symm];exact J.d,J.nu,J.ng⟩
theorem Jn.setD (J:Jn CJ H z un uh go do') {kv:List (Key × V)} {do2:List Int} (h:kv=gK do2):Jn CJ (upd H z.d (.dK kv)) z un uh go do2:=by
 obtain ⟨dx,hx⟩:=J.ob
 have nl:∀ {l ps},TL H l ps->l≠z.d:=λ{l ps} ⟨ts,e,_⟩ y=>by rw [y,J.d] at e;cases e
 exact ⟨⟨dx,upd_lst J.d hx (by intro z;cases z) _⟩,J.u.up J.d (λ_ z=>by cases z) (nl J.u) _,J.h.up J.d (λ_ z=>by cases z) (nl J.h) _,by rw [upd_ne J.ng];exact J.g,by rw [upd_same,h],J.nu,J.ng⟩
end
theorem fld_new {H:Hp} {j x C dx:Addr} {fs:List (Str × V)} {o:HO} {f:Str} (hj:H j=some (.ins C dx fs)) (hx:H x=none) :
   upd (upd H x o) j (.ins C dx (putF f (.ref x) fs)) j=some (.ins C dx (putF f (.ref x) fs))/\upd (upd H x o) j (.ins C dx (putF f (.ref x) fs)) x=some o/\upd H x o j=some (.ins C dx fs)/\(∀ c u,c≠j->H c=some u->upd (upd H x o) j (.ins C dx (putF f (.ref x) fs)) c=some u):=by
 have n1:x≠j:=λz=>by rw [z,hj] at hx;cases hx
 refine ⟨upd_same,by rw [upd_ne n1];exact upd_same,by rw [upd_ne n1.symm];exact hj,λc u nc e=>?_⟩
 rw [upd_ne nc,upd_ne (ne_of_none e hx)];exact e
def vO:Option Nat->V
 | none=>.non
 | some k=>.int (k:Int)
theorem wd_inj {a b:Wd} (h:a.key=b.key):a=b:=by
 cases a<;>cases b<;>first | rfl | exact absurd h (by decide +kernel)
theorem hv_at {H:Hp}:∀ {A:List Hap} {ts:List V} {k:Nat} {y:V},Paired (HV H) A ts->ts[k]?=some y->∃ h c,A[k]?=some h/\y=.ref c/\H c=some (.tup [.str h.w.key,.int h.n,.int h.o])
 | _,_,_,_,.nil,h=>by cases h
 | h :: _,_ :: _,0,_,.cons ⟨c,e,q⟩ _,hk=>by cases hk;exact ⟨h,c,rfl,e,q⟩
 | _ :: _,_ :: _,k+1,_,.cons _ t,hk=>hv_at (k:=k) t hk
def pvD (p:Int × Int):PyData:=.tuple [.int p.1,.int p.2]
def hvD (h:Hap):PyData:=.tuple [.str h.w.key,.int h.n,.int h.o]
theorem pv_dvs {H:Hp}:∀ {ps:List (Int × Int)} {ts:List V},Paired (PV H) ps ts->DVs H (ps.map pvD) ts
 | _,_,.nil=>rfl
 | _,_,.cons ⟨c,e,q⟩ t=>⟨_,_,rfl,⟨c,_,e,q,_,_,rfl,rfl,_,_,rfl,rfl,rfl⟩,pv_dvs t⟩
theorem pv_kd (p:Int × Int):MX.kd (pvD p)=true:=rfl
theorem list_lay (ds:List PyData) (h:∀ d∈ds,MX.kd d=true/\d.depth <= 9):LayD (.list ds):=by
 obtain ⟨h1,h2⟩:=keyed_lay0 h
 exact ⟨h1,by show PyData.depthAll _+1 <= 16;omega⟩
theorem pv_lay (ps:List (Int × Int)):LayD (.list (ps.map pvD)):=list_lay _ λd hd=>by
 obtain ⟨p,_,rfl⟩:=List.mem_map.mp hd
 exact ⟨rfl,by show 1 <= 9;decide⟩
theorem kds_map {α:Type} (f:α->PyData) (h:∀ a,MX.kd (f a)=true):∀ xs:List α,MX.kds (xs.map f)=true
 | []=>rfl
 | x :: xs=>by
   show (MX.kd (f x) && MX.kds (xs.map f))=true
   rw [h x,kds_map f h xs];rfl
theorem pvD_inj {p q:Int × Int} (h:pvD p=pvD q):p=q:=by
 injection h with this
 injection this with h1 h2
 injection h2 with h2 _
 injection h1 with h1
 injection h2 with h2
 exact Prod.ext h1 h2
theorem pvs_eqv (ps qs:List (Int × Int)):PyData.eqv (.list (ps.map pvD)) (.list (qs.map pvD))=decide (ps=qs):=by
 have e:=MX.eqvs_iff (ps.map pvD) (qs.map pvD) (kds_map pvD pv_kd ps) (kds_map pvD pv_kd qs)
 show PyData.eqvAll _ _=_
 by_cases h:ps=qs
 · rw [decide_eq_true h];exact e.mpr (by rw [h])
 · rw [decide_eq_false h]
   cases z:PyData.eqvAll (ps.map pvD) (qs.map pvD) with
   | false=>rfl
   | true=>exact absurd ((List.map_inj_right λ_ _ y=>pvD_inj y).mp (e.mp z)) h
theorem cutV_to (xs:List V) (k:Nat):cutV xs none (some (k:Int))=xs.take k:=by
 unfold cutV
 rw [HT.sIx_nat,show HT.sIx xs.length 0 none=0 from rfl,List.drop_zero,Nat.sub_zero]
 by_cases h:k <= xs.length
 · rw [Nat.min_eq_left h]
 · rw [Nat.min_eq_right (by omega),List.take_of_length_le (Nat.le_refl _),List.take_of_length_le (by omega)]
theorem cutV_from (xs:List V) (k:Nat):cutV xs (some (k:Int)) none=xs.drop k:=by
 unfold cutV
 rw [HT.sIx_nat,show HT.sIx xs.length xs.length none=xs.length from rfl]
 by_cases h:k <= xs.length
 · rw [Nat.min_eq_left h,List.take_of_length_le (by rw [List.length_drop];exact Nat.le_refl _)]
 · rw [Nat.min_eq_right (by omega),List.drop_of_length_le (Nat.le_refl _),List.drop_of_length_le (by omega),List.take_nil]
theorem cutV_mid (xs:List V) (j k:Nat):cutV xs (some (j:Int)) (some (k:Int))=(xs.drop j).take (k - j):=by
 unfold cutV
 rw [HT.sIx_nat,HT.sIx_nat]
 by_cases h:j <= xs.length
 · rw [Nat.min_eq_left h]
   by_cases h2:k <= xs.length
   · rw [Nat.min_eq_left h2]
   · rw [Nat.min_eq_right (by omega),List.take_of_length_le (by rw [List.length_drop];exact Nat.le_refl _),List.take_of_length_le (by rw [List.length_drop];omega)]
 · have e1:min j xs.length=xs.length:=by omega
   rw [e1,List.drop_of_length_le (Nat.le_refl _),List.drop_of_length_le (show xs.length <= j by omega),List.take_nil,List.take_nil]
theorem paired_take {α β:Type} {F:α->β->Prop}:∀ {xs:List α} {ys:List β} (k:Nat),Paired F xs ys->Paired F (xs.take k) (ys.take k)
 | _,_,0,_=>by rw [List.take_zero,List.take_zero];exact .nil
 | _,_,_+1,.nil=>.nil
 | _,_,k+1,.cons r t=>.cons r (paired_take k t)
theorem paired_drop {α β:Type} {F:α->β->Prop}:∀ {xs:List α} {ys:List β} (k:Nat),Paired F xs ys->Paired F (xs.drop k) (ys.drop k)
 | _,_,0,h=>by rw [List.drop_zero,List.drop_zero];exact h
 | _,_,_+1,.nil=>.nil
 | _,_,k+1,.cons _ t=>paired_drop k t
theorem erase0 {α:Type} (xs:List α):xs.eraseIdx 0=xs.drop 1:=by cases xs<;>rfl
inductive L5 where
 | st | la | ta | to | aw
instance:DecidableEq L5:=λa b=>by
 cases a<;>cases b<;>first | exact isTrue rfl | exact isFalse (λh=>by cases h)
structure GS (H:Hp) (q:L5->Addr) (hs:List Hap) (un uh:List (Int × Int)) (go do':List Int):Prop where
 st:SV H (q .st) hs
 la:TL H (q .la) un
 ta:H (q .ta)=some (.lst (do'.map V.int))
 to:TL H (q .to) uh
 aw:H (q .aw)=some (.lst (go.map V.int))
 inj:∀ i j,q i=q j->i=j
section
variable {H H':Hp} {q:L5->Addr} {hs:List Hap} {un uh:List (Int × Int)} {go do':List Int}
theorem GS.same (W:GS H q hs un uh go do') (s:Same H H'):GS H' q hs un uh go do':=⟨W.st.same s,W.la.same s,s _ _ W.ta,W.to.same s,s _ _ W.aw,W.inj⟩
theorem GS.lst (W:GS H q hs un uh go do') (i:L5):∃ ts,H (q i)=some (.lst ts):=by
 cases i with
 | st=>obtain ⟨ts,e,_⟩:=W.st;exact ⟨ts,e⟩
 | la=>obtain ⟨ts,e,_⟩:=W.la;exact ⟨ts,e⟩
 | ta=>exact ⟨_,W.ta⟩
 | to=>obtain ⟨ts,e,_⟩:=W.to;exact ⟨ts,e⟩
 | aw=>exact ⟨_,W.aw⟩
theorem GS.kt (W:GS H q hs un uh go do') (i:L5) (o:HO):Kt H (upd H (q i) o):=by
 obtain ⟨ts,e⟩:=W.lst i
 exact kt_upd e (λ_ z=>by cases z) o
theorem GS.oth (W:GS H q hs un uh go do') {i j:L5} (o:HO) (h:j≠i):∀ u,H (q j)=some u->upd H (q i) o (q j)=some u:=λu e=>by
 rw [upd_ne λz=>h (W.inj _ _ z)];exact e
theorem GS.setSt (W:GS H q hs un uh go do') {hs':List Hap} {ts:List V} (h:Paired (HV H) hs' ts):GS (upd H (q .st) (.lst ts)) q hs' un uh go do' :=
 ⟨⟨ts,upd_same,Paired.mapP h λ_ _ y=>y.keep (W.kt .st _)⟩,W.la.keep (W.oth _ (by decide)) (W.kt .st _),W.oth _ (by decide) _ W.ta,W.to.keep (W.oth _ (by decide)) (W.kt .st _),W.oth _ (by decide) _ W.aw,W.inj⟩
theorem GS.setLa (W:GS H q hs un uh go do') {un':List (Int × Int)} {ts:List V} (h:Paired (PV H) un' ts):GS (upd H (q .la) (.lst ts)) q hs un' uh go do' :=
 ⟨W.st.keep (W.oth _ (by decide)) (W.kt .la _),⟨ts,upd_same,Paired.mapP h λ_ _ y=>y.keep (W.kt .la _)⟩,W.oth _ (by decide) _ W.ta,W.to.keep (W.oth _ (by decide)) (W.kt .la _),W.oth _ (by decide) _ W.aw,W.inj⟩
theorem GS.setTo (W:GS H q hs un uh go do') {uh':List (Int × Int)} {ts:List V} (h:Paired (PV H) uh' ts):GS (upd H (q .to) (.lst ts)) q hs un uh' go do' :=
 ⟨W.st.keep (W.oth _ (by decide)) (W.kt .to _),W.la.keep (W.oth _ (by decide)) (W.kt .to _),W.oth _ (by decide) _ W.ta,⟨ts,upd_same,Paired.mapP h λ_ _ y=>y.keep (W.kt .to _)⟩,W.oth _ (by decide) _ W.aw,W.inj⟩
theorem GS.setTa (W:GS H q hs un uh go do') (do2:List Int):GS (upd H (q .ta) (.lst (do2.map V.int))) q hs un uh go do2 :=
 ⟨W.st.keep (W.oth _ (by decide)) (W.kt .ta _),W.la.keep (W.oth _ (by decide)) (W.kt .ta _),upd_same,W.to.keep (W.oth _ (by decide)) (W.kt .ta _),W.oth _ (by decide) _ W.aw,W.inj⟩
theorem GS.setAw (W:GS H q hs un uh go do') (go2:List Int):GS (upd H (q .aw) (.lst (go2.map V.int))) q hs un uh go2 do' :=
 ⟨W.st.keep (W.oth _ (by decide)) (W.kt .aw _),W.la.keep (W.oth _ (by decide)) (W.kt .aw _),W.oth _ (by decide) _ W.ta,W.to.keep (W.oth _ (by decide)) (W.kt .aw _),upd_same,W.inj⟩
end
theorem same_q {H H1:Hp} {q:L5->Addr} (hq:∀ i,H (q i)=none) (s:Same H H1) (i:L5) (o:HO):Same H (upd H1 (q i) o):=λb u e=>by
 rw [upd_ne (ne_of_none e (hq i))];exact s b u e
theorem map_eraseIdx {α β:Type} (f:α->β):∀ (xs:List α) (k:Nat),(xs.map f).eraseIdx k=(xs.eraseIdx k).map f
 | [],_=>rfl
 | _ :: _,0=>rfl
 | x :: xs,k+1=>by
   show f x :: (xs.map f).eraseIdx k=f x :: (xs.eraseIdx k).map f
   rw [map_eraseIdx f xs k]
theorem cons_eraseIdx:∀ (xs:List Int) (k:Nat) (h:k < xs.length),(xs[k] :: xs.eraseIdx k).Perm xs
 | x :: xs,0,_=>List.Perm.refl _
 | x :: xs,k+1,h=>by
   have hk:k < xs.length:=Nat.lt_of_succ_lt_succ h
   show (xs[k] :: x :: xs.eraseIdx k).Perm (x :: xs)
   exact (List.Perm.swap x xs[k] _).trans ((cons_eraseIdx xs k hk).cons x)
theorem eraseIdx_perm {xs:List Int} {k:Nat} (h:k < xs.length):(xs.eraseIdx k).Perm (xs.erase xs[k]):=by
 have h1:(xs[k] :: xs.eraseIdx k).Perm xs:=cons_eraseIdx xs k h
 have h2:xs.Perm (xs[k] :: xs.erase xs[k]):=List.perm_cons_erase (List.getElem_mem h)
 exact (h1.trans h2).cons_inv
theorem free_mem {n:Nat} {un:List Int} {x:Int} (h:x∈freeL n un):x ∉ un:=by
 unfold freeL at h
 have:=(List.mem_filter.mp h).2
 rw [List.contains_eq_mem] at this
 simpa using this
theorem six_nat {k n:Nat} (h:k < n):seqIndex? (k:Int) n=some k:=by
 unfold seqIndex?
 have e:(if (k:Int) < 0 then (k:Int)+n else (k:Int))=k:=if_neg (by omega)
 simp only [e]
 simp [h]
end L2

namespace L2
open PySem PySem.Spec PyProof.Rows
section
variable {X:Cx} {scope:Scope} {cl:List (Str × Addr)} {x x2:Str} {N':List Str}
theorem ps_compset2 {py pos spos:Pos} {yT:Str} {iN:Nat} {tg:Expr} {g:TG} {iter elt:Expr} {ifs:List Expr} {caps:List Str} {js:List Nat} {wi:TI} {tc:TT} {te:TE} (hN:X.N.Nodup) (hiN:X.N[iN]?=some yT) (hyL:Loc X.env.scope yT)
   (hsw:swapsWith (.ListComp elt [⟨tg,iter,ifs,0⟩] scope pos) (some (.Name yT py)) spos.line X.env=pure true) (hc:X.calm=true) (O:CompOk X scope cl x) (O2:CompOk X scope cl x2) (hg:∀ C s₃ H₃ pins ex E',PG (cxComp2 X scope cl C x x2 (x :: x2 :: caps) s₃ H₃ pins ex E') tg g)
   (hcap:∀ y∈caps,∃ c,cl.lookup y=some c) (hjs:Paired (λ(y:Str) (j:Nat)=>X.N[j]?=some y/\(X.env.scope.names.lookup y=some .cell\/X.env.scope.names.lookup y=some .free)) caps js)
   (hkc:∀ y∈caps,(relabel scope X.env).names.lookup y=some .cell\/(relabel scope X.env).names.lookup y=some .free)
   (hi:PI X tg iter wi) (ht:∀ C s₃ H₃ pins ex E',PTs (cxComp2 X scope cl C x x2 (x :: x2 :: caps) s₃ H₃ pins ex E') ifs tc) (he:∀ C s₃ H₃ pins ex E',PE (cxComp2 X scope cl C x x2 (x :: x2 :: caps) s₃ H₃ pins ex E') elt te)
   (hs:∀ x,foldedSetIterable iter X.env x=pure x:=by intro _;rfl) (hfN:X.fn yT=true\/X.env.scope.names.lookup yT=some .local:=by first | exact .inl rfl | exact .inr rfl | assumption) :
   PS X (.Assign [.Name yT py] (.ListComp elt [⟨tg,iter,ifs,0⟩] scope pos) spos) (tAsg (tComp2 wi g js tc te) (gName iN)):=by
 intro pins s σ H D I h
 rw [exec_Assign_Name_used _ _ _ _ hsw]
 refine wpAny_bind (wpAny_standAt (wpAny_bind ?_))
 show wpAny _ X.A (do let _ ← comprehension (.ListComp elt [⟨tg,iter,ifs,0⟩] scope pos) scope X.env _ (newList []) false (eval iter X.env) (some (assign (.Name yT py) X.env))) _ _ s
 refine wpAny_bind (wpAny_mono (wpAny_comprehension_free (use:=some (assign (.Name yT py) X.env)) (Q:=λ_ s'=>SP X pins D .next s') rfl hs O.clos O.kind O.names (thn (hi pins s σ H _ I h) λv s1 h1=>thn h1 λitv s2 ⟨it,fp,tn,J,H1,e,I2,T,t0,hf,q⟩=>?_))
   (λ_ s' hq=>wpAny_pure (wpAny_pure hq)) λ_ _ e=>e)
 subst e
 refine wpAny_newObj_type (wpAny_newFunctionEnv O.nocell (by intro y hy;cases hy) (λh₁ hns₁ hsb₁=>?_) O.kind)
 obtain ⟨W,⟨m0,w0⟩,step⟩:=q s2.heap.objs.size (I2.hok.fresh (Nat.le_refl _))
 have I3:Inv X pins σ (upd H1 s2.heap.objs.size (.lst [])) { s2 with heap:=s2.heap.push { cls:=.type "list",data:=.seq ([]:List Value).toArray } }:=I2.lnew (t':=s2.toks) (its:=[]) .nil (Nat.zero_le _)
 have fpl:∀ b∈fp,b < s2.heap.objs.size:=λb hb=>by
   obtain ⟨o,e,_⟩:=T.obj _ _ t0 b hb
   exact Heap.lt_size e
 have hf3:∀ b∈fp,FpOk X pins (upd H1 s2.heap.objs.size (.lst [])) b:=λb hb=>by
   obtain ⟨f0,f⟩:=hf b hb
   exact ⟨by rw [upd_ne (Nat.ne_of_lt (fpl b hb))];exact f0,f⟩
 generalize hs3:({ s2 with heap:=s2.heap.push { cls:=.type "list",data:=.seq ([]:List Value).toArray } }:Shared)=s₃ at *
 generalize hH3:upd H1 s2.heap.objs.size (.lst [])=H₃ at *
 have hsz:s2.heap.objs.size < s₃.heap.objs.size:=by rw [← hs3];show _ < (s2.heap.push _).objs.size;rw [Heap.size_push];exact Nat.lt_succ_self _
 have hk2:∀ b o,s2.heap.get? b=some o->s₃.heap.get? b=some o:=λb o e=>by rw [← hs3];exact Heap.get?_push_of_some _ e
 have hk3:∀ b o,s₃.heap.get? b=some o->h₁.get? b=some o:=λb o e=>hsb₁.extBut b o (Nat.ne_of_lt (Heap.lt_size e)) (Heap.get?_push_of_some _ e)
 have t3:tn 0 h₁:=T.keep _ _ _ t0 λb _ o e=>hk3 b o (hk2 b o e)
 have loop:∀ (R:Result->Shared->Prop),(∀ f s',(∃ σ' H' i m ys,Inv (cxComp2 X scope cl s₃.heap.objs.size x x2 (x :: x2 :: caps) s₃ H₃ pins fp (notedBy (model X.prog X.w) X.A (compEnvC scope cl s₃.heap.objs.size X.env) λe s'=>R (.error e) s')) [] σ' H' s'/\W i m ys H'/\D.nx (σ.set iN (some (.ref s2.heap.objs.size))) H')->R (.ok f) s') ->
     ∀ tk,codeAny (model X.prog X.w) X.A (.compLoop (.ListComp elt [⟨tg,iter,ifs,0⟩] scope pos) 0 (.ref it) (.ref s2.heap.objs.size) (compEnvC scope cl s₃.heap.objs.size X.env)) R { s₃ with heap:=h₁,toks:=tk }:=by
   intro R hR tk
   have I4:=Inv.enter2 (E':=notedBy (model X.prog X.w) X.A (compEnvC scope cl s₃.heap.objs.size X.env) λe s'=>R (.error e) s') (tk:=tk) O O2 I3 (λb hb=>⟨hf3 b hb,Nat.lt_trans (fpl b hb) hsz⟩) hcap hjs hkc (by simpa using hns₁) hk3
   have stat:∀ {H':Hp},(∀ b∈fp,H' b=none)->∀ b∈fp,FpOk (cxComp2 X scope cl s₃.heap.objs.size x x2 (x :: x2 :: caps) s₃ H₃ pins fp (notedBy (model X.prog X.w) X.A (compEnvC scope cl s₃.heap.objs.size X.env) λe s'=>R (.error e) s')) [] H' b:=λhn b hb=>by
     obtain ⟨f0,f1,f2,f3,f4,f5⟩:=hf3 b hb
     refine ⟨hn b hb,Nat.ne_of_lt (Nat.lt_trans (fpl b hb) hsz),λz=>?_,.inl hb,λy c e=>f4 y c (O.sub _ (mem_of_lookup e)),λp hp=>f5 p (by simpa [cxComp2] using hp)⟩
     rcases List.mem_cons.mp (I3.stkSub b z) with q | q
     · exact f1 q
     · exact f2 q
   refine loop_any (λn s'=>∃ i v0 v1 ys H',Inv (cxComp2 X scope cl s₃.heap.objs.size x x2 (x :: x2 :: caps) s₃ H₃ pins fp (notedBy (model X.prog X.w) X.A (compEnvC scope cl s₃.heap.objs.size X.env) λe s'=>R (.error e) s')) [] (v0 :: v1 :: capt σ js) H' s'/\tn i s'.heap/\(∀ b∈fp,H' b=none)/\W i n ys H') ?_ m0
     ⟨0,none,none,[],H₃,I4,t3,λb hb=>(hf3 b hb).1,w0⟩
   rintro n s4 ⟨i,v0,v1,ys,H4,J4,t4,fr4,w4⟩
   obtain ⟨hD,hlen,hor⟩:=step i n ys H4 w4
   rcases hor with ⟨stop,qn⟩ | ⟨go,hy⟩
   · refine thn (T.done (cxComp2 X scope cl s₃.heap.objs.size x x2 (x :: x2 :: caps) s₃ H₃ pins fp (notedBy (model X.prog X.w) X.A (compEnvC scope cl s₃.heap.objs.size X.env) λe s'=>R (.error e) s')) rfl rfl rfl hc i [] s4 _ H4 _ J4 (stat fr4) t4 stop) λr s5 ⟨hr,J5⟩=>?_
     subst hr
     exact hR _ _ ⟨_,H4,i,n,ys,J5,w4,qn⟩
   · refine thn (T.item (cxComp2 X scope cl s₃.heap.objs.size x x2 (x :: x2 :: caps) s₃ H₃ pins fp (notedBy (model X.prog X.w) X.A (compEnvC scope cl s₃.heap.objs.size X.env) λe s'=>R (.error e) s')) rfl rfl rfl hc i [] s4 _ H4 _ J4 (stat fr4) t4 go) λr s5 ⟨u,hr,h5⟩=>?_
     subst hr
     refine thn h5 λ_ s6 ⟨y,H6,J6,ry,yl,t6,fr6⟩=>?_
     have J6':=J6.pinned (stat fr6) (T.obj _ _ t6)
     have hy6:=hy y H6 yl v0 v1
     refine thn (hg _ _ _ _ _ _ _ s6 _ H6 y u _ J6' ry hy6) λ_ s7 ⟨σ7,H7,J7,v0',v1',e7,hy7⟩=>?_
     subst e7
     refine thn (ht _ _ _ _ _ _ _ s7 _ H7 _ J7 hy7) λok s8 ⟨H8,J8,q8⟩=>?_
     have back:∀ {σ9:St} {H9:Hp} {s9:Shared},Inv (cxComp2 X scope cl s₃.heap.objs.size x x2 (x :: x2 :: caps) s₃ H₃ pins fp (notedBy (model X.prog X.w) X.A (compEnvC scope cl s₃.heap.objs.size X.env) λe s'=>R (.error e) s')) ([]++pinsAt fp s6.heap) σ9 H9 s9->tn (i+1) s9.heap/\∀ b∈fp,H9 b=none:=λJ9=>by
       refine ⟨T.keep _ _ _ t6 λb hb o e=>(J9.pin (b,o) (List.mem_append_right _ (List.mem_append_right _ (mem_pinsAt hb e)))).1,λb hb=>?_⟩
       obtain ⟨o,e,d⟩:=T.obj _ _ t6 b hb
       exact (J9.pin (b,o) (List.mem_append_right _ (List.mem_append_right _ (mem_pinsAt hb e)))).2.1
     cases ok with
     | false =>
       rw [if_neg (by decide)]
       rw [if_neg (by decide)] at q8
       obtain ⟨m',hm,w8⟩:=q8
       obtain ⟨b1,b2⟩:=back J8
       exact ⟨m',hm,i+1,v0',v1',ys,H8,J8.unpinned,b1,b2,w8⟩
     | true =>
       rw [if_pos rfl]
       rw [if_pos rfl] at q8
       refine thn (he _ _ _ _ _ _ _ s8 _ H8 _ J8 q8) λz s9 ⟨vz,H9,J9,rz,hD9,m',hm,w9⟩=>?_
       refine thn (mt_append (X:=cxComp2 X scope cl s₃.heap.objs.size x x2 (x :: x2 :: caps) s₃ H₃ pins fp (notedBy (model X.prog X.w) X.A (compEnvC scope cl s₃.heap.objs.size X.env) λe s'=>R (.error e) s')) _ s9 _ H9 (.ref s2.heap.objs.size) [vz] (.ref s2.heap.objs.size) [z] (λ_ H10=>H10=upd H9 s2.heap.objs.size (.lst (ys++[vz]))) J9 rfl (.cons rz .nil) ⟨_,ys,vz,rfl,rfl,hD9,hlen,rfl⟩) λ_ s10 ⟨v10,H10,J10,r10,e10⟩=>?_
       subst e10
       obtain ⟨b1,b2⟩:=back J10
       exact ⟨m',hm,i+1,v0',v1',ys++[vz],_,J10.unpinned,b1,b2,w9⟩
 have fin:∀ tk,codeAny (model X.prog X.w) X.A (.compLoop (.ListComp elt [⟨tg,iter,ifs,0⟩] scope pos) 0 (.ref it) (.ref s2.heap.objs.size) (compEnvC scope cl s₃.heap.objs.size X.env)) (compPost (model X.prog X.w) X.A X.xe (some (assign (.Name yT py) X.env)) (λ_ s'=>SP X pins D .next s') (.ref s2.heap.objs.size) s₃.heap.objs.size) { s₃ with heap:=h₁,toks:=tk }:=λtk=>by
   refine loop _ (λf s' ⟨σ',H',i,m,ys,J',w',qn⟩=>?_) tk
   obtain ⟨mm,hmm,_⟩:=J'.loc
   have I5:Inv X pins σ H' s':=Inv.block2 I3 hf3 J' (Heap.SameBut.refl _ _)
   show wpAny _ _ (assign (.Name yT py) X.env _) _ _ _
   refine wpAny_assign_Name (store_ok2 I5 hN hiN hyL (v:=.ref s2.heap.objs.size) rfl (λs6 I6 ⟨a6,hs6,ha6⟩=>?_) hfN)
   have neL:s₃.heap.objs.size≠X.env.locals:=(Nat.ne_of_lt I3.lt).symm
   have neCl:∀ y c,X.env.cells.lookup y=some c->c≠s₃.heap.objs.size:=λy c z=>by
     obtain ⟨v,q⟩:=I3.cell _ _ z
     exact Nat.ne_of_lt q.lt
   have neC:s₃.heap.objs.size≠a6:=by
     rcases ha6 with z | z
     · rw [z];exact neL
     · exact (neCl _ _ z).symm
   have fr:H' s₃.heap.objs.size=none:=J'.free
   refine ⟨mm,Heap.Ns.sameBut hmm hs6 neC,λh' hs'=>⟨_,H',I6.turned (t':=s6.toks) (it:=s₃.heap.objs.size) (λb o hb e=>(hs'.2 b hb).trans e) fr neL (.inr I3.sz) neCl (λp hp=>Nat.ne_of_lt (Heap.lt_size (I3.pin p hp).1)),qn⟩⟩
 exact codeAny_compStart_list (fin _) (T.self _ _ _ _ _ t3 (fin _))
end
end L2

namespace L2
open PySem PySem.Spec PyProof.Rows
theorem first_ge:∀ {t ah:List Hap} {k:Nat},firstF ah t=some k->ah.length <= k
 | [],_,_,h=>by cases h
 | x :: t,ah,k,h=>by
   have h':(if fitsL ah x=true then firstF (ah++[x]) t else some ah.length)=some k:=h
   by_cases q:fitsL ah x=true
   · rw [if_pos q] at h'
     have:=first_ge h'
     rw [List.length_append] at this
     omega
   · rw [if_neg q] at h'
     cases h'
     exact Nat.le_refl _
theorem first_take:∀ (t ah:List Hap) (m:Nat),firstF ah (t.take m)=(firstF ah t).bind λk=>if ah.length+m <= k then none else some k
 | [],ah,m=>by rw [List.take_nil];rfl
 | x :: t,ah,0=>by
   rw [List.take_zero]
   cases q:firstF ah (x :: t) with
   | none=>rfl
   | some k =>
     have hk:=first_ge q
     show none=if ah.length+0 <= k then none else some k
     rw [if_pos (by omega)]
 | x :: t,ah,m+1=>by
   rw [List.take_succ_cons]
   show (if fitsL ah x=true then firstF (ah++[x]) (t.take m) else some ah.length)=(if fitsL ah x=true then firstF (ah++[x]) t else some ah.length).bind _
   by_cases f:fitsL ah x=true
   · rw [if_pos f,if_pos f,first_take t (ah++[x]) m]
     congr 1
     funext k
     rw [List.length_append,show [x].length=1 from rfl]
     have:ah.length+1+m=ah.length+(m+1):=by omega
     rw [this]
   · rw [if_neg f,if_neg f]
     show some ah.length=if ah.length+(m+1) <= ah.length then none else some ah.length
     rw [if_neg (by omega)]
structure JS where
 un:List (Int × Int)
 uh:List (Int × Int)
 go:List Int
 dn:List Int
def JS.next (S:JS) (h:Hap):JS:=match h.w with
 | .asked=>⟨S.un++[(h.n,h.o)],S.uh,S.go++[h.n],S.dn⟩
 | .taken=>⟨S.un.drop 1,S.uh,S.go,S.dn++[h.n]⟩
 | .answered=>⟨S.un,S.uh++[(h.n,h.o)],S.go,S.dn.erase h.n⟩
 | .handed=>⟨S.un,S.uh.drop 1,S.go.erase h.n,S.dn⟩
def JS.Of (S:JS) (ah:List Hap):Prop:=JI ah S.un S.uh S.go S.dn
theorem JS.step {S:JS} {ah:List Hap} (J:S.Of ah) {h:Hap} (f:fitsL ah h=true):(S.next h).Of (ah++[h]):=by
 have f':=f
 unfold JS.Of at J
 rw [← J.fits] at f'
 obtain ⟨w,n,o⟩:=h
 cases w with
 | asked =>
   have hn:n ∉ S.go:=by
     have:(!S.go.contains n)=true:=f'
     rw [List.contains_eq_mem] at this
     simpa using this
   exact J.asked hn
 | taken=>exact (J.taken (of_decide_eq_true f')).1
 | answered =>
   have hn:n∈S.dn:=by
     have:S.dn.contains n=true:=f'
     rw [List.contains_eq_mem] at this
     exact of_decide_eq_true this
   exact J.answered hn
 | handed=>exact (J.handed (of_decide_eq_true f')).1
theorem first_two:∀ (t a b:List Hap) (S:JS),S.Of a->S.Of b->firstF a t=(firstF b t).map λk=>k - b.length+a.length
 | [],_,_,_,_,_=>rfl
 | x :: t,a,b,S,ha,hb=>by
   have e:fitsL a x=fitsL b x:=(JI.fits ha x).symm.trans (JI.fits hb x)
   show (if fitsL a x=true then firstF (a++[x]) t else some a.length)=(if fitsL b x=true then firstF (b++[x]) t else some b.length).map _
   rw [e]
   by_cases f:fitsL b x=true
   · rw [if_pos f,if_pos f,first_two t (a++[x]) (b++[x]) (S.next x) (JS.step ha (e.trans f)) (JS.step hb f)]
     cases q:firstF (b++[x]) t with
     | none=>rfl
     | some k =>
       have:=first_ge q
       rw [List.length_append] at this
       have e1:[x].length=1:=rfl
       show some (k - (b++[x]).length+(a++[x]).length)=some (k - b.length+a.length)
       rw [List.length_append,List.length_append]
       congr 1
       omega
   · rw [if_neg f,if_neg f]
     show some a.length=some (b.length - b.length+a.length)
     rw [Nat.sub_self,Nat.zero_add]
theorem firstF_append:∀ (s ah t:List Hap),firstF ah s=none->firstF ah (s++t)=firstF (ah++s) t
 | [],ah,t,_=>by rw [List.nil_append,List.append_nil]
 | x :: s,ah,t,h=>by
   have h':(if fitsL ah x=true then firstF (ah++[x]) s else some ah.length)=none:=h
   show (if fitsL ah x=true then firstF (ah++[x]) (s++t) else some ah.length)=_
   by_cases f:fitsL ah x=true
   · rw [if_pos f] at h' ⊢
     rw [firstF_append s (ah++[x]) t h',List.append_assoc];rfl
   · rw [if_neg f] at h';cases h'
theorem first_behind {ah hs:List Hap} (hf:firstL ah=none) (J:JI ah [] [] [] []):firstL (ah++hs)=(firstL hs).map λk=>k+ah.length:=by
 unfold firstL
 rw [firstF_append ah [] hs hf,List.nil_append,first_two hs ah [] ⟨[],[],[],[]⟩ J JI.zero]
 congr 1
structure Tn9 (f g:Int->Int) (B:Int->Prop):Prop where
 fi:∀ x y,B x->B y->f x=f y->x=y
 gi:∀ x y,g x=g y->x=y
def tnH (f g:Int->Int) (h:Hap):Hap:=⟨h.w,f h.n,g h.o⟩
def tnP (f g:Int->Int) (p:Int × Int):Int × Int:=(f p.1,g p.2)
theorem th_map (f g:Int->Int) (w:Wd) (hs:List Hap):th w (hs.map (tnH f g))=(th w hs).map (tnP f g):=by
 unfold th
 rw [List.filter_map,List.map_map,List.map_map]
 rfl
theorem th_mem {w:Wd} {hs:List Hap} {p:Int × Int} (h:p∈th w hs):∃ x∈hs,x.n=p.1:=by
 unfold th at h
 obtain ⟨x,hx,rfl⟩:=List.mem_map.mp h
 exact ⟨x,(List.mem_filter.mp hx).1,rfl⟩
section
variable {f g:Int->Int} {B:Int->Prop}
theorem cnt_map (T:Tn9 f g B) {hs:List Hap} (hb:∀ h∈hs,B h.n) (w:Wd) {x:Int} (hx:B x):cnt w (f x) (hs.map (tnH f g))=cnt w x hs:=by
 unfold cnt
 rw [th_map,List.filter_map,List.length_map]
 congr 1
 refine List.filter_congr λp hp=>?_
 obtain ⟨y,hy,e⟩:=th_mem hp
 show decide (f p.1=f x)=decide (p.1=x)
 by_cases q:p.1=x
 · rw [decide_eq_true q,decide_eq_true (by rw [q])]
 · rw [decide_eq_false q,decide_eq_false λz=>q (T.fi _ _ (by rw [← e];exact hb y hy) hx z)]
theorem one_map (T:Tn9 f g B) {ps:List (Int × Int)} (hb:∀ p∈ps,B p.1) {n o:Int} (hn:B n):decide ((ps.map (tnP f g)).take 1=[(f n,g o)])=decide (ps.take 1=[(n,o)]):=by
 cases ps with
 | nil=>rfl
 | cons p ps =>
   show decide ([tnP f g p]=[(f n,g o)])=decide ([p]=[(n,o)])
   by_cases q:p=(n,o)
   · subst q
     rw [decide_eq_true (show [tnP f g (n,o)]=[(f n,g o)] from rfl),decide_eq_true rfl]
   · have h1:¬ [p]=[(n,o)]:=λz=>q (by injection z)
     have h2:¬ [tnP f g p]=[(f n,g o)]:=λz=>by
       injection z with z _
       have z':(f p.1,g p.2)=(f n,g o):=z
       injection z' with z1 z2
       exact q (Prod.ext (T.fi _ _ (hb p List.mem_cons_self) hn z1) (T.gi _ _ z2))
     rw [decide_eq_false h1,decide_eq_false h2]
theorem fits_map (T:Tn9 f g B) {hs:List Hap} (hb:∀ h∈hs,B h.n) {h:Hap} (hh:B h.n):fitsL (hs.map (tnH f g)) (tnH f g h)=fitsL hs h:=by
 obtain ⟨w,n,o⟩:=h
 have pb:∀ w' k,∀ p∈(th w' hs).drop k,B p.1:=λw' k p hp=>by
   obtain ⟨y,hy,e⟩:=th_mem (List.mem_of_mem_drop hp)
   rw [← e];exact hb y hy
 cases w with
 | asked =>
   show decide (cnt .asked (f n) _=cnt .handed (f n) _)=decide (cnt .asked n hs=cnt .handed n hs)
   rw [cnt_map T hb _ hh,cnt_map T hb _ hh]
 | answered =>
   show decide (cnt .answered (f n) _ < cnt .taken (f n) _)=decide (cnt .answered n hs < cnt .taken n hs)
   rw [cnt_map T hb _ hh,cnt_map T hb _ hh]
 | taken =>
   show decide (((th .asked (hs.map (tnH f g))).drop (th .taken (hs.map (tnH f g))).length).take 1=[(f n,g o)])=decide (((th .asked hs).drop (th .taken hs).length).take 1=[(n,o)])
   rw [th_map,th_map,List.length_map,← List.map_drop]
   exact one_map T (pb _ _) hh
 | handed =>
   show decide (((th .answered (hs.map (tnH f g))).drop (th .handed (hs.map (tnH f g))).length).take 1=[(f n,g o)])=decide (((th .answered hs).drop (th .handed hs).length).take 1=[(n,o)])
   rw [th_map,th_map,List.length_map,← List.map_drop]
   exact one_map T (pb _ _) hh
theorem firstF_map (T:Tn9 f g B):∀ (t ah:List Hap),(∀ h∈ah,B h.n)->(∀ h∈t,B h.n)->firstF (ah.map (tnH f g)) (t.map (tnH f g))=firstF ah t
 | [],_,_,_=>rfl
 | x :: t,ah,h1,h2=>by
   show (if fitsL (ah.map (tnH f g)) (tnH f g x)=true then firstF (ah.map (tnH f g)++[tnH f g x]) (t.map (tnH f g)) else some (ah.map (tnH f g)).length)=(if fitsL ah x=true then firstF (ah++[x]) t else some ah.length)
   rw [fits_map T h1 (h2 x List.mem_cons_self),List.length_map]
   have e:ah.map (tnH f g)++[tnH f g x]=(ah++[x]).map (tnH f g):=by rw [List.map_append];rfl
   rw [e,firstF_map T t (ah++[x]) (λh hh=>by
     rcases List.mem_append.mp hh with y | y
     · exact h1 h y
     · rw [List.mem_singleton.mp y];exact h2 x List.mem_cons_self) λh hh=>h2 h (List.mem_cons_of_mem _ hh)]
theorem first_map (T:Tn9 f g B) {hs:List Hap} (hb:∀ h∈hs,B h.n):firstL (hs.map (tnH f g))=firstL hs:=firstF_map T hs [] (λ_ h=>by cases h) hb
end
def N9 (x:Int):Prop:=0 <= x/\x < 9
theorem tn9 {b d:Int} (hb:b=1\/b=2\/b=4\/b=5\/b=7\/b=8):Tn9 (λx=>(x * b+d) % 9) (λx=>0 - x) N9:=by
 refine ⟨λx y hx hy h=>?_,λx y h=>by have h':0 - x=0 - y:=h;omega⟩
 have h':(x * b+d) % 9=(y * b+d) % 9:=h
 obtain ⟨x0,x9⟩:=hx
 obtain ⟨y0,y9⟩:=hy
 rcases hb with rfl | rfl | rfl | rfl | rfl | rfl<;>omega
section
variable {ah:List Hap} {un uh:List (Int × Int)} {go do':List Int}
theorem JI.un_mem (J:JI ah un uh go do') {p:Int × Int} (h:p∈un):∃ x∈ah,x.n=p.1:=by
 rw [J.eu] at h;exact th_mem (List.mem_of_mem_drop h)
theorem JI.uh_mem (J:JI ah un uh go do') {p:Int × Int} (h:p∈uh):∃ x∈ah,x.n=p.1:=by
 rw [J.eh] at h;exact th_mem (List.mem_of_mem_drop h)
theorem JI.do_mem (J:JI ah un uh go do') {n:Int} (h:n∈do'):∃ x∈ah,x.n=n:=by
 have:=J.ct n
 rw [if_pos h] at this
 have h0:0 < cnt .taken n ah:=by omega
 unfold cnt at h0
 obtain ⟨p,hp⟩:=List.exists_mem_of_length_pos h0
 obtain ⟨hp1,hp2⟩:=List.mem_filter.mp hp
 obtain ⟨x,hx,e⟩:=th_mem hp1
 exact ⟨x,hx,e.trans (of_decide_eq_true hp2)⟩
end
theorem free_N9 {un:List Int} {x:Int} (h:x∈freeL 9 un):N9 x:=by
 unfold freeL at h
 obtain ⟨k,hk,rfl⟩:=List.mem_map.mp (List.mem_filter.mp h).1
 have:=List.mem_range.mp hk
 exact ⟨by omega,by omega⟩
theorem all_snoc {hs:List Hap} {h:Hap} (a:∀ x∈hs,N9 x.n) (b:N9 h.n):∀ x∈hs++[h],N9 x.n:=λx hx=>by
 rcases List.mem_append.mp hx with y | y
 · exact a x y
 · rw [List.mem_singleton.mp y];exact b
theorem pv_at2 {H:Hp}:∀ {A:List (Int × Int)} {ts:List V} {k:Nat} {y:V},Paired (PV H) A ts->ts[k]?=some y->∃ p c,A[k]?=some p/\y=.ref c/\H c=some (.tup [.int p.1,.int p.2])
 | _,_,_,_,.nil,h=>by cases h
 | h :: _,_ :: _,0,_,.cons ⟨c,e,q⟩ _,hk=>by cases hk;exact ⟨h,c,rfl,e,q⟩
 | _ :: _,_ :: _,k+1,_,.cons _ t,hk=>pv_at2 (k:=k) t hk
def cx (x:Int) (ns:List Int):Nat:=(ns.filter λy=>decide (y=x)).length
theorem cx_cons (x y:Int) (ns:List Int):cx x (y :: ns)=(if y=x then 1 else 0)+cx x ns:=by
 unfold cx
 by_cases h:y=x
 · rw [List.filter_cons,if_pos (decide_eq_true h),if_pos h,List.length_cons];omega
 · rw [List.filter_cons,if_neg (by rw [decide_eq_false h];decide),if_neg h];omega
theorem cx_erase {n:Int}:∀ {ns:List Int},n∈ns->∀ x,cx x (ns.erase n)+(if n=x then 1 else 0)=cx x ns
 | [],h,_=>by cases h
 | y :: ns,h,x=>by
   by_cases e:y=n
   · subst e
     rw [List.erase_cons_head,cx_cons];omega
   · have hm:n∈ns:=by
       rcases List.mem_cons.mp h with z | z
       · exact absurd z.symm e
       · exact z
     have hb:(y == n)=false:=by simpa using e
     rw [List.erase_cons,hb]
     show cx x (y :: ns.erase n)+_=_
     rw [cx_cons,cx_cons,← cx_erase hm x];omega
theorem cx_pos {x:Int} {ns:List Int} (h:x ∉ ns):cx x ns=0:=by
 unfold cx
 rw [List.length_eq_zero_iff,List.filter_eq_nil_iff]
 intro y hy z
 exact h (by rw [← of_decide_eq_true z];exact hy)
theorem cnt_cx (w:Wd) (x:Int) (hs:List Hap):cnt w x hs=cx x ((th w hs).map (·.1)):=by
 unfold cnt cx
 rw [List.filter_map,List.length_map];rfl
end L2

set_option maxHeartbeats 4000000
namespace My
open PySem L2
def top (i:Nat):Stmt:=PySem.Challenge.pw_askring_k29_whole_wrong_from_one_place_o.main.body.getD i (.Pass ⟨0,0,0,0⟩)
abbrev s_Judge__init:Stmt:=inClass (top 1) 0
abbrev s_Judge_fits:Stmt:=inClass (top 1) 1
abbrev s_Judge_go_on:Stmt:=inClass (top 1) 2
abbrev s_first_wrong:Stmt:=top 2
abbrev s_law_cell_at:Stmt:=top 4
abbrev s_law_codes:Stmt:=top 5
abbrev s_law_grown:Stmt:=top 6
abbrev s_law_bent:Stmt:=top 7
abbrev s_law_things:Stmt:=top 8
abbrev s_law_ended:Stmt:=top 9
abbrev s_law_turned:Stmt:=top 10
abbrev s_law_is:Stmt:=top 11
abbrev s_law:Stmt:=top 12
theorem sc_Judge__init:FnScope ["self"] ["self"] (defScope s_Judge__init):=⟨rfl,rfl,rfl,by decide +kernel,rfl,by decide +kernel,by decide +kernel⟩
theorem sc_Judge_fits:FnScope ["self","word","name","worth"] ["self","word","name","worth"] (defScope s_Judge_fits):=⟨rfl,rfl,rfl,by decide +kernel,rfl,by decide +kernel,by decide +kernel⟩
theorem sc_Judge_go_on:FnScope ["self","word","name","worth"] ["self","word","name","worth"] (defScope s_Judge_go_on):=⟨rfl,rfl,rfl,by decide +kernel,rfl,by decide +kernel,by decide +kernel⟩
theorem sc_first_wrong:FnScope ["story","judge","number","happening"] ["story"] (defScope s_first_wrong):=⟨rfl,rfl,rfl,by decide +kernel,rfl,by decide +kernel,by decide +kernel⟩
theorem sc_law_cell_at:FnScope ["script","k"] ["script","k"] (defScope s_law_cell_at):=⟨rfl,rfl,rfl,by decide +kernel,rfl,by decide +kernel,by decide +kernel⟩
theorem sc_law_codes:FnScope ["cells","most","codes","cell","rest"] ["cells","most"] (defScope s_law_codes):=⟨rfl,rfl,rfl,by decide +kernel,rfl,by decide +kernel,by decide +kernel⟩
theorem sc_law_grown:FnScope ["codes","story","laid","tasks","told","away","code","free","worth","name"] ["codes"] (defScope s_law_grown):=⟨rfl,rfl,rfl,by decide +kernel,rfl,by decide +kernel,by decide +kernel⟩
theorem sc_law_bent:FnScope ["story","code","at","to","word","name","worth","ahead"] ["story","code"] (defScope s_law_bent):=⟨rfl,rfl,rfl,by decide +kernel,rfl,by decide +kernel,by decide +kernel⟩
theorem sc_law_things:FnScope ["story","word"] ["story","word"] (defScope s_law_things):=⟨rfl,rfl,rfl,by decide +kernel,rfl,by decide +kernel,by decide +kernel⟩
theorem sc_law_ended:FnScope ["story","ended","thing","names","name","worth"] ["story"] (defScope s_law_ended):=⟨rfl,rfl,rfl,by decide +kernel,rfl,by decide +kernel,by decide +kernel⟩
theorem sc_law_turned:FnScope ["story","cell","by"] ["story","cell"] (defScope s_law_turned):=⟨rfl,rfl,rfl,by decide +kernel,rfl,by decide +kernel,by decide +kernel⟩
theorem sc_law_is:FnScope ["found","due"] ["found","due"] (defScope s_law_is):=⟨rfl,rfl,rfl,by decide +kernel,rfl,by decide +kernel,by decide +kernel⟩
theorem sc_law:FnScope ["script","codes","cell","story","wrong","many","due","ahead"] ["script"] (defScope s_law):=⟨rfl,rfl,rfl,by decide +kernel,rfl,by decide +kernel,by decide +kernel⟩
structure Ad where
 Judge__init:Addr
 Judge_fits:Addr
 Judge_go_on:Addr
 first_wrong:Addr
 law_cell_at:Addr
 law_codes:Addr
 law_grown:Addr
 law_bent:Addr
 law_things:Addr
 law_ended:Addr
 law_turned:Addr
 law_is:Addr
 law:Addr
 Judge:Addr
structure Fd where
 Judge__init:FuncData
 Judge_fits:FuncData
 Judge_go_on:FuncData
 first_wrong:FuncData
 law_cell_at:FuncData
 law_codes:FuncData
 law_grown:FuncData
 law_bent:FuncData
 law_things:FuncData
 law_ended:FuncData
 law_turned:FuncData
 law_is:FuncData
 law:FuncData
structure Gs (K:PySem.W.Frag) (mg:Str->Option Value) (a:Ad) (d:Fd):Prop where
 f_Judge__init:Fun K "__init__" "Judge.__init__" s_Judge__init a.Judge__init d.Judge__init
 b_Judge__init:Binds K d.Judge__init ["self"] []
 f_Judge_fits:Fun K "fits" "Judge.fits" s_Judge_fits a.Judge_fits d.Judge_fits
 b_Judge_fits:Binds K d.Judge_fits ["self","word","name","worth"] []
 mt_Judge_fits:Meth K a.Judge "fits" a.Judge_fits
 f_Judge_go_on:Fun K "go_on" "Judge.go_on" s_Judge_go_on a.Judge_go_on d.Judge_go_on
 b_Judge_go_on:Binds K d.Judge_go_on ["self","word","name","worth"] []
 mt_Judge_go_on:Meth K a.Judge "go_on" a.Judge_go_on
 f_first_wrong:Fun K "first_wrong" "first_wrong" s_first_wrong a.first_wrong d.first_wrong
 b_first_wrong:Binds K d.first_wrong ["story"] []
 m_first_wrong:mg "first_wrong"=some (.ref a.first_wrong)
 f_law_cell_at:Fun K "_law_cell_at" "_law_cell_at" s_law_cell_at a.law_cell_at d.law_cell_at
 b_law_cell_at:Binds K d.law_cell_at ["script","k"] []
 m_law_cell_at:mg "_law_cell_at"=some (.ref a.law_cell_at)
 f_law_codes:Fun K "_law_codes" "_law_codes" s_law_codes a.law_codes d.law_codes
 b_law_codes:Binds K d.law_codes ["cells","most"] []
 m_law_codes:mg "_law_codes"=some (.ref a.law_codes)
 f_law_grown:Fun K "_law_grown" "_law_grown" s_law_grown a.law_grown d.law_grown
 b_law_grown:Binds K d.law_grown ["codes"] []
 m_law_grown:mg "_law_grown"=some (.ref a.law_grown)
 f_law_bent:Fun K "_law_bent" "_law_bent" s_law_bent a.law_bent d.law_bent
 b_law_bent:Binds K d.law_bent ["story","code"] []
 m_law_bent:mg "_law_bent"=some (.ref a.law_bent)
 f_law_things:Fun K "_law_things" "_law_things" s_law_things a.law_things d.law_things
 b_law_things:Binds K d.law_things ["story","word"] []
 m_law_things:mg "_law_things"=some (.ref a.law_things)
 f_law_ended:Fun K "_law_ended" "_law_ended" s_law_ended a.law_ended d.law_ended
 b_law_ended:Binds K d.law_ended ["story"] []
 m_law_ended:mg "_law_ended"=some (.ref a.law_ended)
 f_law_turned:Fun K "_law_turned" "_law_turned" s_law_turned a.law_turned d.law_turned
 b_law_turned:Binds K d.law_turned ["story","cell"] []
 m_law_turned:mg "_law_turned"=some (.ref a.law_turned)
 f_law_is:Fun K "_law_is" "_law_is" s_law_is a.law_is d.law_is
 b_law_is:Binds K d.law_is ["found","due"] []
 m_law_is:mg "_law_is"=some (.ref a.law_is)
 f_law:Fun K "law" "law" s_law a.law d.law
 b_law:Binds K d.law ["script"] []
 m_law:mg "law"=some (.ref a.law)
 cl_Judge:Cls K a.Judge
 m_Judge:mg "Judge"=some (.ref a.Judge)
 k_Judge:Mk K a.Judge a.Judge__init
 na_Judge_untaken:NoAttr K a.Judge "untaken"
 na_Judge_unhanded:NoAttr K a.Judge "unhanded"
 na_Judge_going:NoAttr K a.Judge "going"
 na_Judge_doing:NoAttr K a.Judge "doing"
 n_bool:mg "bool"=none
 n_enumerate:mg "enumerate"=none
 n_int:mg "int"=none
 n_isinstance:mg "isinstance"=none
 n_len:mg "len"=none
 n_list:mg "list"=none
 n_range:mg "range"=none
theorem iteDF {c A B:Prop} [Decidable c] (hc:¬ c) (h:B):if decide c=true then A else B:=by
 rw [decide_eq_false hc];exact iteF h
theorem iteDT {c A B:Prop} [Decidable c] (hc:c) (h:A):if decide c=true then A else B:=by
 rw [decide_eq_true hc];exact iteT h
theorem vint_inj {i j:Int} (h:V.int i=V.int j):i=j:=by injection h
theorem sne {a b:Str} (h:a≠b):¬ V.str a=V.str b:=λy=>h (by injection y)
theorem l2 {x y:V}:[x,y].length <= sizeLine:=by show 2 <= sizeLine;decide
theorem l3 {x y z:V}:[x,y,z].length <= sizeLine:=by show 3 <= sizeLine;decide
theorem six0 {n:Nat} (h:0 < n):seqIndex? 0 n=some 0:=by
 unfold seqIndex?
 simp [h]

def sp_jinit (CJ:Addr):Sp:=λvs H Q _=>∃ (j dx:Addr),vs=[.ref j]/\H j=some (.ins CJ dx []) /\
 ∀ (z:JA) (H':Hp),z.j=j->H z.u=none->H z.h=none->H z.g=none->H z.d=none->Jn CJ H' z [] [] [] []->Kp [j] H H'->Q .non H'
def sp_fits (CJ:Addr):Sp:=λvs H Q _=>∃ (z:JA) (un uh:List (Int × Int)) (go do':List Int) (h:Hap),vs=[.ref z.j,.str h.w.key,.int h.n,.int h.o]/\Jn CJ H z un uh go do'/\un.length < 1000/\uh.length < 1000/\∀ H',Same H H'->Q (.bl (fitsJ un uh go do' h)) H'
def sp_goon (CJ:Addr):Sp:=λvs H Q _=>∃ (z:JA) (ah:List Hap) (un uh:List (Int × Int)) (go do':List Int) (h:Hap),vs=[.ref z.j,.str h.w.key,.int h.n,.int h.o]/\Jn CJ H z un uh go do'/\JI ah un uh go do'/\fitsL ah h=true/\ah.length < 1000 /\
 ∀ H' un' uh' go' do2,Jn CJ H' z un' uh' go' do2->JI (ah++[h]) un' uh' go' do2->KO z.own H H'->Kt H H'->Q .non H'
def sp_fw:Sp:=λvs H Q _=>∃ (l:Addr) (hs:List Hap),vs=[.ref l]/\SV H l hs/\hs.length < 900/\∀ H',Same H H'->Q (vO (firstL hs)) H'
section
variable {P:Program} {w:World} {K:PySem.W.Frag} {mg:Str->Option Value} {base:Heap} {a:Ad} {d:Fd}
theorem ok_jinit (G:Gs K mg a d):FnOk P w K mg base CX0 1 a.Judge__init d.Judge__init ["self"] (sp_jinit a.Judge):=by
 refine G.f_Judge__init.ok sc_Judge__init (λvs H Q E h=>?_) (λcdv A outer s H vs Q E hr h=>?_)
 · obtain ⟨j,dx,rfl,_⟩:=h
   rfl
 · obtain ⟨j,dx,rfl,hj,k⟩:=h
   refine ⟨_,(@pss_cons _ _ _ _ _ (ps_fld (pv 0) (@pe_lst _ _ _ _ pa_nil) rfl)
     (@pss_cons _ _ _ _ _ (ps_fld (pv 0) (@pe_lst _ _ _ _ pa_nil) rfl)
     (@pss_cons _ _ _ _ _ (ps_fld (pv 0) pe_dnewK rfl)
     (@pss_one _ _ _ (ps_fld (pv 0) pe_dnewK rfl))))),?_⟩
   refine ⟨len0v,λu hu=>?_⟩
   obtain ⟨a1,a2,a3,a4⟩:=fld_new (o:=.lst []) (f:="untaken") hj hu
   refine ⟨_,rfl,j,a.Judge,dx,[],rfl,a3,G.cl_Judge,G.na_Judge_untaken,by decide,?_⟩
   generalize upd (upd H u (.lst [])) j (.ins a.Judge dx (putF "untaken" (.ref u) []))=H1 at a1 a2 a4 ⊢
   refine ⟨len0v,λh hh=>?_⟩
   obtain ⟨b1,b2,b3,b4⟩:=fld_new (o:=.lst []) (f:="unhanded") a1 hh
   refine ⟨_,rfl,j,a.Judge,dx,_,rfl,b3,G.cl_Judge,G.na_Judge_unhanded,by show 1 < 1000;decide,?_⟩
   generalize upd (upd H1 h (.lst [])) j (.ins a.Judge dx (putF "unhanded" (.ref h) (putF "untaken" (.ref u) [])))=H2 at b1 b2 b4 ⊢
   intro g hg
   obtain ⟨c1,c2,c3,c4⟩:=fld_new (o:=.dK []) (f:="going") b1 hg
   refine ⟨_,rfl,j,a.Judge,dx,_,rfl,c3,G.cl_Judge,G.na_Judge_going,by show 2 < 1000;decide,?_⟩
   generalize upd (upd H2 g (.dK [])) j (.ins a.Judge dx (putF "going" (.ref g) (putF "unhanded" (.ref h) (putF "untaken" (.ref u) []))))=H3 at c1 c2 c4 ⊢
   intro d' hd
   obtain ⟨d1,d2,d3,d4⟩:=fld_new (o:=.dK []) (f:="doing") c1 hd
   refine ⟨_,rfl,j,a.Judge,dx,_,rfl,d3,G.cl_Judge,G.na_Judge_doing,by show 3 < 1000;decide,?_⟩
   generalize upd (upd H3 d' (.dK [])) j (.ins a.Judge dx (putF "doing" (.ref d') (putF "going" (.ref g) (putF "unhanded" (.ref h) (putF "untaken" (.ref u) [])))))=H4 at d1 d2 d4 ⊢
   have nb:∀ {H' H'':Hp} {c:Addr} {C fs},H' j=some (.ins C dx fs)->(∀ c u,c≠j->H' c=some u->H'' c=some u)->H'' c=none->H'' j≠none->H' c=none:=λ{H' H'' c C fs} q1 q2 q3 q4=>by
     cases y:H' c with
     | none=>rfl
     | some o =>
       by_cases e:c=j
       · rw [e] at q3;exact absurd q3 q4
       · rw [q2 c o e y] at q3;cases q3
   have nn:∀ {H':Hp} {o:HO},H' j=some o->H' j≠none:=λe z=>by rw [e] at z;cases z
   have uj:u≠j:=λy=>by rw [y,hj] at hu;cases hu
   have hj':h≠j:=λy=>by rw [y,a1] at hh;cases hh
   have gj:g≠j:=λy=>by rw [y,b1] at hg;cases hg
   have u2:=b4 _ _ uj a2
   have u4:=d4 _ _ uj (c4 _ _ uj u2)
   have h4:=d4 _ _ hj' (c4 _ _ hj' b2)
   have g4:=d4 _ _ gj c2
   have hhH:=nb hj a4 hh (nn a1)
   have hgH:=nb hj a4 (nb a1 b4 hg (nn b1)) (nn a1)
   have hdH:=nb hj a4 (nb a1 b4 (nb b1 c4 hd (nn c1)) (nn b1)) (nn a1)
   refine k ⟨j,u,h,g,d'⟩ H4 rfl hu hhH hgH hdH ⟨⟨dx,d1⟩,⟨[],u4,.nil⟩,⟨[],h4,.nil⟩,g4,d2,ne_of_none a2 hh,ne_of_none c2 hd⟩ λc o nc e=>?_
   have nc':c≠j:=λy=>nc (List.mem_singleton.mpr y)
   exact d4 _ _ nc' (c4 _ _ nc' (b4 _ _ nc' (a4 _ _ nc' e)))
theorem ok_fits (G:Gs K mg a d):FnOk P w K mg base CX0 1 a.Judge_fits d.Judge_fits ["self","word","name","worth"] (sp_fits a.Judge):=by
 refine G.f_Judge_fits.ok sc_Judge_fits (λvs H Q E h=>?_) (λcdv A outer s H vs Q E hr h=>?_)
 · obtain ⟨z,un,uh,go,do',h,rfl,_⟩:=h
   rfl
 · obtain ⟨z,un,uh,go,do',⟨wd,n,o⟩,rfl,J,lu,lh,k⟩:=h
   have hu:=hu_of hr
   refine ⟨_,(@pss_cons _ _ _ _ _ (ps_if (pt_cmpR op_eq (pv 1) pe_str (nomark _)) (@pss_one _ _ _ (@ps_ret _ _ _ _ (pe_cmp (pc_dnotin hu (pv 2) (pe_fld (pv 0) rfl))))) pss_nil)
     (@pss_cons _ _ _ _ _ (ps_if (pt_cmpR op_eq (pv 1) pe_str (nomark _)) (@pss_one _ _ _ (@ps_ret _ _ _ _ (pe_cmpR (op_eqD hr.units) (pe_slice sl_list (pe_fld (pv 0) rfl) po_none (po_some pe_int)) (@pe_lst _ _ _ _ (@pa_cons _ _ _ _ _ (@pe_tup _ _ _ _ _ (@pa_cons _ _ _ _ _ (pv 2) (@pa_cons _ _ _ _ _ (pv 3) pa_nil (by rfl)) (by rfl))) pa_nil (by rfl))) (nomark _)))) pss_nil)
     (@pss_cons _ _ _ _ _ (ps_if (pt_cmpR op_eq (pv 1) pe_str (nomark _)) (@pss_one _ _ _ (@ps_ret _ _ _ _ (pe_cmp (pc_din hu (pv 2) (pe_fld (pv 0) rfl))))) pss_nil)
     (@pss_one _ _ _ (@ps_ret _ _ _ _ (pe_cmpR (op_eqD hr.units) (pe_slice sl_list (pe_fld (pv 0) rfl) po_none (po_some pe_int)) (@pe_lst _ _ _ _ (@pa_cons _ _ _ _ _ (@pe_tup _ _ _ _ _ (@pa_cons _ _ _ _ _ (pv 2) (@pa_cons _ _ _ _ _ (pv 3) pa_nil (by rfl)) (by rfl))) pa_nil (by rfl))) (nomark _))))))),?_⟩
   obtain ⟨dx,hx⟩:=J.ob
   cases wd with
   | asked =>
     refine ⟨_,rfl,rfl,_,rfl,iteDT rfl ?_⟩
     refine ⟨_,rfl,_,rfl,fld hx G.cl_Judge G.na_Judge_going jF_g ⟨z.g,_,rfl,DGet.k (k:=.inl n) J.g,?_⟩⟩
     have q:=k H (Same.refl _)
     rw [gK_val]
     show Q (.bl (!(if go.contains n=true then some (V.bl true) else none).isSome)) H
     have e:(if go.contains n=true then some (V.bl true) else none).isSome=go.contains n:=by cases go.contains n<;>rfl
     rw [e]
     exact q
   | taken =>
     refine ⟨_,rfl,rfl,_,rfl,iteDF (sne (show Wd.key .taken≠"asked" by decide +kernel)) ⟨_,rfl,rfl,_,rfl,iteDT rfl ?_⟩⟩
     obtain ⟨ts,e0,pr⟩:=J.u
     refine ⟨_,rfl,fld hx G.cl_Judge G.na_Judge_untaken jF_u ⟨_,rfl,z.u,ts,rfl,SqL.of e0,λq hq=>⟨_,rfl,_,rfl,l2,λt ht=>⟨len1v,λc hc=>?_⟩⟩⟩⟩
     have s1:=same_new (o:=.lst (cutV ts none (some 1))) hq
     have s2:=same_new (o:=.tup [V.int n,V.int o]) ht
     have s3:=same_new (o:=.lst [V.ref t]) hc
     have cq:cutV ts none (some 1)=ts.take 1:=cutV_to ts 1
     have pr1:Paired (PV H) (un.take 1) (cutV ts none (some 1)):=by rw [cq];exact paired_take 1 pr
     refine ⟨.list ((un.take 1).map pvD),.list ([(n,o)].map pvD),⟨q,_,rfl,s3 _ _ (s2 _ _ upd_same),?_⟩,⟨c,_,rfl,upd_same,pv_dvs (.cons ⟨t,rfl,s3 _ _ upd_same⟩ .nil)⟩,pv_lay _,pv_lay _,?_⟩
     · exact pv_dvs (Paired.mapP pr1 λ_ _ h=>h.keep (s1.trans (s2.trans s3)).kt)
     · rw [pvs_eqv]
       exact k _ (s1.trans (s2.trans s3))
   | answered =>
     refine ⟨_,rfl,rfl,_,rfl,iteDF (sne (show Wd.key .answered≠"asked" by decide +kernel)) ⟨_,rfl,rfl,_,rfl,iteDF (sne (show Wd.key .answered≠"taken" by decide +kernel)) ⟨_,rfl,rfl,_,rfl,iteDT rfl ?_⟩⟩⟩
     refine ⟨_,rfl,_,rfl,fld hx G.cl_Judge G.na_Judge_doing jF_d ⟨z.d,_,rfl,DGet.k (k:=.inl n) J.d,?_⟩⟩
     have q:=k H (Same.refl _)
     rw [gK_val]
     show Q (.bl ((if do'.contains n=true then some (V.bl true) else none).isSome)) H
     have e:(if do'.contains n=true then some (V.bl true) else none).isSome=do'.contains n:=by cases do'.contains n<;>rfl
     rw [e]
     exact q
   | handed =>
     refine ⟨_,rfl,rfl,_,rfl,iteDF (sne (show Wd.key .handed≠"asked" by decide +kernel)) ⟨_,rfl,rfl,_,rfl,iteDF (sne (show Wd.key .handed≠"taken" by decide +kernel)) ⟨_,rfl,rfl,_,rfl,iteDF (sne (show Wd.key .handed≠"answered" by decide +kernel)) ?_⟩⟩⟩
     obtain ⟨ts,e0,pr⟩:=J.h
     refine ⟨_,rfl,fld hx G.cl_Judge G.na_Judge_unhanded jF_h ⟨_,rfl,z.h,ts,rfl,SqL.of e0,λq hq=>⟨_,rfl,_,rfl,l2,λt ht=>⟨len1v,λc hc=>?_⟩⟩⟩⟩
     have s1:=same_new (o:=.lst (cutV ts none (some 1))) hq
     have s2:=same_new (o:=.tup [V.int n,V.int o]) ht
     have s3:=same_new (o:=.lst [V.ref t]) hc
     have cq:cutV ts none (some 1)=ts.take 1:=cutV_to ts 1
     have pr1:Paired (PV H) (uh.take 1) (cutV ts none (some 1)):=by rw [cq];exact paired_take 1 pr
     refine ⟨.list ((uh.take 1).map pvD),.list ([(n,o)].map pvD),⟨q,_,rfl,s3 _ _ (s2 _ _ upd_same),?_⟩,⟨c,_,rfl,upd_same,pv_dvs (.cons ⟨t,rfl,s3 _ _ upd_same⟩ .nil)⟩,pv_lay _,pv_lay _,?_⟩
     · exact pv_dvs (Paired.mapP pr1 λ_ _ h=>h.keep (s1.trans (s2.trans s3)).kt)
     · rw [pvs_eqv]
       exact k _ (s1.trans (s2.trans s3))
theorem ok_goon (G:Gs K mg a d):FnOk P w K mg base CX0 1 a.Judge_go_on d.Judge_go_on ["self","word","name","worth"] (sp_goon a.Judge):=by
 refine G.f_Judge_go_on.ok sc_Judge_go_on (λvs H Q E h=>?_) (λcdv A outer s H vs Q E hr h=>?_)
 · obtain ⟨z,ah,un,uh,go,do',h,rfl,_⟩:=h
   rfl
 · obtain ⟨z,ah,un,uh,go,do',⟨wd,n,o⟩,rfl,J,I,hf,hl,k⟩:=h
   have hu:=hu_of hr
   refine ⟨_,(@pss_one _ _ _ (ps_if (pt_cmpR op_eq (pv 1) pe_str (nomark _)) (@pss_cons _ _ _ _ _ (ps_dput hu (pe_fld (pv 0) rfl) (pv 2) pe_bl rfl)
     (@pss_one _ _ _ (@ps_expr _ _ _ _ (@pe_bm _ _ _ _ _ _ _ _ _ _ _ _ PySem.F.plainAttrs_list PySem.F.slot_list_append PySem.F.type_list_append mt_append (pe_fld (pv 0) rfl) (@pa_cons _ _ _ _ _ (@pe_tup _ _ _ _ _ (@pa_cons _ _ _ _ _ (pv 2) (@pa_cons _ _ _ _ _ (pv 3) pa_nil (by rfl)) (by rfl))) pa_nil (by rfl)) (by rfl) (by rfl) (by rfl) (by rfl) (by rfl)) (by rfl)))) (@pss_one _ _ _ (ps_if (pt_cmpR op_eq (pv 1) pe_str (nomark _)) (@pss_cons _ _ _ _ _ (@ps_expr _ _ _ _ (@pe_bm _ _ _ _ _ _ _ _ _ _ _ _ PySem.F.plainAttrs_list PySem.F.slot_list_pop PySem.F.type_list_pop mt_popAt (pe_fld (pv 0) rfl) (@pa_cons _ _ _ _ _ pe_int pa_nil (by rfl)) (by rfl) (by rfl) (by rfl) (by rfl) (by rfl)) (by rfl))
     (@pss_one _ _ _ (ps_dput hu (pe_fld (pv 0) rfl) (pv 2) pe_bl rfl))) (@pss_one _ _ _ (ps_if (pt_cmpR op_eq (pv 1) pe_str (nomark _)) (@pss_cons _ _ _ _ _ (@ps_expr _ _ _ _ (pe_dpop1 (pe_fld (pv 0) rfl) (pv 2) ⟨rfl,rfl,rfl,rfl⟩) (by rfl))
     (@pss_one _ _ _ (@ps_expr _ _ _ _ (@pe_bm _ _ _ _ _ _ _ _ _ _ _ _ PySem.F.plainAttrs_list PySem.F.slot_list_append PySem.F.type_list_append mt_append (pe_fld (pv 0) rfl) (@pa_cons _ _ _ _ _ (@pe_tup _ _ _ _ _ (@pa_cons _ _ _ _ _ (pv 2) (@pa_cons _ _ _ _ _ (pv 3) pa_nil (by rfl)) (by rfl))) pa_nil (by rfl)) (by rfl) (by rfl) (by rfl) (by rfl) (by rfl)) (by rfl)))) (@pss_cons _ _ _ _ _ (@ps_expr _ _ _ _ (@pe_bm _ _ _ _ _ _ _ _ _ _ _ _ PySem.F.plainAttrs_list PySem.F.slot_list_pop PySem.F.type_list_pop mt_popAt (pe_fld (pv 0) rfl) (@pa_cons _ _ _ _ _ pe_int pa_nil (by rfl)) (by rfl) (by rfl) (by rfl) (by rfl) (by rfl)) (by rfl))
     (@pss_one _ _ _ (@ps_expr _ _ _ _ (pe_dpop1 (pe_fld (pv 0) rfl) (pv 2) ⟨rfl,rfl,rfl,rfl⟩) (by rfl)))))))))),?_⟩
   obtain ⟨dx,hx⟩:=J.ob
   rw [← I.fits] at hf
   obtain ⟨l1,l2',l3,l4⟩:=I.lens
   have ko1:∀ {H:Hp} {x:Addr} {o:HO},z.own x->KO z.own H (upd H x o):=λhx=>KO.of_kp Kp.one λc hc=>by rw [List.mem_singleton.mp hc];exact hx
   have ou:z.own z.u:=.inr (.inl rfl)
   have oh:z.own z.h:=.inr (.inr (.inl rfl))
   have og:z.own z.g:=.inr (.inr (.inr (.inl rfl)))
   have od:z.own z.d:=.inr (.inr (.inr (.inr rfl)))
   have kot:∀ {H1 H2 H3:Hp},KO z.own H1 H2->KO z.own H2 H3->KO z.own H1 H3:=λh1 h2=>h1.trans h2 λ_ hc=>.inl hc
   cases wd with
   | asked =>
     have hn:go.contains n=false:=by
       have:(!go.contains n)=true:=hf
       simpa using this
     have hn':n ∉ go:=by rw [List.contains_eq_mem] at hn;exact of_decide_eq_false hn
     refine ⟨_,rfl,rfl,_,rfl,iteDT rfl ?_⟩
     refine ⟨_,rfl,fld hx G.cl_Judge G.na_Judge_going jF_g ⟨_,rfl,z.g,_,rfl,DPut.k (k:=.inl n) J.g (by rw [gK_len];exact Nat.lt_of_lt_of_le (show _ < 10000 by omega) (by decide)),?_⟩⟩
     have J1:=J.setG (gK_put n go hn)
     generalize hH1:upd H z.g (.dK (putK (gK go) (Sum.inl n) (.bl true)))=H1 at J1
     have k1:KO z.own H H1:=by rw [← hH1];exact ko1 og
     have t1:Kt H H1:=by rw [← hH1];exact kt_upd J.g (λ_ z=>by cases z) _
     obtain ⟨ts,e0,pr⟩:=J1.u
     obtain ⟨dx1,hx1⟩:=J1.ob
     have lt:=pairedLen pr
     refine ⟨_,rfl,fld hx1 G.cl_Judge G.na_Judge_untaken jF_u ⟨.inl ⟨rfl,_,SqL.of e0⟩,_,rfl,_,rfl,l2,λt ht=>⟨z.u,ts,_,rfl,rfl,same_new ht _ _ e0,Nat.lt_of_lt_of_le (show _ < 10000 by omega) (by decide),?_⟩⟩⟩
     have s2:=same_new (o:=.tup [V.int n,V.int o]) ht
     have J2:=(J1.same s2).setU (un':=un++[(n,o)]) (ts:=ts++[.ref t]) (Paired.snoc (Paired.mapP pr λ_ _ h=>h.keep s2.kt) ⟨t,rfl,upd_same⟩)
     exact k _ _ _ _ _ J2 (I.asked hn') (kot k1 (kot (KO.of_same s2) (ko1 ou))) λb vs e=>kt_upd (s2 _ _ e0) (λ_ z=>by cases z) _ _ _ (s2 _ _ (t1 _ _ e))
   | taken =>
     have hn:un.take 1=[(n,o)]:=of_decide_eq_true hf
     obtain ⟨I2,hnd⟩:=I.taken hn
     have e1:=take1 hn
     refine ⟨_,rfl,rfl,_,rfl,iteDF (sne (show Wd.key .taken≠"asked" by decide +kernel)) ⟨_,rfl,rfl,_,rfl,iteDT rfl ?_⟩⟩
     obtain ⟨ts,e0,pr⟩:=J.u
     have lt:=pairedLen pr
     have hl0:0 < ts.length:=by rw [← lt,e1];exact Nat.succ_pos _
     refine ⟨_,rfl,fld hx G.cl_Judge G.na_Judge_untaken jF_u ⟨.inl ⟨rfl,_,SqL.of e0⟩,z.u,ts,0,0,ts[0],rfl,rfl,e0,by decide,by decide,six0 hl0,List.getElem?_eq_getElem hl0,?_⟩⟩
     rw [erase0]
     have J1:=J.setU (paired_drop 1 pr)
     have k1:KO z.own H (upd H z.u (.lst (ts.drop 1))):=ko1 ou
     have t1:Kt H (upd H z.u (.lst (ts.drop 1))):=kt_upd e0 (λ_ z=>by cases z) _
     generalize upd H z.u (.lst (ts.drop 1))=H1 at J1 k1 t1 ⊢
     obtain ⟨dx1,hx1⟩:=J1.ob
     refine ⟨_,rfl,fld hx1 G.cl_Judge G.na_Judge_doing jF_d ⟨_,rfl,z.d,_,rfl,DPut.k (k:=.inl n) J1.d (by rw [gK_len];exact Nat.lt_of_lt_of_le (show _ < 10000 by omega) (by decide)),?_⟩⟩
     exact k _ _ _ _ _ (J1.setD (gK_put n do' (by rw [List.contains_eq_mem];exact decide_eq_false hnd))) I2 (kot k1 (ko1 od)) λb vs e=>kt_upd J1.d (λ_ z=>by cases z) _ _ _ (t1 _ _ e)
   | answered =>
     have hn:do'.contains n=true:=hf
     have hn':n∈do':=by rw [List.contains_eq_mem] at hn;exact of_decide_eq_true hn
     refine ⟨_,rfl,rfl,_,rfl,iteDF (sne (show Wd.key .answered≠"asked" by decide +kernel)) ⟨_,rfl,rfl,_,rfl,iteDF (sne (show Wd.key .answered≠"taken" by decide +kernel)) ⟨_,rfl,rfl,_,rfl,iteDT rfl ?_⟩⟩⟩
     have hv:valV (gK do') (.inl n)=some (.bl true):=by rw [gK_val,hn];rfl
     refine ⟨_,rfl,fld hx G.cl_Judge G.na_Judge_doing jF_d ⟨z.d,rfl,.inl ⟨_,.inl J.d⟩,_,rfl,_,.inl n,_,J.d,rfl,hv,?_⟩⟩
     have I2:=I.answered (o:=o) hn'
     have ee:dropK (gK do') (Sum.inl n)=gK (do'.erase n):=by
       rw [gK_drop,I.ndo.erase_eq_filter]
       congr 1
       refine List.filter_congr λy _=>?_
       by_cases e:y=n
       · subst e;simp
       · simp [e]
     have J1:=J.setD ee
     have k1:KO z.own H (upd H z.d (.dK (dropK (gK do') (Sum.inl n)))):=ko1 od
     have t1:Kt H (upd H z.d (.dK (dropK (gK do') (Sum.inl n)))):=kt_upd J.d (λ_ z=>by cases z) _
     generalize upd H z.d (.dK (dropK (gK do') (Sum.inl n)))=H1 at J1 k1 t1 ⊢
     obtain ⟨ts,e0,pr⟩:=J1.h
     obtain ⟨dx1,hx1⟩:=J1.ob
     have lt:=pairedLen pr
     refine ⟨_,rfl,fld hx1 G.cl_Judge G.na_Judge_unhanded jF_h ⟨.inl ⟨rfl,_,SqL.of e0⟩,_,rfl,_,rfl,l2,λt ht=>⟨z.h,ts,_,rfl,rfl,same_new ht _ _ e0,Nat.lt_of_lt_of_le (show _ < 10000 by omega) (by decide),?_⟩⟩⟩
     have s2:=same_new (o:=.tup [V.int n,V.int o]) ht
     have J2:=(J1.same s2).setH (uh':=uh++[(n,o)]) (ts:=ts++[.ref t]) (Paired.snoc (Paired.mapP pr λ_ _ h=>h.keep s2.kt) ⟨t,rfl,upd_same⟩)
     exact k _ _ _ _ _ J2 I2 (kot k1 (kot (KO.of_same s2) (ko1 oh))) λb vs e=>kt_upd (s2 _ _ e0) (λ_ z=>by cases z) _ _ _ (s2 _ _ (t1 _ _ e))
   | handed =>
     have hn:uh.take 1=[(n,o)]:=of_decide_eq_true hf
     obtain ⟨I2,hng⟩:=I.handed hn
     have e1:=take1 hn
     refine ⟨_,rfl,rfl,_,rfl,iteDF (sne (show Wd.key .handed≠"asked" by decide +kernel)) ⟨_,rfl,rfl,_,rfl,iteDF (sne (show Wd.key .handed≠"taken" by decide +kernel)) ⟨_,rfl,rfl,_,rfl,iteDF (sne (show Wd.key .handed≠"answered" by decide +kernel)) ?_⟩⟩⟩
     obtain ⟨ts,e0,pr⟩:=J.h
     have lt:=pairedLen pr
     have hl0:0 < ts.length:=by rw [← lt,e1];exact Nat.succ_pos _
     refine ⟨_,rfl,fld hx G.cl_Judge G.na_Judge_unhanded jF_h ⟨.inl ⟨rfl,_,SqL.of e0⟩,z.h,ts,0,0,ts[0],rfl,rfl,e0,by decide,by decide,six0 hl0,List.getElem?_eq_getElem hl0,?_⟩⟩
     rw [erase0]
     have J1:=J.setH (paired_drop 1 pr)
     have k1:KO z.own H (upd H z.h (.lst (ts.drop 1))):=ko1 oh
     have t1:Kt H (upd H z.h (.lst (ts.drop 1))):=kt_upd e0 (λ_ z=>by cases z) _
     generalize upd H z.h (.lst (ts.drop 1))=H1 at J1 k1 t1 ⊢
     obtain ⟨dx1,hx1⟩:=J1.ob
     have hv:valV (gK go) (.inl n)=some (.bl true):=by rw [gK_val,List.contains_eq_mem,decide_eq_true hng];rfl
     have ee:dropK (gK go) (Sum.inl n)=gK (go.erase n):=by
       rw [gK_drop,I.nd.erase_eq_filter]
       congr 1
       refine List.filter_congr λy _=>?_
       by_cases e:y=n
       · subst e;simp
       · simp [e]
     refine ⟨_,rfl,fld hx1 G.cl_Judge G.na_Judge_going jF_g ⟨z.g,rfl,.inl ⟨_,.inl J1.g⟩,_,rfl,_,.inl n,_,J1.g,rfl,hv,?_⟩⟩
     exact k _ _ _ _ _ (J1.setG ee) I2 (kot k1 (ko1 og)) λb vs e=>kt_upd J1.g (λ_ z=>by cases z) _ _ _ (t1 _ _ e)
theorem ok_fw (G:Gs K mg a d):FnOk P w K mg base CX0 3 a.first_wrong d.first_wrong ["story"] sp_fw:=by
 have c_Judge__init:FnOk P w K mg base CX0 1 _ _ _ _:=ok_jinit G
 have c_Judge_fits:FnOk P w K mg base CX0 1 _ _ _ _:=ok_fits G
 have c_Judge_go_on:FnOk P w K mg base CX0 1 _ _ _ _:=ok_goon G
 refine G.f_first_wrong.ok sc_first_wrong (λvs H Q E h=>?_) (λcdv A outer s H vs Q E hr h=>?_)
 · obtain ⟨l,hs,rfl,_⟩:=h
   rfl
 · obtain ⟨l,hs,rfl,S,hl,k⟩:=h
   have hu:=hu_of hr
   refine ⟨_,(@pss_cons _ _ _ _ _ (@ps_set _ _ 1 _ _ _ _ sc_first_wrong.nd rfl (Or.inl rfl) (pe_make0 G.k_Judge c_Judge__init (hr.mono (by decide)) (by rfl) G.m_Judge G.b_Judge__init .nil pass0) (by rfl) (by first | exact .inl rfl | exact .inr rfl | assumption))
     (@pss_cons _ _ _ _ _ (ps_for PassesOwn.never rfl (pi_enum (by rfl) G.n_enumerate (@pa_cons _ _ _ _ _ (pv 0) pa_nil (by rfl))) (pg_tup rfl (pgs_cons (pg_name (i:=2) sc_first_wrong.nd rfl (Or.inl rfl)) (pgs_cons (pg_name (i:=3) sc_first_wrong.nd rfl (Or.inl rfl)) pgs_nil))) (@pss_cons _ _ _ _ _ (ps_if (pt_not (pt_val (pe_meth (pv 1) G.cl_Judge G.mt_Judge_fits c_Judge_fits (hr.mono (by decide)) G.b_Judge_fits .nil pass0 (@pa_cons _ _ _ _ _ (@pe_ix _ _ _ _ _ _ _ ix_tup (pv 3) pe_int (λ_ _=>rfl)) (@pa_cons _ _ _ _ _ (@pe_ix _ _ _ _ _ _ _ ix_tup (pv 3) pe_int (λ_ _=>rfl)) (@pa_cons _ _ _ _ _ (@pe_ix _ _ _ _ _ _ _ ix_tup (pv 3) pe_int (λ_ _=>rfl)) pa_nil (by rfl)) (by rfl)) (by rfl))))) (@pss_one _ _ _ (@ps_ret _ _ _ _ (pv 2))) pss_nil)
     (@pss_one _ _ _ (@ps_expr _ _ _ _ (pe_meth (pv 1) G.cl_Judge G.mt_Judge_go_on c_Judge_go_on (hr.mono (by decide)) G.b_Judge_go_on .nil pass0 (@pa_cons _ _ _ _ _ (@pe_ix _ _ _ _ _ _ _ ix_tup (pv 3) pe_int (λ_ _=>rfl)) (@pa_cons _ _ _ _ _ (@pe_ix _ _ _ _ _ _ _ ix_tup (pv 3) pe_int (λ_ _=>rfl)) (@pa_cons _ _ _ _ _ (@pe_ix _ _ _ _ _ _ _ ix_tup (pv 3) pe_int (λ_ _=>rfl)) pa_nil (by rfl)) (by rfl)) (by rfl))) (by rfl)))))
     (@pss_one _ _ _ (@ps_ret _ _ _ _ pe_non)))),?_⟩
   intro j dx nj ndx nex
   refine ⟨j,dx,rfl,upd_same,λz H1 hz g1 g2 g3 g4 J1 kp1=>⟨rfl,?_⟩⟩
   have e1:Same H H1:=new_hand nj ndx kp1
   have fz:∀ c,z.own c->H c=none:=λc hc=>by
     rcases hc with y | y | y | y | y
     · rw [y,hz];exact nj
     · rw [y];exact (up1 (up1 g1).2).2
     · rw [y];exact (up1 (up1 g2).2).2
     · rw [y];exact (up1 (up1 g3).2).2
     · rw [y];exact (up1 (up1 g4).2).2
   subst hz
   clear kp1 g1 g2 g3 g4 nj ndx nex
   obtain ⟨ts,e0,pr⟩:=S
   have lt:=pairedLen pr
   refine ⟨_,rfl,l,ts,rfl,SqL.of (e1 _ _ e0),?_⟩
   refine for_enum (K:=K) (a:=l) (xs:=ts) (λi σ H'=>∃ un uh go do',(∃ v2 v3,σ=[some (.ref l),some (.ref z.j),v2,v3])/\Jn a.Judge H' z un uh go do'/\JI (hs.take i) un uh go do'/\Same H H'/\firstF (hs.take i) (hs.drop i)=firstL hs)
     ⟨[],[],[],[],⟨_,_,rfl⟩,J1,JI.zero,e1,rfl⟩ (λ_ _ _ _ ⟨_,_,_,_,_,_,_,y,_⟩=>SqL.of (y _ _ e0)) ?_ ?_
   · rintro i y T σ H2 hi hT ⟨un,uh,go,do',⟨v2,v3,rfl⟩,J,I,e2,hf⟩
     obtain ⟨h,c,hh,rfl,vc⟩:=hv_at pr hi
     have hil:i < hs.length:=(List.getElem?_eq_some_iff.mp hh).1
     have e3:=same_new (o:=.tup [V.int (i:Int),V.ref c]) hT
     have vT:upd H2 T (.tup [V.int (i:Int),V.ref c]) T=some (.tup [V.int (i:Int),V.ref c]):=upd_same
     have J3:=J.same e3
     have E3:=e2.trans e3
     generalize upd H2 T (.tup [V.int (i:Int),V.ref c])=H3 at J3 E3 vT ⊢
     have v3:=E3 _ _ vc
     refine ⟨T,_,rfl,SqT.of vT,rfl,_,_,rfl,_,_,rfl,rfl,?_⟩
     obtain ⟨l1,l2',l3',l4⟩:=I.lens
     have lti:(hs.take i).length < 900:=by rw [List.length_take];omega
     refine ⟨_,rfl,mthE J3.ob jF_fits ⟨_,rfl,c,_,_,_,rfl,rfl,SqT.of v3,rfl,_,rfl,c,_,_,_,rfl,rfl,SqT.of v3,rfl,_,rfl,c,_,_,_,rfl,rfl,SqT.of v3,rfl,z,un,uh,go,do',h,rfl,J3,by omega,by omega,λH4 e4=>⟨_,rfl,?_⟩⟩⟩
     rw [I.fits]
     rw [first_at hh] at hf
     have J4:=J3.same e4
     have E4:=E3.trans e4
     have v4:=e4 _ _ v3
     cases hb:fitsL (hs.take i) h with
     | false =>
       rw [hb] at hf
       have q:=k H4 E4
       rw [← hf] at q
       exact iteT ⟨_,rfl,q⟩
     | true =>
       rw [hb,if_pos rfl] at hf
       have et:hs.take (i+1)=hs.take i++[h]:=by rw [List.take_succ,hh];rfl
       refine iteF ⟨_,rfl,mthE J4.ob jF_on ⟨_,rfl,c,_,_,_,rfl,rfl,SqT.of v4,rfl,_,rfl,c,_,_,_,rfl,rfl,SqT.of v4,rfl,_,rfl,c,_,_,_,rfl,rfl,SqT.of v4,rfl,z,hs.take i,un,uh,go,do',h,rfl,J4,I,hb,by omega,λH5 un5 uh5 go5 do5 J5 I5 ko5 t5=>?_⟩⟩
       refine ⟨un5,uh5,go5,do5,⟨_,_,rfl⟩,J5,by rw [et];exact I5,λb o e=>?_,hf⟩
       exact ko5 b o (λy=>by rw [fz b y] at e;cases e) (E4 b o e)
   · rintro σ H2 ⟨un,uh,go,do',⟨v2,v3,rfl⟩,J,I,e2,hf⟩
     rw [List.drop_of_length_le (by omega)] at hf
     have q:=k H2 e2
     rw [← hf] at q
     exact q
end

def sp_things:Sp:=λvs H Q _=>∃ (l:Addr) (hs:List Hap) (wd:Wd),vs=[.ref l,.str wd.key]/\SV H l hs/\hs.length < 900/\∀ D H',H D=none->Same H H'->TL H' D (th wd hs)->Q (.ref D) H'
def sp_manyX:Sp:=λvs H Q _=>∃ (l:Addr) (hs:List Hap) (wd:Wd) (x:Int),vs=[.ref l,.str wd.key,.int x]/\SV H l hs/\hs.length < 900/\∀ H',Same H H'->Q (.int (cnt wd x hs:Nat)) H'
def sp_lfitsX:Sp:=λvs H Q _=>∃ (l c:Addr) (hs:List Hap) (h:Hap),vs=[.ref l,.ref c]/\SV H l hs/\H c=some (.tup [.str h.w.key,.int h.n,.int h.o])/\hs.length < 900/\∀ H',Same H H'->Q (.bl (fitsL hs h)) H'
def sp_lfirstX:Sp:=λvs H Q _=>∃ (l:Addr) (hs:List Hap),vs=[.ref l]/\SV H l hs/\hs.length < 900/\∀ H',Same H H'->Q (vO (firstL hs)) H'
def sp_ltoldX:Sp:=λvs H Q _=>∃ (l:Addr) (hs:List Hap),vs=[.ref l]/\SV H l hs/\hs.length < 900/\∀ H',Same H H'->Q (.bl true) H'
theorem th_len (w:Wd) (hs:List Hap):(th w hs).length <= hs.length:=by unfold th;rw [List.length_map];exact List.length_filter_le _ _
section
variable {P:Program} {w:World} {K:PySem.W.Frag} {mg:Str->Option Value} {base:Heap} {a:Ad} {d:Fd}
theorem ok_things (G:Gs K mg a d):FnOk P w K mg base CX0 1 a.law_things d.law_things ["story","word"] sp_things:=by
 refine G.f_law_things.ok sc_law_things (λvs H Q E h=>?_) (λcdv A outer s H vs Q E hr h=>?_)
 · obtain ⟨l,hs,wd,rfl,_⟩:=h
   rfl
 · obtain ⟨l,hs,wd,rfl,⟨ts,e0,pr⟩,hl,k⟩:=h
   have hu:=hu_of hr
   refine ⟨_,(@pss_one _ _ _ (@ps_ret _ _ _ _ (by exact pe_comp3 (x:="what") (x2:="name") (x3:="worth") (g:=gTup K 3 (gCons (gName 0) (gCons (gName 1) (gCons (gName 2) gNil)))) (caps:=["word"]) (js:=[1]) rfl (compOk rfl rfl (by decide +kernel) (by decide +kernel) rfl ⟨rfl,trivial⟩ rfl rfl) (compOk rfl rfl (by decide +kernel) (by decide +kernel) rfl ⟨rfl,trivial⟩ rfl rfl) (compOk rfl rfl (by decide +kernel) (by decide +kernel) rfl ⟨rfl,trivial⟩ rfl rfl) (λC s₃ H₃ pins ex E'=>by exact pg_three rfl (show (["what","name","worth","word"]:List Str).Nodup from by decide +kernel) rfl rfl rfl (.inl (lookup_relabel_local rfl)) (.inl (lookup_relabel_local rfl)) (.inl (lookup_relabel_local rfl)) rfl rfl rfl) (λy hy=>by simp only [List.mem_cons,List.not_mem_nil,or_false] at hy;rcases hy with rfl<;>exact ⟨_,rfl⟩) (.cons ⟨rfl,.inl rfl⟩ .nil) (λy hy=>by simp only [List.mem_cons,List.not_mem_nil,or_false] at hy;rcases hy with rfl<;>exact Or.inl rfl) (pi_list (pv 0)) (λC s₃ H₃ pins ex E'=>by exact pts_one (pt_cmpR op_eq (pv 0) (pv 3) (nomark _))) (λC s₃ H₃ pins ex E'=>by exact (@pe_tup _ _ _ _ _ (@pa_cons _ _ _ _ _ (pv 1) (@pa_cons _ _ _ _ _ (pv 2) pa_nil (by rfl)) (by rfl))))))),?_⟩
   have lt:=pairedLen pr
   refine ⟨_,rfl,l,rfl,⟨_,SqL.of e0⟩,λD hD=>?_⟩
   have nD:l≠D:=ne_of_none e0 hD
   refine ⟨λi mm ys H2=>i <= ts.length/\mm=ts.length - i/\H2 D=some (.lst ys)/\Paired (PV H2) (th wd (hs.take i)) ys/\Same H H2,⟨_,Nat.zero_le _,rfl,upd_same,.nil,same_new hD⟩,?_⟩
   rintro i mm ys H2 ⟨hi,rfl,hy,py,s2⟩
   have hyl:ys.length <= 900:=by
     rw [← pairedLen py]
     refine Nat.le_trans (th_len _ _) ?_
     rw [List.length_take];omega
   refine ⟨hy,Nat.lt_of_le_of_lt hyl (by decide),?_⟩
   by_cases z:i=ts.length
   · refine .inl ⟨⟨ts,SqL.of (s2 _ _ e0),by omega⟩,?_⟩
     rw [z,List.take_of_length_le (by omega)] at py
     exact k D H2 hD s2 ⟨ys,hy,py⟩
   · have hlt:i < ts.length:=by omega
     refine .inr ⟨⟨ts,_,SqL.of (s2 _ _ e0),List.getElem?_eq_getElem hlt⟩,?_⟩
     rintro y H3 ⟨rfl,hy'⟩ v0 v1 v2
     obtain ⟨h,c,hh,rfl,vc⟩:=hv_at pr (hy' ts (SqL.of (s2 _ _ e0)))
     have et:hs.take (i+1)=hs.take i++[h]:=by rw [List.take_succ,hh];rfl
     refine ⟨c,_,rfl,SqT.of (s2 _ _ vc),rfl,_,_,rfl,_,_,rfl,_,_,rfl,rfl,_,_,_,rfl,?_⟩
     refine ⟨_,rfl,_,rfl,rfl,_,rfl,?_⟩
     by_cases hw:h.w=wd
     · refine iteDT (by rw [hw]) ⟨_,rfl,_,rfl,l2,λt ht=>?_⟩
       have s3:=same_new (o:=.tup [V.int h.n,V.int h.o]) ht
       refine ⟨s3 _ _ hy,ts.length - (i+1),by omega,hlt,rfl,upd_same,?_,?_⟩
       · have kt:Kt H3 (upd (upd H3 t (.tup [V.int h.n,V.int h.o])) D (.lst (ys++[.ref t]))):=λb vs e=>kt_upd (s3 _ _ hy) (λ_ z=>by cases z) _ _ _ (s3 _ _ e)
         rw [et,th_snoc,if_pos hw]
         exact Paired.snoc (Paired.mapP py λ_ _ q=>q.keep kt) ⟨t,rfl,by rw [upd_ne (ne_of_none hy ht).symm];exact upd_same⟩
       · intro b o e
         rw [upd_ne (ne_of_none e hD)]
         exact s3 _ _ (s2 _ _ e)
     · refine iteDF (sne λy=>hw (wd_inj y)) ⟨ts.length - (i+1),by omega,hlt,rfl,hy,?_,s2⟩
       rw [et,th_snoc,if_neg hw];exact py
end
def sp_cellat (K:PySem.W.Frag):Sp:=λvs H Q _=>∃ (l:Addr) (ns:List Int) (k:Nat),vs=[.ref l,.int (k:Int)]/\SqL K H l (ns.map V.int)/\∀ i:Int,Q (.int i) H
def sp_codes (K:PySem.W.Frag):Sp:=λvs H Q _=>∃ (l:Addr) (ns:List Int) (m:Nat),vs=[.ref l,.int (m:Int)]/\SqL K H l (ns.map V.int)/\ns.length <= 63/\∀ (D:Addr) (H':Hp) (cs:List Int),Same H H'->H' D=some (.lst (cs.map V.int))->cs.length <= m->(∀ c∈cs,0 <= c)->Q (.ref D) H'
section
variable {P:Program} {w:World} {K:PySem.W.Frag} {mg:Str->Option Value} {base:Heap} {a:Ad} {d:Fd}
theorem ok_cellat (G:Gs K mg a d):FnOk P w K mg base CX0 1 a.law_cell_at d.law_cell_at ["script","k"] (sp_cellat K):=by
 refine G.f_law_cell_at.ok sc_law_cell_at (λvs H Q E h=>?_) (λcdv A outer s H vs Q E hr h=>?_)
 · obtain ⟨l,ns,m,rfl,_⟩:=h
   rfl
 · obtain ⟨l,ns,m,rfl,hS,k⟩:=h
   have hu:=hu_of hr
   refine ⟨_,(@pss_cons _ _ _ _ _ (ps_if (pt_cmpR op_lt (pv 1) (pe_callB call_len_seq (by rfl) G.n_len bt_len (@pa_cons _ _ _ _ _ (pv 0) pa_nil (by rfl))) (nomark _)) (@pss_one _ _ _ (@ps_ret _ _ _ _ (@pe_ix _ _ _ _ _ _ _ ix_list (pv 0) (pv 1) (λ_ _=>rfl)))) pss_nil)
     (@pss_one _ _ _ (@ps_ret _ _ _ _ pe_int))),?_⟩
   refine ⟨_,rfl,_,rfl,l,_,rfl,.inl hS,_,_,rfl,rfl,_,rfl,?_⟩
   by_cases hc:(m:Int) < ((ns.map V.int).length:Nat)
   · have hm:m < (ns.map V.int).length:=by omega
     have hm':m < ns.length:=by rw [List.length_map] at hm;exact hm
     refine iteDT hc ⟨_,rfl,_,rfl,l,_,_,_,rfl,rfl,hS,atI_nat (List.getElem?_eq_getElem hm),?_⟩
     rw [List.getElem_map]
     exact k _
   · exact iteDF hc (k 0)
theorem ok_codes (G:Gs K mg a d):FnOk P w K mg base CX0 1 a.law_codes d.law_codes ["cells","most"] (sp_codes K):=by
 refine G.f_law_codes.ok sc_law_codes (λvs H Q E h=>?_) (λcdv A outer s H vs Q E hr h=>?_)
 · obtain ⟨l,ns,m,rfl,_⟩:=h
   rfl
 · obtain ⟨l,ns,m,rfl,hS,hlen,k⟩:=h
   have hu:=hu_of hr
   refine ⟨_,(@pss_cons _ _ _ _ _ (@ps_set _ _ 2 _ _ _ _ sc_law_codes.nd rfl (Or.inl rfl) (@pe_lst _ _ _ _ pa_nil) (by rfl) (by first | exact .inl rfl | exact .inr rfl | assumption))
     (@pss_cons _ _ _ _ _ (ps_for PassesOwn.never rfl (pi_list (pv 0)) (pg_name (i:=3) sc_law_codes.nd rfl (Or.inl rfl)) (@pss_cons _ _ _ _ _ (@ps_set _ _ 4 _ _ _ _ sc_law_codes.nd rfl (Or.inl rfl) (@pe_op _ _ _ _ _ _ _ _ op_mod (pv 3) (@pe_op _ _ _ _ _ _ _ _ op_pow pe_int pe_int)) (by rfl) (by first | exact .inl rfl | exact .inr rfl | assumption))
     (@pss_cons _ _ _ _ _ (@ps_expr _ _ _ _ (@pe_bm _ _ _ _ _ _ _ _ _ _ _ _ PySem.F.plainAttrs_list PySem.F.slot_list_append PySem.F.type_list_append mt_append (pv 2) (@pa_cons _ _ _ _ _ (@pe_op _ _ _ _ _ _ _ _ op_mod (pv 4) (@pe_op _ _ _ _ _ _ _ _ op_pow pe_int pe_int)) pa_nil (by rfl)) (by rfl) (by rfl) (by rfl) (by rfl) (by rfl)) (by rfl))
     (@pss_cons _ _ _ _ _ (@ps_set _ _ 4 _ _ _ _ sc_law_codes.nd rfl (Or.inl rfl) (@pe_op _ _ _ _ _ _ _ _ op_fdivB (pv 4) (@pe_op _ _ _ _ _ _ _ _ op_pow pe_int pe_int)) (by rfl) (by first | exact .inl rfl | exact .inr rfl | assumption))
     (@pss_one _ _ _ (ps_while PassesOwn.never (pt_cmpR op_gt (pv 4) pe_int (nomark _)) (@pss_cons _ _ _ _ _ (@ps_expr _ _ _ _ (@pe_bm _ _ _ _ _ _ _ _ _ _ _ _ PySem.F.plainAttrs_list PySem.F.slot_list_append PySem.F.type_list_append mt_append (pv 2) (@pa_cons _ _ _ _ _ (@pe_op _ _ _ _ _ _ _ _ op_mod (pv 4) (@pe_op _ _ _ _ _ _ _ _ op_pow pe_int pe_int)) pa_nil (by rfl)) (by rfl) (by rfl) (by rfl) (by rfl) (by rfl)) (by rfl))
     (@pss_one _ _ _ (@ps_set _ _ 4 _ _ _ _ sc_law_codes.nd rfl (Or.inl rfl) (@pe_op _ _ _ _ _ _ _ _ op_fdivB (pv 4) (@pe_op _ _ _ _ _ _ _ _ op_pow pe_int pe_int)) (by rfl) (by first | exact .inl rfl | exact .inr rfl | assumption))))))))))
     (@pss_one _ _ _ (@ps_ret _ _ _ _ (pe_slice sl_list (pv 2) po_none (po_some (pv 1))))))),?_⟩
   refine ⟨len0v,λD hD=>⟨_,rfl,l,rfl,⟨_,(same_new hD).seq hS⟩,?_⟩⟩
   have s0':∀ cs:List Int,Same H (upd H D (.lst (cs.map V.int))):=λcs=>same_new hD
   refine for_list (K:=K) (a:=l) (xs:=ns.map V.int) (λi σ H'=>∃ cs:List Int,(∃ v3 v4,σ=[some (.ref l),some (.int (m:Int)),some (.ref D),v3,v4])/\H'=upd H D (.lst (cs.map V.int))/\cs.length <= 20 * i/\∀ c∈cs,0 <= c)
     ⟨[],⟨_,_,rfl⟩,rfl,Nat.zero_le _,λc hc=>by cases hc⟩ (λ_ _ _ _ ⟨_,_,y,_⟩=>by rw [y];exact (same_new hD).seq hS) ?_ ?_
   · rintro i y σ H2 hi ⟨cs,⟨v3,v4,rfl⟩,rfl,hcl,hc0⟩
     rw [List.getElem?_map] at hi
     obtain ⟨c,hc,rfl⟩:=Option.map_eq_some_iff.mp hi
     have hil:i < ns.length:=(List.getElem?_eq_some_iff.mp hc).1
     have p60:(0:Int) < 10 ^ (60:Int).toNat:=by decide
     have p6:(0:Int) < 10 ^ (6:Int).toNat:=by decide
     have p6':(10:Int) ^ (6:Int).toNat < 2 ^ 40:=by decide
     have e6:(10:Int) ^ (6:Int).toNat=1000000:=by decide
     have r0:=Int.emod_nonneg c (show (10:Int) ^ (60:Int).toNat≠0 by decide)
     have r1:=Int.emod_lt_of_pos c p60
     have r2:c % 10 ^ (60:Int).toNat < 1000000 ^ 10:=Int.lt_of_lt_of_le r1 (by decide)
     have app:∀ {cs:List Int} {x:Int},(cs.map V.int++[V.int x])=(cs++[x]).map V.int:=λ{cs x}=>by rw [List.map_append];rfl
     have nonn:∀ {cs:List Int} {x:Int},(∀ c∈cs,0 <= c)->0 <= x->∀ c∈cs++[x],0 <= c:=λ{cs x} h1 h2 c hc=>by
       rcases List.mem_append.mp hc with y | y
       · exact h1 c y
       · rw [List.mem_singleton.mp y];exact h2
     refine ⟨_,rfl,_,_,rfl,rfl,⟨by decide,by decide,by decide⟩,_,_,rfl,rfl,p60,?_⟩
     have q0:=Int.emod_nonneg (c % 10 ^ (60:Int).toNat) (show (10:Int) ^ (6:Int).toNat≠0 by decide)
     refine ⟨_,rfl,.inl ⟨rfl,_,SqL.of upd_same⟩,_,rfl,_,_,rfl,rfl,⟨by decide,by decide,by decide⟩,_,_,rfl,rfl,p6,D,_,_,rfl,rfl,upd_same,Nat.lt_of_lt_of_le (show _ < 10000 by rw [List.length_map];omega) (by decide),?_⟩
     rw [upd_upd,app]
     refine ⟨_,rfl,_,_,rfl,rfl,⟨by decide,by decide,by decide⟩,_,_,rfl,rfl,⟨p6,p6'⟩,?_⟩
     refine ⟨λt σ' H'=>∃ (cs':List Int) (x:Int),σ'=[some (.ref l),some (.int (m:Int)),some (.ref D),some (.int c),some (.int x)]/\H'=upd H D (.lst (cs'.map V.int))/\0 <= x/\x < 1000000 ^ t/\cs'.length+t <= 20 * i+11/\∀ c∈cs',0 <= c,⟨9,cs++[c % 10 ^ (60:Int).toNat % 10 ^ (6:Int).toNat],c % 10 ^ (60:Int).toNat / 10 ^ (6:Int).toNat,rfl,rfl,?_,?_,?_,nonn hc0 q0⟩,?_⟩
     · exact Int.ediv_nonneg r0 (by decide)
     · rw [e6]
       refine Int.ediv_lt_of_lt_mul (by decide) ?_
       exact Int.lt_of_lt_of_le r2 (by decide)
     · rw [List.length_append];show _+1+9 <= _;omega
     rintro t σ' H' ⟨cs',x,rfl,rfl,x0,x1,hcl',hc0'⟩
     refine ⟨_,rfl,_,_,rfl,rfl,_,rfl,?_⟩
     by_cases hx:0 < x
     · refine iteDT hx ?_
       cases t with
       | zero=>exact absurd x1 (by show ¬ x < 1;omega)
       | succ t =>
         have q1:=Int.emod_nonneg x (show (10:Int) ^ (6:Int).toNat≠0 by decide)
         refine ⟨λσ' H'=>∃ (cs':List Int) (x:Int),σ'=[some (.ref l),some (.int (m:Int)),some (.ref D),some (.int c),some (.int x)]/\H'=upd H D (.lst (cs'.map V.int))/\0 <= x/\x < 1000000 ^ t/\cs'.length+t <= 20 * i+11/\∀ c∈cs',0 <= c,λσ' H' h=>⟨t,Nat.lt_succ_self _,h⟩,?_⟩
         refine ⟨_,rfl,.inl ⟨rfl,_,SqL.of upd_same⟩,_,rfl,_,_,rfl,rfl,⟨by decide,by decide,by decide⟩,_,_,rfl,rfl,p6,D,_,_,rfl,rfl,upd_same,Nat.lt_of_lt_of_le (show _ < 10000 by rw [List.length_map];omega) (by decide),?_⟩
         rw [upd_upd,app]
         refine ⟨_,rfl,_,_,rfl,rfl,⟨by decide,by decide,by decide⟩,_,_,rfl,rfl,⟨p6,p6'⟩,?_⟩
         refine ⟨cs'++[x % 10 ^ (6:Int).toNat],x / 10 ^ (6:Int).toNat,rfl,rfl,Int.ediv_nonneg x0 (by decide),?_,?_,nonn hc0' q1⟩
         · rw [e6]
           refine Int.ediv_lt_of_lt_mul (by decide) ?_
           rw [Int.pow_succ] at x1
           exact x1
         · rw [List.length_append];show _+1+t <= _;omega
     · exact iteDF hx ⟨cs',⟨_,_,rfl⟩,rfl,by omega,hc0'⟩
   · rintro σ H2 ⟨cs,⟨v3,v4,rfl⟩,rfl,hcl,hc0⟩
     refine ⟨_,rfl,_,rfl,_,rfl,D,_,rfl,SqL.of upd_same,λq hq=>?_⟩
     have s1:=same_new (o:=.lst (cutV (cs.map V.int) none (some (m:Int)))) hq
     have e:cutV (cs.map V.int) none (some (m:Int))=(cs.take m).map V.int:=by rw [cutV_to,List.map_take]
     exact k q _ (cs.take m) (s0' cs |>.trans s1) (by rw [upd_same,e]) (by rw [List.length_take];omega) λc hc=>hc0 c (List.mem_of_mem_take hc)
end

def sp_grown:Sp:=λvs H Q _=>∃ (l:Addr) (cs:List Int),vs=[.ref l]/\H l=some (.lst (cs.map V.int))/\cs.length <= 100/\(∀ c∈cs,0 <= c)/\∀ (D:Addr) (H':Hp) (hs:List Hap),Same H H'->SV H' D hs->hs.length <= 4 * cs.length->firstL hs=none->(∃ un uh go do',JI hs un uh go do')->(∀ h∈hs,N9 h.n)->Q (.ref D) H'
section
variable {P:Program} {w:World} {K:PySem.W.Frag} {mg:Str->Option Value} {base:Heap} {a:Ad} {d:Fd}
theorem ok_grown (G:Gs K mg a d):FnOk P w K mg base CX0 1 a.law_grown d.law_grown ["codes"] sp_grown:=by
 refine G.f_law_grown.ok sc_law_grown (λvs H Q E h=>?_) (λcdv A outer s H vs Q E hr h=>?_)
 · obtain ⟨l,cs,rfl,_⟩:=h
   rfl
 · obtain ⟨l,cs,rfl,hS,hlen,hc0,k⟩:=h
   have hu:=hu_of hr
   refine ⟨_,(@pss_cons _ _ _ _ _ (@ps_set _ _ 1 _ _ _ _ sc_law_grown.nd rfl (Or.inl rfl) (@pe_lst _ _ _ _ pa_nil) (by rfl) (by first | exact .inl rfl | exact .inr rfl | assumption))
     (@pss_cons _ _ _ _ _ (@ps_set _ _ 2 _ _ _ _ sc_law_grown.nd rfl (Or.inl rfl) (@pe_lst _ _ _ _ pa_nil) (by rfl) (by first | exact .inl rfl | exact .inr rfl | assumption))
     (@pss_cons _ _ _ _ _ (@ps_set _ _ 3 _ _ _ _ sc_law_grown.nd rfl (Or.inl rfl) (@pe_lst _ _ _ _ pa_nil) (by rfl) (by first | exact .inl rfl | exact .inr rfl | assumption))
     (@pss_cons _ _ _ _ _ (@ps_set _ _ 4 _ _ _ _ sc_law_grown.nd rfl (Or.inl rfl) (@pe_lst _ _ _ _ pa_nil) (by rfl) (by first | exact .inl rfl | exact .inr rfl | assumption))
     (@pss_cons _ _ _ _ _ (@ps_set _ _ 5 _ _ _ _ sc_law_grown.nd rfl (Or.inr rfl) (@pe_lst _ _ _ _ pa_nil) (by rfl) (by first | exact .inl rfl | exact .inr rfl | assumption))
     (@pss_cons _ _ _ _ _ (ps_for PassesOwn.never rfl (pi_list (pv 0)) (pg_name (i:=6) sc_law_grown.nd rfl (Or.inl rfl)) (@pss_cons _ _ _ _ _ (by exact ps_compset (iN:=7) (tc:=tTest (tOp (rIn K true) (tVar 0) (tVar 1))) (te:=tVar 0) (caps:=["away"]) (js:=[5]) sc_law_grown.nd rfl (Or.inl rfl) (by rfl) rfl (compOk rfl rfl (by decide +kernel) (by decide +kernel) rfl ⟨rfl,trivial⟩ rfl rfl) (by decide +kernel) (λy hy=>by simp only [List.mem_cons,List.not_mem_nil,or_false] at hy;rcases hy with rfl<;>exact ⟨_,rfl⟩) (.cons ⟨rfl,.inl rfl⟩ .nil) (λy hy=>by simp only [List.mem_cons,List.not_mem_nil,or_false] at hy;rcases hy with rfl<;>exact Or.inl rfl) (pi_range1 (by rfl) G.n_range (@pa_cons _ _ _ _ _ pe_int pa_nil (by rfl))) (λC s₃ H₃ pins ex E'=>by exact pts_one (pt_cmpR op_notIn_seq (pv 0) (pv 1) (by with_unfolding_all rfl))) (λC s₃ H₃ pins ex E'=>by exact (pv 0)))
     (@pss_cons _ _ _ _ _ (@ps_set _ _ 8 _ _ _ _ sc_law_grown.nd rfl (Or.inl rfl) (@pe_op _ _ _ _ _ _ _ _ op_sub (@pe_op _ _ _ _ _ _ _ _ op_mod (@pe_op _ _ _ _ _ _ _ _ op_fdivB (pv 6) pe_int) pe_int) pe_int) (by rfl) (by first | exact .inl rfl | exact .inr rfl | assumption))
     (@pss_cut _ _ _ _ _ (ps_if (pt_cmpR op_eq (@pe_op _ _ _ _ _ _ _ _ op_mod (@pe_op _ _ _ _ _ _ _ _ op_fdivB (pv 6) pe_int) pe_int) pe_int (nomark _)) (@pss_one _ _ _ (@ps_set _ _ 8 _ _ _ _ sc_law_grown.nd rfl (Or.inl rfl) (@pe_op _ _ _ _ _ _ _ _ op_sub (@pe_op _ _ _ _ _ _ _ _ op_mod (@pe_op _ _ _ _ _ _ _ _ op_mul (pv 6) pe_int) (@pe_op _ _ _ _ _ _ _ _ op_add (@pe_op _ _ _ _ _ _ _ _ op_mul pe_int (@pe_op _ _ _ _ _ _ _ _ op_pow pe_int pe_int)) pe_int)) (@pe_op _ _ _ _ _ _ _ _ op_pow pe_int pe_int)) (by rfl) (by first | exact .inl rfl | exact .inr rfl | assumption))) pss_nil)
     (@pss_cut _ _ _ _ _ (ps_if ((pw_and (pt_cmpR op_eq (@pe_op _ _ _ _ _ _ _ _ op_mod (pv 6) pe_int) pe_int (nomark _)) (pw_and1 (pt_cmpR (op_neNil hr.units) (pv 7) (@pe_lst _ _ _ _ pa_nil) (nomark _))))).pt (@pss_cons _ _ _ _ _ (@ps_set _ _ 9 _ _ _ _ sc_law_grown.nd rfl (Or.inl rfl) (@pe_ix _ _ _ _ _ _ _ ix_list (pv 7) (@pe_op _ _ _ _ _ _ _ _ op_mod (@pe_op _ _ _ _ _ _ _ _ op_fdivB (pv 6) pe_int) (pe_callB call_len_seq (by rfl) G.n_len bt_len (@pa_cons _ _ _ _ _ (pv 7) pa_nil (by rfl)))) (λ_ _=>rfl)) (by rfl) (by first | exact .inl rfl | exact .inr rfl | assumption))
     (@pss_cons _ _ _ _ _ (@ps_expr _ _ _ _ (@pe_bm _ _ _ _ _ _ _ _ _ _ _ _ PySem.F.plainAttrs_list PySem.F.slot_list_append PySem.F.type_list_append mt_append (pv 5) (@pa_cons _ _ _ _ _ (pv 9) pa_nil (by rfl)) (by rfl) (by rfl) (by rfl) (by rfl) (by rfl)) (by rfl))
     (@pss_cons _ _ _ _ _ (@ps_expr _ _ _ _ (@pe_bm _ _ _ _ _ _ _ _ _ _ _ _ PySem.F.plainAttrs_list PySem.F.slot_list_append PySem.F.type_list_append mt_append (pv 2) (@pa_cons _ _ _ _ _ (@pe_tup _ _ _ _ _ (@pa_cons _ _ _ _ _ (pv 9) (@pa_cons _ _ _ _ _ (pv 8) pa_nil (by rfl)) (by rfl))) pa_nil (by rfl)) (by rfl) (by rfl) (by rfl) (by rfl) (by rfl)) (by rfl))
     (@pss_one _ _ _ (@ps_expr _ _ _ _ (@pe_bm _ _ _ _ _ _ _ _ _ _ _ _ PySem.F.plainAttrs_list PySem.F.slot_list_append PySem.F.type_list_append mt_append (pv 1) (@pa_cons _ _ _ _ _ (@pe_tup _ _ _ _ _ (@pa_cons _ _ _ _ _ pe_str (@pa_cons _ _ _ _ _ (pv 9) (@pa_cons _ _ _ _ _ (pv 8) pa_nil (by rfl)) (by rfl)) (by rfl))) pa_nil (by rfl)) (by rfl) (by rfl) (by rfl) (by rfl) (by rfl)) (by rfl)))))) pss_nil)
     (@pss_cut _ _ _ _ _ (ps_if ((pw_and (pt_cmpR op_eq (@pe_op _ _ _ _ _ _ _ _ op_mod (pv 6) pe_int) pe_int (nomark _)) (pw_and1 (pt_cmpR (op_neNil hr.units) (pv 2) (@pe_lst _ _ _ _ pa_nil) (nomark _))))).pt (@pss_cons _ _ _ _ _ (@ps_expr _ _ _ _ (@pe_bm _ _ _ _ _ _ _ _ _ _ _ _ PySem.F.plainAttrs_list PySem.F.slot_list_append PySem.F.type_list_append mt_append (pv 3) (@pa_cons _ _ _ _ _ (@pe_ix _ _ _ _ _ _ _ ix_tup (@pe_ix _ _ _ _ _ _ _ ix_list (pv 2) pe_int (λ_ _=>rfl)) pe_int (λ_ _=>rfl)) pa_nil (by rfl)) (by rfl) (by rfl) (by rfl) (by rfl) (by rfl)) (by rfl))
     (@pss_one _ _ _ (@ps_expr _ _ _ _ (@pe_bm _ _ _ _ _ _ _ _ _ _ _ _ PySem.F.plainAttrs_list PySem.F.slot_list_append PySem.F.type_list_append mt_append (pv 1) (@pa_cons _ _ _ _ _ (@pe_op _ _ _ _ _ _ _ _ op_catT (@pe_tup _ _ _ _ _ (@pa_cons _ _ _ _ _ pe_str pa_nil (by rfl))) (@pe_bm _ _ _ _ _ _ _ _ _ _ _ _ PySem.F.plainAttrs_list PySem.F.slot_list_pop PySem.F.type_list_pop mt_popAt (pv 2) (@pa_cons _ _ _ _ _ pe_int pa_nil (by rfl)) (by rfl) (by rfl) (by rfl) (by rfl) (by rfl))) pa_nil (by rfl)) (by rfl) (by rfl) (by rfl) (by rfl) (by rfl)) (by rfl)))) pss_nil)
     (@pss_cut _ _ _ _ _ (ps_if ((pw_and (pt_cmpR op_eq (@pe_op _ _ _ _ _ _ _ _ op_mod (pv 6) pe_int) pe_int (nomark _)) (pw_and1 (pt_cmpR (op_neNil hr.units) (pv 3) (@pe_lst _ _ _ _ pa_nil) (nomark _))))).pt (@pss_cons _ _ _ _ _ (@ps_set _ _ 9 _ _ _ _ sc_law_grown.nd rfl (Or.inl rfl) (@pe_bm _ _ _ _ _ _ _ _ _ _ _ _ PySem.F.plainAttrs_list PySem.F.slot_list_pop PySem.F.type_list_pop mt_popAt (pv 3) (@pa_cons _ _ _ _ _ (@pe_op _ _ _ _ _ _ _ _ op_mod (@pe_op _ _ _ _ _ _ _ _ op_fdivB (pv 6) pe_int) (pe_callB call_len_seq (by rfl) G.n_len bt_len (@pa_cons _ _ _ _ _ (pv 3) pa_nil (by rfl)))) pa_nil (by rfl)) (by rfl) (by rfl) (by rfl) (by rfl) (by rfl)) (by rfl) (by first | exact .inl rfl | exact .inr rfl | assumption))
     (@pss_cons _ _ _ _ _ (@ps_expr _ _ _ _ (@pe_bm _ _ _ _ _ _ _ _ _ _ _ _ PySem.F.plainAttrs_list PySem.F.slot_list_append PySem.F.type_list_append mt_append (pv 4) (@pa_cons _ _ _ _ _ (@pe_tup _ _ _ _ _ (@pa_cons _ _ _ _ _ (pv 9) (@pa_cons _ _ _ _ _ (pv 8) pa_nil (by rfl)) (by rfl))) pa_nil (by rfl)) (by rfl) (by rfl) (by rfl) (by rfl) (by rfl)) (by rfl))
     (@pss_one _ _ _ (@ps_expr _ _ _ _ (@pe_bm _ _ _ _ _ _ _ _ _ _ _ _ PySem.F.plainAttrs_list PySem.F.slot_list_append PySem.F.type_list_append mt_append (pv 1) (@pa_cons _ _ _ _ _ (@pe_tup _ _ _ _ _ (@pa_cons _ _ _ _ _ pe_str (@pa_cons _ _ _ _ _ (pv 9) (@pa_cons _ _ _ _ _ (pv 8) pa_nil (by rfl)) (by rfl)) (by rfl))) pa_nil (by rfl)) (by rfl) (by rfl) (by rfl) (by rfl) (by rfl)) (by rfl))))) pss_nil)
     (@pss_one _ _ _ (ps_if ((pw_and (pt_cmpR op_eq (@pe_op _ _ _ _ _ _ _ _ op_mod (pv 6) pe_int) pe_int (nomark _)) (pw_and1 (pt_cmpR (op_neNil hr.units) (pv 4) (@pe_lst _ _ _ _ pa_nil) (nomark _))))).pt (@pss_cons _ _ _ _ _ (@ps_expr _ _ _ _ (@pe_bm _ _ _ _ _ _ _ _ _ _ _ _ PySem.F.plainAttrs_list PySem.F.slot_list_remove PySem.F.type_list_remove mt_remove (pv 5) (@pa_cons _ _ _ _ _ (@pe_ix _ _ _ _ _ _ _ ix_tup (@pe_ix _ _ _ _ _ _ _ ix_list (pv 4) pe_int (λ_ _=>rfl)) pe_int (λ_ _=>rfl)) pa_nil (by rfl)) (by rfl) (by rfl) (by rfl) (by rfl) (by rfl)) (by rfl))
     (@pss_one _ _ _ (@ps_expr _ _ _ _ (@pe_bm _ _ _ _ _ _ _ _ _ _ _ _ PySem.F.plainAttrs_list PySem.F.slot_list_append PySem.F.type_list_append mt_append (pv 1) (@pa_cons _ _ _ _ _ (@pe_op _ _ _ _ _ _ _ _ op_catT (@pe_tup _ _ _ _ _ (@pa_cons _ _ _ _ _ pe_str pa_nil (by rfl))) (@pe_bm _ _ _ _ _ _ _ _ _ _ _ _ PySem.F.plainAttrs_list PySem.F.slot_list_pop PySem.F.type_list_pop mt_popAt (pv 4) (@pa_cons _ _ _ _ _ pe_int pa_nil (by rfl)) (by rfl) (by rfl) (by rfl) (by rfl) (by rfl))) pa_nil (by rfl)) (by rfl) (by rfl) (by rfl) (by rfl) (by rfl)) (by rfl)))) pss_nil)))))))))
     (@pss_one _ _ _ (@ps_ret _ _ _ _ (pv 1))))))))),?_⟩
   refine ⟨len0v,λd1 h1=>⟨len0v,λd2 h2=>⟨len0v,λd3 h3=>⟨len0v,λd4 h4=>⟨len0v,λd5 h5=>?_⟩⟩⟩⟩⟩
   have s1:=same_new (o:=.lst []) h1
   have s2:=same_new (o:=.lst []) h2
   have s3:=same_new (o:=.lst []) h3
   have s4:=same_new (o:=.lst []) h4
   have s5:=same_new (o:=.lst []) h5
   have n1:=h1
   have n2:=none_back s1 h2
   have n3:=none_back (s1.trans s2) h3
   have n4:=none_back (s1.trans (s2.trans s3)) h4
   have n5:=none_back (s1.trans (s2.trans (s3.trans s4))) h5
   have v1:=s5 _ _ (s4 _ _ (s3 _ _ (s2 _ _ (upd_same (H:=H) (a:=d1) (o:=.lst [])))))
   have v2:=s5 _ _ (s4 _ _ (s3 _ _ (upd_same (a:=d2) (o:=.lst []))))
   have v3:=s5 _ _ (s4 _ _ (upd_same (a:=d3) (o:=.lst [])))
   have v4:=s5 _ _ (upd_same (a:=d4) (o:=.lst []))
   have v5:=upd_same (H:=upd (upd (upd (upd H d1 (.lst [])) d2 (.lst [])) d3 (.lst [])) d4 (.lst [])) (a:=d5) (o:=.lst [])
   have x12:=ne_of_none (upd_same (H:=H) (a:=d1) (o:=.lst [])) h2
   have x13:=ne_of_none (s2 _ _ (upd_same (H:=H) (a:=d1) (o:=.lst []))) h3
   have x14:=ne_of_none (s3 _ _ (s2 _ _ (upd_same (H:=H) (a:=d1) (o:=.lst [])))) h4
   have x15:=ne_of_none (s4 _ _ (s3 _ _ (s2 _ _ (upd_same (H:=H) (a:=d1) (o:=.lst []))))) h5
   have x23:=ne_of_none (upd_same (a:=d2) (o:=.lst [])) h3
   have x24:=ne_of_none (s3 _ _ (upd_same (a:=d2) (o:=.lst []))) h4
   have x25:=ne_of_none (s4 _ _ (s3 _ _ (upd_same (a:=d2) (o:=.lst [])))) h5
   have x34:=ne_of_none (upd_same (a:=d3) (o:=.lst [])) h4
   have x35:=ne_of_none (s4 _ _ (upd_same (a:=d3) (o:=.lst []))) h5
   have x45:=ne_of_none (upd_same (a:=d4) (o:=.lst [])) h5
   have S5:=s1.trans (s2.trans (s3.trans (s4.trans s5)))
   obtain ⟨q,hq⟩:∃ q:L5->Addr,q=λi=>match i with | .st=>d1 | .la=>d2 | .ta=>d3 | .to=>d4 | .aw=>d5:=⟨_,rfl⟩
   have q1:d1=q .st:=by rw [hq]
   have q2:d2=q .la:=by rw [hq]
   have q3:d3=q .ta:=by rw [hq]
   have q4:d4=q .to:=by rw [hq]
   have q5:d5=q .aw:=by rw [hq]
   clear hq s1 s2 s3 s4 s5 h1 h2 h3 h4 h5
   generalize upd (upd (upd (upd (upd H d1 (.lst [])) d2 (.lst [])) d3 (.lst [])) d4 (.lst [])) d5 (.lst [])=H5 at S5 v1 v2 v3 v4 v5 ⊢
   subst q1 q2 q3 q4 q5
   have hn:∀ i,H (q i)=none:=λi=>by cases i<;>assumption
   have inj:∀ i j,q i=q j->i=j:=by
     intro i j
     cases i<;>cases j<;>intro h<;>first | rfl | exact absurd h x12 | exact absurd h x13 | exact absurd h x14 | exact absurd h x15 | exact absurd h x23 | exact absurd h x24 | exact absurd h x25 | exact absurd h x34 | exact absurd h x35 | exact absurd h x45 | exact absurd h.symm x12 | exact absurd h.symm x13 | exact absurd h.symm x14 | exact absurd h.symm x15 | exact absurd h.symm x23 | exact absurd h.symm x24 | exact absurd h.symm x25 | exact absurd h.symm x34 | exact absurd h.symm x35 | exact absurd h.symm x45
   have W0:GS H5 q [] [] [] [] []:=⟨⟨[],v1,.nil⟩,⟨[],v2,.nil⟩,v3,⟨[],v4,.nil⟩,v5,inj⟩
   clear x12 x13 x14 x15 x23 x24 x25 x34 x35 x45 n1 n2 n3 n4 n5 v1 v2 v3 v4 v5 inj
   refine ⟨_,rfl,l,rfl,⟨_,SqL.of (S5 _ _ hS)⟩,?_⟩
   refine for_list (K:=K) (a:=l) (xs:=cs.map V.int) (λi σ' H'=>∃ (hs:List Hap) (un uh:List (Int × Int)) (go do':List Int),(∃ v6 v7 v8 v9,σ'=[some (.ref l),some (.ref (q .st)),some (.ref (q .la)),some (.ref (q .ta)),some (.ref (q .to)),some (.ref (q .aw)),v6,v7,v8,v9])/\GS H' q hs un uh go do'/\JI hs un uh go do'/\firstL hs=none/\(∀ h∈hs,N9 h.n)/\hs.length <= 4 * i/\Same H H')
     ⟨[],[],[],[],[],⟨_,_,_,_,rfl⟩,W0,JI.zero,rfl,(λ_ h=>by cases h),Nat.zero_le _,S5⟩ (λ_ _ _ _ ⟨_,_,_,_,_,_,_,_,_,_,_,y⟩=>SqL.of (y _ _ hS)) ?_ ?_
   rotate_left
   · rintro σ' H2 ⟨hs,un,uh,go,do',⟨v6,v7,v8,v9,rfl⟩,W,I,hf,hb9,hl,s2⟩
     rw [List.length_map] at hl
     exact ⟨_,rfl,k _ H2 hs s2 W.st (by omega) hf ⟨_,_,_,_,I⟩ hb9⟩
   rintro i y σ' H2 hi ⟨hs,un,uh,go,do',⟨v6,v7,v8,v9,rfl⟩,W,I,hf,hb9,hl,s2⟩
   rw [List.getElem?_map] at hi
   obtain ⟨c,hc,rfl⟩:=Option.map_eq_some_iff.mp hi
   have hil:i < cs.length:=(List.getElem?_eq_some_iff.mp hc).1
   have c0:0 <= c:=hc0 c (List.mem_of_getElem? hc)
   clear W0 S5 hi hc
   refine ⟨9,rfl,by decide,by decide,λD hD=>?_⟩
   refine ⟨λj mm ys H'=>j <= 9/\mm=9 - j/\ys=(freeL j go).map V.int/\H'=upd H2 D (.lst ((freeL j go).map V.int)),⟨_,Nat.zero_le _,rfl,rfl,rfl⟩,?_⟩
   rintro j mm ys H' ⟨hj,rfl,rfl,rfl⟩
   have fl:(freeL j go).length <= j:=by
     unfold freeL
     refine Nat.le_trans (List.length_filter_le _ _) ?_
     rw [List.length_map,List.length_range];exact Nat.le_refl _
   have eD:=same_new (o:=.lst ((freeL j go).map V.int)) hD
   have W3:=W.same eD
   refine ⟨upd_same,Nat.lt_of_lt_of_le (show _ < 1000 by rw [List.length_map];omega) (by decide),?_⟩
   by_cases hin:j=9
   rotate_left
   · refine .inr ⟨by show j < (9:Int).toNat;omega,?_⟩
     rintro v H3 ⟨rfl,rfl⟩
     rw [Int.zero_add]
     refine ⟨_,rfl,_,rfl,q .aw,_,rfl,.inl (SqL.of W3.aw),rfl,ints_flat go,_,rfl,?_⟩
     simp only [if_true]
     rw [inV_int]
     have fs:=free_snoc j go
     cases hb:go.contains (j:Int) with
     | true =>
       rw [hb,if_pos rfl] at fs
       exact iteF ⟨9 - (j+1),by omega,by omega,rfl,by rw [fs],by rw [fs]⟩
     | false =>
       rw [hb,if_neg (by decide)] at fs
       refine iteT ⟨_,rfl,upd_same,9 - (j+1),by omega,by omega,rfl,by rw [fs,List.map_append];rfl,?_⟩
       rw [upd_upd,fs,List.map_append];rfl
   subst hin
   refine .inl ⟨by show (9:Int).toNat <= 9;decide,?_⟩
   have hD3:upd H2 D (.lst ((freeL 9 go).map V.int)) D=some (.lst ((freeL 9 go).map V.int)):=upd_same
   have s3:=s2.trans eD
   have oD:∀ i,D≠q i:=λi y=>by
     obtain ⟨ts,e⟩:=W.lst i
     rw [y,e] at hD;cases hD
   generalize upd H2 D (.lst ((freeL 9 go).map V.int))=H3 at W3 hD3 s3 ⊢
   clear W s2 eD hD
   refine ⟨_,rfl,_,_,rfl,rfl,⟨by decide,by decide⟩,_,_,rfl,rfl,(show (0:Int) < 5 by decide),_,_,rfl,rfl,?_⟩
   refine ⟨λσ' H'=>H'=H3/\∃ (wt:Int),(∃ v9,σ'=[some (.ref l),some (.ref (q .st)),some (.ref (q .la)),some (.ref (q .ta)),some (.ref (q .to)),some (.ref (q .aw)),some (.int c),some (.ref D),some (.int wt),v9]),?_,?_⟩
   · refine ⟨_,rfl,_,_,rfl,rfl,⟨by decide,by decide⟩,_,_,rfl,rfl,(show (0:Int) < 2 by decide),rfl,_,rfl,?_⟩
     refine ite2 (λ_=>?_) (λ_=>⟨rfl,_,_,rfl⟩)
     refine ⟨_,rfl,_,_,rfl,rfl,.inr ⟨by decide,by decide⟩,_,_,rfl,rfl,⟨by decide,by decide,by decide⟩,_,_,rfl,rfl,.inl ⟨by decide,by decide⟩,_,_,rfl,rfl,_,_,rfl,rfl,(show (0:Int) < 2 * 10 ^ (9:Int).toNat+1 by decide),_,_,rfl,rfl,⟨by decide,by decide,by decide⟩,_,_,rfl,rfl,rfl,_,_,rfl⟩
   rintro σ' H' ⟨rfl,wt,v9,rfl⟩
   have sz:∀ {m:Nat},m < 5000->m < sizeLine:=λh=>Nat.lt_of_lt_of_le h (by decide)
   refine ⟨λσ' H'=>∃ (hs:List Hap) (un uh:List (Int × Int)) (go do':List Int) (wt:Int),(∃ v7 v9,σ'=[some (.ref l),some (.ref (q .st)),some (.ref (q .la)),some (.ref (q .ta)),some (.ref (q .to)),some (.ref (q .aw)),some (.int c),v7,some (.int wt),v9])/\GS H' q hs un uh go do'/\JI hs un uh go do'/\firstL hs=none/\(∀ h∈hs,N9 h.n)/\hs.length <= 4 * i+1/\Same H H',?_,?_⟩
   · refine ⟨_,rfl,_,_,rfl,rfl,(show (0:Int) < 4 by decide),rfl,_,rfl,?_⟩
     by_cases h4:c % 4=0
     rotate_left
     · exact iteDF (λy=>h4 (vint_inj y)) (iteF ⟨hs,un,uh,go,do',wt,⟨_,_,rfl⟩,W3,I,hf,hb9,by omega,s3⟩)
     refine iteDT (congrArg V.int h4) ⟨_,rfl,len0v,λe he=>⟨D,e,_,rfl,rfl,SqL.of (same_new he _ _ hD3),SqL.of upd_same,_,rfl,?_⟩⟩
     have e4:=same_new (o:=.lst []) he
     have W4:=W3.same e4
     have s4:=s3.trans e4
     have hD4:=e4 _ _ hD3
     generalize upd H' e (.lst [])=H4 at W4 s4 hD4 ⊢
     cases hfr:freeL 9 go with
     | nil=>exact iteF ⟨hs,un,uh,go,do',wt,⟨_,_,rfl⟩,W4,I,hf,hb9,by omega,s4⟩
     | cons x xs =>
       have hlen9:0 < (freeL 9 go).length:=by rw [hfr];exact Nat.succ_pos _
       have g0:0 <= c / 8 % (((freeL 9 go).map V.int).length:Int):=Int.emod_nonneg _ (by rw [List.length_map];omega)
       have g1:c / 8 % (((freeL 9 go).map V.int).length:Int) < ((freeL 9 go).map V.int).length:=Int.emod_lt_of_pos _ (by rw [List.length_map];omega)
       obtain ⟨v,hv,mv⟩:=at_in (xs:=(freeL 9 go).map V.int) g0 g1
       obtain ⟨nm,hnm,rfl⟩:=List.mem_map.mp mv
       have hng:=free_mem hnm
       refine iteT ?_
       refine ⟨_,rfl,_,rfl,_,_,rfl,rfl,⟨by decide,by decide⟩,_,rfl,D,_,rfl,.inl (SqL.of hD4),_,_,rfl,rfl,(show (0:Int) < (((freeL 9 go).map V.int).length:Nat) by rw [List.length_map];omega),D,_,_,_,rfl,rfl,SqL.of hD4,hv,?_⟩
       obtain ⟨l1,l2',l3',l4⟩:=I.lens
       refine ⟨_,rfl,.inl ⟨rfl,_,SqL.of W4.aw⟩,_,rfl,q .aw,_,_,rfl,rfl,W4.aw,sz (by rw [List.length_map];omega),?_⟩
       have eu:go.map V.int++[V.int nm]=(go++[nm]).map V.int:=by rw [List.map_append];rfl
       rw [eu]
       have W5:=W4.setAw (go++[nm])
       have s5:=same_q hn s4 .aw (.lst ((go++[nm]).map V.int))
       generalize upd H4 (q .aw) (.lst ((go++[nm]).map V.int))=H5 at W5 s5 ⊢
       obtain ⟨tl,el,pl⟩:=W5.la
       have ll:=pairedLen pl
       refine ⟨_,rfl,.inl ⟨rfl,_,SqL.of el⟩,_,rfl,_,rfl,l2,λt ht=>⟨q .la,tl,_,rfl,rfl,same_new ht _ _ el,sz (by omega),?_⟩⟩
       have e6:=same_new (o:=.tup [V.int nm,V.int wt]) ht
       have W6:=(W5.same e6).setLa (un':=un++[(nm,wt)]) (ts:=tl++[.ref t]) (Paired.snoc (Paired.mapP pl λ_ _ h=>h.keep e6.kt) ⟨t,rfl,upd_same⟩)
       have s6:=same_q hn (s5.trans e6) .la (.lst (tl++[.ref t]))
       generalize upd (upd H5 t (.tup [V.int nm,V.int wt])) (q .la) (.lst (tl++[.ref t]))=H6 at W6 s6 ⊢
       obtain ⟨tss,es,ps⟩:=W6.st
       have lls:=pairedLen ps
       refine ⟨_,rfl,.inl ⟨rfl,_,SqL.of es⟩,_,rfl,_,rfl,l3,λt2 ht2=>⟨q .st,tss,_,rfl,rfl,same_new ht2 _ _ es,sz (by omega),?_⟩⟩
       have e7:=same_new (o:=.tup [V.str "asked",V.int nm,V.int wt]) ht2
       have I2:=I.asked (o:=wt) hng
       refine ⟨hs++[⟨.asked,nm,wt⟩],un++[(nm,wt)],uh,go++[nm],do',wt,⟨_,_,rfl⟩,(W6.same e7).setSt (Paired.snoc (Paired.mapP ps λ_ _ h=>h.keep e7.kt) ⟨t2,rfl,upd_same⟩),I2,first_snoc hf ?_,all_snoc hb9 (free_N9 hnm),by rw [List.length_append];show _+1 <= _;omega,same_q hn (s6.trans e7) .st _⟩
       rw [← I.fits]
       show (!go.contains nm)=true
       rw [List.contains_eq_mem,decide_eq_false hng];rfl
   clear W3 s3 hD3 I hf hl fl hj hb9
   clear hs un uh go do' wt
   rintro σ' H3' ⟨hs,un,uh,go,do',wt,⟨v7,v9,rfl⟩,W3,I,hf,hb9,hl,s3⟩
   refine ⟨λσ' H'=>∃ (hs:List Hap) (un uh:List (Int × Int)) (go do':List Int) (wt:Int),(∃ v7 v9,σ'=[some (.ref l),some (.ref (q .st)),some (.ref (q .la)),some (.ref (q .ta)),some (.ref (q .to)),some (.ref (q .aw)),some (.int c),v7,some (.int wt),v9])/\GS H' q hs un uh go do'/\JI hs un uh go do'/\firstL hs=none/\(∀ h∈hs,N9 h.n)/\hs.length <= 4 * i+2/\Same H H',?_,?_⟩
   · refine ⟨_,rfl,_,_,rfl,rfl,(show (0:Int) < 4 by decide),rfl,_,rfl,?_⟩
     by_cases h4:c % 4=1
     rotate_left
     · exact iteDF (λy=>h4 (vint_inj y)) (iteF ⟨hs,un,uh,go,do',wt,⟨_,_,rfl⟩,W3,I,hf,hb9,by omega,s3⟩)
     obtain ⟨tl,el,pl⟩:=W3.la
     refine iteDT (congrArg V.int h4) ⟨_,rfl,len0v,λe he=>⟨q .la,e,tl,rfl,rfl,SqL.of (same_new he _ _ el),SqL.of upd_same,_,rfl,?_⟩⟩
     have e4:=same_new (o:=.lst []) he
     have W4:=W3.same e4
     have s4:=s3.trans e4
     have el4:=e4 _ _ el
     have pl4:=Paired.mapP pl λ_ _ h=>PV.keep e4.kt h
     generalize upd H3' e (.lst [])=H4 at W4 s4 el4 pl4 ⊢
     clear W3 s3 el pl e4
     have ll:=pairedLen pl4
     obtain ⟨l1,l2',l3',l4⟩:=I.lens
     cases un with
     | nil =>
       cases pl4
       exact iteF ⟨hs,[],uh,go,do',wt,⟨_,_,rfl⟩,W4,I,hf,hb9,by omega,s4⟩
     | cons p un =>
       obtain ⟨nm,ww⟩:=p
       cases pl4 with
       | cons hx pt =>
       rename_i tx tl'
       obtain ⟨cx,rfl,vx⟩:=hx
       refine iteT ?_
       refine ⟨_,rfl,.inl ⟨rfl,_,SqL.of W4.ta⟩,_,rfl,q .la,_,_,_,rfl,rfl,SqL.of el4,atI_zero,cx,_,_,_,rfl,rfl,SqT.of vx,rfl,q .ta,_,_,rfl,rfl,W4.ta,sz (by rw [List.length_map];omega),?_⟩
       have eu:do'.map V.int++[V.int (nm,ww).1]=(do'++[nm]).map V.int:=by rw [List.map_append];rfl
       rw [eu]
       have t5:=W4.kt .ta (.lst ((do'++[nm]).map V.int))
       have W5:=W4.setTa (do'++[nm])
       have s5:=same_q hn s4 .ta (.lst ((do'++[nm]).map V.int))
       have el5:=W4.oth (i:=.ta) (j:=.la) (.lst ((do'++[nm]).map V.int)) (by decide) _ el4
       have vx5:=t5 _ _ vx
       have pt5:=Paired.mapP pt λ_ _ h=>PV.keep t5 h
       generalize upd H4 (q .ta) (.lst ((do'++[nm]).map V.int))=H5 at W5 s5 el5 vx5 pt5 ⊢
       obtain ⟨tss,es,ps⟩:=W5.st
       have lls:=pairedLen ps
       refine ⟨_,rfl,.inl ⟨rfl,_,SqL.of es⟩,len1v,λt ht=>?_⟩
       have e6:=same_new (o:=.tup [V.str "taken"]) ht
       have W6:=W5.same e6
       have el6:=e6 _ _ el5
       have vt6:upd H5 t (.tup [V.str "taken"]) t=some (.tup [V.str "taken"]):=upd_same
       have vx6:=e6 _ _ vx5
       have pt6:=Paired.mapP pt5 λ_ _ h=>PV.keep e6.kt h
       have s6:=s5.trans e6
       generalize upd H5 t (.tup [V.str "taken"])=H6 at W6 el6 vt6 vx6 pt6 s6 ⊢
       refine ⟨_,rfl,.inl ⟨rfl,_,SqL.of el6⟩,q .la,_,0,0,.ref cx,rfl,rfl,el6,by decide,by decide,six0 (Nat.succ_pos _),rfl,?_⟩
       have t7:=W6.kt .la (.lst tl')
       have W7:=W6.setLa pt6
       have s7:=same_q hn s6 .la (.lst tl')
       have vt7:=t7 _ _ vt6
       have vx7:=t7 _ _ vx6
       show rCatT _ _ _ (upd H6 (q .la) (.lst tl')) _
       generalize upd H6 (q .la) (.lst tl')=H7 at W7 s7 vt7 vx7 ⊢
       refine ⟨t,cx,_,_,rfl,rfl,SqT.of vt7,SqT.of vx7,by simp,by show 3 <= sizeLine;decide,λy=>by simp at y,λ_ t8 h8=>?_⟩
       have e8:=same_new (o:=.tup [V.str "taken",V.int nm,V.int ww]) h8
       obtain ⟨ts8,es8,ps8⟩:=W7.st
       have ls8:=pairedLen ps8
       refine ⟨q .st,ts8,_,rfl,rfl,e8 _ _ es8,sz (by omega),?_⟩
       have I2:=(I.taken (n:=nm) (o:=ww) rfl).1
       have hn9:N9 nm:=by
         obtain ⟨x,hx,e⟩:=I.un_mem (p:=(nm,ww)) List.mem_cons_self
         have e':x.n=nm:=e
         rw [← e'];exact hb9 x hx
       refine ⟨hs++[⟨.taken,nm,ww⟩],un,uh,go,do'++[nm],wt,⟨_,_,rfl⟩,(W7.same e8).setSt (Paired.snoc (Paired.mapP ps8 λ_ _ h=>h.keep e8.kt) ⟨t8,rfl,upd_same⟩),I2,first_snoc hf ?_,all_snoc hb9 hn9,by rw [List.length_append];show _+1 <= _;omega,same_q hn (s7.trans e8) .st _⟩
       rw [← I.fits]
       show decide (_=_)=true
       exact decide_eq_true rfl
   clear W3 s3 I hf hl hb9
   clear hs un uh go do' wt
   rintro σ' H4' ⟨hs,un,uh,go,do',wt,⟨v7,v9,rfl⟩,W3,I,hf,hb9,hl,s3⟩
   refine ⟨λσ' H'=>∃ (hs:List Hap) (un uh:List (Int × Int)) (go do':List Int) (wt:Int),(∃ v7 v9,σ'=[some (.ref l),some (.ref (q .st)),some (.ref (q .la)),some (.ref (q .ta)),some (.ref (q .to)),some (.ref (q .aw)),some (.int c),v7,some (.int wt),v9])/\GS H' q hs un uh go do'/\JI hs un uh go do'/\firstL hs=none/\(∀ h∈hs,N9 h.n)/\hs.length <= 4 * i+3/\Same H H',?_,?_⟩
   · refine ⟨_,rfl,_,_,rfl,rfl,(show (0:Int) < 4 by decide),rfl,_,rfl,?_⟩
     by_cases h4:c % 4=2
     rotate_left
     · exact iteDF (λy=>h4 (vint_inj y)) (iteF ⟨hs,un,uh,go,do',wt,⟨_,_,rfl⟩,W3,I,hf,hb9,by omega,s3⟩)
     refine iteDT (congrArg V.int h4) ⟨_,rfl,len0v,λe he=>⟨q .ta,e,_,rfl,rfl,SqL.of (same_new he _ _ W3.ta),SqL.of upd_same,_,rfl,?_⟩⟩
     have e4:=same_new (o:=.lst []) he
     have W4:=W3.same e4
     have s4:=s3.trans e4
     generalize upd H4' e (.lst [])=H4 at W4 s4 ⊢
     clear W3 s3 e4
     obtain ⟨l1,l2',l3',l4⟩:=I.lens
     cases hdo:do' with
     | nil=>rw [hdo] at W4 I;exact iteF ⟨hs,un,uh,go,[],wt,⟨_,_,rfl⟩,W4,I,hf,hb9,by omega,s4⟩
     | cons x xs =>
       have hpos:0 < do'.length:=by rw [hdo];exact Nat.succ_pos _
       have g0:0 <= c / 8 % ((do'.map V.int).length:Int):=Int.emod_nonneg _ (by rw [List.length_map];omega)
       have g1:c / 8 % ((do'.map V.int).length:Int) < (do'.map V.int).length:=Int.emod_lt_of_pos _ (by rw [List.length_map];omega)
       obtain ⟨kk,hk⟩:=Int.eq_ofNat_of_zero_le g0
       have hkl:kk < do'.length:=by rw [hk,List.length_map] at g1;omega
       have hgk:(do'.map V.int)[kk]?=some (.int do'[kk]):=by rw [List.getElem?_map,List.getElem?_eq_getElem hkl];rfl
       refine iteT ?_
       refine ⟨_,rfl,.inl ⟨rfl,_,SqL.of W4.ta⟩,_,rfl,_,_,rfl,rfl,⟨by decide,by decide⟩,_,rfl,q .ta,_,rfl,.inl (SqL.of W4.ta),_,_,rfl,rfl,(show (0:Int) < ((do'.map V.int).length:Nat) by rw [List.length_map];omega),q .ta,_,_,kk,_,rfl,rfl,W4.ta,by rw [hk];omega,by rw [hk];omega,by rw [hk];exact six_nat (by rw [List.length_map];exact hkl),hgk,?_⟩
       rw [map_eraseIdx]
       have W5:=W4.setTa (do'.eraseIdx kk)
       have s5:=same_q hn s4 .ta (.lst ((do'.eraseIdx kk).map V.int))
       generalize upd H4 (q .ta) (.lst ((do'.eraseIdx kk).map V.int))=H5 at W5 s5 ⊢
       have hmem:do'[kk]∈do':=List.getElem_mem hkl
       have I2:=(I.answered (o:=wt) hmem).perm (List.Perm.refl _) (eraseIdx_perm hkl)
       have hft:fitsL hs ⟨.answered,do'[kk],wt⟩=true:=by
         rw [← I.fits]
         show do'.contains do'[kk]=true
         rw [List.contains_eq_mem];exact decide_eq_true hmem
       have hn9:N9 do'[kk]:=by
         obtain ⟨x,hx,e⟩:=I.do_mem hmem
         rw [← e];exact hb9 x hx
       generalize do'[kk]=nm at I2 hft hn9 ⊢
       obtain ⟨tl,el,pl⟩:=W5.to
       have ll:=pairedLen pl
       refine ⟨_,rfl,.inl ⟨rfl,_,SqL.of el⟩,_,rfl,_,rfl,l2,λt ht=>⟨q .to,tl,_,rfl,rfl,same_new ht _ _ el,sz (by omega),?_⟩⟩
       have e6:=same_new (o:=.tup [V.int nm,V.int wt]) ht
       have W6:=(W5.same e6).setTo (uh':=uh++[(nm,wt)]) (ts:=tl++[.ref t]) (Paired.snoc (Paired.mapP pl λ_ _ h=>h.keep e6.kt) ⟨t,rfl,upd_same⟩)
       have s6:=same_q hn (s5.trans e6) .to (.lst (tl++[.ref t]))
       generalize upd (upd H5 t (.tup [V.int nm,V.int wt])) (q .to) (.lst (tl++[.ref t]))=H6 at W6 s6 ⊢
       obtain ⟨tss,es,ps⟩:=W6.st
       have lls:=pairedLen ps
       refine ⟨_,rfl,.inl ⟨rfl,_,SqL.of es⟩,_,rfl,_,rfl,l3,λt2 ht2=>⟨q .st,tss,_,rfl,rfl,same_new ht2 _ _ es,sz (by omega),?_⟩⟩
       have e7:=same_new (o:=.tup [V.str "answered",V.int nm,V.int wt]) ht2
       exact ⟨hs++[⟨.answered,nm,wt⟩],un,uh++[(nm,wt)],go,_,wt,⟨_,_,rfl⟩,(W6.same e7).setSt (Paired.snoc (Paired.mapP ps λ_ _ h=>h.keep e7.kt) ⟨t2,rfl,upd_same⟩),I2,first_snoc hf hft,all_snoc hb9 hn9,by rw [List.length_append];show _+1 <= _;omega,same_q hn (s6.trans e7) .st _⟩
   clear W3 s3 I hf hl hb9
   clear hs un uh go do' wt
   rintro σ' H5' ⟨hs,un,uh,go,do',wt,⟨v7,v9,rfl⟩,W3,I,hf,hb9,hl,s3⟩
   have fin:∀ {σ':St} {H':Hp},(∃ (hs:List Hap) (un uh:List (Int × Int)) (go do':List Int) (wt:Int),(∃ v7 v9,σ'=[some (.ref l),some (.ref (q .st)),some (.ref (q .la)),some (.ref (q .ta)),some (.ref (q .to)),some (.ref (q .aw)),some (.int c),v7,some (.int wt),v9])/\GS H' q hs un uh go do'/\JI hs un uh go do'/\firstL hs=none/\(∀ h∈hs,N9 h.n)/\hs.length <= 4 * i+4/\Same H H')->∃ (hs:List Hap) (un uh:List (Int × Int)) (go do':List Int),(∃ v6 v7 v8 v9,σ'=[some (.ref l),some (.ref (q .st)),some (.ref (q .la)),some (.ref (q .ta)),some (.ref (q .to)),some (.ref (q .aw)),v6,v7,v8,v9])/\GS H' q hs un uh go do'/\JI hs un uh go do'/\firstL hs=none/\(∀ h∈hs,N9 h.n)/\hs.length <= 4 * (i+1)/\Same H H':=by
     rintro σ' H' ⟨hs,un,uh,go,do',wt,⟨v7,v9,rfl⟩,W,I,hf,hb9,hl,s3⟩
     exact ⟨hs,un,uh,go,do',⟨_,_,_,_,rfl⟩,W,I,hf,hb9,by omega,s3⟩
   refine ⟨_,rfl,_,_,rfl,rfl,(show (0:Int) < 4 by decide),rfl,_,rfl,?_⟩
   by_cases h4:c % 4=3
   rotate_left
   · exact iteDF (λy=>h4 (vint_inj y)) (iteF (fin ⟨hs,un,uh,go,do',wt,⟨_,_,rfl⟩,W3,I,hf,hb9,by omega,s3⟩))
   obtain ⟨tl,el,pl⟩:=W3.to
   refine iteDT (congrArg V.int h4) ⟨_,rfl,len0v,λe he=>⟨q .to,e,tl,rfl,rfl,SqL.of (same_new he _ _ el),SqL.of upd_same,_,rfl,?_⟩⟩
   have e4:=same_new (o:=.lst []) he
   have W4:=W3.same e4
   have s4:=s3.trans e4
   have el4:=e4 _ _ el
   have pl4:=Paired.mapP pl λ_ _ h=>PV.keep e4.kt h
   generalize upd H5' e (.lst [])=H4 at W4 s4 el4 pl4 ⊢
   clear W3 s3 el pl e4
   have ll:=pairedLen pl4
   obtain ⟨l1,l2',l3',l4⟩:=I.lens
   cases uh with
   | nil =>
     cases pl4
     exact iteF (fin ⟨hs,un,[],go,do',wt,⟨_,_,rfl⟩,W4,I,hf,hb9,by omega,s4⟩)
   | cons p uh =>
     obtain ⟨nm,ww⟩:=p
     cases pl4 with
     | cons hx pt =>
     rename_i tx tl'
     obtain ⟨cx,rfl,vx⟩:=hx
     obtain ⟨I2,hmem⟩:=I.handed (n:=nm) (o:=ww) rfl
     have hn9:N9 nm:=by
       obtain ⟨x,hx,e⟩:=I.uh_mem (p:=(nm,ww)) List.mem_cons_self
       have e':x.n=nm:=e
       rw [← e'];exact hb9 x hx
     refine iteT ?_
     refine ⟨_,rfl,.inl ⟨rfl,_,SqL.of W4.aw⟩,_,rfl,q .to,_,_,_,rfl,rfl,SqL.of el4,atI_zero,cx,_,_,_,rfl,rfl,SqT.of vx,rfl,q .aw,go,nm,rfl,rfl,W4.aw,hmem,?_⟩
     have t5:=W4.kt .aw (.lst ((go.erase nm).map V.int))
     have W5:=W4.setAw (go.erase nm)
     have s5:=same_q hn s4 .aw (.lst ((go.erase nm).map V.int))
     have el5:=W4.oth (i:=.aw) (j:=.to) (.lst ((go.erase nm).map V.int)) (by decide) _ el4
     have vx5:=t5 _ _ vx
     have pt5:=Paired.mapP pt λ_ _ h=>PV.keep t5 h
     generalize upd H4 (q .aw) (.lst ((go.erase nm).map V.int))=H5 at W5 s5 el5 vx5 pt5 ⊢
     obtain ⟨tss,es,ps⟩:=W5.st
     have lls:=pairedLen ps
     refine ⟨_,rfl,.inl ⟨rfl,_,SqL.of es⟩,len1v,λt ht=>?_⟩
     have e6:=same_new (o:=.tup [V.str "handed"]) ht
     have W6:=W5.same e6
     have el6:=e6 _ _ el5
     have vt6:upd H5 t (.tup [V.str "handed"]) t=some (.tup [V.str "handed"]):=upd_same
     have vx6:=e6 _ _ vx5
     have pt6:=Paired.mapP pt5 λ_ _ h=>PV.keep e6.kt h
     have s6:=s5.trans e6
     generalize upd H5 t (.tup [V.str "handed"])=H6 at W6 el6 vt6 vx6 pt6 s6 ⊢
     refine ⟨_,rfl,.inl ⟨rfl,_,SqL.of el6⟩,q .to,_,0,0,.ref cx,rfl,rfl,el6,by decide,by decide,six0 (Nat.succ_pos _),rfl,?_⟩
     have t7:=W6.kt .to (.lst tl')
     have W7:=W6.setTo pt6
     have s7:=same_q hn s6 .to (.lst tl')
     have vt7:=t7 _ _ vt6
     have vx7:=t7 _ _ vx6
     show rCatT _ _ _ (upd H6 (q .to) (.lst tl')) _
     generalize upd H6 (q .to) (.lst tl')=H7 at W7 s7 vt7 vx7 ⊢
     refine ⟨t,cx,_,_,rfl,rfl,SqT.of vt7,SqT.of vx7,by simp,by show 3 <= sizeLine;decide,λy=>by simp at y,λ_ t8 h8=>?_⟩
     have e8:=same_new (o:=.tup [V.str "handed",V.int nm,V.int ww]) h8
     obtain ⟨ts8,es8,ps8⟩:=W7.st
     have ls8:=pairedLen ps8
     refine ⟨q .st,ts8,_,rfl,rfl,e8 _ _ es8,sz (by omega),?_⟩
     refine fin ⟨hs++[⟨.handed,nm,ww⟩],un,uh,go.erase nm,do',wt,⟨_,_,rfl⟩,(W7.same e8).setSt (Paired.snoc (Paired.mapP ps8 λ_ _ h=>h.keep e8.kt) ⟨t8,rfl,upd_same⟩),I2,first_snoc hf ?_,all_snoc hb9 hn9,by rw [List.length_append];show _+1 <= _;omega,same_q hn (s7.trans e8) .st _⟩
     rw [← I.fits]
     show decide (_=_)=true
     exact decide_eq_true rfl
end

def sp_bent:Sp:=λvs H Q _=>∃ (l:Addr) (hs:List Hap) (c:Int),vs=[.ref l,.int c]/\SV H l hs/\hs.length <= 800/\(∀ h∈hs,N9 h.n)/\∀ (D:Addr) (H':Hp) (hs':List Hap),Same H H'->SV H' D hs'->hs'.length <= hs.length+1->(∀ h∈hs',N9 h.n)->Q (.ref D) H'
section
variable {P:Program} {w:World} {K:PySem.W.Frag} {mg:Str->Option Value} {base:Heap} {a:Ad} {d:Fd}
theorem ok_bent (G:Gs K mg a d):FnOk P w K mg base CX0 1 a.law_bent d.law_bent ["story","code"] sp_bent:=by
 refine G.f_law_bent.ok sc_law_bent (λvs H Q E h=>?_) (λcdv A outer s H vs Q E hr h=>?_)
 · obtain ⟨l,hs,c,rfl,_⟩:=h
   rfl
 · obtain ⟨l,hs,c,rfl,⟨ts,e0,pr⟩,hlen,hb9,k⟩:=h
   have hu:=hu_of hr
   refine ⟨_,(@pss_cons _ _ _ _ _ (ps_if (pt_cmpR (op_eqNil hr.units) (pv 0) (@pe_lst _ _ _ _ pa_nil) (nomark _)) (@pss_one _ _ _ (@ps_ret _ _ _ _ (@pe_lst _ _ _ _ (@pa_cons _ _ _ _ _ (@pe_tup _ _ _ _ _ (@pa_cons _ _ _ _ _ pe_str (@pa_cons _ _ _ _ _ (@pe_op _ _ _ _ _ _ _ _ op_mod (pv 1) pe_int) (@pa_cons _ _ _ _ _ (@pe_op _ _ _ _ _ _ _ _ op_mod (pv 1) pe_int) pa_nil (by rfl)) (by rfl)) (by rfl))) pa_nil (by rfl))))) pss_nil)
     (@pss_cons _ _ _ _ _ (@ps_set _ _ 2 _ _ _ _ sc_law_bent.nd rfl (Or.inl rfl) (@pe_op _ _ _ _ _ _ _ _ op_mod (@pe_op _ _ _ _ _ _ _ _ op_fdivB (pv 1) pe_int) (pe_callB call_len_seq (by rfl) G.n_len bt_len (@pa_cons _ _ _ _ _ (pv 0) pa_nil (by rfl)))) (by rfl) (by first | exact .inl rfl | exact .inr rfl | assumption))
     (@pss_cons _ _ _ _ _ (@ps_set _ _ 3 _ _ _ _ sc_law_bent.nd rfl (Or.inl rfl) (@pe_op _ _ _ _ _ _ _ _ op_mod (@pe_op _ _ _ _ _ _ _ _ op_fdivB (pv 1) pe_int) (pe_callB call_len_seq (by rfl) G.n_len bt_len (@pa_cons _ _ _ _ _ (pv 0) pa_nil (by rfl)))) (by rfl) (by first | exact .inl rfl | exact .inr rfl | assumption))
     (@pss_cons _ _ _ _ _ (@ps_asg _ _ _ _ _ _ (@pe_ix _ _ _ _ _ _ _ ix_list (pv 0) (pv 2) (λ_ _=>rfl)) (pg_tup rfl (pgs_cons (pg_name (i:=4) sc_law_bent.nd rfl (Or.inl rfl)) (pgs_cons (pg_name (i:=5) sc_law_bent.nd rfl (Or.inl rfl)) (pgs_cons (pg_name (i:=6) sc_law_bent.nd rfl (Or.inl rfl)) pgs_nil)))) (by rfl) (by rfl) (by rfl))
     (@pss_cons _ _ _ _ _ (ps_if (pt_cmpR op_eq (@pe_op _ _ _ _ _ _ _ _ op_mod (pv 1) pe_int) pe_int (nomark _)) (@pss_cons _ _ _ _ _ (@ps_set _ _ 6 _ _ _ _ sc_law_bent.nd rfl (Or.inl rfl) (@pe_op _ _ _ _ _ _ _ _ op_add (pv 6) (@pe_ix _ _ _ _ _ _ _ ix_list (@pe_lst _ _ _ _ (@pa_cons _ _ _ _ _ pe_int (@pa_cons _ _ _ _ _ (pe_un un_neg pe_int) pa_nil (by rfl)) (by rfl))) (pe_callTy call_int1 (by rfl) G.n_int bt_int (@pa_cons _ _ _ _ _ (pe_cmpR op_gt (pv 6) pe_int (nomark _)) pa_nil (by rfl))) (λ_ _=>rfl))) (by rfl) (by first | exact .inl rfl | exact .inr rfl | assumption))
     (@pss_one _ _ _ (@ps_ret _ _ _ _ (@pe_op _ _ _ _ _ _ _ _ op_cat (@pe_op _ _ _ _ _ _ _ _ op_cat (pe_slice sl_list (pv 0) po_none (po_some (pv 2))) (@pe_lst _ _ _ _ (@pa_cons _ _ _ _ _ (@pe_tup _ _ _ _ _ (@pa_cons _ _ _ _ _ (pv 4) (@pa_cons _ _ _ _ _ (pv 5) (@pa_cons _ _ _ _ _ (pv 6) pa_nil (by rfl)) (by rfl)) (by rfl))) pa_nil (by rfl)))) (pe_slice sl_list (pv 0) (po_some (@pe_op _ _ _ _ _ _ _ _ op_add (pv 2) pe_int)) po_none))))) pss_nil)
     (@pss_cons _ _ _ _ _ (ps_if (pt_cmpR op_eq (@pe_op _ _ _ _ _ _ _ _ op_mod (pv 1) pe_int) pe_int (nomark _)) (@pss_cons _ _ _ _ _ (@ps_set _ _ 5 _ _ _ _ sc_law_bent.nd rfl (Or.inl rfl) (@pe_op _ _ _ _ _ _ _ _ op_mod (@pe_op _ _ _ _ _ _ _ _ op_add (@pe_op _ _ _ _ _ _ _ _ op_add (pv 5) pe_int) (@pe_op _ _ _ _ _ _ _ _ op_mod (@pe_op _ _ _ _ _ _ _ _ op_fdivB (pv 1) pe_int) pe_int)) pe_int) (by rfl) (by first | exact .inl rfl | exact .inr rfl | assumption))
     (@pss_one _ _ _ (@ps_ret _ _ _ _ (@pe_op _ _ _ _ _ _ _ _ op_cat (@pe_op _ _ _ _ _ _ _ _ op_cat (pe_slice sl_list (pv 0) po_none (po_some (pv 2))) (@pe_lst _ _ _ _ (@pa_cons _ _ _ _ _ (@pe_tup _ _ _ _ _ (@pa_cons _ _ _ _ _ (pv 4) (@pa_cons _ _ _ _ _ (pv 5) (@pa_cons _ _ _ _ _ (pv 6) pa_nil (by rfl)) (by rfl)) (by rfl))) pa_nil (by rfl)))) (pe_slice sl_list (pv 0) (po_some (@pe_op _ _ _ _ _ _ _ _ op_add (pv 2) pe_int)) po_none))))) pss_nil)
     (@pss_cons _ _ _ _ _ (ps_if (pt_cmpR op_eq (@pe_op _ _ _ _ _ _ _ _ op_mod (pv 1) pe_int) pe_int (nomark _)) (@pss_cons _ _ _ _ _ (@ps_set _ _ 4 _ _ _ _ sc_law_bent.nd rfl (Or.inl rfl) (@pe_ix _ _ _ _ _ _ _ ix_list (@pe_lst _ _ _ _ (@pa_cons _ _ _ _ _ pe_str (@pa_cons _ _ _ _ _ pe_str (@pa_cons _ _ _ _ _ pe_str (@pa_cons _ _ _ _ _ pe_str pa_nil (by rfl)) (by rfl)) (by rfl)) (by rfl))) (@pe_op _ _ _ _ _ _ _ _ op_mod (@pe_op _ _ _ _ _ _ _ _ op_fdivB (pv 1) pe_int) pe_int) (λ_ _=>rfl)) (by rfl) (by first | exact .inl rfl | exact .inr rfl | assumption))
     (@pss_one _ _ _ (@ps_ret _ _ _ _ (@pe_op _ _ _ _ _ _ _ _ op_cat (@pe_op _ _ _ _ _ _ _ _ op_cat (pe_slice sl_list (pv 0) po_none (po_some (pv 2))) (@pe_lst _ _ _ _ (@pa_cons _ _ _ _ _ (@pe_tup _ _ _ _ _ (@pa_cons _ _ _ _ _ (pv 4) (@pa_cons _ _ _ _ _ (pv 5) (@pa_cons _ _ _ _ _ (pv 6) pa_nil (by rfl)) (by rfl)) (by rfl))) pa_nil (by rfl)))) (pe_slice sl_list (pv 0) (po_some (@pe_op _ _ _ _ _ _ _ _ op_add (pv 2) pe_int)) po_none))))) pss_nil)
     (@pss_cons _ _ _ _ _ (ps_if (pt_cmpR op_eq (@pe_op _ _ _ _ _ _ _ _ op_mod (pv 1) pe_int) pe_int (nomark _)) (@pss_cons _ _ _ _ _ (@ps_set _ _ 7 _ _ _ _ sc_law_bent.nd rfl (Or.inl rfl) (@pe_op _ _ _ _ _ _ _ _ op_cat (pe_slice sl_list (pv 0) po_none (po_some (pv 2))) (pe_slice sl_list (pv 0) (po_some (@pe_op _ _ _ _ _ _ _ _ op_add (pv 2) pe_int)) (po_some (@pe_op _ _ _ _ _ _ _ _ op_add (pv 2) pe_int)))) (by rfl) (by first | exact .inl rfl | exact .inr rfl | assumption))
     (@pss_one _ _ _ (@ps_ret _ _ _ _ (@pe_op _ _ _ _ _ _ _ _ op_cat (@pe_op _ _ _ _ _ _ _ _ op_cat (pv 7) (@pe_lst _ _ _ _ (@pa_cons _ _ _ _ _ (@pe_ix _ _ _ _ _ _ _ ix_list (pv 0) (pv 2) (λ_ _=>rfl)) pa_nil (by rfl)))) (pe_slice sl_list (pv 0) (po_some (@pe_op _ _ _ _ _ _ _ _ op_add (pv 2) pe_int)) po_none))))) pss_nil)
     (@pss_cons _ _ _ _ _ (ps_if (pt_cmpR op_eq (@pe_op _ _ _ _ _ _ _ _ op_mod (pv 1) pe_int) pe_int (nomark _)) (@pss_one _ _ _ (@ps_ret _ _ _ _ (@pe_op _ _ _ _ _ _ _ _ op_cat (pe_slice sl_list (pv 0) po_none (po_some (pv 2))) (pe_slice sl_list (pv 0) (po_some (@pe_op _ _ _ _ _ _ _ _ op_add (pv 2) pe_int)) po_none)))) pss_nil)
     (@pss_cons _ _ _ _ _ (ps_if (pt_cmpR op_eq (@pe_op _ _ _ _ _ _ _ _ op_mod (pv 1) pe_int) pe_int (nomark _)) (@pss_one _ _ _ (@ps_ret _ _ _ _ (@pe_op _ _ _ _ _ _ _ _ op_cat (@pe_op _ _ _ _ _ _ _ _ op_cat (pe_slice sl_list (pv 0) po_none (po_some (pv 3))) (@pe_lst _ _ _ _ (@pa_cons _ _ _ _ _ (@pe_ix _ _ _ _ _ _ _ ix_list (pv 0) (pv 2) (λ_ _=>rfl)) pa_nil (by rfl)))) (pe_slice sl_list (pv 0) (po_some (pv 3)) po_none)))) pss_nil)
     (@pss_cons _ _ _ _ _ (ps_if (pt_cmpR op_eq (@pe_op _ _ _ _ _ _ _ _ op_mod (pv 1) pe_int) pe_int (nomark _)) (@pss_one _ _ _ (@ps_ret _ _ _ _ (@pe_op _ _ _ _ _ _ _ _ op_cat (@pe_op _ _ _ _ _ _ _ _ op_cat (pe_slice sl_list (pv 0) po_none (po_some (pv 2))) (pe_slice sl_list (pv 0) (po_some (@pe_op _ _ _ _ _ _ _ _ op_add (pv 2) pe_int)) po_none)) (@pe_lst _ _ _ _ (@pa_cons _ _ _ _ _ (@pe_ix _ _ _ _ _ _ _ ix_list (pv 0) (pv 2) (λ_ _=>rfl)) pa_nil (by rfl)))))) pss_nil)
     (@pss_one _ _ _ (@ps_ret _ _ _ _ (pe_callTy call_list_of (by rfl) G.n_list bt_list (@pa_cons _ _ _ _ _ (pv 0) pa_nil (by rfl)))))))))))))))),?_⟩
   have lt:=pairedLen pr
   refine ⟨_,rfl,len0v,λe he=>⟨l,e,ts,rfl,rfl,SqL.of (same_new he _ _ e0),SqL.of upd_same,_,rfl,?_⟩⟩
   have s1:=same_new (o:=.lst []) he
   have e1:=s1 _ _ e0
   generalize upd H e (.lst [])=H1 at s1 e1 ⊢
   cases hts:ts with
   | nil =>
     refine iteT ⟨_,rfl,_,_,rfl,rfl,(show (0:Int) < 9 by decide),_,rfl,_,_,rfl,rfl,(show (0:Int) < 5 by decide),l3,λt ht=>⟨len1v,λD hD=>?_⟩⟩
     have s2:=same_new (o:=.tup [V.str "handed",V.int (c % 9),V.int (c % 5)]) ht
     have s3:=same_new (o:=.lst [V.ref t]) hD
     exact k D _ [⟨.handed,c % 9,c % 5⟩] (s1.trans (s2.trans s3)) ⟨_,upd_same,.cons ⟨t,rfl,s3 _ _ upd_same⟩ .nil⟩ (by show 1 <= _;omega) λh hh=>by rw [List.mem_singleton.mp hh];exact ⟨Int.emod_nonneg _ (by decide),Int.emod_lt_of_pos _ (by decide)⟩
   | cons tx tr =>
     have hpos:0 < ts.length:=by rw [hts];exact Nat.succ_pos _
     refine iteF ?_
     have at0:∀ x:Int,0 <= x % (ts.length:Int):=λx=>Int.emod_nonneg _ (by omega)
     have at1:∀ x:Int,x % (ts.length:Int) < ts.length:=λx=>Int.emod_lt_of_pos _ (by omega)
     obtain ⟨ka,hka⟩:=Int.eq_ofNat_of_zero_le (at0 (c / 8))
     obtain ⟨kt,hkt⟩:=Int.eq_ofNat_of_zero_le (at0 (c / 800))
     have ha:=at1 (c / 8)
     have ht':=at1 (c / 800)
     rw [hka] at ha
     rw [hkt] at ht'
     have hal:ka < ts.length:=by omega
     have htl:kt < ts.length:=by omega
     refine ⟨_,rfl,_,_,rfl,rfl,⟨by decide,by decide⟩,_,rfl,l,ts,rfl,.inl (SqL.of e1),_,_,rfl,rfl,(show (0:Int) < (ts.length:Nat) by omega),?_⟩
     refine ⟨_,rfl,_,_,rfl,rfl,⟨by decide,by decide⟩,_,rfl,l,ts,rfl,.inl (SqL.of e1),_,_,rfl,rfl,(show (0:Int) < (ts.length:Nat) by omega),?_⟩
     obtain ⟨h,ca,hh,hca,vca⟩:=hv_at pr (List.getElem?_eq_getElem hal)
     have hatv:atI ts (c / 8 % (ts.length:Int))=some (.ref ca):=by rw [hka];exact atI_nat (by rw [List.getElem?_eq_getElem hal,hca])
     have vca:=s1 _ _ vca
     refine ⟨_,rfl,_,rfl,l,ts,_,_,rfl,rfl,SqL.of e1,hatv,ca,_,rfl,SqT.of vca,rfl,_,_,rfl,_,_,rfl,_,_,rfl,rfl,?_⟩
     clear hts
     have hh9:N9 h.n:=hb9 h (List.mem_of_getElem? hh)
     refine ⟨_,rfl,_,_,rfl,rfl,(show (0:Int) < 8 by decide),rfl,_,rfl,?_⟩
     by_cases y1:c % 8=1
     · refine iteDT (congrArg V.int y1) ?_
       refine ⟨_,rfl,_,rfl,l2,λqz hqz=>?_⟩
       have sn1:=same_new (o:=.lst [V.int 1,V.int (-1)]) hqz
       have fn1:upd H1 qz (.lst [V.int 1,V.int (-1)]) qz=some (.lst [V.int 1,V.int (-1)]):=upd_same
       have ec1:=sn1 _ _ e1
       have vc1:=sn1 _ _ vca
       have En1:=s1.trans sn1
       generalize upd H1 qz (.lst [V.int 1,V.int (-1)])=Hn1 at sn1 fn1 ec1 vc1 En1 ⊢
       obtain ⟨wz,hwz⟩:∃ wz:Int,atI [V.int 1,V.int (-1)] (if decide (0 < h.o)=true then 1 else 0)=some (.int wz):=by
         cases decide (0 < h.o)
         · exact ⟨1,rfl⟩
         · exact ⟨-1,rfl⟩
       refine ⟨_,rfl,_,_,rfl,rfl,.inr ⟨_,rfl,qz,_,_,_,rfl,rfl,SqL.of fn1,hwz,_,_,rfl,rfl,?_⟩⟩
       refine ⟨_,rfl,_,rfl,_,rfl,l,ts,rfl,SqL.of ec1,λqs2 hqs2=>?_⟩
       have py2:Paired (HV H) (hs.take ka) (cutV ts none (some (c / 8 % (ts.length:Int)))):=by rw [hka,cutV_to];exact paired_take ka pr
       generalize cutV ts none (some (c / 8 % (ts.length:Int)))=ys2 at py2 ⊢
       have sn3:=same_new (o:=.lst ys2) hqs2
       have fn3:upd Hn1 qs2 (.lst ys2) qs2=some (.lst ys2):=upd_same
       have g3_qz:=sn3 _ _ fn1
       have ec3:=sn3 _ _ ec1
       have vc3:=sn3 _ _ vc1
       have En3:=En1.trans sn3
       generalize upd Hn1 qs2 (.lst ys2)=Hn3 at sn3 fn3 g3_qz ec3 vc3 En3 ⊢
       refine ⟨_,rfl,_,rfl,_,rfl,l3,λtt4 htt4=>?_⟩
       have sn5:=same_new (o:=.tup [V.str (Wd.key h.w),V.int h.n,V.int (h.o+wz)]) htt4
       have fn5:upd Hn3 tt4 (.tup [V.str (Wd.key h.w),V.int h.n,V.int (h.o+wz)]) tt4=some (.tup [V.str (Wd.key h.w),V.int h.n,V.int (h.o+wz)]):=upd_same
       have g5_qz:=sn5 _ _ g3_qz
       have g5_qs2:=sn5 _ _ fn3
       have ec5:=sn5 _ _ ec3
       have vc5:=sn5 _ _ vc3
       have En5:=En3.trans sn5
       generalize upd Hn3 tt4 (.tup [V.str (Wd.key h.w),V.int h.n,V.int (h.o+wz)])=Hn5 at sn5 fn5 g5_qz g5_qs2 ec5 vc5 En5 ⊢
       refine ⟨len1v,λql4 hql4=>?_⟩
       have sn6:=same_new (o:=.lst [V.ref tt4]) hql4
       have fn6:upd Hn5 ql4 (.lst [V.ref tt4]) ql4=some (.lst [V.ref tt4]):=upd_same
       have g6_qz:=sn6 _ _ g5_qz
       have g6_qs2:=sn6 _ _ g5_qs2
       have g6_tt4:=sn6 _ _ fn5
       have ec6:=sn6 _ _ ec5
       have vc6:=sn6 _ _ vc5
       have En6:=En5.trans sn6
       generalize upd Hn5 ql4 (.lst [V.ref tt4])=Hn6 at sn6 fn6 g6_qz g6_qs2 g6_tt4 ec6 vc6 En6 ⊢
       refine ⟨qs2,ql4,ys2,[V.ref tt4],rfl,rfl,g6_qs2,fn6,?_,λqc7 hqc7=>?_⟩
       · have z1:=pairedLen (show Paired (HV Hn6) (hs.take ka) (ys2) from (Paired.mapP py2 λ_ _ h=>h.keep En6.kt))
         have z2:=pairedLen (show Paired (HV Hn6) ([⟨h.w,h.n,(h.o+wz)⟩]) ([V.ref tt4]) from (.cons ⟨tt4,rfl,g6_tt4⟩ .nil))
         simp only [List.length_append,List.length_take,List.length_drop,List.length_cons,List.length_nil] at z1 z2
         exact Nat.le_trans (show _ <= 5000 by first | omega | (simp only [List.length_append,List.length_cons,List.length_nil];omega)) (by decide)
       have sn8:=same_new (o:=.lst (ys2++[V.ref tt4])) hqc7
       have fn8:upd Hn6 qc7 (.lst (ys2++[V.ref tt4])) qc7=some (.lst (ys2++[V.ref tt4])):=upd_same
       have g8_qz:=sn8 _ _ g6_qz
       have g8_qs2:=sn8 _ _ g6_qs2
       have g8_tt4:=sn8 _ _ g6_tt4
       have g8_ql4:=sn8 _ _ fn6
       have ec8:=sn8 _ _ ec6
       have vc8:=sn8 _ _ vc6
       have En8:=En6.trans sn8
       generalize upd Hn6 qc7 (.lst (ys2++[V.ref tt4]))=Hn8 at sn8 fn8 g8_qz g8_qs2 g8_tt4 g8_ql4 ec8 vc8 En8 ⊢
       refine ⟨_,rfl,_,rfl,_,_,rfl,rfl,_,rfl,l,ts,rfl,SqL.of ec8,λqs9 hqs9=>?_⟩
       have py9:Paired (HV H) (hs.drop (ka+1)) (cutV ts (some ((c / 8 % (ts.length:Int))+1)) none):=by rw [hka,show ((ka:Int)+1)=((ka+1:Nat):Int) from rfl,cutV_from];exact paired_drop (ka+1) pr
       generalize cutV ts (some ((c / 8 % (ts.length:Int))+1)) none=ys9 at py9 ⊢
       have sn10:=same_new (o:=.lst ys9) hqs9
       have fn10:upd Hn8 qs9 (.lst ys9) qs9=some (.lst ys9):=upd_same
       have g10_qz:=sn10 _ _ g8_qz
       have g10_qs2:=sn10 _ _ g8_qs2
       have g10_tt4:=sn10 _ _ g8_tt4
       have g10_ql4:=sn10 _ _ g8_ql4
       have g10_qc7:=sn10 _ _ fn8
       have ec10:=sn10 _ _ ec8
       have vc10:=sn10 _ _ vc8
       have En10:=En8.trans sn10
       generalize upd Hn8 qs9 (.lst ys9)=Hn10 at sn10 fn10 g10_qz g10_qs2 g10_tt4 g10_ql4 g10_qc7 ec10 vc10 En10 ⊢
       refine ⟨qc7,qs9,(ys2++[V.ref tt4]),ys9,rfl,rfl,g10_qc7,fn10,?_,λqc11 hqc11=>?_⟩
       · have z1:=pairedLen (show Paired (HV Hn10) ((hs.take ka)++([⟨h.w,h.n,(h.o+wz)⟩])) ((ys2++[V.ref tt4])) from (paired_app (Paired.mapP py2 λ_ _ h=>h.keep En10.kt) (.cons ⟨tt4,rfl,g10_tt4⟩ .nil)))
         have z2:=pairedLen (show Paired (HV Hn10) (hs.drop (ka+1)) (ys9) from (Paired.mapP py9 λ_ _ h=>h.keep En10.kt))
         simp only [List.length_append,List.length_take,List.length_drop,List.length_cons,List.length_nil] at z1 z2
         exact Nat.le_trans (show _ <= 5000 by first | omega | (simp only [List.length_append,List.length_cons,List.length_nil];omega)) (by decide)
       have sn12:=same_new (o:=.lst ((ys2++[V.ref tt4])++ys9)) hqc11
       have fn12:upd Hn10 qc11 (.lst ((ys2++[V.ref tt4])++ys9)) qc11=some (.lst ((ys2++[V.ref tt4])++ys9)):=upd_same
       have g12_qz:=sn12 _ _ g10_qz
       have g12_qs2:=sn12 _ _ g10_qs2
       have g12_tt4:=sn12 _ _ g10_tt4
       have g12_ql4:=sn12 _ _ g10_ql4
       have g12_qc7:=sn12 _ _ g10_qc7
       have g12_qs9:=sn12 _ _ fn10
       have ec12:=sn12 _ _ ec10
       have vc12:=sn12 _ _ vc10
       have En12:=En10.trans sn12
       generalize upd Hn10 qc11 (.lst ((ys2++[V.ref tt4])++ys9))=Hn12 at sn12 fn12 g12_qz g12_qs2 g12_tt4 g12_ql4 g12_qc7 g12_qs9 ec12 vc12 En12 ⊢
       exact k qc11 Hn12 (((hs.take ka)++([⟨h.w,h.n,(h.o+wz)⟩]))++(hs.drop (ka+1))) En12 ⟨_,fn12,(paired_app (paired_app (Paired.mapP py2 λ_ _ h=>h.keep En12.kt) (.cons ⟨tt4,rfl,g12_tt4⟩ .nil)) (Paired.mapP py9 λ_ _ h=>h.keep En12.kt))⟩ (by simp only [List.length_append,List.length_take,List.length_drop,List.length_cons,List.length_nil];omega) (by
           intro x hx
           simp only [List.mem_append,List.mem_cons,List.not_mem_nil,or_false] at hx
           first
           | (rcases hx with (hx | rfl) | hx
              · exact hb9 x (List.mem_of_mem_take hx)
              · first | exact hh9 | exact ⟨Int.emod_nonneg _ (by decide),Int.emod_lt_of_pos _ (by decide)⟩
              · exact hb9 x (List.mem_of_mem_drop hx))
           | (rcases hx with ((hx | hx) | rfl) | hx
              · exact hb9 x (List.mem_of_mem_take hx)
              · exact hb9 x (List.mem_of_mem_drop (List.mem_of_mem_take hx))
              · exact hh9
              · exact hb9 x (List.mem_of_mem_drop hx))
           | (rcases hx with (hx | hx) | rfl
              · exact hb9 x (List.mem_of_mem_take hx)
              · exact hb9 x (List.mem_of_mem_drop hx)
              · exact hh9)
           | (rcases hx with hx | hx
              · exact hb9 x (List.mem_of_mem_take hx)
              · exact hb9 x (List.mem_of_mem_drop hx)))
     refine iteDF (λz=>y1 (vint_inj z)) ?_
     refine ⟨_,rfl,_,_,rfl,rfl,(show (0:Int) < 8 by decide),rfl,_,rfl,?_⟩
     by_cases y2:c % 8=2
     · refine iteDT (congrArg V.int y2) ?_
       refine ⟨_,rfl,_,_,rfl,rfl,_,rfl,_,_,rfl,rfl,⟨by decide,by decide⟩,_,_,rfl,rfl,(show (0:Int) < 8 by decide),_,_,rfl,rfl,_,_,rfl,rfl,(show (0:Int) < 9 by decide),?_⟩
       refine ⟨_,rfl,_,rfl,_,rfl,l,ts,rfl,SqL.of e1,λqs1 hqs1=>?_⟩
       have py1:Paired (HV H) (hs.take ka) (cutV ts none (some (c / 8 % (ts.length:Int)))):=by rw [hka,cutV_to];exact paired_take ka pr
       generalize cutV ts none (some (c / 8 % (ts.length:Int)))=ys1 at py1 ⊢
       have sn2:=same_new (o:=.lst ys1) hqs1
       have fn2:upd H1 qs1 (.lst ys1) qs1=some (.lst ys1):=upd_same
       have ec2:=sn2 _ _ e1
       have vc2:=sn2 _ _ vca
       have En2:=s1.trans sn2
       generalize upd H1 qs1 (.lst ys1)=Hn2 at sn2 fn2 ec2 vc2 En2 ⊢
       refine ⟨_,rfl,_,rfl,_,rfl,l3,λtt3 htt3=>?_⟩
       have sn4:=same_new (o:=.tup [V.str (Wd.key h.w),V.int ((h.n+1+c / 800 % 8) % 9),V.int h.o]) htt3
       have fn4:upd Hn2 tt3 (.tup [V.str (Wd.key h.w),V.int ((h.n+1+c / 800 % 8) % 9),V.int h.o]) tt3=some (.tup [V.str (Wd.key h.w),V.int ((h.n+1+c / 800 % 8) % 9),V.int h.o]):=upd_same
       have g4_qs1:=sn4 _ _ fn2
       have ec4:=sn4 _ _ ec2
       have vc4:=sn4 _ _ vc2
       have En4:=En2.trans sn4
       generalize upd Hn2 tt3 (.tup [V.str (Wd.key h.w),V.int ((h.n+1+c / 800 % 8) % 9),V.int h.o])=Hn4 at sn4 fn4 g4_qs1 ec4 vc4 En4 ⊢
       refine ⟨len1v,λql3 hql3=>?_⟩
       have sn5:=same_new (o:=.lst [V.ref tt3]) hql3
       have fn5:upd Hn4 ql3 (.lst [V.ref tt3]) ql3=some (.lst [V.ref tt3]):=upd_same
       have g5_qs1:=sn5 _ _ g4_qs1
       have g5_tt3:=sn5 _ _ fn4
       have ec5:=sn5 _ _ ec4
       have vc5:=sn5 _ _ vc4
       have En5:=En4.trans sn5
       generalize upd Hn4 ql3 (.lst [V.ref tt3])=Hn5 at sn5 fn5 g5_qs1 g5_tt3 ec5 vc5 En5 ⊢
       refine ⟨qs1,ql3,ys1,[V.ref tt3],rfl,rfl,g5_qs1,fn5,?_,λqc6 hqc6=>?_⟩
       · have z1:=pairedLen (show Paired (HV Hn5) (hs.take ka) (ys1) from (Paired.mapP py1 λ_ _ h=>h.keep En5.kt))
         have z2:=pairedLen (show Paired (HV Hn5) ([⟨h.w,((h.n+1+c / 800 % 8) % 9),h.o⟩]) ([V.ref tt3]) from (.cons ⟨tt3,rfl,g5_tt3⟩ .nil))
         simp only [List.length_append,List.length_take,List.length_drop,List.length_cons,List.length_nil] at z1 z2
         exact Nat.le_trans (show _ <= 5000 by first | omega | (simp only [List.length_append,List.length_cons,List.length_nil];omega)) (by decide)
       have sn7:=same_new (o:=.lst (ys1++[V.ref tt3])) hqc6
       have fn7:upd Hn5 qc6 (.lst (ys1++[V.ref tt3])) qc6=some (.lst (ys1++[V.ref tt3])):=upd_same
       have g7_qs1:=sn7 _ _ g5_qs1
       have g7_tt3:=sn7 _ _ g5_tt3
       have g7_ql3:=sn7 _ _ fn5
       have ec7:=sn7 _ _ ec5
       have vc7:=sn7 _ _ vc5
       have En7:=En5.trans sn7
       generalize upd Hn5 qc6 (.lst (ys1++[V.ref tt3]))=Hn7 at sn7 fn7 g7_qs1 g7_tt3 g7_ql3 ec7 vc7 En7 ⊢
       refine ⟨_,rfl,_,rfl,_,_,rfl,rfl,_,rfl,l,ts,rfl,SqL.of ec7,λqs8 hqs8=>?_⟩
       have py8:Paired (HV H) (hs.drop (ka+1)) (cutV ts (some ((c / 8 % (ts.length:Int))+1)) none):=by rw [hka,show ((ka:Int)+1)=((ka+1:Nat):Int) from rfl,cutV_from];exact paired_drop (ka+1) pr
       generalize cutV ts (some ((c / 8 % (ts.length:Int))+1)) none=ys8 at py8 ⊢
       have sn9:=same_new (o:=.lst ys8) hqs8
       have fn9:upd Hn7 qs8 (.lst ys8) qs8=some (.lst ys8):=upd_same
       have g9_qs1:=sn9 _ _ g7_qs1
       have g9_tt3:=sn9 _ _ g7_tt3
       have g9_ql3:=sn9 _ _ g7_ql3
       have g9_qc6:=sn9 _ _ fn7
       have ec9:=sn9 _ _ ec7
       have vc9:=sn9 _ _ vc7
       have En9:=En7.trans sn9
       generalize upd Hn7 qs8 (.lst ys8)=Hn9 at sn9 fn9 g9_qs1 g9_tt3 g9_ql3 g9_qc6 ec9 vc9 En9 ⊢
       refine ⟨qc6,qs8,(ys1++[V.ref tt3]),ys8,rfl,rfl,g9_qc6,fn9,?_,λqc10 hqc10=>?_⟩
       · have z1:=pairedLen (show Paired (HV Hn9) ((hs.take ka)++([⟨h.w,((h.n+1+c / 800 % 8) % 9),h.o⟩])) ((ys1++[V.ref tt3])) from (paired_app (Paired.mapP py1 λ_ _ h=>h.keep En9.kt) (.cons ⟨tt3,rfl,g9_tt3⟩ .nil)))
         have z2:=pairedLen (show Paired (HV Hn9) (hs.drop (ka+1)) (ys8) from (Paired.mapP py8 λ_ _ h=>h.keep En9.kt))
         simp only [List.length_append,List.length_take,List.length_drop,List.length_cons,List.length_nil] at z1 z2
         exact Nat.le_trans (show _ <= 5000 by first | omega | (simp only [List.length_append,List.length_cons,List.length_nil];omega)) (by decide)
       have sn11:=same_new (o:=.lst ((ys1++[V.ref tt3])++ys8)) hqc10
       have fn11:upd Hn9 qc10 (.lst ((ys1++[V.ref tt3])++ys8)) qc10=some (.lst ((ys1++[V.ref tt3])++ys8)):=upd_same
       have g11_qs1:=sn11 _ _ g9_qs1
       have g11_tt3:=sn11 _ _ g9_tt3
       have g11_ql3:=sn11 _ _ g9_ql3
       have g11_qc6:=sn11 _ _ g9_qc6
       have g11_qs8:=sn11 _ _ fn9
       have ec11:=sn11 _ _ ec9
       have vc11:=sn11 _ _ vc9
       have En11:=En9.trans sn11
       generalize upd Hn9 qc10 (.lst ((ys1++[V.ref tt3])++ys8))=Hn11 at sn11 fn11 g11_qs1 g11_tt3 g11_ql3 g11_qc6 g11_qs8 ec11 vc11 En11 ⊢
       exact k qc10 Hn11 (((hs.take ka)++([⟨h.w,((h.n+1+c / 800 % 8) % 9),h.o⟩]))++(hs.drop (ka+1))) En11 ⟨_,fn11,(paired_app (paired_app (Paired.mapP py1 λ_ _ h=>h.keep En11.kt) (.cons ⟨tt3,rfl,g11_tt3⟩ .nil)) (Paired.mapP py8 λ_ _ h=>h.keep En11.kt))⟩ (by simp only [List.length_append,List.length_take,List.length_drop,List.length_cons,List.length_nil];omega) (by
           intro x hx
           simp only [List.mem_append,List.mem_cons,List.not_mem_nil,or_false] at hx
           first
           | (rcases hx with (hx | rfl) | hx
              · exact hb9 x (List.mem_of_mem_take hx)
              · first | exact hh9 | exact ⟨Int.emod_nonneg _ (by decide),Int.emod_lt_of_pos _ (by decide)⟩
              · exact hb9 x (List.mem_of_mem_drop hx))
           | (rcases hx with ((hx | hx) | rfl) | hx
              · exact hb9 x (List.mem_of_mem_take hx)
              · exact hb9 x (List.mem_of_mem_drop (List.mem_of_mem_take hx))
              · exact hh9
              · exact hb9 x (List.mem_of_mem_drop hx))
           | (rcases hx with (hx | hx) | rfl
              · exact hb9 x (List.mem_of_mem_take hx)
              · exact hb9 x (List.mem_of_mem_drop hx)
              · exact hh9)
           | (rcases hx with hx | hx
              · exact hb9 x (List.mem_of_mem_take hx)
              · exact hb9 x (List.mem_of_mem_drop hx)))
     refine iteDF (λz=>y2 (vint_inj z)) ?_
     refine ⟨_,rfl,_,_,rfl,rfl,(show (0:Int) < 8 by decide),rfl,_,rfl,?_⟩
     by_cases y3:c % 8=3
     · refine iteDT (congrArg V.int y3) ?_
       refine ⟨(by show 4 <= sizeLine;decide),λqz hqz=>?_⟩
       have sn1:=same_new (o:=.lst [V.str "asked",V.str "taken",V.str "answered",V.str "handed"]) hqz
       have fn1:upd H1 qz (.lst [V.str "asked",V.str "taken",V.str "answered",V.str "handed"]) qz=some (.lst [V.str "asked",V.str "taken",V.str "answered",V.str "handed"]):=upd_same
       have ec1:=sn1 _ _ e1
       have vc1:=sn1 _ _ vca
       have En1:=s1.trans sn1
       generalize upd H1 qz (.lst [V.str "asked",V.str "taken",V.str "answered",V.str "handed"])=Hn1 at sn1 fn1 ec1 vc1 En1 ⊢
       obtain ⟨wz,hwz⟩:∃ wz:Wd,atI [V.str "asked",V.str "taken",V.str "answered",V.str "handed"] (c / 800 % 4)=some (.str wz.key):=by
         obtain ⟨v,hv,mv⟩:=at_in (xs:=[V.str "asked",V.str "taken",V.str "answered",V.str "handed"]) (i:=c / 800 % 4) (Int.emod_nonneg _ (by decide)) (Int.emod_lt_of_pos _ (by decide))
         simp only [List.mem_cons,List.not_mem_nil,or_false] at mv
         rcases mv with z | z | z | z
         · exact ⟨.asked,by rw [hv,z];rfl⟩
         · exact ⟨.taken,by rw [hv,z];rfl⟩
         · exact ⟨.answered,by rw [hv,z];rfl⟩
         · exact ⟨.handed,by rw [hv,z];rfl⟩
       refine ⟨_,rfl,_,_,rfl,rfl,⟨by decide,by decide⟩,_,_,rfl,rfl,(show (0:Int) < 4 by decide),qz,_,_,_,rfl,rfl,SqL.of fn1,hwz,?_⟩
       refine ⟨_,rfl,_,rfl,_,rfl,l,ts,rfl,SqL.of ec1,λqs2 hqs2=>?_⟩
       have py2:Paired (HV H) (hs.take ka) (cutV ts none (some (c / 8 % (ts.length:Int)))):=by rw [hka,cutV_to];exact paired_take ka pr
       generalize cutV ts none (some (c / 8 % (ts.length:Int)))=ys2 at py2 ⊢
       have sn3:=same_new (o:=.lst ys2) hqs2
       have fn3:upd Hn1 qs2 (.lst ys2) qs2=some (.lst ys2):=upd_same
       have g3_qz:=sn3 _ _ fn1
       have ec3:=sn3 _ _ ec1
       have vc3:=sn3 _ _ vc1
       have En3:=En1.trans sn3
       generalize upd Hn1 qs2 (.lst ys2)=Hn3 at sn3 fn3 g3_qz ec3 vc3 En3 ⊢
       refine ⟨_,rfl,_,rfl,_,rfl,l3,λtt4 htt4=>?_⟩
       have sn5:=same_new (o:=.tup [V.str (Wd.key wz),V.int h.n,V.int h.o]) htt4
       have fn5:upd Hn3 tt4 (.tup [V.str (Wd.key wz),V.int h.n,V.int h.o]) tt4=some (.tup [V.str (Wd.key wz),V.int h.n,V.int h.o]):=upd_same
       have g5_qz:=sn5 _ _ g3_qz
       have g5_qs2:=sn5 _ _ fn3
       have ec5:=sn5 _ _ ec3
       have vc5:=sn5 _ _ vc3
       have En5:=En3.trans sn5
       generalize upd Hn3 tt4 (.tup [V.str (Wd.key wz),V.int h.n,V.int h.o])=Hn5 at sn5 fn5 g5_qz g5_qs2 ec5 vc5 En5 ⊢
       refine ⟨len1v,λql4 hql4=>?_⟩
       have sn6:=same_new (o:=.lst [V.ref tt4]) hql4
       have fn6:upd Hn5 ql4 (.lst [V.ref tt4]) ql4=some (.lst [V.ref tt4]):=upd_same
       have g6_qz:=sn6 _ _ g5_qz
       have g6_qs2:=sn6 _ _ g5_qs2
       have g6_tt4:=sn6 _ _ fn5
       have ec6:=sn6 _ _ ec5
       have vc6:=sn6 _ _ vc5
       have En6:=En5.trans sn6
       generalize upd Hn5 ql4 (.lst [V.ref tt4])=Hn6 at sn6 fn6 g6_qz g6_qs2 g6_tt4 ec6 vc6 En6 ⊢
       refine ⟨qs2,ql4,ys2,[V.ref tt4],rfl,rfl,g6_qs2,fn6,?_,λqc7 hqc7=>?_⟩
       · have z1:=pairedLen (show Paired (HV Hn6) (hs.take ka) (ys2) from (Paired.mapP py2 λ_ _ h=>h.keep En6.kt))
         have z2:=pairedLen (show Paired (HV Hn6) ([⟨wz,h.n,h.o⟩]) ([V.ref tt4]) from (.cons ⟨tt4,rfl,g6_tt4⟩ .nil))
         simp only [List.length_append,List.length_take,List.length_drop,List.length_cons,List.length_nil] at z1 z2
         exact Nat.le_trans (show _ <= 5000 by first | omega | (simp only [List.length_append,List.length_cons,List.length_nil];omega)) (by decide)
       have sn8:=same_new (o:=.lst (ys2++[V.ref tt4])) hqc7
       have fn8:upd Hn6 qc7 (.lst (ys2++[V.ref tt4])) qc7=some (.lst (ys2++[V.ref tt4])):=upd_same
       have g8_qz:=sn8 _ _ g6_qz
       have g8_qs2:=sn8 _ _ g6_qs2
       have g8_tt4:=sn8 _ _ g6_tt4
       have g8_ql4:=sn8 _ _ fn6
       have ec8:=sn8 _ _ ec6
       have vc8:=sn8 _ _ vc6
       have En8:=En6.trans sn8
       generalize upd Hn6 qc7 (.lst (ys2++[V.ref tt4]))=Hn8 at sn8 fn8 g8_qz g8_qs2 g8_tt4 g8_ql4 ec8 vc8 En8 ⊢
       refine ⟨_,rfl,_,rfl,_,_,rfl,rfl,_,rfl,l,ts,rfl,SqL.of ec8,λqs9 hqs9=>?_⟩
       have py9:Paired (HV H) (hs.drop (ka+1)) (cutV ts (some ((c / 8 % (ts.length:Int))+1)) none):=by rw [hka,show ((ka:Int)+1)=((ka+1:Nat):Int) from rfl,cutV_from];exact paired_drop (ka+1) pr
       generalize cutV ts (some ((c / 8 % (ts.length:Int))+1)) none=ys9 at py9 ⊢
       have sn10:=same_new (o:=.lst ys9) hqs9
       have fn10:upd Hn8 qs9 (.lst ys9) qs9=some (.lst ys9):=upd_same
       have g10_qz:=sn10 _ _ g8_qz
       have g10_qs2:=sn10 _ _ g8_qs2
       have g10_tt4:=sn10 _ _ g8_tt4
       have g10_ql4:=sn10 _ _ g8_ql4
       have g10_qc7:=sn10 _ _ fn8
       have ec10:=sn10 _ _ ec8
       have vc10:=sn10 _ _ vc8
       have En10:=En8.trans sn10
       generalize upd Hn8 qs9 (.lst ys9)=Hn10 at sn10 fn10 g10_qz g10_qs2 g10_tt4 g10_ql4 g10_qc7 ec10 vc10 En10 ⊢
       refine ⟨qc7,qs9,(ys2++[V.ref tt4]),ys9,rfl,rfl,g10_qc7,fn10,?_,λqc11 hqc11=>?_⟩
       · have z1:=pairedLen (show Paired (HV Hn10) ((hs.take ka)++([⟨wz,h.n,h.o⟩])) ((ys2++[V.ref tt4])) from (paired_app (Paired.mapP py2 λ_ _ h=>h.keep En10.kt) (.cons ⟨tt4,rfl,g10_tt4⟩ .nil)))
         have z2:=pairedLen (show Paired (HV Hn10) (hs.drop (ka+1)) (ys9) from (Paired.mapP py9 λ_ _ h=>h.keep En10.kt))
         simp only [List.length_append,List.length_take,List.length_drop,List.length_cons,List.length_nil] at z1 z2
         exact Nat.le_trans (show _ <= 5000 by first | omega | (simp only [List.length_append,List.length_cons,List.length_nil];omega)) (by decide)
       have sn12:=same_new (o:=.lst ((ys2++[V.ref tt4])++ys9)) hqc11
       have fn12:upd Hn10 qc11 (.lst ((ys2++[V.ref tt4])++ys9)) qc11=some (.lst ((ys2++[V.ref tt4])++ys9)):=upd_same
       have g12_qz:=sn12 _ _ g10_qz
       have g12_qs2:=sn12 _ _ g10_qs2
       have g12_tt4:=sn12 _ _ g10_tt4
       have g12_ql4:=sn12 _ _ g10_ql4
       have g12_qc7:=sn12 _ _ g10_qc7
       have g12_qs9:=sn12 _ _ fn10
       have ec12:=sn12 _ _ ec10
       have vc12:=sn12 _ _ vc10
       have En12:=En10.trans sn12
       generalize upd Hn10 qc11 (.lst ((ys2++[V.ref tt4])++ys9))=Hn12 at sn12 fn12 g12_qz g12_qs2 g12_tt4 g12_ql4 g12_qc7 g12_qs9 ec12 vc12 En12 ⊢
       exact k qc11 Hn12 (((hs.take ka)++([⟨wz,h.n,h.o⟩]))++(hs.drop (ka+1))) En12 ⟨_,fn12,(paired_app (paired_app (Paired.mapP py2 λ_ _ h=>h.keep En12.kt) (.cons ⟨tt4,rfl,g12_tt4⟩ .nil)) (Paired.mapP py9 λ_ _ h=>h.keep En12.kt))⟩ (by simp only [List.length_append,List.length_take,List.length_drop,List.length_cons,List.length_nil];omega) (by
           intro x hx
           simp only [List.mem_append,List.mem_cons,List.not_mem_nil,or_false] at hx
           first
           | (rcases hx with (hx | rfl) | hx
              · exact hb9 x (List.mem_of_mem_take hx)
              · first | exact hh9 | exact ⟨Int.emod_nonneg _ (by decide),Int.emod_lt_of_pos _ (by decide)⟩
              · exact hb9 x (List.mem_of_mem_drop hx))
           | (rcases hx with ((hx | hx) | rfl) | hx
              · exact hb9 x (List.mem_of_mem_take hx)
              · exact hb9 x (List.mem_of_mem_drop (List.mem_of_mem_take hx))
              · exact hh9
              · exact hb9 x (List.mem_of_mem_drop hx))
           | (rcases hx with (hx | hx) | rfl
              · exact hb9 x (List.mem_of_mem_take hx)
              · exact hb9 x (List.mem_of_mem_drop hx)
              · exact hh9)
           | (rcases hx with hx | hx
              · exact hb9 x (List.mem_of_mem_take hx)
              · exact hb9 x (List.mem_of_mem_drop hx)))
     refine iteDF (λz=>y3 (vint_inj z)) ?_
     refine ⟨_,rfl,_,_,rfl,rfl,(show (0:Int) < 8 by decide),rfl,_,rfl,?_⟩
     by_cases y4:c % 8=4
     · refine iteDT (congrArg V.int y4) ?_
       refine ⟨_,rfl,_,rfl,_,rfl,l,ts,rfl,SqL.of e1,λqs1 hqs1=>?_⟩
       have py1:Paired (HV H) (hs.take ka) (cutV ts none (some (c / 8 % (ts.length:Int)))):=by rw [hka,cutV_to];exact paired_take ka pr
       generalize cutV ts none (some (c / 8 % (ts.length:Int)))=ys1 at py1 ⊢
       have sn2:=same_new (o:=.lst ys1) hqs1
       have fn2:upd H1 qs1 (.lst ys1) qs1=some (.lst ys1):=upd_same
       have ec2:=sn2 _ _ e1
       have vc2:=sn2 _ _ vca
       have En2:=s1.trans sn2
       generalize upd H1 qs1 (.lst ys1)=Hn2 at sn2 fn2 ec2 vc2 En2 ⊢
       refine ⟨_,rfl,_,rfl,_,_,rfl,rfl,_,rfl,_,rfl,_,_,rfl,rfl,_,rfl,l,ts,rfl,SqL.of ec2,λqs3 hqs3=>?_⟩
       have py3:Paired (HV H) ((hs.drop (ka+1)).take (ka+2 - (ka+1))) (cutV ts (some ((c / 8 % (ts.length:Int))+1)) (some ((c / 8 % (ts.length:Int))+2))):=by rw [hka,show ((ka:Int)+1)=((ka+1:Nat):Int) from rfl,show ((ka:Int)+2)=((ka+2:Nat):Int) from rfl,cutV_mid];exact paired_take _ (paired_drop (ka+1) pr)
       generalize cutV ts (some ((c / 8 % (ts.length:Int))+1)) (some ((c / 8 % (ts.length:Int))+2))=ys3 at py3 ⊢
       have sn4:=same_new (o:=.lst ys3) hqs3
       have fn4:upd Hn2 qs3 (.lst ys3) qs3=some (.lst ys3):=upd_same
       have g4_qs1:=sn4 _ _ fn2
       have ec4:=sn4 _ _ ec2
       have vc4:=sn4 _ _ vc2
       have En4:=En2.trans sn4
       generalize upd Hn2 qs3 (.lst ys3)=Hn4 at sn4 fn4 g4_qs1 ec4 vc4 En4 ⊢
       refine ⟨qs1,qs3,ys1,ys3,rfl,rfl,g4_qs1,fn4,?_,λqc5 hqc5=>?_⟩
       · have z1:=pairedLen (show Paired (HV Hn4) (hs.take ka) (ys1) from (Paired.mapP py1 λ_ _ h=>h.keep En4.kt))
         have z2:=pairedLen (show Paired (HV Hn4) ((hs.drop (ka+1)).take (ka+2 - (ka+1))) (ys3) from (Paired.mapP py3 λ_ _ h=>h.keep En4.kt))
         simp only [List.length_append,List.length_take,List.length_drop,List.length_cons,List.length_nil] at z1 z2
         exact Nat.le_trans (show _ <= 5000 by first | omega | (simp only [List.length_append,List.length_cons,List.length_nil];omega)) (by decide)
       have sn6:=same_new (o:=.lst (ys1++ys3)) hqc5
       have fn6:upd Hn4 qc5 (.lst (ys1++ys3)) qc5=some (.lst (ys1++ys3)):=upd_same
       have g6_qs1:=sn6 _ _ g4_qs1
       have g6_qs3:=sn6 _ _ fn4
       have ec6:=sn6 _ _ ec4
       have vc6:=sn6 _ _ vc4
       have En6:=En4.trans sn6
       generalize upd Hn4 qc5 (.lst (ys1++ys3))=Hn6 at sn6 fn6 g6_qs1 g6_qs3 ec6 vc6 En6 ⊢
       refine ⟨_,rfl,?_⟩
       refine ⟨_,rfl,_,rfl,l,ts,_,_,rfl,rfl,SqL.of ec6,hatv,len1v,λql7 hql7=>?_⟩
       have sn8:=same_new (o:=.lst [V.ref ca]) hql7
       have fn8:upd Hn6 ql7 (.lst [V.ref ca]) ql7=some (.lst [V.ref ca]):=upd_same
       have g8_qs1:=sn8 _ _ g6_qs1
       have g8_qs3:=sn8 _ _ g6_qs3
       have g8_qc5:=sn8 _ _ fn6
       have ec8:=sn8 _ _ ec6
       have vc8:=sn8 _ _ vc6
       have En8:=En6.trans sn8
       generalize upd Hn6 ql7 (.lst [V.ref ca])=Hn8 at sn8 fn8 g8_qs1 g8_qs3 g8_qc5 ec8 vc8 En8 ⊢
       refine ⟨qc5,ql7,(ys1++ys3),[V.ref ca],rfl,rfl,g8_qc5,fn8,?_,λqc9 hqc9=>?_⟩
       · have z1:=pairedLen (show Paired (HV Hn8) ((hs.take ka)++((hs.drop (ka+1)).take (ka+2 - (ka+1)))) ((ys1++ys3)) from (paired_app (Paired.mapP py1 λ_ _ h=>h.keep En8.kt) (Paired.mapP py3 λ_ _ h=>h.keep En8.kt)))
         have z2:=pairedLen (show Paired (HV Hn8) ([h]) ([V.ref ca]) from (.cons ⟨ca,rfl,vc8⟩ .nil))
         simp only [List.length_append,List.length_take,List.length_drop,List.length_cons,List.length_nil] at z1 z2
         exact Nat.le_trans (show _ <= 5000 by first | omega | (simp only [List.length_append,List.length_cons,List.length_nil];omega)) (by decide)
       have sn10:=same_new (o:=.lst ((ys1++ys3)++[V.ref ca])) hqc9
       have fn10:upd Hn8 qc9 (.lst ((ys1++ys3)++[V.ref ca])) qc9=some (.lst ((ys1++ys3)++[V.ref ca])):=upd_same
       have g10_qs1:=sn10 _ _ g8_qs1
       have g10_qs3:=sn10 _ _ g8_qs3
       have g10_qc5:=sn10 _ _ g8_qc5
       have g10_ql7:=sn10 _ _ fn8
       have ec10:=sn10 _ _ ec8
       have vc10:=sn10 _ _ vc8
       have En10:=En8.trans sn10
       generalize upd Hn8 qc9 (.lst ((ys1++ys3)++[V.ref ca]))=Hn10 at sn10 fn10 g10_qs1 g10_qs3 g10_qc5 g10_ql7 ec10 vc10 En10 ⊢
       refine ⟨_,rfl,_,rfl,_,_,rfl,rfl,_,rfl,l,ts,rfl,SqL.of ec10,λqs11 hqs11=>?_⟩
       have py11:Paired (HV H) (hs.drop (ka+2)) (cutV ts (some ((c / 8 % (ts.length:Int))+2)) none):=by rw [hka,show ((ka:Int)+2)=((ka+2:Nat):Int) from rfl,cutV_from];exact paired_drop (ka+2) pr
       generalize cutV ts (some ((c / 8 % (ts.length:Int))+2)) none=ys11 at py11 ⊢
       have sn12:=same_new (o:=.lst ys11) hqs11
       have fn12:upd Hn10 qs11 (.lst ys11) qs11=some (.lst ys11):=upd_same
       have g12_qs1:=sn12 _ _ g10_qs1
       have g12_qs3:=sn12 _ _ g10_qs3
       have g12_qc5:=sn12 _ _ g10_qc5
       have g12_ql7:=sn12 _ _ g10_ql7
       have g12_qc9:=sn12 _ _ fn10
       have ec12:=sn12 _ _ ec10
       have vc12:=sn12 _ _ vc10
       have En12:=En10.trans sn12
       generalize upd Hn10 qs11 (.lst ys11)=Hn12 at sn12 fn12 g12_qs1 g12_qs3 g12_qc5 g12_ql7 g12_qc9 ec12 vc12 En12 ⊢
       refine ⟨qc9,qs11,((ys1++ys3)++[V.ref ca]),ys11,rfl,rfl,g12_qc9,fn12,?_,λqc13 hqc13=>?_⟩
       · have z1:=pairedLen (show Paired (HV Hn12) (((hs.take ka)++((hs.drop (ka+1)).take (ka+2 - (ka+1))))++([h])) (((ys1++ys3)++[V.ref ca])) from (paired_app (paired_app (Paired.mapP py1 λ_ _ h=>h.keep En12.kt) (Paired.mapP py3 λ_ _ h=>h.keep En12.kt)) (.cons ⟨ca,rfl,vc12⟩ .nil)))
         have z2:=pairedLen (show Paired (HV Hn12) (hs.drop (ka+2)) (ys11) from (Paired.mapP py11 λ_ _ h=>h.keep En12.kt))
         simp only [List.length_append,List.length_take,List.length_drop,List.length_cons,List.length_nil] at z1 z2
         exact Nat.le_trans (show _ <= 5000 by first | omega | (simp only [List.length_append,List.length_cons,List.length_nil];omega)) (by decide)
       have sn14:=same_new (o:=.lst (((ys1++ys3)++[V.ref ca])++ys11)) hqc13
       have fn14:upd Hn12 qc13 (.lst (((ys1++ys3)++[V.ref ca])++ys11)) qc13=some (.lst (((ys1++ys3)++[V.ref ca])++ys11)):=upd_same
       have g14_qs1:=sn14 _ _ g12_qs1
       have g14_qs3:=sn14 _ _ g12_qs3
       have g14_qc5:=sn14 _ _ g12_qc5
       have g14_ql7:=sn14 _ _ g12_ql7
       have g14_qc9:=sn14 _ _ g12_qc9
       have g14_qs11:=sn14 _ _ fn12
       have ec14:=sn14 _ _ ec12
       have vc14:=sn14 _ _ vc12
       have En14:=En12.trans sn14
       generalize upd Hn12 qc13 (.lst (((ys1++ys3)++[V.ref ca])++ys11))=Hn14 at sn14 fn14 g14_qs1 g14_qs3 g14_qc5 g14_ql7 g14_qc9 g14_qs11 ec14 vc14 En14 ⊢
       exact k qc13 Hn14 ((((hs.take ka)++((hs.drop (ka+1)).take (ka+2 - (ka+1))))++([h]))++(hs.drop (ka+2))) En14 ⟨_,fn14,(paired_app (paired_app (paired_app (Paired.mapP py1 λ_ _ h=>h.keep En14.kt) (Paired.mapP py3 λ_ _ h=>h.keep En14.kt)) (.cons ⟨ca,rfl,vc14⟩ .nil)) (Paired.mapP py11 λ_ _ h=>h.keep En14.kt))⟩ (by simp only [List.length_append,List.length_take,List.length_drop,List.length_cons,List.length_nil];omega) (by
           intro x hx
           simp only [List.mem_append,List.mem_cons,List.not_mem_nil,or_false] at hx
           first
           | (rcases hx with (hx | rfl) | hx
              · exact hb9 x (List.mem_of_mem_take hx)
              · first | exact hh9 | exact ⟨Int.emod_nonneg _ (by decide),Int.emod_lt_of_pos _ (by decide)⟩
              · exact hb9 x (List.mem_of_mem_drop hx))
           | (rcases hx with ((hx | hx) | rfl) | hx
              · exact hb9 x (List.mem_of_mem_take hx)
              · exact hb9 x (List.mem_of_mem_drop (List.mem_of_mem_take hx))
              · exact hh9
              · exact hb9 x (List.mem_of_mem_drop hx))
           | (rcases hx with (hx | hx) | rfl
              · exact hb9 x (List.mem_of_mem_take hx)
              · exact hb9 x (List.mem_of_mem_drop hx)
              · exact hh9)
           | (rcases hx with hx | hx
              · exact hb9 x (List.mem_of_mem_take hx)
              · exact hb9 x (List.mem_of_mem_drop hx)))
     refine iteDF (λz=>y4 (vint_inj z)) ?_
     refine ⟨_,rfl,_,_,rfl,rfl,(show (0:Int) < 8 by decide),rfl,_,rfl,?_⟩
     by_cases y5:c % 8=5
     · refine iteDT (congrArg V.int y5) ?_
       refine ⟨_,rfl,_,rfl,_,rfl,l,ts,rfl,SqL.of e1,λqs1 hqs1=>?_⟩
       have py1:Paired (HV H) (hs.take ka) (cutV ts none (some (c / 8 % (ts.length:Int)))):=by rw [hka,cutV_to];exact paired_take ka pr
       generalize cutV ts none (some (c / 8 % (ts.length:Int)))=ys1 at py1 ⊢
       have sn2:=same_new (o:=.lst ys1) hqs1
       have fn2:upd H1 qs1 (.lst ys1) qs1=some (.lst ys1):=upd_same
       have ec2:=sn2 _ _ e1
       have vc2:=sn2 _ _ vca
       have En2:=s1.trans sn2
       generalize upd H1 qs1 (.lst ys1)=Hn2 at sn2 fn2 ec2 vc2 En2 ⊢
       refine ⟨_,rfl,_,rfl,_,_,rfl,rfl,_,rfl,l,ts,rfl,SqL.of ec2,λqs3 hqs3=>?_⟩
       have py3:Paired (HV H) (hs.drop (ka+1)) (cutV ts (some ((c / 8 % (ts.length:Int))+1)) none):=by rw [hka,show ((ka:Int)+1)=((ka+1:Nat):Int) from rfl,cutV_from];exact paired_drop (ka+1) pr
       generalize cutV ts (some ((c / 8 % (ts.length:Int))+1)) none=ys3 at py3 ⊢
       have sn4:=same_new (o:=.lst ys3) hqs3
       have fn4:upd Hn2 qs3 (.lst ys3) qs3=some (.lst ys3):=upd_same
       have g4_qs1:=sn4 _ _ fn2
       have ec4:=sn4 _ _ ec2
       have vc4:=sn4 _ _ vc2
       have En4:=En2.trans sn4
       generalize upd Hn2 qs3 (.lst ys3)=Hn4 at sn4 fn4 g4_qs1 ec4 vc4 En4 ⊢
       refine ⟨qs1,qs3,ys1,ys3,rfl,rfl,g4_qs1,fn4,?_,λqc5 hqc5=>?_⟩
       · have z1:=pairedLen (show Paired (HV Hn4) (hs.take ka) (ys1) from (Paired.mapP py1 λ_ _ h=>h.keep En4.kt))
         have z2:=pairedLen (show Paired (HV Hn4) (hs.drop (ka+1)) (ys3) from (Paired.mapP py3 λ_ _ h=>h.keep En4.kt))
         simp only [List.length_append,List.length_take,List.length_drop,List.length_cons,List.length_nil] at z1 z2
         exact Nat.le_trans (show _ <= 5000 by first | omega | (simp only [List.length_append,List.length_cons,List.length_nil];omega)) (by decide)
       have sn6:=same_new (o:=.lst (ys1++ys3)) hqc5
       have fn6:upd Hn4 qc5 (.lst (ys1++ys3)) qc5=some (.lst (ys1++ys3)):=upd_same
       have g6_qs1:=sn6 _ _ g4_qs1
       have g6_qs3:=sn6 _ _ fn4
       have ec6:=sn6 _ _ ec4
       have vc6:=sn6 _ _ vc4
       have En6:=En4.trans sn6
       generalize upd Hn4 qc5 (.lst (ys1++ys3))=Hn6 at sn6 fn6 g6_qs1 g6_qs3 ec6 vc6 En6 ⊢
       exact k qc5 Hn6 ((hs.take ka)++(hs.drop (ka+1))) En6 ⟨_,fn6,(paired_app (Paired.mapP py1 λ_ _ h=>h.keep En6.kt) (Paired.mapP py3 λ_ _ h=>h.keep En6.kt))⟩ (by simp only [List.length_append,List.length_take,List.length_drop,List.length_cons,List.length_nil];omega) (by
           intro x hx
           simp only [List.mem_append,List.mem_cons,List.not_mem_nil,or_false] at hx
           first
           | (rcases hx with (hx | rfl) | hx
              · exact hb9 x (List.mem_of_mem_take hx)
              · first | exact hh9 | exact ⟨Int.emod_nonneg _ (by decide),Int.emod_lt_of_pos _ (by decide)⟩
              · exact hb9 x (List.mem_of_mem_drop hx))
           | (rcases hx with ((hx | hx) | rfl) | hx
              · exact hb9 x (List.mem_of_mem_take hx)
              · exact hb9 x (List.mem_of_mem_drop (List.mem_of_mem_take hx))
              · exact hh9
              · exact hb9 x (List.mem_of_mem_drop hx))
           | (rcases hx with (hx | hx) | rfl
              · exact hb9 x (List.mem_of_mem_take hx)
              · exact hb9 x (List.mem_of_mem_drop hx)
              · exact hh9)
           | (rcases hx with hx | hx
              · exact hb9 x (List.mem_of_mem_take hx)
              · exact hb9 x (List.mem_of_mem_drop hx)))
     refine iteDF (λz=>y5 (vint_inj z)) ?_
     refine ⟨_,rfl,_,_,rfl,rfl,(show (0:Int) < 8 by decide),rfl,_,rfl,?_⟩
     by_cases y6:c % 8=6
     · refine iteDT (congrArg V.int y6) ?_
       refine ⟨_,rfl,_,rfl,_,rfl,l,ts,rfl,SqL.of e1,λqs1 hqs1=>?_⟩
       have py1:Paired (HV H) (hs.take kt) (cutV ts none (some (c / 800 % (ts.length:Int)))):=by rw [hkt,cutV_to];exact paired_take kt pr
       generalize cutV ts none (some (c / 800 % (ts.length:Int)))=ys1 at py1 ⊢
       have sn2:=same_new (o:=.lst ys1) hqs1
       have fn2:upd H1 qs1 (.lst ys1) qs1=some (.lst ys1):=upd_same
       have ec2:=sn2 _ _ e1
       have vc2:=sn2 _ _ vca
       have En2:=s1.trans sn2
       generalize upd H1 qs1 (.lst ys1)=Hn2 at sn2 fn2 ec2 vc2 En2 ⊢
       refine ⟨_,rfl,_,rfl,l,ts,_,_,rfl,rfl,SqL.of ec2,hatv,len1v,λql3 hql3=>?_⟩
       have sn4:=same_new (o:=.lst [V.ref ca]) hql3
       have fn4:upd Hn2 ql3 (.lst [V.ref ca]) ql3=some (.lst [V.ref ca]):=upd_same
       have g4_qs1:=sn4 _ _ fn2
       have ec4:=sn4 _ _ ec2
       have vc4:=sn4 _ _ vc2
       have En4:=En2.trans sn4
       generalize upd Hn2 ql3 (.lst [V.ref ca])=Hn4 at sn4 fn4 g4_qs1 ec4 vc4 En4 ⊢
       refine ⟨qs1,ql3,ys1,[V.ref ca],rfl,rfl,g4_qs1,fn4,?_,λqc5 hqc5=>?_⟩
       · have z1:=pairedLen (show Paired (HV Hn4) (hs.take kt) (ys1) from (Paired.mapP py1 λ_ _ h=>h.keep En4.kt))
         have z2:=pairedLen (show Paired (HV Hn4) ([h]) ([V.ref ca]) from (.cons ⟨ca,rfl,vc4⟩ .nil))
         simp only [List.length_append,List.length_take,List.length_drop,List.length_cons,List.length_nil] at z1 z2
         exact Nat.le_trans (show _ <= 5000 by first | omega | (simp only [List.length_append,List.length_cons,List.length_nil];omega)) (by decide)
       have sn6:=same_new (o:=.lst (ys1++[V.ref ca])) hqc5
       have fn6:upd Hn4 qc5 (.lst (ys1++[V.ref ca])) qc5=some (.lst (ys1++[V.ref ca])):=upd_same
       have g6_qs1:=sn6 _ _ g4_qs1
       have g6_ql3:=sn6 _ _ fn4
       have ec6:=sn6 _ _ ec4
       have vc6:=sn6 _ _ vc4
       have En6:=En4.trans sn6
       generalize upd Hn4 qc5 (.lst (ys1++[V.ref ca]))=Hn6 at sn6 fn6 g6_qs1 g6_ql3 ec6 vc6 En6 ⊢
       refine ⟨_,rfl,_,rfl,_,rfl,l,ts,rfl,SqL.of ec6,λqs7 hqs7=>?_⟩
       have py7:Paired (HV H) (hs.drop kt) (cutV ts (some (c / 800 % (ts.length:Int))) none):=by rw [hkt,cutV_from];exact paired_drop kt pr
       generalize cutV ts (some (c / 800 % (ts.length:Int))) none=ys7 at py7 ⊢
       have sn8:=same_new (o:=.lst ys7) hqs7
       have fn8:upd Hn6 qs7 (.lst ys7) qs7=some (.lst ys7):=upd_same
       have g8_qs1:=sn8 _ _ g6_qs1
       have g8_ql3:=sn8 _ _ g6_ql3
       have g8_qc5:=sn8 _ _ fn6
       have ec8:=sn8 _ _ ec6
       have vc8:=sn8 _ _ vc6
       have En8:=En6.trans sn8
       generalize upd Hn6 qs7 (.lst ys7)=Hn8 at sn8 fn8 g8_qs1 g8_ql3 g8_qc5 ec8 vc8 En8 ⊢
       refine ⟨qc5,qs7,(ys1++[V.ref ca]),ys7,rfl,rfl,g8_qc5,fn8,?_,λqc9 hqc9=>?_⟩
       · have z1:=pairedLen (show Paired (HV Hn8) ((hs.take kt)++([h])) ((ys1++[V.ref ca])) from (paired_app (Paired.mapP py1 λ_ _ h=>h.keep En8.kt) (.cons ⟨ca,rfl,vc8⟩ .nil)))
         have z2:=pairedLen (show Paired (HV Hn8) (hs.drop kt) (ys7) from (Paired.mapP py7 λ_ _ h=>h.keep En8.kt))
         simp only [List.length_append,List.length_take,List.length_drop,List.length_cons,List.length_nil] at z1 z2
         exact Nat.le_trans (show _ <= 5000 by first | omega | (simp only [List.length_append,List.length_cons,List.length_nil];omega)) (by decide)
       have sn10:=same_new (o:=.lst ((ys1++[V.ref ca])++ys7)) hqc9
       have fn10:upd Hn8 qc9 (.lst ((ys1++[V.ref ca])++ys7)) qc9=some (.lst ((ys1++[V.ref ca])++ys7)):=upd_same
       have g10_qs1:=sn10 _ _ g8_qs1
       have g10_ql3:=sn10 _ _ g8_ql3
       have g10_qc5:=sn10 _ _ g8_qc5
       have g10_qs7:=sn10 _ _ fn8
       have ec10:=sn10 _ _ ec8
       have vc10:=sn10 _ _ vc8
       have En10:=En8.trans sn10
       generalize upd Hn8 qc9 (.lst ((ys1++[V.ref ca])++ys7))=Hn10 at sn10 fn10 g10_qs1 g10_ql3 g10_qc5 g10_qs7 ec10 vc10 En10 ⊢
       exact k qc9 Hn10 (((hs.take kt)++([h]))++(hs.drop kt)) En10 ⟨_,fn10,(paired_app (paired_app (Paired.mapP py1 λ_ _ h=>h.keep En10.kt) (.cons ⟨ca,rfl,vc10⟩ .nil)) (Paired.mapP py7 λ_ _ h=>h.keep En10.kt))⟩ (by simp only [List.length_append,List.length_take,List.length_drop,List.length_cons,List.length_nil];omega) (by
           intro x hx
           simp only [List.mem_append,List.mem_cons,List.not_mem_nil,or_false] at hx
           first
           | (rcases hx with (hx | rfl) | hx
              · exact hb9 x (List.mem_of_mem_take hx)
              · first | exact hh9 | exact ⟨Int.emod_nonneg _ (by decide),Int.emod_lt_of_pos _ (by decide)⟩
              · exact hb9 x (List.mem_of_mem_drop hx))
           | (rcases hx with ((hx | hx) | rfl) | hx
              · exact hb9 x (List.mem_of_mem_take hx)
              · exact hb9 x (List.mem_of_mem_drop (List.mem_of_mem_take hx))
              · exact hh9
              · exact hb9 x (List.mem_of_mem_drop hx))
           | (rcases hx with (hx | hx) | rfl
              · exact hb9 x (List.mem_of_mem_take hx)
              · exact hb9 x (List.mem_of_mem_drop hx)
              · exact hh9)
           | (rcases hx with hx | hx
              · exact hb9 x (List.mem_of_mem_take hx)
              · exact hb9 x (List.mem_of_mem_drop hx)))
     refine iteDF (λz=>y6 (vint_inj z)) ?_
     refine ⟨_,rfl,_,_,rfl,rfl,(show (0:Int) < 8 by decide),rfl,_,rfl,?_⟩
     by_cases y7:c % 8=7
     · refine iteDT (congrArg V.int y7) ?_
       refine ⟨_,rfl,_,rfl,_,rfl,l,ts,rfl,SqL.of e1,λqs1 hqs1=>?_⟩
       have py1:Paired (HV H) (hs.take ka) (cutV ts none (some (c / 8 % (ts.length:Int)))):=by rw [hka,cutV_to];exact paired_take ka pr
       generalize cutV ts none (some (c / 8 % (ts.length:Int)))=ys1 at py1 ⊢
       have sn2:=same_new (o:=.lst ys1) hqs1
       have fn2:upd H1 qs1 (.lst ys1) qs1=some (.lst ys1):=upd_same
       have ec2:=sn2 _ _ e1
       have vc2:=sn2 _ _ vca
       have En2:=s1.trans sn2
       generalize upd H1 qs1 (.lst ys1)=Hn2 at sn2 fn2 ec2 vc2 En2 ⊢
       refine ⟨_,rfl,_,rfl,_,_,rfl,rfl,_,rfl,l,ts,rfl,SqL.of ec2,λqs3 hqs3=>?_⟩
       have py3:Paired (HV H) (hs.drop (ka+1)) (cutV ts (some ((c / 8 % (ts.length:Int))+1)) none):=by rw [hka,show ((ka:Int)+1)=((ka+1:Nat):Int) from rfl,cutV_from];exact paired_drop (ka+1) pr
       generalize cutV ts (some ((c / 8 % (ts.length:Int))+1)) none=ys3 at py3 ⊢
       have sn4:=same_new (o:=.lst ys3) hqs3
       have fn4:upd Hn2 qs3 (.lst ys3) qs3=some (.lst ys3):=upd_same
       have g4_qs1:=sn4 _ _ fn2
       have ec4:=sn4 _ _ ec2
       have vc4:=sn4 _ _ vc2
       have En4:=En2.trans sn4
       generalize upd Hn2 qs3 (.lst ys3)=Hn4 at sn4 fn4 g4_qs1 ec4 vc4 En4 ⊢
       refine ⟨qs1,qs3,ys1,ys3,rfl,rfl,g4_qs1,fn4,?_,λqc5 hqc5=>?_⟩
       · have z1:=pairedLen (show Paired (HV Hn4) (hs.take ka) (ys1) from (Paired.mapP py1 λ_ _ h=>h.keep En4.kt))
         have z2:=pairedLen (show Paired (HV Hn4) (hs.drop (ka+1)) (ys3) from (Paired.mapP py3 λ_ _ h=>h.keep En4.kt))
         simp only [List.length_append,List.length_take,List.length_drop,List.length_cons,List.length_nil] at z1 z2
         exact Nat.le_trans (show _ <= 5000 by first | omega | (simp only [List.length_append,List.length_cons,List.length_nil];omega)) (by decide)
       have sn6:=same_new (o:=.lst (ys1++ys3)) hqc5
       have fn6:upd Hn4 qc5 (.lst (ys1++ys3)) qc5=some (.lst (ys1++ys3)):=upd_same
       have g6_qs1:=sn6 _ _ g4_qs1
       have g6_qs3:=sn6 _ _ fn4
       have ec6:=sn6 _ _ ec4
       have vc6:=sn6 _ _ vc4
       have En6:=En4.trans sn6
       generalize upd Hn4 qc5 (.lst (ys1++ys3))=Hn6 at sn6 fn6 g6_qs1 g6_qs3 ec6 vc6 En6 ⊢
       refine ⟨_,rfl,_,rfl,l,ts,_,_,rfl,rfl,SqL.of ec6,hatv,len1v,λql7 hql7=>?_⟩
       have sn8:=same_new (o:=.lst [V.ref ca]) hql7
       have fn8:upd Hn6 ql7 (.lst [V.ref ca]) ql7=some (.lst [V.ref ca]):=upd_same
       have g8_qs1:=sn8 _ _ g6_qs1
       have g8_qs3:=sn8 _ _ g6_qs3
       have g8_qc5:=sn8 _ _ fn6
       have ec8:=sn8 _ _ ec6
       have vc8:=sn8 _ _ vc6
       have En8:=En6.trans sn8
       generalize upd Hn6 ql7 (.lst [V.ref ca])=Hn8 at sn8 fn8 g8_qs1 g8_qs3 g8_qc5 ec8 vc8 En8 ⊢
       refine ⟨qc5,ql7,(ys1++ys3),[V.ref ca],rfl,rfl,g8_qc5,fn8,?_,λqc9 hqc9=>?_⟩
       · have z1:=pairedLen (show Paired (HV Hn8) ((hs.take ka)++(hs.drop (ka+1))) ((ys1++ys3)) from (paired_app (Paired.mapP py1 λ_ _ h=>h.keep En8.kt) (Paired.mapP py3 λ_ _ h=>h.keep En8.kt)))
         have z2:=pairedLen (show Paired (HV Hn8) ([h]) ([V.ref ca]) from (.cons ⟨ca,rfl,vc8⟩ .nil))
         simp only [List.length_append,List.length_take,List.length_drop,List.length_cons,List.length_nil] at z1 z2
         exact Nat.le_trans (show _ <= 5000 by first | omega | (simp only [List.length_append,List.length_cons,List.length_nil];omega)) (by decide)
       have sn10:=same_new (o:=.lst ((ys1++ys3)++[V.ref ca])) hqc9
       have fn10:upd Hn8 qc9 (.lst ((ys1++ys3)++[V.ref ca])) qc9=some (.lst ((ys1++ys3)++[V.ref ca])):=upd_same
       have g10_qs1:=sn10 _ _ g8_qs1
       have g10_qs3:=sn10 _ _ g8_qs3
       have g10_qc5:=sn10 _ _ g8_qc5
       have g10_ql7:=sn10 _ _ fn8
       have ec10:=sn10 _ _ ec8
       have vc10:=sn10 _ _ vc8
       have En10:=En8.trans sn10
       generalize upd Hn8 qc9 (.lst ((ys1++ys3)++[V.ref ca]))=Hn10 at sn10 fn10 g10_qs1 g10_qs3 g10_qc5 g10_ql7 ec10 vc10 En10 ⊢
       exact k qc9 Hn10 (((hs.take ka)++(hs.drop (ka+1)))++([h])) En10 ⟨_,fn10,(paired_app (paired_app (Paired.mapP py1 λ_ _ h=>h.keep En10.kt) (Paired.mapP py3 λ_ _ h=>h.keep En10.kt)) (.cons ⟨ca,rfl,vc10⟩ .nil))⟩ (by simp only [List.length_append,List.length_take,List.length_drop,List.length_cons,List.length_nil];omega) (by
           intro x hx
           simp only [List.mem_append,List.mem_cons,List.not_mem_nil,or_false] at hx
           first
           | (rcases hx with (hx | rfl) | hx
              · exact hb9 x (List.mem_of_mem_take hx)
              · first | exact hh9 | exact ⟨Int.emod_nonneg _ (by decide),Int.emod_lt_of_pos _ (by decide)⟩
              · exact hb9 x (List.mem_of_mem_drop hx))
           | (rcases hx with ((hx | hx) | rfl) | hx
              · exact hb9 x (List.mem_of_mem_take hx)
              · exact hb9 x (List.mem_of_mem_drop (List.mem_of_mem_take hx))
              · exact hh9
              · exact hb9 x (List.mem_of_mem_drop hx))
           | (rcases hx with (hx | hx) | rfl
              · exact hb9 x (List.mem_of_mem_take hx)
              · exact hb9 x (List.mem_of_mem_drop hx)
              · exact hh9)
           | (rcases hx with hx | hx
              · exact hb9 x (List.mem_of_mem_take hx)
              · exact hb9 x (List.mem_of_mem_drop hx)))
     refine iteDF (λz=>y7 (vint_inj z)) ?_
     refine ⟨_,rfl,l,ts,rfl,.inl (SqL.of e1),λD hD=>?_⟩
     have s2:=same_new (o:=.lst ts) hD
     exact k D _ hs (s1.trans s2) ⟨ts,upd_same,Paired.mapP pr λ_ _ h=>h.keep (s1.trans s2).kt⟩ (by omega) hb9
end

def isV (v:V) (o:Option Nat):Prop:=v=vO o
def sp_is:Sp:=λvs H Q _=>∃ (o:Option Nat),vs=[vO o,vO o]/\Q (.bl true) H
def sp_turned:Sp:=λvs H Q _=>∃ (l:Addr) (hs:List Hap) (c:Int),vs=[.ref l,.int c]/\SV H l hs/\hs.length < 900/\∀ (D:Addr) (H':Hp) (b d:Int),Same H H'->(b=1\/b=2\/b=4\/b=5\/b=7\/b=8)->SV H' D (hs.map (tnH (λx=>(x * b+d) % 9) (λx=>0 - x)))->Q (.ref D) H'
section
variable {P:Program} {w:World} {K:PySem.W.Frag} {mg:Str->Option Value} {base:Heap} {a:Ad} {d:Fd}
theorem ok_is (G:Gs K mg a d):FnOk P w K mg base CX0 1 a.law_is d.law_is ["found","due"] sp_is:=by
 refine G.f_law_is.ok sc_law_is (λvs H Q E h=>?_) (λcdv A outer s H vs Q E hr h=>?_)
 · obtain ⟨o,rfl,_⟩:=h
   rfl
 · obtain ⟨o,rfl,q⟩:=h
   have hu:=hu_of hr
   refine ⟨_,(@pss_cons _ _ _ _ _ (ps_if (pt_cmpR op_isN (pv 1) pe_non (nomark _)) (@pss_one _ _ _ (@ps_ret _ _ _ _ (pe_cmpR op_isN (pv 0) pe_non (nomark _)))) pss_nil)
     (@pss_one _ _ _ (@ps_ret _ _ _ _ (pe_and (pe_callB call_isinst (by rfl) G.n_isinstance bt_isinstance (@pa_cons _ _ _ _ _ (pv 0) (@pa_cons _ _ _ _ _ (pe_bltn (v:=.ty "int") (by rfl) G.n_int bt_int rfl) pa_nil (by rfl)) (by rfl))) (pe_and (pe_not (pe_callB call_isinst (by rfl) G.n_isinstance bt_isinstance (@pa_cons _ _ _ _ _ (pv 0) (@pa_cons _ _ _ _ _ (pe_bltn (v:=.ty "bool") (by rfl) G.n_bool bt_bool rfl) pa_nil (by rfl)) (by rfl)))) (pe_one (pe_cmpR (op_eqD hr.units) (pv 0) (pv 1) (nomark _)))))))),?_⟩
   cases o with
   | none=>exact ⟨_,rfl,rfl,_,rfl,iteDT rfl ⟨_,rfl,rfl,q⟩⟩
   | some m =>
     refine ⟨_,rfl,rfl,_,rfl,iteDF (by intro y;cases y) ?_⟩
     refine ⟨_,rfl,_,_,_,_,rfl,.int _,(by rfl:PySem.W.kitOne K (.type "int") (.type "int")=some true),_,rfl,iteT ?_⟩
     refine ⟨_,rfl,_,_,_,_,rfl,.int _,(by rfl:PySem.W.kitOne K (.type "int") (.type "bool")=some false),_,rfl,_,rfl,iteT ?_⟩
     refine ⟨_,rfl,_,rfl,.int (m:Int),.int (m:Int),rfl,rfl,LayD.int _,LayD.int _,?_⟩
     rw [eqv_self (d:=.int (m:Int)) rfl]
     exact q
theorem ok_turned (G:Gs K mg a d):FnOk P w K mg base CX0 1 a.law_turned d.law_turned ["story","cell"] sp_turned:=by
 refine G.f_law_turned.ok sc_law_turned (λvs H Q E h=>?_) (λcdv A outer s H vs Q E hr h=>?_)
 · obtain ⟨l,hs,c,rfl,_⟩:=h
   rfl
 · obtain ⟨l,hs,c,rfl,⟨ts,e0,pr⟩,hl,k⟩:=h
   have hu:=hu_of hr
   refine ⟨_,(@pss_cons _ _ _ _ _ (@ps_set _ _ 2 _ _ _ _ sc_law_turned.nd rfl (Or.inr rfl) (@pe_ix _ _ _ _ _ _ _ ix_list (@pe_lst _ _ _ _ (@pa_cons _ _ _ _ _ pe_int (@pa_cons _ _ _ _ _ pe_int (@pa_cons _ _ _ _ _ pe_int (@pa_cons _ _ _ _ _ pe_int (@pa_cons _ _ _ _ _ pe_int (@pa_cons _ _ _ _ _ pe_int pa_nil (by rfl)) (by rfl)) (by rfl)) (by rfl)) (by rfl)) (by rfl))) (@pe_op _ _ _ _ _ _ _ _ op_mod (pv 1) pe_int) (λ_ _=>rfl)) (by rfl) (by first | exact .inl rfl | exact .inr rfl | assumption))
     (@pss_one _ _ _ (@ps_ret _ _ _ _ (by exact pe_comp3 (x:="word") (x2:="name") (x3:="worth") (g:=gTup K 3 (gCons (gName 0) (gCons (gName 1) (gCons (gName 2) gNil)))) (caps:=["cell","by"]) (js:=[1,2]) rfl (compOk rfl rfl (by decide +kernel) (by decide +kernel) rfl ⟨rfl,⟨rfl,trivial⟩⟩ rfl rfl) (compOk rfl rfl (by decide +kernel) (by decide +kernel) rfl ⟨rfl,⟨rfl,trivial⟩⟩ rfl rfl) (compOk rfl rfl (by decide +kernel) (by decide +kernel) rfl ⟨rfl,⟨rfl,trivial⟩⟩ rfl rfl) (λC s₃ H₃ pins ex E'=>by exact pg_three rfl (show (["word","name","worth","cell","by"]:List Str).Nodup from by decide +kernel) rfl rfl rfl (.inl (lookup_relabel_local rfl)) (.inl (lookup_relabel_local rfl)) (.inl (lookup_relabel_local rfl)) rfl rfl rfl) (λy hy=>by simp only [List.mem_cons,List.not_mem_nil,or_false] at hy;rcases hy with rfl | rfl<;>exact ⟨_,rfl⟩) (.cons ⟨rfl,.inl rfl⟩ (.cons ⟨rfl,.inl rfl⟩ .nil)) (λy hy=>by simp only [List.mem_cons,List.not_mem_nil,or_false] at hy;rcases hy with rfl | rfl<;>exact Or.inl rfl) (pi_list (pv 0)) (λC s₃ H₃ pins ex E'=>by exact pts_none) (λC s₃ H₃ pins ex E'=>by exact (@pe_tup _ _ _ _ _ (@pa_cons _ _ _ _ _ (pv 0) (@pa_cons _ _ _ _ _ (@pe_op _ _ _ _ _ _ _ _ op_mod (@pe_op _ _ _ _ _ _ _ _ op_add (@pe_op _ _ _ _ _ _ _ _ op_mul (pv 1) (pv 4)) (@pe_op _ _ _ _ _ _ _ _ op_fdivB (pv 3) pe_int)) pe_int) (@pa_cons _ _ _ _ _ (@pe_op _ _ _ _ _ _ _ _ op_sub pe_int (pv 2)) pa_nil (by rfl)) (by rfl)) (by rfl)))))))),?_⟩
   have lt:=pairedLen pr
   refine ⟨(by show 6 <= sizeLine;decide),λq hq=>?_⟩
   have s1:=same_new (o:=.lst [V.int 1,V.int 2,V.int 4,V.int 5,V.int 7,V.int 8]) hq
   have v1:upd H q (.lst [V.int 1,V.int 2,V.int 4,V.int 5,V.int 7,V.int 8]) q=some (.lst [V.int 1,V.int 2,V.int 4,V.int 5,V.int 7,V.int 8]):=upd_same
   generalize upd H q (.lst [V.int 1,V.int 2,V.int 4,V.int 5,V.int 7,V.int 8])=H1 at s1 v1 ⊢
   obtain ⟨b,hb,hbv⟩:∃ b:Int,atI [V.int 1,V.int 2,V.int 4,V.int 5,V.int 7,V.int 8] (c % 6)=some (.int b)/\(b=1\/b=2\/b=4\/b=5\/b=7\/b=8):=by
     obtain ⟨v,hv,mv⟩:=at_in (xs:=[V.int 1,V.int 2,V.int 4,V.int 5,V.int 7,V.int 8]) (i:=c % 6) (Int.emod_nonneg _ (by decide)) (Int.emod_lt_of_pos _ (by decide))
     simp only [List.mem_cons,List.not_mem_nil,or_false] at mv
     rcases mv with z | z | z | z | z | z
     · exact ⟨1,by rw [hv,z],by omega⟩
     · exact ⟨2,by rw [hv,z],by omega⟩
     · exact ⟨4,by rw [hv,z],by omega⟩
     · exact ⟨5,by rw [hv,z],by omega⟩
     · exact ⟨7,by rw [hv,z],by omega⟩
     · exact ⟨8,by rw [hv,z],by omega⟩
   refine ⟨_,rfl,_,_,rfl,rfl,(show (0:Int) < 6 by decide),q,_,_,_,rfl,rfl,SqL.of v1,hb,?_⟩
   have e1:=s1 _ _ e0
   have pr1:=Paired.mapP pr λ_ _ h=>HV.keep s1.kt h
   refine ⟨_,rfl,l,rfl,⟨_,SqL.of e1⟩,λD hD=>?_⟩
   refine ⟨λi mm ys H2=>i <= ts.length/\mm=ts.length - i/\H2 D=some (.lst ys)/\Paired (HV H2) ((hs.take i).map (tnH (λx=>(x * b+c / 6) % 9) (λx=>0 - x))) ys/\Same H1 H2,⟨_,Nat.zero_le _,rfl,upd_same,.nil,same_new hD⟩,?_⟩
   rintro i mm ys H2 ⟨hi,rfl,hy,py,s2⟩
   have hyl:ys.length <= 900:=by
     rw [← pairedLen py,List.length_map,List.length_take];omega
   refine ⟨hy,Nat.lt_of_le_of_lt hyl (by decide),?_⟩
   by_cases z:i=ts.length
   · refine .inl ⟨⟨ts,SqL.of (s2 _ _ e1),by omega⟩,?_⟩
     rw [z,List.take_of_length_le (by omega)] at py
     exact k D H2 b (c / 6) (s1.trans s2) hbv ⟨ys,hy,py⟩
   · have hlt:i < ts.length:=by omega
     refine .inr ⟨⟨ts,_,SqL.of (s2 _ _ e1),List.getElem?_eq_getElem hlt⟩,?_⟩
     rintro y H3 ⟨rfl,hy'⟩ v0 v1' v2
     obtain ⟨h,cc,hh,rfl,vc⟩:=hv_at pr1 (hy' ts (SqL.of (s2 _ _ e1)))
     have et:hs.take (i+1)=hs.take i++[h]:=by rw [List.take_succ,hh];rfl
     refine ⟨cc,_,rfl,SqT.of (s2 _ _ vc),rfl,_,_,rfl,_,_,rfl,_,_,rfl,rfl,_,_,_,rfl,?_⟩
     refine iteT ⟨_,rfl,_,rfl,_,rfl,_,_,rfl,rfl,.inr ⟨by omega,by omega⟩,_,rfl,_,_,rfl,rfl,⟨by decide,by decide⟩,_,_,rfl,rfl,_,_,rfl,rfl,(show (0:Int) < 9 by decide),_,rfl,_,_,rfl,rfl,l3,λt ht=>?_⟩
     have s3:=same_new (o:=.tup [V.str h.w.key,V.int ((h.n * b+c / 6) % 9),V.int (0 - h.o)]) ht
     refine ⟨s3 _ _ hy,ts.length - (i+1),by omega,hlt,rfl,upd_same,?_,?_⟩
     · have kt:Kt H3 (upd (upd H3 t (.tup [V.str h.w.key,V.int ((h.n * b+c / 6) % 9),V.int (0 - h.o)])) D (.lst (ys++[.ref t]))):=λb vs e=>kt_upd (s3 _ _ hy) (λ_ z=>by cases z) _ _ _ (s3 _ _ e)
       rw [et,List.map_append]
       exact Paired.snoc (Paired.mapP py λ_ _ q=>q.keep kt) ⟨t,rfl,by rw [upd_ne (ne_of_none hy ht).symm];exact upd_same⟩
     · intro b' o e
       rw [upd_ne (ne_of_none e hD)]
       exact s3 _ _ (s2 _ _ e)
end
def sp_ended:Sp:=λvs H Q _=>∃ (l:Addr) (hs:List Hap) (un uh:List (Int × Int)) (go do':List Int),vs=[.ref l]/\SV H l hs/\hs.length <= 60/\JI hs un uh go do'/\firstL hs=none/\∀ (D:Addr) (H':Hp) (hs':List Hap),Same H H'->SV H' D hs'->firstL hs'=none->JI hs' [] [] [] []->hs'.length <= 500->Q (.ref D) H'
section
variable {P:Program} {w:World} {K:PySem.W.Frag} {mg:Str->Option Value} {base:Heap} {a:Ad} {d:Fd}
theorem ok_ended (G:Gs K mg a d):FnOk P w K mg base CX0 3 a.law_ended d.law_ended ["story"] sp_ended:=by
 have c_law_things:FnOk P w K mg base CX0 1 _ _ _ _:=ok_things G
 refine G.f_law_ended.ok sc_law_ended (λvs H Q E h=>?_) (λcdv A outer s H vs Q E hr h=>?_)
 · obtain ⟨l,hs,un,uh,go,do',rfl,_⟩:=h
   rfl
 · obtain ⟨l,hs,un,uh,go,do',rfl,⟨ts,e0,pr⟩,hl,I,hf,k⟩:=h
   have hu:=hu_of hr
   refine ⟨_,(@pss_cons _ _ _ _ _ (@ps_set _ _ 1 _ _ _ _ sc_law_ended.nd rfl (Or.inl rfl) (pe_callTy call_list_of (by rfl) G.n_list bt_list (@pa_cons _ _ _ _ _ (pv 0) pa_nil (by rfl))) (by rfl) (by first | exact .inl rfl | exact .inr rfl | assumption))
     (@pss_cons _ _ _ _ _ (ps_for PassesOwn.never rfl (pi_list (pe_slice sl_list (pe_call c_law_things (hr.mono (by decide)) (by rfl) G.m_law_things G.f_law_things.kp G.b_law_things .nil pass0 (@pa_cons _ _ _ _ _ (pv 0) (@pa_cons _ _ _ _ _ pe_str pa_nil (by rfl)) (by rfl))) (po_some (pe_callB call_len_seq (by rfl) G.n_len bt_len (@pa_cons _ _ _ _ _ (pe_call c_law_things (hr.mono (by decide)) (by rfl) G.m_law_things G.f_law_things.kp G.b_law_things .nil pass0 (@pa_cons _ _ _ _ _ (pv 0) (@pa_cons _ _ _ _ _ pe_str pa_nil (by rfl)) (by rfl))) pa_nil (by rfl)))) po_none)) (pg_name (i:=2) sc_law_ended.nd rfl (Or.inl rfl)) (@pss_one _ _ _ (@ps_expr _ _ _ _ (@pe_bm _ _ _ _ _ _ _ _ _ _ _ _ PySem.F.plainAttrs_list PySem.F.slot_list_append PySem.F.type_list_append mt_append (pv 1) (@pa_cons _ _ _ _ _ (@pe_op _ _ _ _ _ _ _ _ op_catT (@pe_tup _ _ _ _ _ (@pa_cons _ _ _ _ _ pe_str pa_nil (by rfl))) (pv 2)) pa_nil (by rfl)) (by rfl) (by rfl) (by rfl) (by rfl) (by rfl)) (by rfl))))
     (@pss_cons _ _ _ _ _ (by exact ps_compset2 (iN:=3) (x:="name") (x2:="worth") (g:=gTup K 2 (gCons (gName 0) (gCons (gName 1) gNil))) (caps:=[]) (js:=[]) sc_law_ended.nd rfl (Or.inl rfl) (by rfl) rfl (compOk rfl rfl (by decide +kernel) (by decide +kernel) rfl trivial rfl rfl) (compOk rfl rfl (by decide +kernel) (by decide +kernel) rfl trivial rfl rfl) (λC s₃ H₃ pins ex E'=>by exact pg_two rfl (show (["name","worth"]:List Str).Nodup from by decide +kernel) rfl rfl (.inl (lookup_relabel_local rfl)) (.inl (lookup_relabel_local rfl)) rfl rfl) (λy hy=>by cases hy) .nil (λy hy=>by cases hy) (pi_list (pe_call c_law_things (hr.mono (by decide)) (by rfl) G.m_law_things G.f_law_things.kp G.b_law_things .nil pass0 (@pa_cons _ _ _ _ _ (pv 0) (@pa_cons _ _ _ _ _ pe_str pa_nil (by rfl)) (by rfl)))) (λC s₃ H₃ pins ex E'=>by exact pts_none) (λC s₃ H₃ pins ex E'=>by exact (pv 0)))
     (@pss_cons _ _ _ _ _ (ps_for PassesOwn.never rfl (pi_list (pe_call c_law_things (hr.mono (by decide)) (by rfl) G.m_law_things G.f_law_things.kp G.b_law_things .nil pass0 (@pa_cons _ _ _ _ _ (pv 1) (@pa_cons _ _ _ _ _ pe_str pa_nil (by rfl)) (by rfl)))) (pg_tup rfl (pgs_cons (pg_name (i:=4) sc_law_ended.nd rfl (Or.inl rfl)) (pgs_cons (pg_name (i:=5) sc_law_ended.nd rfl (Or.inl rfl)) pgs_nil))) (@pss_one _ _ _ (ps_if (pt_cmpR op_in_seq (pv 4) (pv 3) (by with_unfolding_all rfl)) (@pss_one _ _ _ (@ps_expr _ _ _ _ (@pe_bm _ _ _ _ _ _ _ _ _ _ _ _ PySem.F.plainAttrs_list PySem.F.slot_list_remove PySem.F.type_list_remove mt_remove (pv 3) (@pa_cons _ _ _ _ _ (pv 4) pa_nil (by rfl)) (by rfl) (by rfl) (by rfl) (by rfl) (by rfl)) (by rfl))) (@pss_one _ _ _ (@ps_expr _ _ _ _ (@pe_bm _ _ _ _ _ _ _ _ _ _ _ _ PySem.F.plainAttrs_list PySem.F.slot_list_append PySem.F.type_list_append mt_append (pv 1) (@pa_cons _ _ _ _ _ (@pe_tup _ _ _ _ _ (@pa_cons _ _ _ _ _ pe_str (@pa_cons _ _ _ _ _ (pv 4) (@pa_cons _ _ _ _ _ (pv 5) pa_nil (by rfl)) (by rfl)) (by rfl))) pa_nil (by rfl)) (by rfl) (by rfl) (by rfl) (by rfl) (by rfl)) (by rfl))))))
     (@pss_cons _ _ _ _ _ (ps_for PassesOwn.never rfl (pi_list (pe_slice sl_list (pe_call c_law_things (hr.mono (by decide)) (by rfl) G.m_law_things G.f_law_things.kp G.b_law_things .nil pass0 (@pa_cons _ _ _ _ _ (pv 1) (@pa_cons _ _ _ _ _ pe_str pa_nil (by rfl)) (by rfl))) (po_some (pe_callB call_len_seq (by rfl) G.n_len bt_len (@pa_cons _ _ _ _ _ (pe_call c_law_things (hr.mono (by decide)) (by rfl) G.m_law_things G.f_law_things.kp G.b_law_things .nil pass0 (@pa_cons _ _ _ _ _ (pv 0) (@pa_cons _ _ _ _ _ pe_str pa_nil (by rfl)) (by rfl))) pa_nil (by rfl)))) po_none)) (pg_name (i:=2) sc_law_ended.nd rfl (Or.inl rfl)) (@pss_one _ _ _ (@ps_expr _ _ _ _ (@pe_bm _ _ _ _ _ _ _ _ _ _ _ _ PySem.F.plainAttrs_list PySem.F.slot_list_append PySem.F.type_list_append mt_append (pv 1) (@pa_cons _ _ _ _ _ (@pe_op _ _ _ _ _ _ _ _ op_catT (@pe_tup _ _ _ _ _ (@pa_cons _ _ _ _ _ pe_str pa_nil (by rfl))) (pv 2)) pa_nil (by rfl)) (by rfl) (by rfl) (by rfl) (by rfl) (by rfl)) (by rfl))))
     (@pss_one _ _ _ (@ps_ret _ _ _ _ (pv 1)))))))),?_⟩
   have sz:∀ {m:Nat},m < 5000->m < sizeLine:=λh=>Nat.lt_of_lt_of_le h (by decide)
   have S0:SV H l hs:=⟨ts,e0,pr⟩
   refine ⟨_,rfl,l,ts,rfl,.inl (SqL.of e0),λD hD=>?_⟩
   have s1:=same_new (o:=.lst ts) hD
   have v1:upd H D (.lst ts) D=some (.lst ts):=upd_same
   have SD:SV (upd H D (.lst ts)) D hs:=⟨ts,upd_same,Paired.mapP pr λ_ _ h=>h.keep s1.kt⟩
   generalize upd H D (.lst ts)=H1 at s1 v1 SD ⊢
   refine ⟨_,rfl,l,hs,.asked,rfl,S0.same s1,by omega,λD2 H2 nD2 s2 ⟨t2,e2,p2⟩=>?_⟩
   refine ⟨_,rfl,l,hs,.taken,rfl,S0.same (s1.trans s2),by omega,λD3 H3 nD3 s3 ⟨t3,e3,p3⟩=>?_⟩
   have lt3:=pairedLen p3
   refine ⟨D3,t3,rfl,.inl (SqL.of e3),_,rfl,D2,t2,rfl,SqL.of (s3 _ _ e2),λq hq=>?_⟩
   have cq:cutV t2 (some (t3.length:Int)) none=t2.drop (th .taken hs).length:=by rw [cutV_from,lt3]
   have pq:Paired (PV H3) un (cutV t2 (some (t3.length:Int)) none):=by
     rw [cq,I.eu];exact Paired.mapP (paired_drop _ p2) λ_ _ h=>h.keep s3.kt
   generalize cutV t2 (some (t3.length:Int)) none=ys at pq ⊢
   have s4:=same_new (o:=.lst ys) hq
   have v4:upd H3 q (.lst ys) q=some (.lst ys):=upd_same
   have pq4:=Paired.mapP pq λ_ _ h=>PV.keep s4.kt h
   have SD4:=SD.same (s2.trans (s3.trans s4))
   have S4:=s1.trans (s2.trans (s3.trans s4))
   have qD:q≠D:=λy=>by
     obtain ⟨_,e,_⟩:=SD.same (s2.trans s3)
     rw [y,e] at hq;cases hq
   generalize upd H3 q (.lst ys)=H4 at s4 v4 pq4 SD4 S4 ⊢
   clear s1 s2 s3 s4 e2 e3 p2 p3 SD v1 hq pq cq
   have ly:=pairedLen pq4
   have nDl:∀ {H':Hp} {o:HO},Same H H'->Same H (upd H' D o):=λs b u e=>by
     rw [upd_ne (ne_of_none e hD)];exact s b u e
   refine ⟨q,rfl,⟨_,SqL.of v4⟩,?_⟩
   refine for_list (K:=K) (a:=q) (xs:=ys) (λi σ H'=>∃ hs' go' do2,(∃ v2 v3 v4 v5,σ=[some (.ref l),some (.ref D),v2,v3,v4,v5])/\SV H' D hs'/\JI hs' (un.drop i) uh go' do2/\firstL hs'=none/\th .answered hs'=th .answered hs/\th .handed hs'=th .handed hs/\hs'.length <= hs.length+i/\H' q=some (.lst ys)/\Paired (PV H') un ys/\Same H H')
     ⟨hs,go,do',⟨_,_,_,_,rfl⟩,SD4,I,hf,rfl,rfl,Nat.le_refl _,v4,pq4,S4⟩ (λ_ _ _ _ ⟨_,_,_,_,_,_,_,_,_,_,y,_⟩=>SqL.of y) ?_ ?_
   · rintro i y σ H5 hi ⟨hs',go',do2,⟨w2,w3,w4,w5,rfl⟩,⟨tD,eD,pD⟩,J,hf',ha',hh',hl',vq,pq,S5⟩
     obtain ⟨⟨n,o⟩,c,hp,rfl,vc⟩:=pv_at2 pq hi
     have hil:i < un.length:=(List.getElem?_eq_some_iff.mp hp).1
     have hd:un.drop i=(n,o) :: un.drop (i+1):=by rw [List.drop_eq_getElem_cons hil,(List.getElem?_eq_some_iff.mp hp).2]
     have h1:(un.drop i).take 1=[(n,o)]:=by rw [hd];rfl
     have e1:(un.drop i).drop 1=un.drop (i+1):=by rw [List.drop_drop]
     obtain ⟨J2,_⟩:=J.taken h1
     rw [e1] at J2
     have fit:fitsL hs' ⟨.taken,n,o⟩=true:=by rw [← J.fits];exact decide_eq_true h1
     have lD:=pairedLen pD
     obtain ⟨u1,_,_,_⟩:=I.lens
     refine ⟨_,rfl,.inl ⟨rfl,_,SqL.of eD⟩,len1v,λt ht=>?_⟩
     have s6:=same_new (o:=.tup [V.str "taken"]) ht
     have vt:upd H5 t (.tup [V.str "taken"]) t=some (.tup [V.str "taken"]):=upd_same
     have vc6:=s6 _ _ vc
     have eD6:=s6 _ _ eD
     have S6:=S5.trans s6
     generalize upd H5 t (.tup [V.str "taken"])=H6 at s6 vt vc6 eD6 S6 ⊢
     refine ⟨_,rfl,t,c,_,_,rfl,rfl,SqT.of vt,SqT.of vc6,by simp,by show 3 <= sizeLine;decide,λy=>by simp at y,λ_ t8 h8=>?_⟩
     have s7:=same_new (o:=.tup [V.str "taken",V.int n,V.int o]) h8
     refine ⟨D,tD,_,rfl,rfl,s7 _ _ eD6,sz (by omega),?_⟩
     have kt:Kt H5 (upd (upd H6 t8 (.tup [V.str "taken",V.int n,V.int o])) D (.lst (tD++[.ref t8]))):=λb vs e=>kt_upd (s7 _ _ eD6) (λ_ z=>by cases z) _ _ _ (s7 _ _ (s6 _ _ e))
     refine ⟨hs'++[⟨.taken,n,o⟩],go',do2++[n],⟨_,_,_,_,rfl⟩,⟨_,upd_same,Paired.snoc (Paired.mapP pD λ_ _ h=>h.keep kt) ⟨t8,rfl,?_⟩⟩,J2,first_snoc hf' fit,by rw [th_c,if_neg (by decide)];exact ha',by rw [th_c,if_neg (by decide)];exact hh',by rw [List.length_append];show _+1 <= _;omega,?_,Paired.mapP pq λ_ _ h=>h.keep kt,nDl (S6.trans s7)⟩
     · rw [upd_ne (ne_of_none eD6 h8).symm];exact upd_same
     · rw [upd_ne qD];exact s7 _ _ (s6 _ _ vq)
   · rintro σ H5 ⟨hs1,go1,do1,⟨w2,w3,w4,w5,rfl⟩,SD5,J,hf1,ha1,hh1,hl1,vq,pq,S5⟩
     rw [List.drop_of_length_le (by omega)] at J
     clear vq pq v4 pq4 SD4 S4 qD
     obtain ⟨u1,_,_,_⟩:=I.lens
     have S0l:∀ {H':Hp},Same H H'->SV H' l hs:=λs=>S0.same s
     refine ⟨_,rfl,l,hs,.answered,rfl,S0l S5,by omega,λD6 H6 nD6 s6 ⟨t6,e6,p6⟩=>⟨D6,rfl,⟨_,SqL.of e6⟩,λN hN=>?_⟩⟩
     have lt6:=pairedLen p6
     have ltA:(th .answered hs).length <= 60:=Nat.le_trans (th_len _ _) hl
     refine ⟨λi mm zs H'=>i <= t6.length/\mm=t6.length - i/\zs=(((th .answered hs).take i).map (·.1)).map V.int/\H'=upd H6 N (.lst zs),⟨_,Nat.zero_le _,rfl,rfl,rfl⟩,?_⟩
     rintro i mm zs H' ⟨hi,rfl,rfl,rfl⟩
     have sN:Same H6 (upd H6 N (.lst ((((th .answered hs).take i).map (·.1)).map V.int))):=same_new hN
     refine ⟨upd_same,sz (by rw [List.length_map,List.length_map,List.length_take];omega),?_⟩
     by_cases zz:i=t6.length
     rotate_left
     · have hlt:i < t6.length:=by omega
       refine .inr ⟨⟨t6,_,SqL.of (sN _ _ e6),List.getElem?_eq_getElem hlt⟩,?_⟩
       rintro y H7 ⟨rfl,hy'⟩ v0 v1
       obtain ⟨p,c,hp,rfl,vc⟩:=pv_at2 p6 (hy' t6 (SqL.of (sN _ _ e6)))
       have et:(th .answered hs).take (i+1)=(th .answered hs).take i++[p]:=by rw [List.take_succ,hp];rfl
       refine ⟨c,_,rfl,SqT.of (sN _ _ vc),rfl,_,_,rfl,_,_,rfl,rfl,_,_,rfl,?_⟩
       refine iteT ⟨_,rfl,upd_same,t6.length - (i+1),by omega,hlt,rfl,by rw [et,List.map_append,List.map_append];rfl,?_⟩
       rw [upd_upd]
     subst zz
     refine .inl ⟨⟨t6,SqL.of (sN _ _ e6),Nat.le_refl _⟩,?_⟩
     rw [List.take_of_length_le (show (th .answered hs).length <= t6.length by omega)] at sN ⊢
     obtain ⟨nm0,hnm0⟩:∃ nm0,nm0=(th .answered hs).map (·.1):=⟨_,rfl⟩
     rw [← hnm0] at sN ⊢
     have vN:upd H6 N (.lst (nm0.map V.int)) N=some (.lst (nm0.map V.int)):=upd_same
     have SD7:=SD5.same (s6.trans sN)
     have S7:=S5.trans (s6.trans sN)
     have nN:H N=none:=none_back (S5.trans s6) hN
     have nND:N≠D:=λy=>by
       obtain ⟨_,e,_⟩:=SD5.same s6
       rw [y,e] at hN;cases hN
     generalize upd H6 N (.lst (nm0.map V.int))=H7 at sN vN SD7 S7 ⊢
     clear s6 sN hN e6 p6 SD5 S5
     have nNl:∀ {H':Hp} {o:HO},Same H H'->Same H (upd H' N o):=λs b u e=>by
       rw [upd_ne (ne_of_none e nN)];exact s b u e
     refine ⟨_,rfl,D,hs1,.taken,rfl,SD7,by omega,λD8 H8 nD8 s8 ⟨t8,e8,p8⟩=>⟨D8,rfl,⟨_,SqL.of e8⟩,?_⟩⟩
     have lt8:=pairedLen p8
     have lT:=th_len .taken hs1
     have SD8:=SD7.same s8
     have S8:=S7.trans s8
     have vN8:=s8 _ _ vN
     have n8D:D8≠D:=λy=>by
       obtain ⟨_,e,_⟩:=SD7
       rw [y,e] at nD8;cases nD8
     have n8N:D8≠N:=λy=>by rw [y,vN] at nD8;cases nD8
     have c0:∀ x,cx x ((th .taken hs1).map (·.1))=cx x nm0+if x∈do1 then 1 else 0:=λx=>by
       rw [hnm0,← ha1,← cnt_cx,← cnt_cx];exact J.ct x
     have ln0:nm0.length <= 60:=by rw [hnm0,List.length_map];exact ltA
     clear s8 SD7 S7 vN
     refine for_list (K:=K) (a:=D8) (xs:=t8) (λi σ H'=>∃ hs' uh' go' do2 nm,(∃ v2 v4 v5,σ=[some (.ref l),some (.ref D),v2,some (.ref N),v4,v5])/\SV H' D hs'/\JI hs' [] uh' go' do2/\firstL hs'=none/\th .handed hs'=th .handed hs/\hs'.length <= hs1.length+i/\H' N=some (.lst (nm.map V.int))/\nm.length <= 60/\(∀ x,cx x (((th .taken hs1).map (·.1)).drop i)=cx x nm+if x∈do2 then 1 else 0)/\H' D8=some (.lst t8)/\Paired (PV H') (th .taken hs1) t8/\Same H H')
       ⟨hs1,uh,go1,do1,nm0,⟨_,_,_,rfl⟩,SD8,J,hf1,hh1,Nat.le_refl _,vN8,ln0,c0,e8,p8,S8⟩ (λ_ _ _ _ ⟨_,_,_,_,_,_,_,_,_,_,_,_,_,_,y,_⟩=>SqL.of y) ?_ ?_
     · clear c0 SD8 S8 vN8 e8 p8
       rintro i y σ H9 hi ⟨hs',uh',go',do2,nm,⟨w2,w4,w5,rfl⟩,⟨tD,eD,pD⟩,J9,hf9,hh9,hl9,vN,lnm,cc,v8,p8,S9⟩
       have hi8:i < t8.length:=(List.getElem?_eq_some_iff.mp hi).1
       obtain ⟨⟨n,o⟩,c,hp,rfl,vc⟩:=pv_at2 p8 hi
       have hil:i < ((th .taken hs1).map (·.1)).length:=by rw [List.length_map];exact (List.getElem?_eq_some_iff.mp hp).1
       have hd:((th .taken hs1).map (·.1)).drop i=n :: ((th .taken hs1).map (·.1)).drop (i+1):=by
         rw [List.drop_eq_getElem_cons hil,List.getElem_map,(List.getElem?_eq_some_iff.mp hp).2]
       have lD:=pairedLen pD
       refine ⟨c,_,rfl,SqT.of vc,rfl,_,_,rfl,_,_,rfl,rfl,?_⟩
       refine ⟨_,rfl,_,rfl,N,_,rfl,.inl (SqL.of vN),rfl,ints_flat nm,_,rfl,?_⟩
       simp only [Bool.false_eq_true,if_false]
       rw [inV_int]
       cases hb:nm.contains n with
       | true =>
         have hm:n∈nm:=by rw [List.contains_eq_mem] at hb;exact of_decide_eq_true hb
         refine iteT ⟨_,rfl,.inl ⟨rfl,_,SqL.of vN⟩,_,rfl,N,nm,n,rfl,rfl,vN,hm,?_⟩
         have kt:=kt_upd vN (λ_ z=>by cases z) (.lst ((nm.erase n).map V.int))
         refine ⟨hs',uh',go',do2,nm.erase n,⟨_,_,_,rfl⟩,SV.keep ⟨tD,eD,pD⟩ (λo e=>by rw [upd_ne nND.symm];exact e) kt,J9,hf9,hh9,by omega,upd_same,by rw [List.length_erase_of_mem hm];omega,λx=>?_,by rw [upd_ne n8N];exact v8,Paired.mapP p8 λ_ _ h=>h.keep kt,nNl S9⟩
         have q1:=cc x
         rw [hd,cx_cons] at q1
         have q2:=cx_erase hm x
         omega
       | false =>
         have hm:n ∉ nm:=by rw [List.contains_eq_mem] at hb;exact of_decide_eq_false hb
         have hdo:n∈do2:=by
           have q1:=cc n
           rw [hd,cx_cons,if_pos rfl,cx_pos hm] at q1
           by_cases z:n∈do2
           · exact z
           · rw [if_neg z] at q1;omega
         have J2:=J9.answered (o:=o) hdo
         have fit:fitsL hs' ⟨.answered,n,o⟩=true:=by
           rw [← J9.fits]
           show do2.contains n=true
           rw [List.contains_eq_mem];exact decide_eq_true hdo
         refine iteF ⟨_,rfl,.inl ⟨rfl,_,SqL.of eD⟩,_,rfl,_,rfl,l3,λt ht=>⟨D,tD,_,rfl,rfl,same_new ht _ _ eD,sz (by omega),?_⟩⟩
         have s10:=same_new (o:=.tup [V.str "answered",V.int n,V.int o]) ht
         have kt:Kt H9 (upd (upd H9 t (.tup [V.str "answered",V.int n,V.int o])) D (.lst (tD++[.ref t]))):=λb vs e=>kt_upd (s10 _ _ eD) (λ_ z=>by cases z) _ _ _ (s10 _ _ e)
         refine ⟨hs'++[⟨.answered,n,o⟩],uh'++[(n,o)],go',do2.erase n,nm,⟨_,_,_,rfl⟩,⟨_,upd_same,Paired.snoc (Paired.mapP pD λ_ _ h=>h.keep kt) ⟨t,rfl,?_⟩⟩,J2,first_snoc hf9 fit,by rw [th_c,if_neg (by decide)];exact hh9,by rw [List.length_append];show _+1 <= _;omega,?_,lnm,λx=>?_,?_,Paired.mapP p8 λ_ _ h=>h.keep kt,nDl (S9.trans s10)⟩
         · rw [upd_ne (ne_of_none eD ht).symm];exact upd_same
         · rw [upd_ne nND];exact s10 _ _ vN
         · have q1:=cc x
           rw [hd,cx_cons] at q1
           by_cases e:n=x
           · subst e
             rw [if_pos rfl,if_pos hdo,cx_pos hm] at q1
             rw [cx_pos hm,if_neg (λz=>((J9.ndo.mem_erase_iff).mp z).1 rfl)]
             omega
           · rw [if_neg e] at q1
             have e':x≠n:=λz=>e z.symm
             by_cases z:x∈do2
             · rw [if_pos z] at q1
               rw [if_pos ((J9.ndo.mem_erase_iff).mpr ⟨e',z⟩)];omega
             · rw [if_neg z] at q1
               rw [if_neg λy=>z (List.mem_of_mem_erase y)];omega
         · rw [upd_ne n8D];exact s10 _ _ v8
     · clear c0 SD8 S8 vN8 e8 p8
       rintro σ H9 ⟨hs2,uh2,go2,do2,nm,⟨w2,w4,w5,rfl⟩,SD9,J9,hf9,hh9,hl9,vN,lnm,cc,v8,p8,S9⟩
       have dn:do2=[]:=by
         cases do2 with
         | nil=>rfl
         | cons x xs =>
           have q1:=cc x
           rw [List.drop_of_length_le (by rw [List.length_map];omega),if_pos List.mem_cons_self] at q1
           have:cx x []=0:=rfl
           omega
       subst dn
       clear cc v8 p8 vN
       have l2s:hs2.length <= 300:=by omega
       refine ⟨_,rfl,D,hs2,.answered,rfl,SD9,by omega,λD10 H10 nD10 s10 ⟨t10,e10,p10⟩=>?_⟩
       refine ⟨_,rfl,l,hs,.handed,rfl,S0l (S9.trans s10),by omega,λD11 H11 nD11 s11 ⟨t11,e11,p11⟩=>?_⟩
       have lt11:=pairedLen p11
       refine ⟨D11,t11,rfl,.inl (SqL.of e11),_,rfl,D10,t10,rfl,SqL.of (s11 _ _ e10),λq2 hq2=>?_⟩
       have cq2:cutV t10 (some (t11.length:Int)) none=t10.drop (th .handed hs2).length:=by rw [cutV_from,← lt11,hh9]
       have pq2:Paired (PV H11) uh2 (cutV t10 (some (t11.length:Int)) none):=by
         rw [cq2,J9.eh];exact Paired.mapP (paired_drop _ p10) λ_ _ h=>h.keep s11.kt
       generalize cutV t10 (some (t11.length:Int)) none=us at pq2 ⊢
       have s12:=same_new (o:=.lst us) hq2
       have v12:upd H11 q2 (.lst us) q2=some (.lst us):=upd_same
       have pq12:=Paired.mapP pq2 λ_ _ h=>PV.keep s12.kt h
       have SD12:=SD9.same (s10.trans (s11.trans s12))
       have S12:=S9.trans (s10.trans (s11.trans s12))
       have qD2:q2≠D:=λy=>by
         obtain ⟨_,e,_⟩:=SD9.same (s10.trans s11)
         rw [y,e] at hq2;cases hq2
       generalize upd H11 q2 (.lst us)=H12 at s12 v12 pq12 SD12 S12 ⊢
       clear s10 s11 s12 e10 e11 p10 p11 SD9 hq2 pq2 cq2
       have lu:=pairedLen pq12
       obtain ⟨_,u2,_,_⟩:=J9.lens
       refine ⟨q2,rfl,⟨_,SqL.of v12⟩,?_⟩
       refine for_list (K:=K) (a:=q2) (xs:=us) (λi σ H'=>∃ hs' go',(∃ v2 v4 v5,σ=[some (.ref l),some (.ref D),v2,some (.ref N),v4,v5])/\SV H' D hs'/\JI hs' [] (uh2.drop i) go' []/\firstL hs'=none/\hs'.length <= hs2.length+i/\H' q2=some (.lst us)/\Paired (PV H') uh2 us/\Same H H')
         ⟨hs2,go2,⟨_,_,_,rfl⟩,SD12,J9,hf9,Nat.le_refl _,v12,pq12,S12⟩ (λ_ _ _ _ ⟨_,_,_,_,_,_,_,y,_⟩=>SqL.of y) ?_ ?_
       · rintro i y σ H13 hi ⟨hs',go',⟨x2,x4,x5,rfl⟩,⟨tD,eD,pD⟩,J13,hf',hl',vq,pq,S13⟩
         obtain ⟨⟨n,o⟩,c,hp,rfl,vc⟩:=pv_at2 pq hi
         have hil:i < uh2.length:=(List.getElem?_eq_some_iff.mp hp).1
         have hd:uh2.drop i=(n,o) :: uh2.drop (i+1):=by rw [List.drop_eq_getElem_cons hil,(List.getElem?_eq_some_iff.mp hp).2]
         have h1:(uh2.drop i).take 1=[(n,o)]:=by rw [hd];rfl
         have e1:(uh2.drop i).drop 1=uh2.drop (i+1):=by rw [List.drop_drop]
         obtain ⟨J2,_⟩:=J13.handed h1
         rw [e1] at J2
         have fit:fitsL hs' ⟨.handed,n,o⟩=true:=by rw [← J13.fits];exact decide_eq_true h1
         have lD:=pairedLen pD
         refine ⟨_,rfl,.inl ⟨rfl,_,SqL.of eD⟩,len1v,λt ht=>?_⟩
         have s6:=same_new (o:=.tup [V.str "handed"]) ht
         have vt:upd H13 t (.tup [V.str "handed"]) t=some (.tup [V.str "handed"]):=upd_same
         have vc6:=s6 _ _ vc
         have eD6:=s6 _ _ eD
         have S6:=S13.trans s6
         generalize upd H13 t (.tup [V.str "handed"])=H6 at s6 vt vc6 eD6 S6 ⊢
         refine ⟨_,rfl,t,c,_,_,rfl,rfl,SqT.of vt,SqT.of vc6,by simp,by show 3 <= sizeLine;decide,λy=>by simp at y,λ_ t8 h8=>?_⟩
         have s7:=same_new (o:=.tup [V.str "handed",V.int n,V.int o]) h8
         refine ⟨D,tD,_,rfl,rfl,s7 _ _ eD6,sz (by omega),?_⟩
         have kt:Kt H13 (upd (upd H6 t8 (.tup [V.str "handed",V.int n,V.int o])) D (.lst (tD++[.ref t8]))):=λb vs e=>kt_upd (s7 _ _ eD6) (λ_ z=>by cases z) _ _ _ (s7 _ _ (s6 _ _ e))
         refine ⟨hs'++[⟨.handed,n,o⟩],go'.erase n,⟨_,_,_,rfl⟩,⟨_,upd_same,Paired.snoc (Paired.mapP pD λ_ _ h=>h.keep kt) ⟨t8,rfl,?_⟩⟩,J2,first_snoc hf' fit,by rw [List.length_append];show _+1 <= _;omega,?_,Paired.mapP pq λ_ _ h=>h.keep kt,nDl (S6.trans s7)⟩
         · rw [upd_ne (ne_of_none eD6 h8).symm];exact upd_same
         · rw [upd_ne qD2];exact s7 _ _ (s6 _ _ vq)
       · rintro σ H13 ⟨hs3,go3,⟨x2,x4,x5,rfl⟩,SD13,J13,hf13,hl13,vq,pq,S13⟩
         rw [List.drop_of_length_le (by omega)] at J13
         have g0:go3=[]:=List.perm_nil.mp J13.pm
         subst g0
         exact ⟨_,rfl,k D H13 hs3 S13 SD13 hf13 J13 (by omega)⟩
end

def sp_law (K:PySem.W.Frag):Sp:=λvs H Q _=>∃ (b:Addr) (ns:List Int),vs=[.ref b]/\SqL K H b (ns.map V.int)/\ns.length <= 63/\∀ H',Q (.bl true) H'
section
variable {P:Program} {w:World} {K:PySem.W.Frag} {mg:Str->Option Value} {base:Heap} {a:Ad} {d:Fd}
theorem ok_law (G:Gs K mg a d):FnOk P w K mg base CX0 9 a.law d.law ["script"] (sp_law K):=by
 have c_law_codes:FnOk P w K mg base CX0 1 _ _ _ _:=ok_codes G
 have c_law_grown:FnOk P w K mg base CX0 1 _ _ _ _:=ok_grown G
 have c_law_bent:FnOk P w K mg base CX0 1 _ _ _ _:=ok_bent G
 have c_law_cell_at:FnOk P w K mg base CX0 1 _ _ _ _:=ok_cellat G
 have c_first_wrong:FnOk P w K mg base CX0 3 _ _ _ _:=ok_fw G
 have c_law_is:FnOk P w K mg base CX0 1 _ _ _ _:=ok_is G
 have c_law_ended:FnOk P w K mg base CX0 3 _ _ _ _:=ok_ended G
 have c_law_turned:FnOk P w K mg base CX0 1 _ _ _ _:=ok_turned G
 refine G.f_law.ok sc_law (λvs H Q E h=>?_) (λcdv A outer s H vs Q E hr h=>?_)
 · obtain ⟨l,ns,rfl,_⟩:=h
   rfl
 · obtain ⟨l,ns,rfl,hS,hlen,k⟩:=h
   have hu:=hu_of hr
   refine ⟨_,(@pss_cons _ _ _ _ _ (@ps_set _ _ 1 _ _ _ _ sc_law.nd rfl (Or.inl rfl) (pe_call c_law_codes (hr.mono (by decide)) (by rfl) G.m_law_codes G.f_law_codes.kp G.b_law_codes .nil pass0 (@pa_cons _ _ _ _ _ (pv 0) (@pa_cons _ _ _ _ _ pe_int pa_nil (by rfl)) (by rfl))) (by rfl) (by first | exact .inl rfl | exact .inr rfl | assumption))
     (@pss_cons _ _ _ _ _ (@ps_set _ _ 2 _ _ _ _ sc_law.nd rfl (Or.inl rfl) (@pe_op _ _ _ _ _ _ _ _ op_mod (pe_call c_law_cell_at (hr.mono (by decide)) (by rfl) G.m_law_cell_at G.f_law_cell_at.kp G.b_law_cell_at .nil pass0 (@pa_cons _ _ _ _ _ (pv 0) (@pa_cons _ _ _ _ _ pe_int pa_nil (by rfl)) (by rfl))) (@pe_op _ _ _ _ _ _ _ _ op_pow pe_int pe_int)) (by rfl) (by first | exact .inl rfl | exact .inr rfl | assumption))
     (@pss_cons _ _ _ _ _ (@ps_set _ _ 3 _ _ _ _ sc_law.nd rfl (Or.inl rfl) (pe_call c_law_bent (hr.mono (by decide)) (by rfl) G.m_law_bent G.f_law_bent.kp G.b_law_bent .nil pass0 (@pa_cons _ _ _ _ _ (pe_call c_law_grown (hr.mono (by decide)) (by rfl) G.m_law_grown G.f_law_grown.kp G.b_law_grown .nil pass0 (@pa_cons _ _ _ _ _ (pv 1) pa_nil (by rfl))) (@pa_cons _ _ _ _ _ (pv 2) pa_nil (by rfl)) (by rfl))) (by rfl) (by first | exact .inl rfl | exact .inr rfl | assumption))
     (@pss_cons _ _ _ _ _ (@ps_set _ _ 4 _ _ _ _ sc_law.nd rfl (Or.inl rfl) (pe_call c_first_wrong (hr.mono (by decide)) (by rfl) G.m_first_wrong G.f_first_wrong.kp G.b_first_wrong .nil pass0 (@pa_cons _ _ _ _ _ (pe_callTy call_list_of (by rfl) G.n_list bt_list (@pa_cons _ _ _ _ _ (pv 3) pa_nil (by rfl))) pa_nil (by rfl))) (by rfl) (by first | exact .inl rfl | exact .inr rfl | assumption))
     (@pss_cons _ _ _ _ _ (ps_if ((pw_and (pt_cmpR op_notN (pv 4) pe_non (nomark _)) (pw_and1 ((pw_or (pt_not (pt_val (pe_call c_law_is (hr.mono (by decide)) (by rfl) G.m_law_is G.f_law_is.kp G.b_law_is .nil pass0 (@pa_cons _ _ _ _ _ (pv 4) (@pa_cons _ _ _ _ _ (pv 4) pa_nil (by rfl)) (by rfl))))) (pw_or1 (pt_not (pt_chain op_le op_lt pe_int (pv 4) (pe_callB call_len_seq (by rfl) G.n_len bt_len (@pa_cons _ _ _ _ _ (pv 3) pa_nil (by rfl)))))))).pt))).pt (@pss_one _ _ _ (@ps_ret _ _ _ _ pe_bl)) pss_nil)
     (@pss_cons _ _ _ _ _ (ps_for PassesOwn.never rfl (pi_range1 (by rfl) G.n_range (@pa_cons _ _ _ _ _ (@pe_op _ _ _ _ _ _ _ _ op_add (pe_callB call_len_seq (by rfl) G.n_len bt_len (@pa_cons _ _ _ _ _ (pv 3) pa_nil (by rfl))) pe_int) pa_nil (by rfl))) (pg_name (i:=5) sc_law.nd rfl (Or.inl rfl)) (@pss_cons _ _ _ _ _ (@ps_set _ _ 6 _ _ _ _ sc_law.nd rfl (Or.inl rfl) (pv 4) (by rfl) (by first | exact .inl rfl | exact .inr rfl | assumption))
     (@pss_cut _ _ _ _ _ (ps_if ((pw_or (pt_cmpR op_isN (pv 4) pe_non (nomark _)) (pw_or1 (pt_cmpR op_le (pv 5) (pv 4) (nomark _))))).pt (@pss_one _ _ _ (@ps_set _ _ 6 _ _ _ _ sc_law.nd rfl (Or.inl rfl) pe_non (by rfl) (by first | exact .inl rfl | exact .inr rfl | assumption))) pss_nil)
     (@pss_one _ _ _ (ps_if (pt_not (pt_val (pe_call c_law_is (hr.mono (by decide)) (by rfl) G.m_law_is G.f_law_is.kp G.b_law_is .nil pass0 (@pa_cons _ _ _ _ _ (pe_call c_first_wrong (hr.mono (by decide)) (by rfl) G.m_first_wrong G.f_first_wrong.kp G.b_first_wrong .nil pass0 (@pa_cons _ _ _ _ _ (pe_slice sl_list (pv 3) po_none (po_some (pv 5))) pa_nil (by rfl))) (@pa_cons _ _ _ _ _ (pv 6) pa_nil (by rfl)) (by rfl))))) (@pss_one _ _ _ (@ps_ret _ _ _ _ pe_bl)) pss_nil)))))
     (@pss_cons _ _ _ _ _ (@ps_set _ _ 7 _ _ _ _ sc_law.nd rfl (Or.inl rfl) (pe_call c_law_ended (hr.mono (by decide)) (by rfl) G.m_law_ended G.f_law_ended.kp G.b_law_ended .nil pass0 (@pa_cons _ _ _ _ _ (pe_call c_law_grown (hr.mono (by decide)) (by rfl) G.m_law_grown G.f_law_grown.kp G.b_law_grown .nil pass0 (@pa_cons _ _ _ _ _ (pe_slice sl_list (pv 1) po_none (po_some pe_int)) pa_nil (by rfl))) pa_nil (by rfl))) (by rfl) (by first | exact .inl rfl | exact .inr rfl | assumption))
     (@pss_cons _ _ _ _ _ (@ps_set _ _ 6 _ _ _ _ sc_law.nd rfl (Or.inl rfl) (pv 4) (by rfl) (by first | exact .inl rfl | exact .inr rfl | assumption))
     (@pss_cut _ _ _ _ _ (ps_if (pt_cmpR op_notN (pv 4) pe_non (nomark _)) (@pss_one _ _ _ (@ps_set _ _ 6 _ _ _ _ sc_law.nd rfl (Or.inl rfl) (@pe_op _ _ _ _ _ _ _ _ op_add (pe_callB call_len_seq (by rfl) G.n_len bt_len (@pa_cons _ _ _ _ _ (pv 7) pa_nil (by rfl))) (pv 4)) (by rfl) (by first | exact .inl rfl | exact .inr rfl | assumption))) pss_nil)
     (@pss_cons _ _ _ _ _ (ps_if ((pw_or (pt_not (pt_val (pe_call c_law_is (hr.mono (by decide)) (by rfl) G.m_law_is G.f_law_is.kp G.b_law_is .nil pass0 (@pa_cons _ _ _ _ _ (pe_call c_first_wrong (hr.mono (by decide)) (by rfl) G.m_first_wrong G.f_first_wrong.kp G.b_first_wrong .nil pass0 (@pa_cons _ _ _ _ _ (pv 7) pa_nil (by rfl))) (@pa_cons _ _ _ _ _ pe_non pa_nil (by rfl)) (by rfl))))) (pw_or1 (pt_not (pt_val (pe_call c_law_is (hr.mono (by decide)) (by rfl) G.m_law_is G.f_law_is.kp G.b_law_is .nil pass0 (@pa_cons _ _ _ _ _ (pe_call c_first_wrong (hr.mono (by decide)) (by rfl) G.m_first_wrong G.f_first_wrong.kp G.b_first_wrong .nil pass0 (@pa_cons _ _ _ _ _ (@pe_op _ _ _ _ _ _ _ _ op_cat (pv 7) (pv 3)) pa_nil (by rfl))) (@pa_cons _ _ _ _ _ (pv 6) pa_nil (by rfl)) (by rfl)))))))).pt (@pss_one _ _ _ (@ps_ret _ _ _ _ pe_bl)) pss_nil)
     (@pss_one _ _ _ (@ps_ret _ _ _ _ (pe_call c_law_is (hr.mono (by decide)) (by rfl) G.m_law_is G.f_law_is.kp G.b_law_is .nil pass0 (@pa_cons _ _ _ _ _ (pe_call c_first_wrong (hr.mono (by decide)) (by rfl) G.m_first_wrong G.f_first_wrong.kp G.b_first_wrong .nil pass0 (@pa_cons _ _ _ _ _ (pe_call c_law_turned (hr.mono (by decide)) (by rfl) G.m_law_turned G.f_law_turned.kp G.b_law_turned .nil pass0 (@pa_cons _ _ _ _ _ (pv 3) (@pa_cons _ _ _ _ _ (@pe_op _ _ _ _ _ _ _ _ op_fdivB (pv 2) pe_int) pa_nil (by rfl)) (by rfl))) pa_nil (by rfl))) (@pa_cons _ _ _ _ _ (pv 4) pa_nil (by rfl)) (by rfl))))))))))))))),?_⟩
   have p9:(0:Int) < 10 ^ (9:Int).toNat:=by decide
   refine ⟨_,rfl,l,ns,30,rfl,hS,hlen,λD1 H1 cs s1 v1 l1 c1=>?_⟩
   refine ⟨_,rfl,l,ns,0,rfl,s1.seq hS,λi0=>⟨_,_,rfl,rfl,⟨by decide,by decide,by decide⟩,_,_,rfl,rfl,p9,?_⟩⟩
   refine ⟨_,rfl,D1,cs,rfl,v1,by omega,c1,λD2 H2 hs0 s2 S2 l2' hf0 I0 b0=>?_⟩
   refine ⟨_,rfl,D2,hs0,_,rfl,S2,by omega,b0,λD3 H3 hs s3 S3 l3' b3=>?_⟩
   have E3:=s1.trans (s2.trans s3)
   obtain ⟨ts,e3,p3⟩:=S3
   have lts:=pairedLen p3
   refine ⟨_,rfl,D3,ts,rfl,.inl (SqL.of e3),λq4 h4=>?_⟩
   have s4:=same_new (o:=.lst ts) h4
   have e4:=s4 _ _ e3
   have p4:=Paired.mapP p3 λ_ _ h=>HV.keep s4.kt h
   refine ⟨q4,hs,rfl,⟨ts,upd_same,p4⟩,by omega,λH5 s5=>?_⟩
   have E5:=E3.trans (s4.trans s5)
   have e5:=s5 _ _ e4
   have p5:=Paired.mapP p4 λ_ _ h=>HV.keep s5.kt h
   have v5:=s5 _ _ (s4 _ _ (s3 _ _ (s2 _ _ v1)))
   clear s1 s2 s3 s4 s5 e3 e4 p3 p4 v1 S2 h4 hf0 I0 b0
   cases hfo:firstL hs with
   | none =>
     refine ⟨_,rfl,rfl,_,rfl,iteF (iteF ?_)⟩
     refine ⟨_,rfl,D3,ts,rfl,.inl (SqL.of e5),_,_,rfl,rfl,((ts.length:Int)+1),rfl,by omega,by omega,?_⟩
     refine for_range (n:=((ts.length:Int)+1).toNat) (λj σ H'=>(∃ v5 v6,σ=[some (.ref l),some (.ref D1),some (.int (i0 % 10 ^ (9:Int).toNat)),some (.ref D3),some (vO none),v5,v6,none])/\Same H5 H') ⟨⟨_,_,rfl⟩,Same.refl _⟩ ?_ ?_
     · rintro j σ H6 hj ⟨⟨v5',v6',rfl⟩,s6⟩
       have hft:firstL (hs.take j)=(firstL hs).bind λk=>if j <= k then none else some k:=by
         have h:=first_take hs [] j
         unfold firstL
         rw [h]
         congr 1
         funext k'
         rw [show ([]:List Hap).length+j=j from Nat.zero_add _]
       rw [hfo] at hft
       refine ⟨_,rfl,?_⟩
       refine ⟨λσ' H'=>σ'=[some (.ref l),some (.ref D1),some (.int (i0 % 10 ^ (9:Int).toNat)),some (.ref D3),some (vO none),some (.int (0+(j:Int))),some (vO (firstL (hs.take j))),none]/\H'=H6,?_,?_⟩
       · refine ⟨_,rfl,rfl,_,rfl,iteT (iteT ⟨?_,rfl⟩)⟩
         rw [hft];rfl
       · rintro σ' H' ⟨rfl,rfl⟩
         refine ⟨_,rfl,_,rfl,_,rfl,D3,ts,rfl,SqL.of (s6 _ _ e5),λq hq=>?_⟩
         have s7:=same_new (o:=.lst (cutV ts none (some (0+(j:Int))))) hq
         have pr1:Paired (HV H5) (hs.take j) (cutV ts none (some (0+(j:Int)))):=by rw [Int.zero_add,cutV_to];exact paired_take j p5
         refine ⟨q,hs.take j,rfl,⟨_,upd_same,Paired.mapP pr1 λ_ _ h=>h.keep (s6.trans s7).kt⟩,by rw [List.length_take];omega,λH8 s8=>⟨_,rfl,firstL (hs.take j),rfl,_,rfl,iteF ⟨⟨_,_,rfl⟩,s6.trans (s7.trans s8)⟩⟩⟩
     · rintro σ H6 ⟨⟨v5',v6',rfl⟩,s6⟩
       refine ⟨_,rfl,_,rfl,D1,_,rfl,SqL.of (s6 _ _ v5),λq hq=>?_⟩
       have s7:=same_new (o:=.lst (cutV (cs.map V.int) none (some 10))) hq
       have ec:cutV (cs.map V.int) none (some 10)=(cs.take 10).map V.int:=by rw [show (10:Int)=((10:Nat):Int) from rfl,cutV_to,List.map_take]
       refine ⟨q,cs.take 10,rfl,by rw [upd_same,ec],by rw [List.length_take];omega,λc hc=>c1 c (List.mem_of_mem_take hc),λD8 H8 hsA s8 S8 l8 hf8 ⟨un,uh,go,do',I8⟩ b8=>?_⟩
       rw [List.length_take] at l8
       refine ⟨D8,hsA,un,uh,go,do',rfl,S8,by omega,I8,hf8,λD9 H9 hsB s9 S9 hf9 J9 l9=>?_⟩
       have E9:=s6.trans (s7.trans (s8.trans s9))
       obtain ⟨tB,eB,pB⟩:=S9
       have lB:=pairedLen pB
       have hbe:=first_behind (hs:=hs) hf9 J9
       rw [hfo] at hbe
       refine ⟨_,rfl,?_⟩
       refine ⟨λσ' H'=>σ'=[some (.ref l),some (.ref D1),some (.int (i0 % 10 ^ (9:Int).toNat)),some (.ref D3),some (vO none),v5',some (vO (firstL (hsB++hs))),some (.ref D9)]/\H'=H9,?_,?_⟩
       · refine ⟨_,rfl,rfl,_,rfl,iteF ⟨?_,rfl⟩⟩
         rw [hbe];rfl
       · rintro σ' H' ⟨rfl,rfl⟩
         refine ⟨_,rfl,D9,hsB,rfl,⟨tB,eB,pB⟩,by omega,λH10 s10=>⟨none,by rw [hf9];rfl,_,rfl,iteF ?_⟩⟩
         have E10:=E9.trans s10
         have e10:=E10 _ _ e5
         refine ⟨_,rfl,_,rfl,D9,D3,tB,ts,rfl,rfl,s10 _ _ eB,e10,Nat.le_trans (show _ <= 5000 by omega) (by decide),λpq hpq=>?_⟩
         have s11:=same_new (o:=.lst (tB++ts)) hpq
         refine ⟨pq,hsB++hs,rfl,⟨_,upd_same,paired_app (Paired.mapP pB λ_ _ h=>h.keep (s10.trans s11).kt) (Paired.mapP p5 λ_ _ h=>h.keep (E10.trans s11).kt)⟩,by rw [List.length_append];omega,λH12 s12=>⟨_,rfl,firstL (hsB++hs),rfl,_,rfl,iteF ?_⟩⟩
         have E12:=E10.trans (s11.trans s12)
         refine ⟨_,rfl,_,rfl,_,_,rfl,rfl,⟨by decide,by decide⟩,D3,hs,_,rfl,⟨ts,E12 _ _ e5,Paired.mapP p5 λ_ _ h=>h.keep E12.kt⟩,by omega,λD13 H13 b d' s13 hb S13=>?_⟩
         refine ⟨D13,_,rfl,S13,by rw [List.length_map];omega,λH14 s14=>⟨_,rfl,none,?_,k _⟩⟩
         rw [first_map (tn9 hb) b3,hfo];rfl
   | some m =>
     have hm:=first_lt hfo
     have hm':m < hs.length:=by simpa using hm
     refine ⟨_,rfl,rfl,_,rfl,iteT ⟨_,rfl,_,rfl,some m,rfl,_,rfl,iteF ?_⟩⟩
     refine ⟨_,rfl,_,_,rfl,rfl,_,rfl,iteDT (show (0:Int) <= (m:Int) by omega) ⟨_,rfl,D3,ts,rfl,.inl (SqL.of e5),_,_,rfl,rfl,_,rfl,?_⟩⟩
     rw [decide_eq_true (show ((m:Nat):Int) < ((ts.length:Nat):Int) by omega)]
     refine iteF ?_
     refine ⟨_,rfl,D3,ts,rfl,.inl (SqL.of e5),_,_,rfl,rfl,((ts.length:Int)+1),rfl,by omega,by omega,?_⟩
     refine for_range (n:=((ts.length:Int)+1).toNat) (λj σ H'=>(∃ v5 v6,σ=[some (.ref l),some (.ref D1),some (.int (i0 % 10 ^ (9:Int).toNat)),some (.ref D3),some (vO (some m)),v5,v6,none])/\Same H5 H') ⟨⟨_,_,rfl⟩,Same.refl _⟩ ?_ ?_
     · rintro j σ H6 hj ⟨⟨v5',v6',rfl⟩,s6⟩
       have hft:firstL (hs.take j)=(firstL hs).bind λk=>if j <= k then none else some k:=by
         have h:=first_take hs [] j
         unfold firstL
         rw [h]
         congr 1
         funext k'
         rw [show ([]:List Hap).length+j=j from Nat.zero_add _]
       rw [hfo] at hft
       refine ⟨_,rfl,?_⟩
       refine ⟨λσ' H'=>σ'=[some (.ref l),some (.ref D1),some (.int (i0 % 10 ^ (9:Int).toNat)),some (.ref D3),some (vO (some m)),some (.int (0+(j:Int))),some (vO (firstL (hs.take j))),none]/\H'=H6,?_,?_⟩
       · refine ⟨_,rfl,rfl,_,rfl,iteF ⟨_,rfl,_,rfl,_,_,rfl,rfl,_,rfl,?_⟩⟩
         by_cases hc:j <= m
         · refine iteDT (show 0+(j:Int) <= (m:Int) by omega) ⟨?_,rfl⟩
           rw [hft]
           show _=[_,_,_,_,_,_,some (vO (if j <= m then none else some m)),_]
           rw [if_pos hc];rfl
         · refine iteDF (show ¬ 0+(j:Int) <= (m:Int) by omega) ⟨?_,rfl⟩
           rw [hft]
           show _=[_,_,_,_,_,_,some (vO (if j <= m then none else some m)),_]
           rw [if_neg hc];rfl
       · rintro σ' H' ⟨rfl,rfl⟩
         refine ⟨_,rfl,_,rfl,_,rfl,D3,ts,rfl,SqL.of (s6 _ _ e5),λq hq=>?_⟩
         have s7:=same_new (o:=.lst (cutV ts none (some (0+(j:Int))))) hq
         have pr1:Paired (HV H5) (hs.take j) (cutV ts none (some (0+(j:Int)))):=by rw [Int.zero_add,cutV_to];exact paired_take j p5
         refine ⟨q,hs.take j,rfl,⟨_,upd_same,Paired.mapP pr1 λ_ _ h=>h.keep (s6.trans s7).kt⟩,by rw [List.length_take];omega,λH8 s8=>⟨_,rfl,firstL (hs.take j),rfl,_,rfl,iteF ⟨⟨_,_,rfl⟩,s6.trans (s7.trans s8)⟩⟩⟩
     · rintro σ H6 ⟨⟨v5',v6',rfl⟩,s6⟩
       refine ⟨_,rfl,_,rfl,D1,_,rfl,SqL.of (s6 _ _ v5),λq hq=>?_⟩
       have s7:=same_new (o:=.lst (cutV (cs.map V.int) none (some 10))) hq
       have ec:cutV (cs.map V.int) none (some 10)=(cs.take 10).map V.int:=by rw [show (10:Int)=((10:Nat):Int) from rfl,cutV_to,List.map_take]
       refine ⟨q,cs.take 10,rfl,by rw [upd_same,ec],by rw [List.length_take];omega,λc hc=>c1 c (List.mem_of_mem_take hc),λD8 H8 hsA s8 S8 l8 hf8 ⟨un,uh,go,do',I8⟩ b8=>?_⟩
       rw [List.length_take] at l8
       refine ⟨D8,hsA,un,uh,go,do',rfl,S8,by omega,I8,hf8,λD9 H9 hsB s9 S9 hf9 J9 l9=>?_⟩
       have E9:=s6.trans (s7.trans (s8.trans s9))
       obtain ⟨tB,eB,pB⟩:=S9
       have lB:=pairedLen pB
       have hbe:=first_behind (hs:=hs) hf9 J9
       rw [hfo] at hbe
       refine ⟨_,rfl,?_⟩
       refine ⟨λσ' H'=>σ'=[some (.ref l),some (.ref D1),some (.int (i0 % 10 ^ (9:Int).toNat)),some (.ref D3),some (vO (some m)),v5',some (vO (firstL (hsB++hs))),some (.ref D9)]/\H'=H9,?_,?_⟩
       · refine ⟨_,rfl,rfl,_,rfl,iteT ⟨_,rfl,D9,tB,rfl,.inl (SqL.of eB),_,rfl,_,_,rfl,rfl,?_,rfl⟩⟩
         rw [hbe]
         have e:((tB.length:Nat):Int)+(m:Int)=((m+hsB.length:Nat):Int):=by omega
         show [_,_,_,_,_,_,some (V.int (((tB.length:Nat):Int)+(m:Int))),_]=[_,_,_,_,_,_,some (V.int ((m+hsB.length:Nat):Int)),_]
         rw [e]
       · rintro σ' H' ⟨rfl,rfl⟩
         refine ⟨_,rfl,D9,hsB,rfl,⟨tB,eB,pB⟩,by omega,λH10 s10=>⟨none,by rw [hf9];rfl,_,rfl,iteF ?_⟩⟩
         have E10:=E9.trans s10
         have e10:=E10 _ _ e5
         refine ⟨_,rfl,_,rfl,D9,D3,tB,ts,rfl,rfl,s10 _ _ eB,e10,Nat.le_trans (show _ <= 5000 by omega) (by decide),λpq hpq=>?_⟩
         have s11:=same_new (o:=.lst (tB++ts)) hpq
         refine ⟨pq,hsB++hs,rfl,⟨_,upd_same,paired_app (Paired.mapP pB λ_ _ h=>h.keep (s10.trans s11).kt) (Paired.mapP p5 λ_ _ h=>h.keep (E10.trans s11).kt)⟩,by rw [List.length_append];omega,λH12 s12=>⟨_,rfl,firstL (hsB++hs),rfl,_,rfl,iteF ?_⟩⟩
         have E12:=E10.trans (s11.trans s12)
         refine ⟨_,rfl,_,rfl,_,_,rfl,rfl,⟨by decide,by decide⟩,D3,hs,_,rfl,⟨ts,E12 _ _ e5,Paired.mapP p5 λ_ _ h=>h.keep E12.kt⟩,by omega,λD13 H13 b d' s13 hb S13=>?_⟩
         refine ⟨D13,_,rfl,S13,by rw [List.length_map];omega,λH14 s14=>⟨_,rfl,some m,?_,k _⟩⟩
         rw [first_map (tn9 hb) b3,hfo];rfl
end

theorem all_mk {l:PySem.W.OpenLaw} {w:World} {K:PySem.W.Frag} {h:Heap} {mg:Str->Option Value} {fa:Addr} (X:K.In h) (G:h.Ns mainGlobals mg) (hfa:mg "law"=some (.ref fa))
   {f_Judge__init f_Judge_fits f_Judge_go_on f_first_wrong f_law_cell_at f_law_codes f_law_grown f_law_bent f_law_things f_law_ended f_law_turned f_law_is f_law C_Judge:Addr}
   {od_Judge__init an_Judge__init:Option Addr} {sl_Judge__init:Array (Option Value)} {oc_Judge__init kV_Judge__init dc_Judge__init pm_Judge__init cd_Judge__init ct_Judge__init:Value}
   {od_Judge_fits an_Judge_fits:Option Addr} {sl_Judge_fits:Array (Option Value)} {oc_Judge_fits kV_Judge_fits dc_Judge_fits pm_Judge_fits cd_Judge_fits ct_Judge_fits:Value}
   {od_Judge_go_on an_Judge_go_on:Option Addr} {sl_Judge_go_on:Array (Option Value)} {oc_Judge_go_on kV_Judge_go_on dc_Judge_go_on pm_Judge_go_on cd_Judge_go_on ct_Judge_go_on:Value}
   {od_first_wrong an_first_wrong:Option Addr} {sl_first_wrong:Array (Option Value)} {oc_first_wrong kV_first_wrong dc_first_wrong pm_first_wrong cd_first_wrong ct_first_wrong:Value}
   {od_law_cell_at an_law_cell_at:Option Addr} {sl_law_cell_at:Array (Option Value)} {oc_law_cell_at kV_law_cell_at dc_law_cell_at pm_law_cell_at cd_law_cell_at ct_law_cell_at:Value}
   {od_law_codes an_law_codes:Option Addr} {sl_law_codes:Array (Option Value)} {oc_law_codes kV_law_codes dc_law_codes pm_law_codes cd_law_codes ct_law_codes:Value}
   {od_law_grown an_law_grown:Option Addr} {sl_law_grown:Array (Option Value)} {oc_law_grown kV_law_grown dc_law_grown pm_law_grown cd_law_grown ct_law_grown:Value}
   {od_law_bent an_law_bent:Option Addr} {sl_law_bent:Array (Option Value)} {oc_law_bent kV_law_bent dc_law_bent pm_law_bent cd_law_bent ct_law_bent:Value}
   {od_law_things an_law_things:Option Addr} {sl_law_things:Array (Option Value)} {oc_law_things kV_law_things dc_law_things pm_law_things cd_law_things ct_law_things:Value}
   {od_law_ended an_law_ended:Option Addr} {sl_law_ended:Array (Option Value)} {oc_law_ended kV_law_ended dc_law_ended pm_law_ended cd_law_ended ct_law_ended:Value}
   {od_law_turned an_law_turned:Option Addr} {sl_law_turned:Array (Option Value)} {oc_law_turned kV_law_turned dc_law_turned pm_law_turned cd_law_turned ct_law_turned:Value}
   {od_law_is an_law_is:Option Addr} {sl_law_is:Array (Option Value)} {oc_law_is kV_law_is dc_law_is pm_law_is cd_law_is ct_law_is:Value}
   {od_law an_law:Option Addr} {sl_law:Array (Option Value)} {oc_law kV_law dc_law pm_law cd_law ct_law:Value}
   (aC_Judge:PySem.W.nsIn K mainGlobals "Judge"=some (some (.ref C_Judge)))
   (a_Judge__init:PySem.W.findIn K (.ref C_Judge) "__init__"=some (some (.ref f_Judge__init)))
   (i_Judge__init:PySem.W.isFn K (.ref f_Judge__init)=true)
   (l_Judge__init:K.lookup f_Judge__init=some ⟨oc_Judge__init,od_Judge__init,.func (PySem.W.fnOf "__init__" "Judge.__init__" (defArgs s_Judge__init) (defBody s_Judge__init) (defScope s_Judge__init) .none kV_Judge__init dc_Judge__init pm_Judge__init an_Judge__init cd_Judge__init ct_Judge__init),sl_Judge__init⟩)
   (c_Judge__init:PySem.W.codeIn K cd_Judge__init "Judge.__init__"=true)
   (k_Judge__init:PySem.W.keepIn K (.ref f_Judge__init)=true)
   (a_Judge_fits:PySem.W.findIn K (.ref C_Judge) "fits"=some (some (.ref f_Judge_fits)))
   (i_Judge_fits:PySem.W.isFn K (.ref f_Judge_fits)=true)
   (l_Judge_fits:K.lookup f_Judge_fits=some ⟨oc_Judge_fits,od_Judge_fits,.func (PySem.W.fnOf "fits" "Judge.fits" (defArgs s_Judge_fits) (defBody s_Judge_fits) (defScope s_Judge_fits) .none kV_Judge_fits dc_Judge_fits pm_Judge_fits an_Judge_fits cd_Judge_fits ct_Judge_fits),sl_Judge_fits⟩)
   (c_Judge_fits:PySem.W.codeIn K cd_Judge_fits "Judge.fits"=true)
   (k_Judge_fits:PySem.W.keepIn K (.ref f_Judge_fits)=true)
   (a_Judge_go_on:PySem.W.findIn K (.ref C_Judge) "go_on"=some (some (.ref f_Judge_go_on)))
   (i_Judge_go_on:PySem.W.isFn K (.ref f_Judge_go_on)=true)
   (l_Judge_go_on:K.lookup f_Judge_go_on=some ⟨oc_Judge_go_on,od_Judge_go_on,.func (PySem.W.fnOf "go_on" "Judge.go_on" (defArgs s_Judge_go_on) (defBody s_Judge_go_on) (defScope s_Judge_go_on) .none kV_Judge_go_on dc_Judge_go_on pm_Judge_go_on an_Judge_go_on cd_Judge_go_on ct_Judge_go_on),sl_Judge_go_on⟩)
   (c_Judge_go_on:PySem.W.codeIn K cd_Judge_go_on "Judge.go_on"=true)
   (k_Judge_go_on:PySem.W.keepIn K (.ref f_Judge_go_on)=true)
   (a_first_wrong:PySem.W.nsIn K mainGlobals "first_wrong"=some (some (.ref f_first_wrong)))
   (l_first_wrong:K.lookup f_first_wrong=some ⟨oc_first_wrong,od_first_wrong,.func (PySem.W.fnOf "first_wrong" "first_wrong" (defArgs s_first_wrong) (defBody s_first_wrong) (defScope s_first_wrong) .none kV_first_wrong dc_first_wrong pm_first_wrong an_first_wrong cd_first_wrong ct_first_wrong),sl_first_wrong⟩)
   (c_first_wrong:PySem.W.codeIn K cd_first_wrong "first_wrong"=true)
   (k_first_wrong:PySem.W.keepIn K (.ref f_first_wrong)=true)
   (a_law_cell_at:PySem.W.nsIn K mainGlobals "_law_cell_at"=some (some (.ref f_law_cell_at)))
   (l_law_cell_at:K.lookup f_law_cell_at=some ⟨oc_law_cell_at,od_law_cell_at,.func (PySem.W.fnOf "_law_cell_at" "_law_cell_at" (defArgs s_law_cell_at) (defBody s_law_cell_at) (defScope s_law_cell_at) .none kV_law_cell_at dc_law_cell_at pm_law_cell_at an_law_cell_at cd_law_cell_at ct_law_cell_at),sl_law_cell_at⟩)
   (c_law_cell_at:PySem.W.codeIn K cd_law_cell_at "_law_cell_at"=true)
   (k_law_cell_at:PySem.W.keepIn K (.ref f_law_cell_at)=true)
   (a_law_codes:PySem.W.nsIn K mainGlobals "_law_codes"=some (some (.ref f_law_codes)))
   (l_law_codes:K.lookup f_law_codes=some ⟨oc_law_codes,od_law_codes,.func (PySem.W.fnOf "_law_codes" "_law_codes" (defArgs s_law_codes) (defBody s_law_codes) (defScope s_law_codes) .none kV_law_codes dc_law_codes pm_law_codes an_law_codes cd_law_codes ct_law_codes),sl_law_codes⟩)
   (c_law_codes:PySem.W.codeIn K cd_law_codes "_law_codes"=true)
   (k_law_codes:PySem.W.keepIn K (.ref f_law_codes)=true)
   (a_law_grown:PySem.W.nsIn K mainGlobals "_law_grown"=some (some (.ref f_law_grown)))
   (l_law_grown:K.lookup f_law_grown=some ⟨oc_law_grown,od_law_grown,.func (PySem.W.fnOf "_law_grown" "_law_grown" (defArgs s_law_grown) (defBody s_law_grown) (defScope s_law_grown) .none kV_law_grown dc_law_grown pm_law_grown an_law_grown cd_law_grown ct_law_grown),sl_law_grown⟩)
   (c_law_grown:PySem.W.codeIn K cd_law_grown "_law_grown"=true)
   (k_law_grown:PySem.W.keepIn K (.ref f_law_grown)=true)
   (a_law_bent:PySem.W.nsIn K mainGlobals "_law_bent"=some (some (.ref f_law_bent)))
   (l_law_bent:K.lookup f_law_bent=some ⟨oc_law_bent,od_law_bent,.func (PySem.W.fnOf "_law_bent" "_law_bent" (defArgs s_law_bent) (defBody s_law_bent) (defScope s_law_bent) .none kV_law_bent dc_law_bent pm_law_bent an_law_bent cd_law_bent ct_law_bent),sl_law_bent⟩)
   (c_law_bent:PySem.W.codeIn K cd_law_bent "_law_bent"=true)
   (k_law_bent:PySem.W.keepIn K (.ref f_law_bent)=true)
   (a_law_things:PySem.W.nsIn K mainGlobals "_law_things"=some (some (.ref f_law_things)))
   (l_law_things:K.lookup f_law_things=some ⟨oc_law_things,od_law_things,.func (PySem.W.fnOf "_law_things" "_law_things" (defArgs s_law_things) (defBody s_law_things) (defScope s_law_things) .none kV_law_things dc_law_things pm_law_things an_law_things cd_law_things ct_law_things),sl_law_things⟩)
   (c_law_things:PySem.W.codeIn K cd_law_things "_law_things"=true)
   (k_law_things:PySem.W.keepIn K (.ref f_law_things)=true)
   (a_law_ended:PySem.W.nsIn K mainGlobals "_law_ended"=some (some (.ref f_law_ended)))
   (l_law_ended:K.lookup f_law_ended=some ⟨oc_law_ended,od_law_ended,.func (PySem.W.fnOf "_law_ended" "_law_ended" (defArgs s_law_ended) (defBody s_law_ended) (defScope s_law_ended) .none kV_law_ended dc_law_ended pm_law_ended an_law_ended cd_law_ended ct_law_ended),sl_law_ended⟩)
   (c_law_ended:PySem.W.codeIn K cd_law_ended "_law_ended"=true)
   (k_law_ended:PySem.W.keepIn K (.ref f_law_ended)=true)
   (a_law_turned:PySem.W.nsIn K mainGlobals "_law_turned"=some (some (.ref f_law_turned)))
   (l_law_turned:K.lookup f_law_turned=some ⟨oc_law_turned,od_law_turned,.func (PySem.W.fnOf "_law_turned" "_law_turned" (defArgs s_law_turned) (defBody s_law_turned) (defScope s_law_turned) .none kV_law_turned dc_law_turned pm_law_turned an_law_turned cd_law_turned ct_law_turned),sl_law_turned⟩)
   (c_law_turned:PySem.W.codeIn K cd_law_turned "_law_turned"=true)
   (k_law_turned:PySem.W.keepIn K (.ref f_law_turned)=true)
   (a_law_is:PySem.W.nsIn K mainGlobals "_law_is"=some (some (.ref f_law_is)))
   (l_law_is:K.lookup f_law_is=some ⟨oc_law_is,od_law_is,.func (PySem.W.fnOf "_law_is" "_law_is" (defArgs s_law_is) (defBody s_law_is) (defScope s_law_is) .none kV_law_is dc_law_is pm_law_is an_law_is cd_law_is ct_law_is),sl_law_is⟩)
   (c_law_is:PySem.W.codeIn K cd_law_is "_law_is"=true)
   (k_law_is:PySem.W.keepIn K (.ref f_law_is)=true)
   (a_law:PySem.W.nsIn K mainGlobals "law"=some (some (.ref f_law)))
   (l_law:K.lookup f_law=some ⟨oc_law,od_law,.func (PySem.W.fnOf "law" "law" (defArgs s_law) (defBody s_law) (defScope s_law) .none kV_law dc_law pm_law an_law cd_law ct_law),sl_law⟩)
   (c_law:PySem.W.codeIn K cd_law "law"=true)
   (k_law:PySem.W.keepIn K (.ref f_law)=true)
   (pg_Judge:PySem.W.plainGet K C_Judge Str.empty=true)
   (hd_Judge:PySem.W.hasDictIn K C_Judge=true)
   (po_Judge:PySem.W.plainOver K C_Judge=true)
   (sa_Judge:PySem.W.findIn K (.ref C_Judge) "__setattr__"=some (some (.builtin "object.__setattr__")))
   (mk_Judge:PySem.W.makesIn K C_Judge=true)
   (kc_Judge:PySem.W.keepIn K (.ref C_Judge)=true)
   (na_Judge_untaken:PySem.W.findIn K (.ref C_Judge) "untaken"=some none)
   (na_Judge_unhanded:PySem.W.findIn K (.ref C_Judge) "unhanded"=some none)
   (na_Judge_going:PySem.W.findIn K (.ref C_Judge) "going"=some none)
   (na_Judge_doing:PySem.W.findIn K (.ref C_Judge) "doing"=some none)
   (n_bool:PySem.W.nsIn K mainGlobals "bool"=some none)
   (n_enumerate:PySem.W.nsIn K mainGlobals "enumerate"=some none)
   (n_int:PySem.W.nsIn K mainGlobals "int"=some none)
   (n_isinstance:PySem.W.nsIn K mainGlobals "isinstance"=some none)
   (n_len:PySem.W.nsIn K mainGlobals "len"=some none)
   (n_list:PySem.W.nsIn K mainGlobals "list"=some none)
   (n_range:PySem.W.nsIn K mainGlobals "range"=some none) :
   ∃ fd:FuncData,(∀ (s:Shared) (v:Value),BindsTo s fd ⟨[v],[]⟩ [("script",v)])/\∀ base:Heap,K.In base->base.Ns mainGlobals mg->FnOk l.prog w K mg base CX0 9 fa fd ["script"] (sp_law K):=by
 have e:=hfa.symm.trans (PySem.W.mg_of X G a_law)
 cases e
 have F_Judge__init:=fun_mk (st:=s_Judge__init) l_Judge__init c_Judge__init k_Judge__init
 have B_Judge__init:=F_Judge__init.binds (ps:=["self"]) λ_ _ _ _ _ _ us hl=>match us,hl with | [_],_=>rfl
 have F_Judge_fits:=fun_mk (st:=s_Judge_fits) l_Judge_fits c_Judge_fits k_Judge_fits
 have B_Judge_fits:=F_Judge_fits.binds (ps:=["self","word","name","worth"]) λ_ _ _ _ _ _ us hl=>match us,hl with | [_,_,_,_],_=>rfl
 have F_Judge_go_on:=fun_mk (st:=s_Judge_go_on) l_Judge_go_on c_Judge_go_on k_Judge_go_on
 have B_Judge_go_on:=F_Judge_go_on.binds (ps:=["self","word","name","worth"]) λ_ _ _ _ _ _ us hl=>match us,hl with | [_,_,_,_],_=>rfl
 have F_first_wrong:=fun_mk (st:=s_first_wrong) l_first_wrong c_first_wrong k_first_wrong
 have B_first_wrong:=F_first_wrong.binds (ps:=["story"]) λ_ _ _ _ _ _ us hl=>match us,hl with | [_],_=>rfl
 have F_law_cell_at:=fun_mk (st:=s_law_cell_at) l_law_cell_at c_law_cell_at k_law_cell_at
 have B_law_cell_at:=F_law_cell_at.binds (ps:=["script","k"]) λ_ _ _ _ _ _ us hl=>match us,hl with | [_,_],_=>rfl
 have F_law_codes:=fun_mk (st:=s_law_codes) l_law_codes c_law_codes k_law_codes
 have B_law_codes:=F_law_codes.binds (ps:=["cells","most"]) λ_ _ _ _ _ _ us hl=>match us,hl with | [_,_],_=>rfl
 have F_law_grown:=fun_mk (st:=s_law_grown) l_law_grown c_law_grown k_law_grown
 have B_law_grown:=F_law_grown.binds (ps:=["codes"]) λ_ _ _ _ _ _ us hl=>match us,hl with | [_],_=>rfl
 have F_law_bent:=fun_mk (st:=s_law_bent) l_law_bent c_law_bent k_law_bent
 have B_law_bent:=F_law_bent.binds (ps:=["story","code"]) λ_ _ _ _ _ _ us hl=>match us,hl with | [_,_],_=>rfl
 have F_law_things:=fun_mk (st:=s_law_things) l_law_things c_law_things k_law_things
 have B_law_things:=F_law_things.binds (ps:=["story","word"]) λ_ _ _ _ _ _ us hl=>match us,hl with | [_,_],_=>rfl
 have F_law_ended:=fun_mk (st:=s_law_ended) l_law_ended c_law_ended k_law_ended
 have B_law_ended:=F_law_ended.binds (ps:=["story"]) λ_ _ _ _ _ _ us hl=>match us,hl with | [_],_=>rfl
 have F_law_turned:=fun_mk (st:=s_law_turned) l_law_turned c_law_turned k_law_turned
 have B_law_turned:=F_law_turned.binds (ps:=["story","cell"]) λ_ _ _ _ _ _ us hl=>match us,hl with | [_,_],_=>rfl
 have F_law_is:=fun_mk (st:=s_law_is) l_law_is c_law_is k_law_is
 have B_law_is:=F_law_is.binds (ps:=["found","due"]) λ_ _ _ _ _ _ us hl=>match us,hl with | [_,_],_=>rfl
 have F_law:=fun_mk (st:=s_law) l_law c_law k_law
 have B_law:=F_law.binds (ps:=["script"]) λ_ _ _ _ _ _ us hl=>match us,hl with | [_],_=>rfl
 let ad:Ad:=⟨f_Judge__init,f_Judge_fits,f_Judge_go_on,f_first_wrong,f_law_cell_at,f_law_codes,f_law_grown,f_law_bent,f_law_things,f_law_ended,f_law_turned,f_law_is,fa,C_Judge⟩
 let dd:Fd:=⟨PySem.W.fnOf "__init__" "Judge.__init__" (defArgs s_Judge__init) (defBody s_Judge__init) (defScope s_Judge__init) .none kV_Judge__init dc_Judge__init pm_Judge__init an_Judge__init cd_Judge__init ct_Judge__init,PySem.W.fnOf "fits" "Judge.fits" (defArgs s_Judge_fits) (defBody s_Judge_fits) (defScope s_Judge_fits) .none kV_Judge_fits dc_Judge_fits pm_Judge_fits an_Judge_fits cd_Judge_fits ct_Judge_fits,PySem.W.fnOf "go_on" "Judge.go_on" (defArgs s_Judge_go_on) (defBody s_Judge_go_on) (defScope s_Judge_go_on) .none kV_Judge_go_on dc_Judge_go_on pm_Judge_go_on an_Judge_go_on cd_Judge_go_on ct_Judge_go_on,PySem.W.fnOf "first_wrong" "first_wrong" (defArgs s_first_wrong) (defBody s_first_wrong) (defScope s_first_wrong) .none kV_first_wrong dc_first_wrong pm_first_wrong an_first_wrong cd_first_wrong ct_first_wrong,PySem.W.fnOf "_law_cell_at" "_law_cell_at" (defArgs s_law_cell_at) (defBody s_law_cell_at) (defScope s_law_cell_at) .none kV_law_cell_at dc_law_cell_at pm_law_cell_at an_law_cell_at cd_law_cell_at ct_law_cell_at,PySem.W.fnOf "_law_codes" "_law_codes" (defArgs s_law_codes) (defBody s_law_codes) (defScope s_law_codes) .none kV_law_codes dc_law_codes pm_law_codes an_law_codes cd_law_codes ct_law_codes,PySem.W.fnOf "_law_grown" "_law_grown" (defArgs s_law_grown) (defBody s_law_grown) (defScope s_law_grown) .none kV_law_grown dc_law_grown pm_law_grown an_law_grown cd_law_grown ct_law_grown,PySem.W.fnOf "_law_bent" "_law_bent" (defArgs s_law_bent) (defBody s_law_bent) (defScope s_law_bent) .none kV_law_bent dc_law_bent pm_law_bent an_law_bent cd_law_bent ct_law_bent,PySem.W.fnOf "_law_things" "_law_things" (defArgs s_law_things) (defBody s_law_things) (defScope s_law_things) .none kV_law_things dc_law_things pm_law_things an_law_things cd_law_things ct_law_things,PySem.W.fnOf "_law_ended" "_law_ended" (defArgs s_law_ended) (defBody s_law_ended) (defScope s_law_ended) .none kV_law_ended dc_law_ended pm_law_ended an_law_ended cd_law_ended ct_law_ended,PySem.W.fnOf "_law_turned" "_law_turned" (defArgs s_law_turned) (defBody s_law_turned) (defScope s_law_turned) .none kV_law_turned dc_law_turned pm_law_turned an_law_turned cd_law_turned ct_law_turned,PySem.W.fnOf "_law_is" "_law_is" (defArgs s_law_is) (defBody s_law_is) (defScope s_law_is) .none kV_law_is dc_law_is pm_law_is an_law_is cd_law_is ct_law_is,PySem.W.fnOf "law" "law" (defArgs s_law) (defBody s_law) (defScope s_law) .none kV_law dc_law pm_law an_law cd_law ct_law⟩
 have GG:Gs K mg ad dd:=⟨F_Judge__init,B_Judge__init,F_Judge_fits,B_Judge_fits,⟨a_Judge_fits,i_Judge_fits,k_Judge_fits⟩,F_Judge_go_on,B_Judge_go_on,⟨a_Judge_go_on,i_Judge_go_on,k_Judge_go_on⟩,F_first_wrong,B_first_wrong,PySem.W.mg_of X G a_first_wrong,F_law_cell_at,B_law_cell_at,PySem.W.mg_of X G a_law_cell_at,F_law_codes,B_law_codes,PySem.W.mg_of X G a_law_codes,F_law_grown,B_law_grown,PySem.W.mg_of X G a_law_grown,F_law_bent,B_law_bent,PySem.W.mg_of X G a_law_bent,F_law_things,B_law_things,PySem.W.mg_of X G a_law_things,F_law_ended,B_law_ended,PySem.W.mg_of X G a_law_ended,F_law_turned,B_law_turned,PySem.W.mg_of X G a_law_turned,F_law_is,B_law_is,PySem.W.mg_of X G a_law_is,F_law,B_law,PySem.W.mg_of X G a_law,⟨pg_Judge,hd_Judge,po_Judge,sa_Judge⟩,PySem.W.mg_of X G aC_Judge,⟨mk_Judge,a_Judge__init,i_Judge__init,kc_Judge⟩,na_Judge_untaken,na_Judge_unhanded,na_Judge_going,na_Judge_doing,PySem.W.mg_none_of X G n_bool,PySem.W.mg_none_of X G n_enumerate,PySem.W.mg_none_of X G n_int,PySem.W.mg_none_of X G n_isinstance,PySem.W.mg_none_of X G n_len,PySem.W.mg_none_of X G n_list,PySem.W.mg_none_of X G n_range⟩
 exact ⟨dd.law,λs v=>.of_eq rfl,λbase _ _=>ok_law GG⟩
theorem walk {l:PySem.W.OpenLaw} {q:Program} {loose:List Str} {XP:(Str->Option Value)->Heap->Prop} {YP:World->Heap->Prop} {d:DefRec} {K:Params->PySem.W.Frag} (hn:l.most=some 63) (hdf:d.params.defaults=[])
   (hY:∀ (w:World) (h:Heap),YP w h->(K w.params).In h)
   (F:∀ (w:World) (mg:Str->Option Value) (fa:Addr) (h:Heap),(K w.params).In h->h.Ns mainGlobals mg->mg d.name=some (.ref fa) ->
     ∃ fd:FuncData,(∀ (s:Shared) (u:Value),BindsTo s fd ⟨[u],[]⟩ [("script",u)])/\∀ base:Heap,(K w.params).In base->base.Ns mainGlobals mg->FnOk l.prog w (K w.params) mg base CX0 9 fa fd ["script"] (sp_law (K w.params))) :
   PySem.W.WalkO q loose XP YP l.row.toRowW d [] (λf vs=>PySem.call f vs) :=
 L2.walk_of (n:=63) (k:=9) (x:="script") (CX:=λ_=>CX0) (sp:=λw=>sp_law (K w.params)) hn (by decide) hdf ⟨rfl,by decide,by decide⟩ hY F (λ_ _ a ns hl _ hS=>⟨a,ns,rfl,hS,hl,λ_=>rfl⟩) λ_ _ _ _ _ z=>z
end My
open PySem PySem.W PyProof.Rows
set_option maxRecDepth 100000 in
set_option maxHeartbeats 0 in
theorem PySem.Challenge.cw_askring_k29_whole_wrong_from_one_place_o_holds : PySem.Challenge.rw_askring_k29_whole_wrong_from_one_place_o.Holds := by
  w_on; o_law; k_head; (case hw => w_witness2)
  k_fill
  refine My.walk (l := PySem.Challenge.rw_askring_k29_whole_wrong_from_one_place_o) rfl rfl (fun w h Y => PySem.W.kIn_of Y) ?F
  case F =>
    intro w mg fa h KX G hmg
    refine' My.all_mk KX G hmg ?aC_Judge ?a_Judge__init ?i_Judge__init ?l_Judge__init ?c_Judge__init ?k_Judge__init ?a_Judge_fits ?i_Judge_fits ?l_Judge_fits ?c_Judge_fits ?k_Judge_fits ?a_Judge_go_on ?i_Judge_go_on ?l_Judge_go_on ?c_Judge_go_on ?k_Judge_go_on ?a_first_wrong ?l_first_wrong ?c_first_wrong ?k_first_wrong ?a_law_cell_at ?l_law_cell_at ?c_law_cell_at ?k_law_cell_at ?a_law_codes ?l_law_codes ?c_law_codes ?k_law_codes ?a_law_grown ?l_law_grown ?c_law_grown ?k_law_grown ?a_law_bent ?l_law_bent ?c_law_bent ?k_law_bent ?a_law_things ?l_law_things ?c_law_things ?k_law_things ?a_law_ended ?l_law_ended ?c_law_ended ?k_law_ended ?a_law_turned ?l_law_turned ?c_law_turned ?k_law_turned ?a_law_is ?l_law_is ?c_law_is ?k_law_is ?a_law ?l_law ?c_law ?k_law ?pg_Judge ?hd_Judge ?po_Judge ?sa_Judge ?mk_Judge ?kc_Judge ?na_Judge_untaken ?na_Judge_unhanded ?na_Judge_going ?na_Judge_doing ?n_bool ?n_enumerate ?n_int ?n_isinstance ?n_len ?n_list ?n_range
    (case aC_Judge => k_is)
    (case a_Judge__init => k_is)
    (case i_Judge__init => k_is)
    (case l_Judge__init => k_is)
    (case c_Judge__init => k_is)
    (case k_Judge__init => k_is)
    (case a_Judge_fits => k_is)
    (case i_Judge_fits => k_is)
    (case l_Judge_fits => k_is)
    (case c_Judge_fits => k_is)
    (case k_Judge_fits => k_is)
    (case a_Judge_go_on => k_is)
    (case i_Judge_go_on => k_is)
    (case l_Judge_go_on => k_is)
    (case c_Judge_go_on => k_is)
    (case k_Judge_go_on => k_is)
    (case a_first_wrong => k_is)
    (case l_first_wrong => k_is)
    (case c_first_wrong => k_is)
    (case k_first_wrong => k_is)
    (case a_law_cell_at => k_is)
    (case l_law_cell_at => k_is)
    (case c_law_cell_at => k_is)
    (case k_law_cell_at => k_is)
    (case a_law_codes => k_is)
    (case l_law_codes => k_is)
    (case c_law_codes => k_is)
    (case k_law_codes => k_is)
    (case a_law_grown => k_is)
    (case l_law_grown => k_is)
    (case c_law_grown => k_is)
    (case k_law_grown => k_is)
    (case a_law_bent => k_is)
    (case l_law_bent => k_is)
    (case c_law_bent => k_is)
    (case k_law_bent => k_is)
    (case a_law_things => k_is)
    (case l_law_things => k_is)
    (case c_law_things => k_is)
    (case k_law_things => k_is)
    (case a_law_ended => k_is)
    (case l_law_ended => k_is)
    (case c_law_ended => k_is)
    (case k_law_ended => k_is)
    (case a_law_turned => k_is)
    (case l_law_turned => k_is)
    (case c_law_turned => k_is)
    (case k_law_turned => k_is)
    (case a_law_is => k_is)
    (case l_law_is => k_is)
    (case c_law_is => k_is)
    (case k_law_is => k_is)
    (case a_law => k_is)
    (case l_law => k_is)
    (case c_law => k_is)
    (case k_law => k_is)
    (case pg_Judge => k_is)
    (case hd_Judge => k_is)
    (case po_Judge => k_is)
    (case sa_Judge => k_is)
    (case mk_Judge => k_is)
    (case kc_Judge => k_is)
    (case na_Judge_untaken => k_is)
    (case na_Judge_unhanded => k_is)
    (case na_Judge_going => k_is)
    (case na_Judge_doing => k_is)
    (case n_bool => k_is)
    (case n_enumerate => k_is)
    (case n_int => k_is)
    (case n_isinstance => k_is)
    (case n_len => k_is)
    (case n_list => k_is)
    (case n_range => k_is)
#print axioms PySem.Challenge.cw_askring_k29_whole_wrong_from_one_place_o_holds

